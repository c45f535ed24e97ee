import PyProof.Rows.All
import Wide.All
import OpenK.AllK
import Wide.FinOn
import Lean
import PyProof.EqAt
import PyProof.EqKinds
import PyProof.TupleCall
import PyProof.Rows.SetFrom
import PyProof.TupleKey
import KE.KSortTup
import PyProof.ListRange
import PyProof.ConsumeS
import KE.KIntText
import PyProof.StrCalls2
import PyProof.StrOps2
import PyProof.SliceStr2
import PyProof.StrWalks
import PyProof.Rows.StrJoin2
import PyProof.ZipIter
import PyProof.TupleIter
import PyProof.ListMulRoad
import PyProof.WalksMore
import KE.KDictLaws
import KE.KDictList
import PyProof.IsiH_list
import PyProof.AttrMiss
import KE.KDictOf
import PyProof.StationsW
import PyProof.ExcInit
import PyProof.ExcClass2
import PyProof.ExcBaseAll.ValueError
import OpenK.KMake
import OpenK.KCls
import PyProof.Rows.FStr
import PyProof.LayNew
import PyProof.RulesAs
import PyProof.NsDelKeeps
import PyProof.ExcAttrAll.ValueError
import KE.KIsAll
import PyProof.CollectIter
import PyProof.TupleOfStr
import KE.KEqDict
import PyProof.DictWalks
import KE.KRevSl
import KE.KRevIter
import PyProof.Draws
import PyProof.EnumMake
import PySem.Challenge.RW_mergeline_k61_pace_fault
set_option Elab.async false
set_option linter.all false
set_option maxRecDepth 100000
set_option maxHeartbeats 4000000
open Array renaming getElem?_toList→CB,length_toList→cM,toList_append→EA
open Bool renaming and_eq_true_iff→gZ,and_eq_true→oX,eq_iff_iff→fw,false_ne_true→cq,false_or→sP,or_eq_true→xW,or_true→uR,true_and→lB
open False renaming elim→gD
open ForInStep renaming yield→oj
open Int renaming emod_lt_of_pos→bj,emod_nonneg→bA,eq_ofNat_of_zero_le→ku,le_refl→x3,mul_le_mul_of_nonneg_right→wa,sub_zero→C8,toNat_natCast→eS,toNat_of_nonneg→mP
open List renaming all_eq_true→eK,all_map→CF,any_cons→gx,any_eq_false→uO,any_eq_true→jx,append_assoc→eu,append_nil→du,drop_eq_nil_of_le→pE,drop_succ_cons→sH,drop_zero→kC,eq_nil_of_length_eq_zero→lF,ext_getElem?→fX,filterMap_append→k6,filterMap_cons_none→dH,filterMap_cons_some→cA,filterMap_cons→jI,filterMap_map→bQ,filter_cons→il,filter_eq_self→sI,find?_cons→dA,find?_eq_some_iff_append→wg,find?_some→xZ,flatten_cons→fW,foldl_append→eA,foldl_cons→pI,forIn_cons→xV,getD_eq_getElem?_getD→aG,getElem?_append_left→bX,getElem?_append_right→cn,getElem?_eq_getElem→au,getElem?_eq_none→df,getElem?_eq_some_iff→aJ,getElem?_map→aF,getElem?_range→cg,getElem?_replicate→eD,getElem?_set_ne→bf,getElem?_set_self→bu,getElem?_zipIdx→Ew,getElem?_zipWith→C_,getElem_append_left→AV,getElem_append_right→zy,getElem_mem→dN,getElem_range→mY,getElem_singleton→CH,getElem_toArray→Ey,getLast?_concat→EB,length_append→bq,length_cons→bF,length_drop→eI,length_filterMap_le→hG,length_filter_le→C9,length_map→aj,length_nil→cp,length_range→eB,length_replicate→c9,length_reverse→ie,length_singleton→eT,length_take→dz,length_zip→xY,length→gw,lookup_cons→ei,lookup→jY,map_append→bx,map_congr_left→fq,map_cons→aD,map_drop→lC,map_id→wc,map_map→aL,map_nil→eJ,map_reverse→vR,map_singleton→jW,map_take→sV,map→oY,mem_append_left→gX,mem_append_right→cJ,mem_append→cx,mem_cons_of_mem→aR,mem_cons_self→aO,mem_cons→av,mem_filterMap→t_,mem_filter→xS,mem_iff_getElem?→CZ,mem_map→aE,mem_of_find?_eq_some→jB,mem_of_getElem?→bh,mem_of_mem_drop→ri,mem_of_mem_take→rh,mem_range→cw,mem_replicate→jX,mem_singleton→aW,nil_append→iJ,nodup_append→fk,nodup_cons→dw,nodup_nil→mW,not_mem_nil→aX,of_mem_zip→pH,pairwise_iff_getElem→cZ,pairwise_singleton→A3,range→bS,replicate_succ→dJ,replicate→bp,reverse_cons→iV,size_toArray→bD,sum_cons→om,sum_nil→CG,take_add_one→cV,take_length→jw,take_of_length_le→fj,take_zero→q_,zipIdx_cons→vO,zip_cons_cons→eG
open List.Pairwise renaming map→yy,nil→yv
open List.cons renaming inj→iC
open Nat renaming add_lt_add_left→ik,le_add_right→eM,le_of_lt→pG,le_of_not_lt→fJ,le_refl→aA,le_succ→jm,le_trans→bZ,lt_add_of_pos_right→o_,lt_irrefl→jT,lt_of_lt_of_le→bR,lt_or_gt_of_ne→uf,lt_succ_of_lt→je,lt_succ_self→jy,lt_trans→vA,min_eq_left→qC,mul_le_mul→iw,ne_of_gt→eL,ne_of_lt→aU,sub_self→pQ,succ_mul→CW,toDigits_of_lt_base→kx,toDigits→g8,zero_add→pN,zero_le→aV
open Ne renaming symm→bV
open Option renaming isSome_map→ua,map_eq_some_iff→AJ,map_some→fU,toList_some→sG
open Option.some renaming injEq→gE,inj→cQ
open Or renaming inl→aY,inr→b_
open PyProof.Rows renaming AllBare→rL,IntsAre→x9,Subscript_→CV,callWith_type1→dZ,slot_tuple_getitem→jR
open PyProof.Rows.F renaming entry_set_update_loop→Eu,plain_set_update_loop→pJ
open PyProof.Rows.IsTup renaming new→AI
open PySem renaming Addr→aI,Around→dg,Builtin→pD,CmpOp→CT,DictEntry→uP,Expr→bP,FuncData→fe,GenState→qW,Heap→cR,IsPair→pL,IsPart→zo,IsZip→AQ,Keyword→fV,NameKind→mS,Paired→CQ,Params→zq,PassesOwn→uN,Program→bC,PyData→ai,Result→rM,Scope→kz,Shared→aH,Spec→eX,Stmt→fH,Value→aB,Within→AZ,World→bY,boot_len→qY,builtinLookup_eq_fast→lU,call_meets→lZ,codeAny_builtin→kB,codeAny_mono→nP,length_partsBetween→vB,mem_of_lookup→ia,plainId_quiet→pK,sizeLine_eq→d_,slot_list_getitem→yb,tupleKind_room_in1→kF,typeIs_str→rN,typeLookup_type→sE,wpAny_Call_Name_kw→iT,wpAny_attempt→vN,wpAny_bind→ax,wpAny_callSpecial?_slot→gv,wpAny_call_entry→jU,wpAny_execs_nil→A0,wpAny_field→eW,wpAny_holding→mO,wpAny_isInstance→zv,wpAny_ite_false→kD,wpAny_ite_split→sF,wpAny_letGo→AU,wpAny_letOwnedTupleGo_enum→CY,wpAny_loadPart'→dF,wpAny_mono→gQ,wpAny_newObj_type→ic,wpAny_onRaise→vP,wpAny_passesOwn→ny,wpAny_pure→a9,wpAny_pyIter_enum→pC,wpAny_pyIter_list→ly,wpAny_pyIter_tuple→iS,wpAny_rule→C6,wpAny_seqItems→f9,wpAny_setField_rec→iW,wpAny_specialOf→A1,wpAny_truthy_bool→fx,wpAny_typeOf→x8,wpAny_updateSeq_pair→uc
open PySem.Around renaming under_plainId→jd,under→AH
open PySem.AutoSeq1 renaming idx_int→Ez,sub_tuple_tuple→xX
open PySem.Builtin.Dict renaming updateFrom→vE
open PySem.Builtin.List renaming listExtendWith→ix,listItems→vQ,listLengthHint→sS,listSameRef→uQ
open PySem.Builtin.Slice renaming sliceAdjust→lz,sliceApplied→sO,slicePlaces→iI
open PySem.Builtin.SmallTypes renaming nextOf→cN,ownedTupleHandOut→mX,ownedTupleIsFree→fD
open PySem.Builtin.Tuple renaming tupleExact→iU,tupleTooMany→sQ
open PySem.Calls renaming Name_function_global→x5,callWith_builtin→o8,evalArgs_plain→qX,spliced_cons→iE,spliced_nil→nM
open PySem.Code renaming isFrame→Cy
open PySem.F renaming args_dict_get_3→yw,args_str_split_2→vC,args_tuple_add_2→x6,args_tuple_iterator_next_1→zu,called_set→jM,entry_dict_get→zr,entry_str_split→v9,entry_tuple_add→yu,entry_tuple_iterator_next→AO,plainAttrs_dict→yx,plainAttrs_list→fM,plainAttrs_str→zt,slot_dict_getitem→xU,slot_dict_get→o9,slot_dict_setdefault→vD,slot_list_append→gR,slot_list_getattribute→jZ,slot_str_split→yc,slot_tuple_add→zm,slot_tuple_iterator_next→jA,slot_tuple_mul→pO,slot_zip_next→q5,type_list_append→gS
open PySem.Heap renaming NewAttrErr→pP,SameBut→gY,get?_push_of_some→ay,get?_push_size→a8,get?_update_other→Cz,get?_update_self→C5,lt_size→aT,size_push→fh
open PySem.Heap.IsSliceOf renaming new→xT
open PySem.Heap.SameBut renaming update→yd
open PySem.MeetsSeq renaming plain_index_loop→pM
open PySem.NameKind renaming cell→jv,free→dM
open PySem.Obj renaming mapSeq→zp
open PySem.Paired renaming length→rK
open PySem.PassesOwn renaming never→dI
open PySem.PyData renaming bool→gP,canLay0→cG,canLayAll0→nz,eqv→dm,int→cW,list→lu,str→aQ,tuple→dB
open PySem.SeqAt renaming readOf→ud
open PySem.Shared renaming heap→CD
open PySem.Str renaming empty→ft,join→cL,length_append→cj,ofString→jz
open PySem.StrLaws renaming found_one→sU,join_split→mh,occ_length_le→AK,sliceText_from→zx,sliceText_to→A2,split_free→mj
open PySem.Txt renaming slice_le→C7,slice→lA,split→ck
open PySem.Value renaming int→AF,isStrOf→sD,none→g7,ref→cU,str→AG,type→jf
open PySem.W renaming Frag→ao,cellsFrom_some→zl,codeIn→lY,emptyDict→e8,findIn→c5,fnOf→iu,hasDictIn→mV,instObj→gI,keepIn→hX,kia_one→jJ,kitOne→dX,lookIn→v8,makesIn→vz,methodObj→sM,mg_of→nA,plainGet→nO,plainOver→sN,takerIn→vy
open Sum renaming inl→vw,inr→a7
open Sum.inr renaming inj→kZ
open True renaming intro→fG
def qQ0:=@decide_eq_false
def qQ1:=@decide_eq_true
def qQ2:=@if_neg
def qQ3:=@if_pos
def qQ4:=@of_decide_eq_true
def qQ5:=@of_decide_eq_false
def qQ6:=@congrArg
def qQ7:=@absurd
local macro_rules|`(tactic|symm)=>`(tactic|decide +kernel)
namespace L2
open PySem PySem.Spec PyProof.Rows
variable{C a it:aI}{A:dg}{g':Array qW}{d':Drawn}{c e tg:bP}{base h:cR}{g:Int->Int->Int}{pins:List (aI×Obj)}{kw:List (Str×aB)}{ch fp:List aI}{outer:List Env}{es:List bP}{body:List fH}{N ps:List Str}{us:List aB}{M:Model}{k t':Nat}{o:Obj}{P:bC}{K:ao}{scope:kz}{s s':aH}{kindOf:Str->Option mS}{mA mg:Str->Option aB}{u:aB}{E Q:aB->aH->Prop}{f:aB->aB->Sem aB}{w:bY}
abbrev Key:=Sum Int Str
def yz:Key->aB->Bool
 | .inl k,v=>aB.isInt k v
 | .inr x,v=>sD x v
def VW(w:bY):Key->Int
 | .inl k=>hashInt k
 | .inr x=>hashStr w x
theorem gJ:∀{k:Key}{v:aB},yz k v=true->(∃i t,k=vw i/\v=AF i t)\/(∃x t,k=a7 x/\v=AG x t)
 | .inl i,v,h=>by
  obtain⟨t,e⟩:=aB.isInt_shape (k:=i) (v:=v) h;exact .inl ⟨i,t,rfl,e⟩
 | .inr x,v,h=>by
  obtain⟨t,e⟩:=aB.isStrOf_shape (x:=x) (v:=v) h;exact .inr ⟨x,t,rfl,e⟩
theorem FJ(i:Int)(t:Tok):yz (.inl i) (.int i t)=true:=by simp[yz,aB.isInt]
theorem FK(x:Str)(t:Tok):yz (.inr x) (.str x t)=true:=by simp[yz,sD]
theorem OL(a b:Int):decide ((vw a:Key)=vw b)=(a==b):=by
 by_cases e:a=b
 ·subst e;simp
 ·have h:¬(vw a:Key)=vw b:=λq=>e (vw.inj q)
  rw[qQ0 h];exact(beq_eq_false_iff_ne.mpr e).symm
theorem OO(a b:Str):decide ((a7 a:Key)=a7 b)=decide (a=b):=by
 by_cases e:a=b
 ·subst e;simp
 ·have h:¬(a7 a:Key)=a7 b:=λq=>e (kZ q)
  rw[qQ0 h,qQ0 e]
theorem OQ(a:Int)(b:Str):decide ((vw a:Key)=a7 b)=false:=qQ0 (λq=>nomatch q)
theorem OS(a:Str)(b:Int):decide ((a7 a:Key)=vw b)=false:=qQ0 (λq=>nomatch q)
def eY(prog:bC)(w:bY):PySem.KeyKind prog w Key where
 is:=yz
 hash:=VW w
 inj:=λv a b ha hb=>by
  rcases gJ ha with⟨i,t,rfl,rfl⟩|⟨x,t,rfl,rfl⟩
  ·rcases gJ hb with⟨j,u,rfl,e⟩|⟨y,u,rfl,e⟩
   ·injection e with e1 _;rw[e1]
   ·exact nomatch e
  ·rcases gJ hb with⟨j,u,rfl,e⟩|⟨y,u,rfl,e⟩
   ·exact nomatch e
   ·injection e with e1 _;rw[e1]
 byValue:=λk v h=>by
  rcases gJ h with⟨i,t,rfl,rfl⟩|⟨x,t,rfl,rfl⟩<;>rfl
 pyHash:=λhv h=>by
  rcases gJ hv with⟨i,t,rfl,rfl⟩|⟨x,t,rfl,rfl⟩
  ·exact wpAny_pyHash_int h
  ·exact wpAny_pyHash_str h
 eqBool:=λhu hv h=>by
  rcases gJ hu with⟨i,t,rfl,rfl⟩|⟨x,t,rfl,rfl⟩
  ·rcases gJ hv with⟨j,u,rfl,rfl⟩|⟨y,u,rfl,rfl⟩
   ·rw[OL]at h;exact wpAny_eqBool_int h
   ·rw[OQ]at h;exact SeqAt.EqAt.int_str i t y u _ _ _ _ h
  ·rcases gJ hv with⟨j,u,rfl,rfl⟩|⟨y,u,rfl,rfl⟩
   ·rw[OS]at h;exact SeqAt.EqAt.str_int x t j u _ _ _ _ h
   ·rw[OO]at h;exact wpAny_eqBool_str h
 «strs»:=λk x t v h=>by
  rcases gJ h with⟨i,u,rfl,e⟩|⟨y,u,rfl,e⟩
  ·exact nomatch e
  ·injection e with e1 _
   subst e1;cases v<;>rfl
theorem A4(prog:bC)(w:bY)(i:Int)(t:Tok):(eY prog w).is (.inl i) (.int i t)=true:=FJ i t
theorem pR(prog:bC)(w:bY)(x:Str)(t:Tok):(eY prog w).is (.inr x) (.str x t)=true:=FK x t
inductive V where
 |non|bl (b:Bool)|int (i:Int)|str (x:Str)|Rg (b:Array UInt8)|flt (b:UInt64)|ref (a:aI)|ty (n:String)
 deriving DecidableEq
variable{vs xs:List V}
def RelV:V->aB->Prop
 | .non,u=>u=g7
 | .bl b,u=>u=aB.bool b
 | .int i,u=>∃t,u=AF i t
 | .str x,u=>∃t,u=AG x t
 | .Rg b,u=>∃t,u=aB.bytes b t
 | .flt b,u=>∃t,u=aB.float b t
 | .ref a,u=>u=cU a
 | .ty n,u=>u=jf n
abbrev dS:List V->List aB->Prop:=CQ RelV
theorem dS.length(r:dS xs us):xs.length=us.length:=rK r
theorem dS.get:∀{xs:List V}{us:List aB}{i:Nat}{x:V},dS xs us->xs[i]?=some x->∃u,us[i]?=some u/\RelV x u
 |_,_,_,_,.nil,e=>by simp at e
 |_,_,0,_,.cons r _,e=>by simp at e;subst e;exact⟨_,rfl,r⟩
 |_,_,i+1,x,.cons _ t,e=>by
  obtain⟨u,h1,h2⟩:=dS.get (i:=i) (x:=x) t (by simpa using e)
  exact⟨u,by simpa using h1,h2⟩
theorem dS.append:∀{xs ys:List V}{us ws:List aB},dS xs us->dS ys ws->dS (xs++ys) (us++ws)
 |_,_,_,_,.nil,s=>s
 |_,_,_,_,.cons r t,s=>.cons r (dS.append t s)
theorem dS.take:∀{xs:List V}{us:List aB}(n:Nat),dS xs us->dS (xs.take n) (us.take n)
 |_,_,0,_=>.nil
 |_,_,_+1,.nil=>.nil
 |_,_,n+1,.cons r t=>.cons r (dS.take n t)
theorem dS.drop:∀{xs:List V}{us:List aB}(n:Nat),dS xs us->dS (xs.drop n) (us.drop n)
 |_,_,0,r=>r
 |_,_,_+1,.nil=>.nil
 |_,_,n+1,.cons _ t=>dS.drop n t
def rO:Option V->Option aB->Prop
 |some v,some u=>RelV v u
 |none,none=>True
 |_,_=>False
def KV{κ:Type}:List (κ×V)->List (κ×aB)->Prop:=CQ λ(p:κ×V)(q:κ×aB)=>p.1=q.1/\RelV p.2 q.2
def kV:Key->V
 | .inl i=>.int i
 | .inr x=>.str x
inductive HO where
 |lst (xs:List V)
 |tup (xs:List V)
 |dK (kvs:List (Key×V))|dT (kvs:List (List Key×V))
 |set (S:Int->Bool) (n:Nat)
 |ins (C dx:aI) (fs:List (Str×V))
 |own (x:aI)
 |xd (fs:List (Str×V))
 |met (f x:aI)
 |rng (lo hi:Int)
 |FL (o:Obj) (u:HO)
 |OU (ps:Array aB)
 |ext (φ:cR->Prop)
abbrev Hp:=aI->Option HO
variable{H:Hp}{R:V->V->Hp->Prop}
def upd(H:Hp)(a:aI)(o:HO):Hp:=λb=>if b=a then some o else H b
theorem bB{o:HO}:upd H a o a=some o:=by unfold upd;rw[qQ3 rfl]
theorem aN{b: aI}{o:HO}(h:b≠a):upd H a o b=H b:=by unfold upd;rw[qQ2 h]
theorem RH{b: aI}{o u:HO}(h:H a=some o)(h':H b=some u)(d:o≠u):a≠b:=by
 intro e;subst e;rw[h]at h';exact d (cQ h')
theorem bG{b: aI}{o:HO}(h:H a=some o)(h':H b=none):a≠b:=by
 intro e;subst e;rw[h]at h';cases h'
section
variable(P:bC)(w:bY)
def hZ(H:Hp)(h:cR)(a:aI):HO->Prop
 | .lst xs=>xs.length<=sizeLine/\∃(its:List aB)(n:Nat),dS xs its/\h.get? a=some { cls:=.type "list",data:=.seq its.toArray n }
 | .tup xs=>xs.length<=sizeLine/\∃its:List aB,dS xs its/\IsTup h a its.toArray
 | .dK kvs=>kvs.length<=sizeLine/\(a==sysModules)=false/\∃vs,KV kvs vs/\h.DictOf (eY P w) a vs
 | .dT kvs=>kvs.length<=sizeLine/\(a==sysModules)=false/\∃xs:List (List Key×aI×aB),
   CQ (λ(p:List Key×V)(q:List Key×aI×aB)=>p.1=q.1/\H q.2.1=some (.tup (p.1.map kV))/\RelV p.2 q.2.2) kvs xs/\
   ∃o es ep,h.get? a=some o/\o.ExactDict/\o.data=.dict es ep/\es.toList=xs.map (entryOfKey (tupleKind (eY P w)))/\(xs.map (·.1)).Nodup
 | .set S n=>h.SetOf (intKind P w) a S n
 | .ins C dx fs=>H dx=some (.own a)/\fs.length<=1000/\dx≠a/\h.get? a=some (gI C dx)/\
   ∃mA,h.Ns1 dx mA/\(∀f,rO (fs.lookup f) (mA f))/\AZ mA (fs.map (·.1))
 | .own _=>∃o,h.get? a=some o
 | .xd fs=>∃mA,h.Ns1 a mA/\∀f,rO (fs.lookup f) (mA f)
 | .rng lo hi=>∃t u v,h.get? a=some { cls:=.type "range",data:=.fields #[.int lo t,.int hi u,.int 1 v] }
 | .FL o u=>h.get? a=some o/\hZ H h a u
 | .OU ps=>h.get? a=some { cls:=.none,data:=.fields ps }
 | .met f x=>h.get? a=some (sM (.ref f) (.ref x))
 | .ext φ=>φ h/\(∃o,h.get? a=some o)/\∀h1 h2:cR,φ h1->(∀o,h1.get? a=some o->h2.get? a=some o)->φ h2
def sJ(H:Hp)(h:cR):Prop:=∀a o,H a=some o->hZ P w H h a o
end
section
variable{P:bC}{w:bY}{H H':Hp}{h h':cR}{a:aI}{o:HO}
theorem hZ.lt(x:hZ P w H h a o):a<h.objs.size:=by
 cases o with
 |lst xs=>obtain⟨_,_,_,_,e⟩:=x;exact aT e
 |tup xs=>obtain⟨_,_,_,p⟩:=x;exact p.lt
 |dK kvs=>obtain⟨_,_,_,_,o,_,_,e,_⟩:=x;exact aT e
 |dT kvs=>obtain⟨_,_,_,_,o,_,_,e,_⟩:=x;exact aT e
 |set S n=>obtain⟨o,_,_,_,e,_⟩:=x;exact aT e
 |ins C dx fs=>obtain⟨_,_,_,e,_⟩:=x;exact aT e
 |own y=>obtain⟨_,e⟩:=x;exact aT e
 |xd fs=>obtain⟨_,⟨_,_,_,e,_⟩,_⟩:=x;exact aT e
 |rng lo hi=>obtain⟨_,_,_,e⟩:=x;exact aT e
 |FL ob u=>obtain⟨e,_⟩:=x;exact aT e
 |OU ps=>exact aT (show h.get? a=some _ from x)
 |met f y=>exact aT (show h.get? a=some _ from x)
 |ext φ=>obtain⟨_,⟨_,e⟩,_⟩:=x;exact aT e
theorem CQ.OV{α β:Type}{F G:α->β->Prop}:∀{l₁:List α}{l₂:List β},CQ F l₁ l₂->(∀a b,F a b->G a b)->CQ G l₁ l₂
 |_,_,.nil,_=>.nil
 |_,_,.cons r t,f=>.cons (f _ _ r) (CQ.OV t f)
theorem hZ.stay(x:hZ P w H h a o)(k:∀b u,(b=a\/H b=some (.own a))->h.get? b=some u->h'.get? b=some u)
  (ho:∀b,H b=some (.own a)->H' b=some (.own a))(ht:∀b xs,H b=some (.tup xs)->H' b=some (.tup xs)):hZ P w H' h' a o:=by
 induction o with
 |lst xs=>obtain⟨z,its,n,r,e⟩:=x;exact⟨z,its,n,r,k _ _ (.inl rfl) e⟩
 |tup xs=>obtain⟨z,its,r,ob,e,c⟩:=x;exact⟨z,its,r,ob,k _ _ (.inl rfl) e,c⟩
 |dK kvs=>obtain⟨z,y,vs,r,ob,es,ep,e,c⟩:=x;exact⟨z,y,vs,r,ob,es,ep,k _ _ (.inl rfl) e,c⟩
 |dT kvs=>
  obtain⟨z,y,xs,r,ob,es,ep,e,c⟩:=x;exact⟨z,y,xs,CQ.OV r λp q z=>⟨z.1,ht _ _ z.2.1,z.2.2⟩,ob,es,ep,k _ _ (.inl rfl) e,c⟩
 |set S n=>obtain⟨ob,es,ep,t,e,c⟩:=x;exact⟨ob,es,ep,t,k _ _ (.inl rfl) e,c⟩
 |ins C dx fs=>
  obtain⟨d,z,ne,e,mA,⟨od,es,ep,e2,c⟩,r⟩:=x;exact⟨ho _ d,z,ne,k _ _ (.inl rfl) e,mA,⟨od,es,ep,k _ _ (.inr d) e2,c⟩,r⟩
 |own y=>obtain⟨ob,e⟩:=x;exact⟨ob,k _ _ (.inl rfl) e⟩
 |xd fs=>obtain⟨mA,⟨od,es,ep,e,c⟩,r⟩:=x;exact⟨mA,⟨od,es,ep,k _ _ (.inl rfl) e,c⟩,r⟩
 |rng lo hi=>obtain⟨t,u,v,e⟩:=x;exact⟨t,u,v,k _ _ (.inl rfl) e⟩
 |FL ob u ih=>obtain⟨e,q⟩:=x;exact⟨k _ _ (.inl rfl) e,ih q⟩
 |OU ps=>
  have e:h.get? a=some { cls:=.none,data:=.fields ps }:=x;show h'.get? a=some { cls:=.none,data:=.fields ps };exact k a _ (.inl rfl) e
 |met f y=>
  have e:h.get? a=some (sM (.ref f) (.ref y)):=x;show h'.get? a=some (sM (.ref f) (.ref y));exact k a _ (.inl rfl) e
 |ext φ=>obtain⟨p,⟨o,e⟩,st⟩:=x;exact⟨st _ _ p λo q=>k _ _ (.inl rfl) q,⟨o,k _ _ (.inl rfl) e⟩,st⟩
theorem sJ.lt(x:sJ P w H h)(e:H a=some o):a<h.objs.size:=(x a o e).lt
theorem sJ.fresh(x:sJ P w H h)(e:h.objs.size<=a):H a=none:=by
 cases q:H a with
 |none=>rfl
 |some u=>exact qQ7 (bR (x.lt q) e) (jT _)
theorem sJ.kept(x:sJ P w H h)(k:∀b u,h.get? b=some u->h'.get? b=some u):sJ P w H h':=λa o e=>
 (x a o e).stay (λb u _ q=>k b u q) (λ_ q=>q) λ_ _ q=>q
theorem sJ.laid(x:sJ P w H h)(k:∀b u,h.get? b=some u->h'.get? b=some u)(hp:h.objs.size<=a)(new:hZ P w (upd H a o) h' a o):sJ P w (upd H a o) h':=λb u e=>by
 have hn:=x.fresh hp;by_cases hb:b=a
 ·subst hb;rw[bB]at e;cases e;exact new
 ·rw[aN hb]at e
  exact(x b u e).stay (λc v _ q=>k c v q) (λc q=>by rw[aN (bG q hn)];exact q) λc xs q=>by rw[aN (bG q hn)];exact q
end
def Rd(H:Hp)(a:aI)(u:HO):Prop:=H a=some u\/∃o,H a=some (.FL o u)
theorem Rd.ok{u:HO}(r:Rd H a u)(x:sJ P w H h):hZ P w H h a u:=by
 rcases r with r|⟨o,r⟩
 ·exact x a u r
 ·obtain⟨_,q⟩:=x a _ r
  exact q
def RJ:Option HO->Prop
 |some (.lst _)=>True
 |some (.dK _)=>True
 |some (.dT _)=>True
 |some (.set _ _)=>True
 |some (.ins _ _ _)=>True
 |some (.ext _)=>True
 |_=>False
section
variable{P:bC}{w:bY}{H:Hp}{h h':cR}{x e:aI}{o':HO}
theorem sJ.write(ok:sJ P w H h)(mu:RJ (H x))(he:e=x\/H e=some (.own x))(k:∀b u,b≠e->h.get? b=some u->h'.get? b=some u)(KG:∃u,h'.get? e=some u)
  (new:hZ P w (upd H x o') h' x o'):sJ P w (upd H x o') h':=λb u q=>by
 have RK:∀c y,H c=some (.own y)->c≠x:=λc y r z=>by subst z;rw[r]at mu;exact mu
 have VX:∀c xs,H c=some (.tup xs)->c≠x:=λc xs r z=>by subst z;rw[r]at mu;exact mu
 by_cases hb:b=x
 ·subst hb;rw[bB]at q;cases q;exact new
 ·rw[aN hb]at q
  by_cases OW:b=e
  ·have q':H b=some (.own x):=by
    rcases he with z|z
    ·exact qQ7 (OW.trans z) hb
    ·rw[OW];exact z
   rw[q]at q';cases q';obtain⟨v,hv⟩:=KG;exact⟨v,by rw[OW];exact hv⟩
  ·refine(ok b u q).stay (λc v hc r=>k c v ?_ r) (λc r=>by rw[aN (RK c b r)];exact r) λc xs r=>by rw[aN (VX c xs r)];exact r
   rcases hc with rfl|hc
   ·exact OW
   ·rintro rfl
    rcases he with z|z
    ·exact RK c b hc z
    ·rw[hc]at z;cases z;exact hb rfl
end
structure Un(fs ex:List aI)(H H':Hp)(h h':cR):Prop where
 keep:∀b o,h.get? b=some o->H b=none->b∉fs->b∉ex->h'.get? b=some o
 slot:∀b o,h.get? b=some o->H b=none->b∈fs->b∉ex->∃sl,h'.get? b=some { o with slots:=sl }
 free:∀b o,h.get? b=some o->H b=none->b∉ex->H' b=none
 there:∀b o,h.get? b=some o->b∉ex->∃o',h'.get? b=some o'
 tups:∀b xs,H b=some (.tup xs)->H' b=some (.tup xs)
 wj:∀b o u,H b=some (.FL o u)->H' b=some (.FL o u)
 ye:∀b ps,H b=some (.OU ps)->∃more,H' b=some (.OU (ps++more))
section
variable{fs fs' ex ex':List aI}{H H1 H2:Hp}{h h1 h2 h':cR}{a x e:aI}{o:HO}
theorem Un.any(u:Un fs ex H H1 h h1){b:aI}{ob:Obj}(q:h.get? b=some ob)(n:H b=none)(hx:b∉ex):∃sl,h1.get? b=some { ob with slots:=sl }:=by
 by_cases hb:b∈fs
 ·exact u.slot b ob q n hb hx
 ·exact⟨ob.slots,u.keep b ob q n hb hx⟩
theorem Un.kept(k:∀b u,h.get? b=some u->h'.get? b=some u):Un fs ex H H h h':=
 ⟨λb ob q _ _ _=>k b ob q,λb ob q _ _ _=>⟨ob.slots,k b ob q⟩,λ_ _ _ n _=>n,λb ob q _=>⟨ob,k b ob q⟩,λ_ _ q=>q,λ_ _ _ q=>q,λ_ ps q=>⟨#[],by rw[q];simp⟩⟩
theorem Un.refl:Un fs ex H H h h:=Un.kept λ_ _ q=>q
theorem Un.laid(k:∀b u,h.get? b=some u->h'.get? b=some u)(hp:h.objs.size<=a)(hn:H a=none):Un fs ex H (upd H a o) h h' where
 keep:=λb u q _ _ _=>k b u q
 slot:=λb u q _ _ _=>⟨u.slots,k b u q⟩
 free:=λb u q n _=>by rw[aN (aU (bR (aT q) hp))];exact n
 there:=λb u q _=>⟨u,k b u q⟩
 tups:=λb xs q=>by rw[aN (bG q hn)];exact q
 wj:=λb u xs q=>by rw[aN (bG q hn)];exact q
 ye:=λb ps q=>⟨#[],by rw[aN (bG q hn),q];simp⟩
theorem Un.write(mu:RJ (H x))(he:e=x\/H e=some (.own x))(k:∀b u,b≠e->h.get? b=some u->h'.get? b=some u)(KG:∃u,h'.get? e=some u):Un fs ex H (upd H x o) h h':=by
 have hx:∀b,H b=none->b≠x:=λb n z=>by subst z;rw[n]at mu;exact mu
 have hb:∀b,H b=none->b≠e:=λb n z=>by
  subst z;rcases he with r|r
  ·exact hx b n r
  ·rw[n]at r;cases r
 have hm:∀b u,H b=some u->¬RJ (some u)->b≠x:=λb u q nm z=>by subst z;rw[q]at mu;exact nm mu
 refine⟨λb u q n _ _=>k b u (hb b n) q,λb u q n _ _=>⟨u.slots,k b u (hb b n) q⟩,λb u q n _=>by rw[aN (hx b n)];exact n,λb u q _=>?_,
  λb xs q=>by rw[aN (hm b _ q λz=>z)];exact q,λb u xs q=>by rw[aN (hm b _ q λz=>z)];exact q,λb ps q=>⟨#[],by rw[aN (hm b _ q λz=>z),q];simp⟩⟩
 by_cases OW:b=e
 ·subst OW;exact KG
 ·exact⟨u,k b u OW q⟩
end
def U8(h:cR)(H:Hp):List aI:=(bS h.objs.size).filter λa=>(H a).isSome
def zz(h:cR)(H:Hp):cR:=PySem.W.hideAll h (U8 h H)
theorem FN(h:cR)(H:Hp):(zz h H).objs.size=h.objs.size:=PySem.W.hideAll_size _ _
theorem HJ{b:aI}(e:h.get? b=some o)(n:H b=none):(zz h H).get? b=some o:=
 PySem.W.hideAll_get _ e λhm=>by
  have q:(H b).isSome=true:=(xS.mp hm).2;rw[n]at q;simp at q
theorem K6{b:aI}(e:(zz h H).get? b=some o):h.get? b=some o/\H b=none:=by
 have e':h.get? b=some o:=PySem.W.of_hideAll (U8 h H) e;refine⟨e',?_⟩
 cases q:H b with
 |none=>rfl
 |some x=>
  have hm:b∈U8 h H:=xS.mpr ⟨cw.mpr (aT e'),by simp[q]⟩
  have z:(zz h H).get? b=none:=PySem.W.hideAll_none (U8 h H) hm;rw[z]at e;cases e
structure Mod(K:ao)(mg:Str->Option aB)(base:cR):Prop where
 RL:K.In base
 glob:base.Ns mainGlobals mg
 blt:∃mb,base.Ns builtinsNs mb/\∀x:Str,x≠"__name__"->mb x=bootBuiltins x
 nolimit:base.NoLimit
structure Cx where
 prog:bC
 w:bY
 K:ao
 mg:Str->Option aB
 base:cR
 A:dg
 N:List Str
 s₀:aH
 H₀:Hp
 env:Env
 outer:List Env
 stack:List Env
 ex:List aI
 fn:Str->Bool
 calm:Bool
 pn:List (aI×Obj)
 xe:aB->aH->Prop
variable{X:Cx}
def Hu(l:List Env):List aI:=l.filterMap (·.frame)
abbrev Cx.fs(X:Cx):List aI:=Hu X.outer
def AW(sc:kz)(x:Str):Prop:=sc.names.lookup x=some .local\/sc.names.lookup x=some .cell\/sc.names.lookup x=some .free
def Loc(sc:kz)(x:Str):Prop:=sc.names.lookup x=some .local\/sc.names.lookup x=some .cell
def Look(env:Env)(h:cR)(m:Str->Option aB)(x:Str)(u:aB):Prop:=
 (env.kindOf x=some .local/\m x=some u)\/((env.kindOf x=some .cell\/env.kindOf x=some .free)/\∃c,env.cells.lookup x=some c/\h.IsCell c (some u))
structure Cx.Ok(X:Cx):Prop where
 mod:Mod X.K X.mg X.base
 kind:X.env.scope.kind=.function
 glob:X.env.globals=mainGlobals
 blt:X.env.builtins=builtinsNs
 above:X.s₀.heap.objs.size<=X.env.locals
 inj:∀x y c,X.env.cells.lookup x=some c->X.env.cells.lookup y=some c->x=y
 has:∀x,(X.env.kindOf x=some .cell\/X.env.kindOf x=some .free)->∃c,X.env.cells.lookup x=some c
 cab:∀x c,X.fn x=true->X.env.cells.lookup x=some c->X.s₀.heap.objs.size<=c
 hd:X.calm=true->X.A.handled=none
 frames:X.A.frames=some X.stack
 stk:X.stack=X.outer\/(X.stack=X.env::X.outer/\X.env.frame=some X.env.locals)
 Y6:∀b∈X.ex,b≠X.env.locals/\∀x c,X.env.cells.lookup x=some c->c≠b
 bs:∀b o,X.base.get? b=some o->X.s₀.heap.get? b=some o/\X.H₀ b=none
 Ny:X.base.objs.size<=X.s₀.heap.objs.size
 HK:∀b o,X.base.get? b=some o->b∉X.ex
 K7:∀b∈X.ex,b∉X.fs
 vF:X.s₀.heap.FunFrames X.base X.outer
 OX:∀b∈X.fs,X.H₀ b=none
structure Inv(X:Cx)(pins:List (aI×Obj))(σ:List (Option V))(H:Hp)(s:aH):Prop where
 ok:X.Ok
 os:s.os=X.s₀.os
 bare:rL s.gens
 base:Un X.fs X.ex X.H₀ H X.s₀.heap s.heap
 loc:∃m,s.heap.Ns X.env.locals m/\∀(i:Nat)(x:Str)(v:V),X.N[i]?=some x->σ[i]?=some (some v)->AW X.env.scope x->∃u,RelV v u/\Look X.env s.heap m x u
 cell:∀x c,X.env.cells.lookup x=some c->∃v,s.heap.IsCell c v
 free:H X.env.locals=none
 pS:∀x c,X.env.cells.lookup x=some c->H c=none
 pin:∀p∈X.pn++pins,s.heap.get? p.1=some p.2/\H p.1=none/\p.1≠X.env.locals/\p.1∉X.fs/\∀v,p.2.data≠.cell v
 hok:sJ X.prog X.w H s.heap
 len:σ.length=X.N.length
section
variable{X:Cx}{pins:List (aI×Obj)}{σ:List (Option V)}{H H':Hp}{s:aH}{h':cR}
theorem Cx.Ok.VY(ok:X.Ok){b:aI}(e:X.base.get? b=some o):b∉X.fs:=λhb=>by
 have:=(ok.vF.mem hb).1;rw[e]at this;cases this
theorem Inv.bs(I:Inv X pins σ H s):∀b o,X.base.get? b=some o->s.heap.get? b=some o/\H b=none:=λb o e=>
 ⟨I.base.keep b o (I.ok.bs b o e).1 (I.ok.bs b o e).2 (I.ok.VY e) (I.ok.HK b o e),I.base.free b o (I.ok.bs b o e).1 (I.ok.bs b o e).2 (I.ok.HK b o e)⟩
theorem Inv.bk(I:Inv X pins σ H s):∀b o,X.base.get? b=some o->s.heap.get? b=some o:=λb o e=>(I.bs b o e).1
theorem Inv.mod(I:Inv X pins σ H s):Mod X.K X.mg X.base:=I.ok.mod
theorem Inv.zA(I:Inv X pins σ H s):X.K.In s.heap:=I.ok.mod.RL.keeps I.bk
theorem Inv.lt(I:Inv X pins σ H s):X.env.locals<s.heap.objs.size:=let⟨_,hn,_⟩:=I.loc;hn.lt
theorem Inv.sz(I:Inv X pins σ H s):X.s₀.heap.objs.size<=s.heap.objs.size:=bZ I.ok.above (pG I.lt)
theorem Inv.VZ(I:Inv X pins σ H s)(h:s.heap.objs.size<=a):a∉X.fs:=λhb=>by
 obtain⟨_,o,ho,_⟩:=I.ok.vF.mem hb;exact qQ7 (bR (aT ho) (bZ I.sz h)) (jT _)
theorem Inv.OY(I:Inv X pins σ H s):∀x c,X.env.cells.lookup x=some c->c≠X.env.locals:=λx c e z=>by
 obtain⟨v,o,ho,hd⟩:=I.cell x c e;obtain⟨m,⟨o',es,ep,CJ,V0,_⟩,_⟩:=I.loc;rw[z,CJ]at ho;cases ho;rw[V0]at hd;cases hd
theorem Inv.vF(I:Inv X pins σ H s):s.heap.FunFrames X.base X.outer:=by
 have all:∀(l:List Env),(∀b∈Hu l,b∈X.fs)->X.s₀.heap.FunFrames X.base l->s.heap.FunFrames X.base l:=by
  intro l
  induction l with
  |nil=>intro _ _;trivial
  |cons env r ih=>
   intro hs hl;obtain⟨hk,⟨L,o,hf,hn,ho,hd⟩,hr⟩:=hl;have hL:L∈X.fs:=hs L (by unfold Hu;rw[jI,hf];exact aO)
   obtain⟨sl,e⟩:=I.base.slot L o ho (I.ok.OX L hL) hL λz=>I.ok.K7 L z hL
   exact⟨hk,⟨L,_,hf,hn,e,hd⟩,ih (λb hb=>hs b (by unfold Hu;rw[jI,hf];exact aR _ hb)) hr⟩
 exact all X.outer (λ_ hb=>hb) I.ok.vF
theorem Inv.stack(I:Inv X pins σ H s):s.heap.FunFrames X.base X.stack:=by
 rcases I.ok.stk with e|⟨e,hf⟩
 ·rw[e];exact I.vF
 ·rw[e]
  obtain⟨m,hn,_⟩:=I.loc;refine .cons (by rw[I.ok.kind];decide) hf hn ?_ I.vF
  exact cR.get?_none_of_le (bZ I.ok.Ny I.ok.above)
theorem Inv.zB(I:Inv X pins σ H s):∀b∈Hu X.stack,b∈X.env.locals::X.fs:=λb hb=>by
 rcases I.ok.stk with e|⟨e,hf⟩
 ·rw[e]at hb;exact aR _ hb
 ·rw[e]at hb
  unfold Hu at hb;rw[jI,hf]at hb;exact hb
theorem Inv.EC(I:Inv X pins σ H s):∀b∈Hu X.stack,H b=none:=λb hb=>by
 rcases av.mp (I.zB b hb)with e|hb
 ·rw[e];exact I.free
 ·obtain⟨_,o,ho,_⟩:=I.ok.vF.mem hb
  exact I.base.free b o ho (I.ok.OX b hb) λz=>I.ok.K7 b z hb
theorem Inv.step(I:Inv X pins σ H s)
  (Hv:∀b∈ch,(b∈X.ex\/X.s₀.heap.objs.size<=b)/\b≠X.env.locals/\(∀x c,X.env.cells.lookup x=some c->c≠b)/\∀p∈X.pn++pins,p.1≠b)
  (keep:∀b o,b≠X.env.locals->b∉X.fs->b∉ch->s.heap.get? b=some o->H b=none->h'.get? b=some o)
  (slot:∀b o,b≠X.env.locals->b∈X.fs->b∉ch->s.heap.get? b=some o->H b=none->∃sl,h'.get? b=some { o with slots:=sl })(free:∀b o,b∉ch->s.heap.get? b=some o->H b=none->H' b=none)
  (there:∀b o,b∉ch->s.heap.get? b=some o->∃o',h'.get? b=some o')
  (tups:∀b xs,H b=some (.tup xs)->H' b=some (.tup xs))(wj:∀b o u,H b=some (.FL o u)->H' b=some (.FL o u))(ye:∀b ps,H b=some (.OU ps)->∃more,H' b=some (.OU (ps++more)))
  (ns:∀m,s.heap.Ns X.env.locals m->h'.Ns X.env.locals m)(hok:sJ X.prog X.w H' h')(hg:rL g'):
  Inv X pins σ H' { s with heap:=h',gens:=g',drawn:=d',toks:=t' }:=by
 have Y7:∀b o,X.s₀.heap.get? b=some o->b≠X.env.locals:=λb o e=>aU (bR (aT e) I.ok.above)
 have Rh:∀b o,X.s₀.heap.get? b=some o->b∉X.ex->b∉ch:=λb o e hx hb=>by
  rcases(Hv b hb).1 with z|z
  ·exact hx z
  ·exact qQ7 (bR (aT e) z) (jT _)
 have cellK:∀x c,X.env.cells.lookup x=some c->∀v,s.heap.IsCell c v->h'.IsCell c v:=λx c e v ⟨o,ho,hd⟩=>by
  have RM:c∉ch:=λz=>(Hv c z).2.2.1 x c e rfl
  by_cases hc:c∈X.fs
  ·obtain⟨sl,q⟩:=slot c o (I.OY x c e) hc RM ho (I.pS x c e)
   exact⟨_,q,hd⟩
  ·exact⟨o,keep c o (I.OY x c e) hc RM ho (I.pS x c e),hd⟩
 refine⟨I.ok,I.os,hg,⟨λb o e n hb hx=>?_,λb o e n hb hx=>?_,λb o e n hx=>?_,λb o e hx=>?_,λb xs e=>tups b xs (I.base.tups b xs e),λb o xs e=>wj b o xs (I.base.wj b o xs e),λb ps e=>?_⟩,?_,λx c e=>?_,?_,λx c e=>?_,λp hp=>?_,hok,I.len⟩
 ·exact keep b o (Y7 b o e) hb (Rh b o e hx) (I.base.keep b o e n hb hx) (I.base.free b o e n hx)
 ·obtain⟨sl,e1⟩:=I.base.slot b o e n hb hx
  obtain⟨RN,e2⟩:=slot b _ (Y7 b o e) hb (Rh b o e hx) e1 (I.base.free b o e n hx);exact⟨RN,e2⟩
 ·obtain⟨o',e1⟩:=I.base.there b o e hx
  exact free b o' (Rh b o e hx) e1 (I.base.free b o e n hx)
 ·obtain⟨o',e1⟩:=I.base.there b o e hx
  exact there b o' (Rh b o e hx) e1
 ·obtain⟨m1,e1⟩:=I.base.ye b ps e
  obtain⟨m2,e2⟩:=ye b _ e1;exact⟨m1++m2,by rw[e2,Array.append_assoc]⟩
 ·obtain⟨m,hn,hl⟩:=I.loc
  refine⟨m,ns m hn,λi x v e1 e2 e3=>?_⟩
  obtain⟨u,r,l⟩:=hl i x v e1 e2 e3;refine⟨u,r,?_⟩
  rcases l with l|⟨k,c,e,z⟩
  ·exact .inl l
  ·exact .inr ⟨k,c,e,cellK x c e _ z⟩
 ·obtain⟨v,z⟩:=I.cell x c e
  exact⟨v,cellK x c e v z⟩
 ·obtain⟨m,⟨o,_,_,ho,_⟩,_⟩:=I.loc
  exact free _ o (λz=>(Hv _ z).2.1 rfl) ho I.free
 ·obtain⟨v,o,ho,hd⟩:=I.cell x c e
  exact free c o (λz=>(Hv c z).2.2.1 x c e rfl) ho (I.pS x c e)
 ·obtain⟨e,n,ne,nf,d⟩:=I.pin p hp
  have RM:p.1∉ch:=λz=>(Hv p.1 z).2.2.2 p hp rfl
  exact⟨keep p.1 p.2 ne nf RM e n,free p.1 p.2 RM e n,ne,nf,d⟩
theorem Inv.un(I:Inv X pins σ H s)(u:Un X.fs [] H H' s.heap h')(hok:sJ X.prog X.w H' h'):Inv X pins σ H' { s with heap:=h',toks:=t' }:=by
 obtain⟨m,⟨o,es,ep,ho,r⟩,_⟩:=id I.loc;obtain⟨sl,hL⟩:=u.any ho I.free (by simp)
 exact I.step (g':=s.gens) (d':=s.drawn) (ch:=[]) (λ_ z=>nomatch z) (λb o _ hb _ e n=>u.keep b o e n hb (by simp)) (λb o _ hb _ e n=>u.slot b o e n hb (by simp)) (λb o _ e n=>u.free b o e n (by simp)) (λb o _ e=>u.there b o e (by simp)) u.tups u.wj u.ye (λm' hm=>by
  obtain⟨o',V1,V2,CJ,r'⟩:=hm;rw[ho]at CJ;cases CJ;exact⟨_,V1,V2,hL,r'⟩) hok I.bare
theorem Inv.call(I:Inv X pins σ H s)(u:Un (Hu X.stack) ch H H' s.heap h')(hok:sJ X.prog X.w H' h')(hg:rL g')
  (Hv:∀b∈ch,(b∈X.ex\/X.s₀.heap.objs.size<=b)/\b≠X.env.locals/\(∀x c,X.env.cells.lookup x=some c->c≠b)/\∀p∈X.pn++pins,p.1≠b):
  Inv X pins σ H' { s with heap:=h',gens:=g',drawn:=d',toks:=t' }:=by
 obtain⟨m,⟨o,es,ep,ho,r⟩,_⟩:=id I.loc;obtain⟨sl,hL⟩:=u.any ho I.free λz=>(Hv _ z).2.1 rfl
 exact I.step (ch:=ch) Hv (λb o hL hb hc e n=>u.keep b o e n (λz=>(av.mp (I.zB b z)).elim hL hb) hc) (λb o _ _ hc e n=>u.any e n hc) (λb o hc e n=>u.free b o e n hc) (λb o hc e=>u.there b o e hc) u.tups u.wj u.ye (λm' hm=>by
  obtain⟨o',V1,V2,CJ,r'⟩:=hm;rw[ho]at CJ;cases CJ;exact⟨_,V1,V2,hL,r'⟩) hok hg
theorem Inv.turned(I:Inv X pins σ H s)(k:∀b o,b≠it->s.heap.get? b=some o->h'.get? b=some o)(hn:H it=none)(hL:it≠X.env.locals)
  (h1:it∈X.ex\/X.s₀.heap.objs.size<=it)(h2:∀x c,X.env.cells.lookup x=some c->c≠it)(h3:∀p∈X.pn++pins,p.1≠it):Inv X pins σ H { s with heap:=h',toks:=t' }:=by
 have RP:∀b u,H b=some u->b≠it:=λb u e z=>by rw[z,hn]at e;cases e
 refine I.step (g':=s.gens) (d':=s.drawn) (ch:=[it]) (λb hb=>?_) (λb o _ _ hc e _=>k b o (λz=>hc (by simp[z])) e) (λb o _ _ hc e _=>⟨o.slots,k b o (λz=>hc (by simp[z])) e⟩) (λ_ _ _ _ n=>n)
  (λb o hc e=>⟨o,k b o (λz=>hc (by simp[z])) e⟩) (λ_ _ e=>e) (λ_ _ _ e=>e) (λb ps e=>⟨#[],by rw[e];simp⟩) (λm hm=>?_) (λb u e=>?_) I.bare
 ·have e:b=it:=by simpa using hb
  subst e;exact⟨h1,hL,h2,h3⟩
 ·obtain⟨o,es,ep,ho,r⟩:=hm
  exact⟨o,es,ep,k _ o (bV hL) ho,r⟩
 ·refine(I.hok b u e).stay (λc v hc q=>k c v ?_ q) (λ_ q=>q) λ_ _ q=>q
  rcases hc with z|z
  ·rw[z];exact RP b u e
  ·exact RP c _ z
theorem Inv.tok(I:Inv X pins σ H s)(t:Nat):Inv X pins σ H { s with toks:=t }:=I.un (h':=s.heap) (t':=t) Un.refl I.hok
theorem Inv.kept(I:Inv X pins σ H s)(k:∀b u,s.heap.get? b=some u->h'.get? b=some u):Inv X pins σ H { s with heap:=h',toks:=t' }:=I.un (Un.kept k) (I.hok.kept k)
theorem Inv.laid{o:HO}(I:Inv X pins σ H s)(k:∀b u,s.heap.get? b=some u->h'.get? b=some u)(hp:s.heap.objs.size<=a)(new:hZ X.prog X.w (upd H a o) h' a o):
  Inv X pins σ (upd H a o) { s with heap:=h',toks:=t' }:=I.un (Un.laid k hp (I.hok.fresh hp)) (I.hok.laid k hp new)
theorem Inv.write{x e:aI}{o:HO}(I:Inv X pins σ H s)(mu:RJ (H x))(he:e=x\/H e=some (.own x))(k:∀b u,b≠e->s.heap.get? b=some u->h'.get? b=some u)(KG:∃u,h'.get? e=some u)
  (new:hZ X.prog X.w (upd H x o) h' x o):Inv X pins σ (upd H x o) { s with heap:=h',toks:=t' }:=I.un (Un.write mu he k KG) (I.hok.write mu he k KG new)
theorem Inv.ED{Nz:List (aI×Obj)}(I:Inv X pins σ H s)(h:∀p∈Nz,s.heap.get? p.1=some p.2/\H p.1=none/\p.1≠X.env.locals/\p.1∉X.fs/\∀v,p.2.data≠.cell v):Inv X Nz σ H s:=
 ⟨I.ok,I.os,I.bare,I.base,I.loc,I.cell,I.free,I.pS,λp hp=>(cx.mp hp).elim (λz=>I.pin p (gX _ z)) (h p),I.hok,I.len⟩
theorem A5(hN:N.Nodup){i j:Nat}{x:Str}(a:N[i]?=some x)(b:N[j]?=some x):i=j:=by
 obtain⟨h1,e1⟩:=aJ.mp a;obtain⟨h2,e2⟩:=aJ.mp b;exact(List.getElem_inj hN).mp (e1.trans e2.symm)
theorem yA{i:Nat}{x:Str}{v:V}{Q:Unit->aH->Prop}(I:Inv X pins σ H s)(hN:X.N.Nodup)(hi:X.N[i]?=some x)(hx:Loc X.env.scope x)(r:RelV v u)
  (h:∀s',Inv X pins (σ.set i (some v)) H s'->(∃a,gY a s.heap s'.heap/\(a=X.env.locals\/X.env.cells.lookup x=some a))->Q () s')(hf:X.fn x=true\/X.env.scope.names.lookup x=some .local:=by first|exact .inl rfl|exact .inr rfl|assumption):wpAny M A (storeName X.env x u) Q E s:=by
 obtain⟨m,hn,hl⟩:=id I.loc;have V3:(X.env.scope.kind == .class||(X.env.scope.kind == .module&&X.env.locals != X.env.globals))=false:=by rw[I.ok.kind];rfl
 have hiσ:i < σ.length:=by rw[I.len];exact(aJ.mp hi).1
 have OY:=I.OY;have tracked:∀{a:aI}{h':cR},(∃o,s.heap.get? a=some o/\H a=none)->gY a s.heap h'->sJ X.prog X.w H h':=λ{a h'}ha hs b ob e=>by
  obtain⟨_,_,NB⟩:=ha;refine(I.hok b ob e).stay (λc w' hc q=>(hs.2 c ?_).trans q) (λ_ q=>q) λ_ _ q=>q
  rintro rfl
  rcases hc with rfl|hc
  ·rw[NB]at e;cases e
  ·rw[NB]at hc;cases hc
 rcases hx with hk|hk
 ·refine wpAny_storeName_local hk hn (λh' hn' hs=>?_) V3
  obtain⟨oL,_,_,hoL,_⟩:=id hn;refine h _ ⟨I.ok,I.os,I.bare,⟨λb o e n hb hx=>?_,λb o e n hb hx=>?_,I.base.free,λb o e hx=>?_,I.base.tups,I.base.wj,I.base.ye⟩,⟨_,hn',λj y v' e1 e2 e3=>?_⟩,λy c e=>?_,I.free,I.pS,λp hp=>?_,tracked ⟨oL,hoL,I.free⟩ hs,by simpa using I.len⟩ ⟨_,hs,.inl rfl⟩
  ·exact(hs.2 b (aU (bR (aT e) I.ok.above))).trans (I.base.keep b o e n hb hx)
  ·obtain⟨sl,e1⟩:=I.base.slot b o e n hb hx
   exact⟨sl,(hs.2 b (aU (bR (aT e) I.ok.above))).trans e1⟩
  ·obtain⟨o',e1⟩:=I.base.there b o e hx
   exact⟨o',(hs.2 b (aU (bR (aT e) I.ok.above))).trans e1⟩
  ·by_cases hj:j=i
   ·subst hj
    rw[hi]at e1;cases e1;rw[bu hiσ]at e2;cases e2;exact⟨u,r,.inl ⟨hk,by simp⟩⟩
   ·rw[bf (bV hj)]at e2
    obtain⟨u',r',q⟩:=hl j y v' e1 e2 e3;refine⟨u',r',?_⟩
    rcases q with⟨k,e⟩|⟨k,c,e,z⟩
    ·refine .inl ⟨k,?_⟩
     have:y≠x:=λe=>hj (A5 hN e1 (e▸hi))
     simp[this,e]
    ·exact .inr ⟨k,c,e,z.sameBut hs (OY y c e)⟩
  ·obtain⟨w',z⟩:=I.cell y c e
   exact⟨w',z.sameBut hs (OY y c e)⟩
  ·obtain⟨e,n,ne,nf,d⟩:=I.pin p hp
   exact⟨(hs.2 p.1 ne).trans e,n,ne,nf,d⟩
 ·have V4:X.fn x=true:=by
   rcases hf with z|z
   ·exact z
   ·rw[z]at hk;cases hk
  obtain⟨c,hc⟩:=I.ok.has x (.inl hk);obtain⟨w',z⟩:=I.cell x c hc;refine wpAny_storeName_cell I.ok.kind hk hc z (λh' Ri hs=>?_)
  obtain⟨oc,Y8,V5⟩:=id z;refine h { s with heap:=h' } ⟨I.ok,I.os,I.bare,⟨λb o e n hb hx=>?_,λb o e n hb hx=>?_,I.base.free,λb o e hx=>?_,I.base.tups,I.base.wj,I.base.ye⟩,⟨m,hn.sameBut hs (bV (OY x c hc)),λj y v' e1 e2 e3=>?_⟩,λy c' e=>?_,I.free,I.pS,λp hp=>?_,tracked ⟨oc,Y8,I.pS x c hc⟩ hs,by simpa using I.len⟩ ⟨c,hs,.inr hc⟩
  ·exact(hs.2 b (aU (bR (aT e) (I.ok.cab x c V4 hc)))).trans (I.base.keep b o e n hb hx)
  ·obtain⟨sl,e1⟩:=I.base.slot b o e n hb hx
   exact⟨sl,(hs.2 b (aU (bR (aT e) (I.ok.cab x c V4 hc)))).trans e1⟩
  ·obtain⟨o',e1⟩:=I.base.there b o e hx
   exact⟨o',(hs.2 b (aU (bR (aT e) (I.ok.cab x c V4 hc)))).trans e1⟩
  ·by_cases hj:j=i
   ·subst hj
    rw[hi]at e1;cases e1;rw[bu hiσ]at e2;cases e2;exact⟨u,r,.inr ⟨.inl hk,c,hc,Ri⟩⟩
   ·rw[bf (bV hj)]at e2
    obtain⟨u',r',q⟩:=hl j y v' e1 e2 e3;refine⟨u',r',?_⟩
    rcases q with q|⟨k,c',e,z'⟩
    ·exact .inl q
    ·refine .inr ⟨k,c',e,z'.sameBut hs ?_⟩
     rintro rfl
     exact hj (A5 hN e1 (I.ok.inj _ _ _ e hc▸hi))
  ·by_cases U9:c'=c
   ·subst U9;exact⟨_,Ri⟩
   ·obtain⟨w2,z2⟩:=I.cell y c' e
    exact⟨w2,z2.sameBut hs U9⟩
  ·obtain⟨e,n,ne,nf,d⟩:=I.pin p hp
   refine⟨(hs.2 p.1 ?_).trans e,n,ne,nf,d⟩
   intro q;rw[q,Y8]at e;have q':oc=p.2:=cQ e;exact d w' (by rw[<-q'];exact V5)
theorem A6{i:Nat}{x:Str}{v:V}{Q:Unit->aH->Prop}(I:Inv X pins σ H s)(hN:X.N.Nodup)(hi:X.N[i]?=some x)(hx:Loc X.env.scope x)(r:RelV v u)
  (h:∀s',Inv X pins (σ.set i (some v)) H s'->Q () s')(hf:X.fn x=true\/X.env.scope.names.lookup x=some .local:=by first|exact .inl rfl|exact .inr rfl|assumption):wpAny M A (storeName X.env x u) Q E s:=
 yA I hN hi hx r (λs' I' _=>h s' I') hf
theorem Inv.call'(I:Inv X pins σ H s)(ho:s'.os=s.os)(u:Un (Hu X.stack) ch H H' s.heap s'.heap)(hok:sJ X.prog X.w H' s'.heap)(hg:rL s'.gens)
  (Hv:∀b∈ch,(b∈X.ex\/X.s₀.heap.objs.size<=b)/\b≠X.env.locals/\(∀x c,X.env.cells.lookup x=some c->c≠b)/\∀p∈X.pn++pins,p.1≠b):Inv X pins σ H' s':=by
 obtain⟨h',g',d',t',o'⟩:=s';have e:o'=s.os:=ho;subst e;exact I.call (g':=g') (t':=t') (d':=d') u hok hg Hv
end
abbrev XK:=aB->Option aI->Hp->Prop
abbrev St:=List (Option V)
variable{σ:St}
abbrev VK:=V->Hp->Prop
abbrev TE:=St->Hp->VK->Prop
variable{t:TE}
abbrev TT:=St->Hp->(Bool->Hp->Prop)->Prop
abbrev TA:=St->Hp->(List V->Hp->Prop)->Prop
structure Ends where
 nx:St->Hp->Prop
 rt:VK
 bk:St->Hp->Prop:=λ_ _=>False
 ct:St->Hp->Prop:=λ_ _=>False
abbrev TS:=Ends->St->Hp->Prop
def EP(X:Cx)(pins:List (aI×Obj))(σ:St)(Q:VK)(u:aB)(s':aH):Prop:=∃v H',Inv X pins σ H' s'/\RelV v u/\Q v H'
def TP(X:Cx)(pins:List (aI×Obj))(σ:St)(Q:Bool->Hp->Prop)(b:Bool)(s':aH):Prop:=∃H',Inv X pins σ H' s'/\Q b H'
def AP(X:Cx)(pins:List (aI×Obj))(σ:St)(Q:List V->Hp->Prop)(us:List aB)(s':aH):Prop:=∃vs H',Inv X pins σ H' s'/\dS vs us/\Q vs H'
def SP(X:Cx)(pins:List (aI×Obj))(D:Ends)(f:Flow)(s':aH):Prop:=
 match f with
 | .next=>∃σ' H',Inv X pins σ' H' s'/\D.nx σ' H'
 | .brk=>∃σ' H',Inv X pins σ' H' s'/\D.bk σ' H'
 | .cont=>∃σ' H',Inv X pins σ' H' s'/\D.ct σ' H'
 | .ret u=>∃v σ' H',Inv X pins σ' H' s'/\RelV v u/\D.rt v H'
def PE(X:Cx)(e:bP)(t:TE):Prop:=
 ∀(pins:List (aI×Obj))(s:aH)(σ:St)(H:Hp)(Q:VK),Inv X pins σ H s->t σ H Q->wpAny (model X.prog X.w) X.A (eval e X.env) (EP X pins σ Q) X.xe s
def PT(X:Cx)(e:bP)(t:TT):Prop:=
 ∀(pins:List (aI×Obj))(s:aH)(σ:St)(H:Hp)(Q:Bool->Hp->Prop),Inv X pins σ H s->t σ H Q->wpAny (model X.prog X.w) X.A (isTrue e X.env (eval e X.env)) (TP X pins σ Q) X.xe s
def PW(X:Cx)(e:bP)(t:TT):Prop:=
 ∀(whole:Sem aB)(pins:List (aI×Obj))(s:aH)(σ:St)(H:Hp)(Q:Bool->Hp->Prop),Inv X pins σ H s->t σ H Q->wpAny (model X.prog X.w) X.A (isTrue e X.env whole) (TP X pins σ Q) X.xe s
theorem PW.pt{t:TT}(h:PW X e t):PT X e t:=h _
def PA(X:Cx)(es:List bP)(t:TA):Prop:=
 ∀(pos:Pos)(pins:List (aI×Obj))(s:aH)(σ:St)(H:Hp)(Q:List V->Hp->Prop),Inv X pins σ H s->t σ H Q->wpAny (model X.prog X.w) X.A (spliced (backTo pos (starEach es X.env))) (AP X pins σ Q) X.xe s
def PS(X:Cx)(st:fH)(t:TS):Prop:=
 ∀(pins:List (aI×Obj))(s:aH)(σ:St)(H:Hp)(D:Ends),Inv X pins σ H s->t D σ H->wpAny (model X.prog X.w) X.A (exec st X.env) (SP X pins D) X.xe s
def EE(X:Cx)(st:List fH)(t:TS):Prop:=
 ∀(pins:List (aI×Obj))(s:aH)(σ:St)(H:Hp)(D:Ends),Inv X pins σ H s->t D σ H->wpAny (model X.prog X.w) X.A (execs st X.env) (SP X pins D) X.xe s
theorem f7{α:Type}{t:Sem α}{Q Q':α->aH->Prop}(h:wpAny M A t Q E s)(hQ:∀a s,Q a s->Q' a s):wpAny M A t Q' E s:=gQ h hQ λ_ _ x=>x
section
variable{X:Cx}
theorem bin{a b:bP}{ta tb:TE}(ha:PE X a ta)(hb:PE X b tb)(I:Inv X pins σ H s)(h:ta σ H λx H1=>tb σ H1 λy H2=>R x y H2)
  {α:Type}{Q:α->aH->Prop}{f:aB->aB->Sem α}
  (hf:∀v u s2 x y H2,Inv X pins σ H2 s2->RelV x v->RelV y u->R x y H2->wpAny (model X.prog X.w) X.A (f v u) Q X.xe s2):
  wpAny (model X.prog X.w) X.A (eval a X.env) (λv s₁=>wpAny (model X.prog X.w) X.A (eval b X.env) (λu s₂=>wpAny (model X.prog X.w) X.A (f v u) Q X.xe s₂) X.xe s₁) X.xe s:=by
 refine f7 (ha pins s σ H _ I h) λv s1 ⟨x,H1,I1,r1,q1⟩=>?_
 refine f7 (hb pins s1 σ H1 _ I1 q1) λu s2 ⟨y,H2,I2,r2,q2⟩=>?_
 exact hf v u s2 x y H2 I2 r1 r2 q2
def RQ(i:Nat):TE:=λσ H Q=>∃v,σ[i]?=some (some v)/\Q v H
def tC(v:V):TE:=λ_ H Q=>Q v H
theorem jN{i:Nat}{x:Str}{pos:Pos}(hN:X.N[i]?=some x)(hv:AW X.env.scope x)(hd:(x==("__debug__":Str))=false:=by decide)(nQ:(x==("__classdict__":Str))=false:=by decide):PE X (.Name x pos) (RQ i):=by
 intro pins s σ H Q I h;obtain⟨v,e,h⟩:=h;obtain⟨m,hn,hl⟩:=I.loc;obtain⟨u,r,l⟩:=hl i x v hN e hv;have fin:EP X pins σ Q u s:=⟨v,H,I,r,h⟩;rcases l with⟨hk,hm⟩|⟨hk,c,hc,NC⟩
 ·exact wpAny_Name (wpAny_loadName_local I.ok.kind hk hn hm fin) hd
 ·rcases hk with hk|hk
  ·exact wpAny_Name (wpAny_loadName_cell I.ok.kind hk hc NC fin) hd
  ·exact wpAny_Name (wpAny_loadName_free I.ok.kind hk hc NC fin nQ) hd
theorem HL{i j pos}:PE X (.Constant (.int i) j pos) (tC (.int i)):=λ_ _ _ H _ I h=>wpAny_Constant_int ⟨.int i,H,I.tok _,⟨_,rfl⟩,h⟩
theorem RT{b j pos}:PE X (.Constant (.bool b) j pos) (tC (.bl b)):=λ_ _ _ H _ I h=>Constant_bool ⟨.bl b,H,I,rfl,h⟩
theorem OZ{j pos}:PE X (.Constant .none j pos) (tC .non):=λ_ _ _ H _ I h=>Constant_none ⟨.non,H,I,rfl,h⟩
theorem O1{x j pos}:PE X (.Constant (.str x) j pos) (tC (.str x)):=λ_ _ _ H _ I h=>Calls.Constant_str ⟨.str x,H,I.tok _,⟨_,rfl⟩,h⟩
def Gl(X:Cx)(x:Str):Prop:=X.env.kindOf x=some .globalImplicit
theorem zC{x:Str}{pos:Pos}(I:Inv X pins σ H s)(hg:Gl X x)(hm:X.mg x=some u)(h:Q u s)
  (hd:(x==("__debug__":Str))=false:=by decide):wpAny (model X.prog X.w) X.A (eval (.Name x pos) X.env) Q E s:=
 x5 I.ok.kind hg (Calls.loadGlobal_global (by rw[I.ok.glob];exact I.mod.glob.keeps I.bk) hm h) hd
theorem oo{x:Str}{pos:Pos}(I:Inv X pins σ H s)(hg:Gl X x)(hm:X.mg x=none)(hv:bootBuiltins x=some u)(h:Q u s)
  (hn:x≠"__name__":=by decide)(hd:(x==("__debug__":Str))=false:=by decide):wpAny (model X.prog X.w) X.A (eval (.Name x pos) X.env) Q E s:=by
 obtain⟨mb,h1,h2⟩:=I.mod.blt;exact x5 I.ok.kind hg (Calls.loadGlobal_builtin (by rw[I.ok.glob];exact I.mod.glob.keeps I.bk) hm (by rw[I.ok.blt];exact h1.keeps I.bk) ((h2 x hn).trans hv) h) hd
theorem vS{x:Str}{v:V}{pos:Pos}(hg:Gl X x)(hm:X.mg x=some u)(r:RelV v u)(hd:(x==("__debug__":Str))=false:=by decide):PE X (.Name x pos) (tC v):=
 λ_ _ _ H _ I h=>zC I hg hm ⟨v,H,I,r,h⟩ hd
theorem K8{x:Str}{v:V}{pos:Pos}(hg:Gl X x)(hm:X.mg x=none)(hv:bootBuiltins x=some u)(r:RelV v u)(hn:x≠"__name__":=by decide)(hd:(x==("__debug__":Str))=false:=by decide):PE X (.Name x pos) (tC v):=
 λ_ _ _ H _ I h=>oo I hg hm hv ⟨v,H,I,r,h⟩ hn hd
variable{a b:bP}{ta tb:TE}{pos:Pos}
def PC(X:Cx)(op:CT)(a b:bP)(t:TE):Prop:=
 ∀(pins:List (aI×Obj))(s:aH)(σ:St)(H:Hp)(Q:VK),Inv X pins σ H s->t σ H Q->
  wpAny (model X.prog X.w) X.A (eval a X.env) (λv s₁=>wpAny (model X.prog X.w) X.A (eval b X.env) (λu s₂=>wpAny (model X.prog X.w) X.A (compareOp op v u) (EP X pins σ Q) X.xe s₂) X.xe s₁) X.xe s
def tB(t:TE):TT:=λσ H Q=>t σ H λx H1=>∃c,x=.bl c/\Q c H1
theorem Dc{op:CT}(h:PC X op a b t)(h1:behindInMarks op b=false:=by first|exact HM _ (by decide) (by decide)|rfl):PE X (.Compare a [op] [b] pos) t:=λpins s σ H Q I hw=>wpAny_Compare1 (h pins s σ H Q I hw) h1
theorem Dd{op:CT}(h:PC X op a b t)(h1:behindInMarks op b=false:=by first|exact HM _ (by decide) (by decide)|rfl):PT X (.Compare a [op] [b] pos) (tB t):=by
 intro pins s σ H Q I hw;refine wpAny_isTrue_Compare1 (f7 (h pins s σ H _ I hw) λv s1 h1=>f7 h1 λu s2 h2=>f7 h2 λc s3 ⟨x,H1,I1,r1,q1⟩=>?_) h1
 obtain⟨d,rfl,q⟩:=q1;cases r1;exact fx ⟨H1,I1,q⟩
variable{tA U_:TT}{rest:List bP}
def V6(t u:TT):TT:=λσ H Q=>t σ H λc H1=>if c=true then u σ H1 Q else Q false H1
def tOr(t u:TT):TT:=λσ H Q=>t σ H λc H1=>if c=true then Q true H1 else u σ H1 Q
def V7(t:TT):TT:=λσ H Q=>t σ H λc H1=>Q (!c) H1
theorem pw_and1(ha:PT X a tA):PW X (.BoolOp .And [a] pos) tA:=by
 intro wh pins s σ H Q I h;refine isTrue_and (f7 (ha pins s σ H Q I h) λc s1 e=>?_)
 cases c with
 |true=>exact isTrue_and_nil e
 |false=>exact e
theorem pw_or1(ha:PT X a tA):PW X (.BoolOp .Or [a] pos) tA:=by
 intro wh pins s σ H Q I h;refine isTrue_or (f7 (ha pins s σ H Q I h) λc s1 e=>?_)
 cases c with
 |false=>exact isTrue_or_nil e
 |true=>exact e
theorem pw_and(ha:PT X a tA)(hb:PW X (.BoolOp .And (b::rest) pos) U_):PW X (.BoolOp .And (a::b::rest) pos) (V6 tA U_):=by
 intro wh pins s σ H Q I h;refine isTrue_and (f7 (ha pins s σ H _ I h) λc s1 ⟨H1,I1,q1⟩=>?_)
 cases c with
 |true=>exact hb wh pins s1 σ H1 Q I1 q1
 |false=>exact⟨H1,I1,q1⟩
theorem pw_or(ha:PT X a tA)(hb:PW X (.BoolOp .Or (b::rest) pos) U_):PW X (.BoolOp .Or (a::b::rest) pos) (tOr tA U_):=by
 intro wh pins s σ H Q I h;refine isTrue_or (f7 (ha pins s σ H _ I h) λc s1 ⟨H1,I1,q1⟩=>?_)
 cases c with
 |true=>exact⟨H1,I1,q1⟩
 |false=>exact hb wh pins s1 σ H1 Q I1 q1
theorem O2(ha:PT X a tA):PT X (.UnaryOp .Not a pos) (V7 tA):=by
 intro pins s σ H Q I h;exact isTrue_not (ha pins s σ H (λc H1=>Q (!c) H1) I h)
def RV(ta tb:TE):TE:=λσ H Q=>ta σ H λx H1=>∃c,x=.bl c/\if c=true then tb σ H1 Q else Q (.bl false) H1
def V8(ta tb:TE):TE:=λσ H Q=>ta σ H λx H1=>∃c,x=.bl c/\if c=true then Q (.bl true) H1 else tb σ H1 Q
def RW(ta:TE):TE:=λσ H Q=>ta σ H λx H1=>∃c,x=.bl c/\Q (.bl (!c)) H1
theorem O4{op}(h:PE X a t):PE X (.BoolOp op [a] pos) t:=λpins s σ H Q I hw=>BoolOp_one (h pins s σ H Q I hw)
theorem HN(ha:PE X a ta)(hb:PE X (.BoolOp .And (b::rest) pos) tb):PE X (.BoolOp .And (a::b::rest) pos) (RV ta tb):=by
 intro pins s σ H Q I h;refine BoolOp_and (f7 (ha pins s σ H _ I h) λv s1 ⟨x,H1,I1,r1,q1⟩=>?_)
 obtain⟨c,rfl,q1⟩:=q1;cases r1;refine fx ?_
 cases c with
 |true=>exact hb pins s1 σ H1 Q I1 q1
 |false=>exact⟨.bl false,H1,I1,rfl,q1⟩
theorem NF(ha:PE X a ta)(hb:PE X (.BoolOp .Or (b::rest) pos) tb):PE X (.BoolOp .Or (a::b::rest) pos) (V8 ta tb):=by
 intro pins s σ H Q I h;refine BoolOp_or (f7 (ha pins s σ H _ I h) λv s1 ⟨x,H1,I1,r1,q1⟩=>?_)
 obtain⟨c,rfl,q1⟩:=q1;cases r1;refine fx ?_
 cases c with
 |false=>exact hb pins s1 σ H1 Q I1 q1
 |true=>exact⟨.bl true,H1,I1,rfl,q1⟩
theorem O5(ha:PE X a ta):PE X (.UnaryOp .Not a pos) (RW ta):=by
 intro pins s σ H Q I h;refine UnaryOp_ (f7 (ha pins s σ H _ I h) λv s1 ⟨x,H1,I1,r1,q1⟩=>?_)
 obtain⟨c,rfl,q1⟩:=q1;cases r1;exact not_of (fx ⟨.bl (!c),H1,I1,rfl,q1⟩)
def tIf(t:TT)(ta tb:TE):TE:=λσ H Q=>t σ H λc H1=>if c=true then ta σ H1 Q else tb σ H1 Q
theorem HP(hc:PT X c tA)(ha:PE X a ta)(hb:PE X b tb):PE X (.IfExp c a b pos) (tIf tA ta tb):=by
 intro pins s σ H Q I h;refine wpAny_IfExp (f7 (hc pins s σ H _ I h) λd s1 ⟨H1,I1,q1⟩=>?_)
 cases d with
 |true=>exact ha pins s1 σ H1 Q I1 q1
 |false=>exact hb pins s1 σ H1 Q I1 q1
end
def jV(K:ao)(H:Hp)(a:aI)(xs:List V):Prop:=
 Rd H a (.lst xs)\/
  ∃(o:Obj)(its:Array aB)(n:Nat),K.lookup a=some o/\o.cls=.type "list"/\o.dict=none/\o.data=.seq its n/\its.size<=sizeLine/\dS xs its.toList
def mQ(K:ao)(H:Hp)(a:aI)(xs:List V):Prop:=
 Rd H a (.tup xs)\/
  ∃(o:Obj)(its:Array aB)(n:Nat),K.lookup a=some o/\o.cls=.type "tuple"/\o.data=.seq its n/\its.size<=sizeLine/\dS xs its.toList
def V9:aB->Option V
 | .none=>some .non
 | .bool b=>some (.bl b)
 | .int i _=>some (.int i)
 | .str x _=>some (.str x)
 | .bytes b _=>some (.Rg b)
 | .float b _=>some (.flt b)
 | .ref a=>some (.ref a)
 | .type n=>some (.ty n)
 |_=>none
theorem RelV.abs{x:V}(r:RelV x u):V9 u=some x:=by
 cases x with
 |non=>cases r;rfl
 |bl _=>cases r;rfl
 |int _=>obtain⟨t,rfl⟩:=r;rfl
 |str _=>obtain⟨t,rfl⟩:=r;rfl
 |Rg _=>obtain⟨t,rfl⟩:=r;rfl
 |flt _=>obtain⟨t,rfl⟩:=r;rfl
 |ref _=>cases r;rfl
 |ty _=>cases r;rfl
theorem RelV.inj{x y:V}(r:RelV x u)(q:RelV y u):x=y:=cQ (r.abs.symm.trans q.abs)
theorem dS.inj:∀{xs ys:List V}{us:List aB},dS xs us->dS ys us->xs=ys
 |_,_,_,.nil,.nil=>rfl
 |_,_,_,.cons r t,.cons r' t'=>by rw[r.inj r',dS.inj t t']
section
variable{X:Cx}{pins:List (aI×Obj)}{σ:St}{H:Hp}{s:aH}{a:aI}{xs ys:List V}
theorem jV.of(h:H a=some (.lst xs)):jV K H a xs:=.inl (.inl h)
theorem mQ.of(h:H a=some (.tup xs)):mQ K H a xs:=.inl (.inl h)
theorem Inv.list(I:Inv X pins σ H s)(h:jV X.K H a xs):∃its:List aB,dS xs its/\PlainL s.heap a its.toArray/\xs.length<=sizeLine:=by
 rcases h with h|⟨o,its,n,hk,hc,hd,hs,hz,r⟩
 ·obtain⟨z,its,n,r,e⟩:=h.ok I.hok
  exact⟨its,r,⟨_,n,e,rfl,rfl,rfl⟩,z⟩
 ·refine⟨its.toList,r,⟨o,n,I.zA a o hk,hc,hd,by simpa using hs⟩,?_⟩
  have e:=r.length;simp only[cM]at e;omega
theorem Inv.tuple(I:Inv X pins σ H s)(h:mQ X.K H a xs):∃its:List aB,dS xs its/\IsTup s.heap a its.toArray/\xs.length<=sizeLine:=by
 rcases h with h|⟨o,its,n,hk,hc,hs,hz,r⟩
 ·obtain⟨z,its,r,p⟩:=h.ok I.hok
  exact⟨its,r,p,z⟩
 ·refine⟨its.toList,r,⟨o,I.zA a o hk,hc,n,by simpa using hs⟩,?_⟩
  have e:=r.length;simp only[cM]at e;omega
theorem Inv.wm(I:Inv X pins σ H s)(h:jV X.K H a xs)(h':jV X.K H a ys):xs=ys:=by
 obtain⟨its,r,⟨o,n,e,_,_,d⟩,_⟩:=I.list h;obtain⟨its',r',⟨o',n',e',_,_,d'⟩,_⟩:=I.list h';rw[e]at e';cases e';rw[d]at d'
 injection d' with d1 _
 have:its=its':=by simpa using qQ6 Array.toList d1
 subst this;exact r.inj r'
theorem Inv.ug(I:Inv X pins σ H s)(h:mQ X.K H a xs)(h':mQ X.K H a ys):xs=ys:=by
 obtain⟨its,r,⟨o,e,_,n,d⟩,_⟩:=I.tuple h;obtain⟨its',r',⟨o',e',_,n',d'⟩,_⟩:=I.tuple h';rw[e]at e';cases e';rw[d]at d'
 injection d' with d1 _
 have:its=its':=by simpa using qQ6 Array.toList d1
 subst this;exact r.inj r'
end
abbrev Cx.wish(X:Cx)(E:aB->aH->Prop):Cx:={ X with xe:=E }
abbrev Cx.rP(X:Cx):Cx:=X.wish λ_ _=>False
theorem Cx.Ok.wish(ok:X.Ok)(E:aB->aH->Prop):(X.wish E).Ok:=
 ⟨ok.mod,ok.kind,ok.glob,ok.blt,ok.above,ok.inj,ok.has,ok.cab,ok.hd,ok.frames,ok.stk,ok.Y6,ok.bs,ok.Ny,ok.HK,ok.K7,ok.vF,ok.OX⟩
theorem Cx.Ok.pT(ok:(X.wish E).Ok):X.Ok:=
 ⟨ok.mod,ok.kind,ok.glob,ok.blt,ok.above,ok.inj,ok.has,ok.cab,ok.hd,ok.frames,ok.stk,ok.Y6,ok.bs,ok.Ny,ok.HK,ok.K7,ok.vF,ok.OX⟩
section
variable{X:Cx}{pins:List (aI×Obj)}{σ:St}{H:Hp}{s:aH}{E:aB->aH->Prop}
theorem Inv.wish(I:Inv X pins σ H s)(E:aB->aH->Prop):Inv (X.wish E) pins σ H s:=⟨I.ok.wish E,I.os,I.bare,I.base,I.loc,I.cell,I.free,I.pS,I.pin,I.hok,I.len⟩
theorem Inv.pT(I:Inv (X.wish E) pins σ H s):Inv X pins σ H s:=⟨I.ok.pT,I.os,I.bare,I.base,I.loc,I.cell,I.free,I.pS,I.pin,I.hok,I.len⟩
theorem SP.pT{D:Ends}{f:Flow}(h:SP (X.wish E) pins D f s'):SP X pins D f s':=by
 cases f with
 |next=>obtain⟨σ',H',I,q⟩:=h;exact⟨σ',H',I.pT,q⟩
 |brk=>obtain⟨σ',H',I,q⟩:=h;exact⟨σ',H',I.pT,q⟩
 |cont=>obtain⟨σ',H',I,q⟩:=h;exact⟨σ',H',I.pT,q⟩
 |ret u=>obtain⟨v,σ',H',I,r,q⟩:=h;exact⟨v,σ',H',I.pT,r,q⟩
theorem EE.rP{st:List fH}{t:TS}(h:EE X.rP st t):EE X st t:=λpins s σ H D I hw=>
 gQ (h pins s σ H D (I.wish _) hw) (λ_ _ q=>q.pT) λ_ _ z=>gD z
end
section
variable{X:Cx}{st:fH}{rest:List fH}{t u:TS}{e:bP}{te:TE}{pos:Pos}
def RX:TS:=λD σ H=>D.nx σ H
def V_(t u:TS):TS:=λD σ H=>t { D with nx:=u D } σ H
theorem EF:EE X [] RX:=λ_ _ σ H _ I h=>A0 ⟨σ,H,I,h⟩
theorem jC(h1:PS X st t)(h2:EE X rest u):EE X (st::rest) (V_ t u):=by
 intro pins s σ H D I h;refine wpAny_execs_cons (f7 (h1 pins s σ H { D with nx:=u D } I h) λf s1 q=>?_)
 cases f with
 |next=>
  obtain⟨σ',H',I',q⟩:=q;exact h2 pins s1 σ' H' D I' q
 |ret v=>exact q
 |brk=>exact q
 |cont=>exact q
theorem vT(h1:PS X st t):EE X [st] t:=by
 intro pins s σ H D I h;refine wpAny_execs_cons (f7 (h1 pins s σ H D I h) λf s1 q=>?_)
 cases f with
 |next=>exact A0 q
 |ret v=>exact q
 |brk=>exact q
 |cont=>exact q
def RZ:TS:=λD σ H=>D.ct σ H
theorem A7:PS X (.Continue pos) RZ:=λ_ _ σ H _ I h=>wpAny_Continue ⟨σ,H,I,h⟩
theorem Inv.quiet(I:Inv X pins σ H s):interactive X.env=false:=by simp[interactive,I.ok.kind]
def R0(te:TE):TS:=λD σ H=>te σ H λ_ H1=>D.nx σ H1
theorem qD(he:PE X e te)(hs:swapsWith e none pos.line X.env=pure false:=by rfl):PS X (.Expr e pos) (R0 te):=by
 intro pins s σ H D I h;exact wpAny_Expr_any (f7 (he pins s σ H _ I h) λv s1 ⟨x,H1,I1,r1,q1⟩=>⟨σ,H1,I1,q1⟩) I.quiet hs
def V'(te:TE):TS:=λD σ H=>te σ H D.rt
theorem zD(he:PE X e te):PS X (.Return (some e) pos) (V' te):=by
 intro pins s σ H D I h;exact wpAny_Return_some (f7 (he pins s σ H _ I h) λv s1 ⟨x,H1,I1,r1,q1⟩=>⟨x,σ,H1,I1,r1,q1⟩)
def Wb(c:TT)(t u:TS):TS:=λD σ H=>c σ H λb H1=>if b=true then t D σ H1 else u D σ H1
theorem yB{a b:List fH}{tc:TT}(hc:PT X c tc)(ha:EE X a t)(hb:EE X b u):PS X (.If c a b pos) (Wb tc t u):=by
 intro pins s σ H D I h;refine wpAny_If (f7 (hc pins s σ H _ I h) λd s1 ⟨H1,I1,q1⟩=>?_)
 cases d with
 |true=>exact ha pins s1 σ H1 D I1 q1
 |false=>exact hb pins s1 σ H1 D I1 q1
def O6:TS:=λ_ _ _=>False
theorem kG{sts:List fH}:EE X sts O6:=λ_ _ _ _ _ _ h=>h.elim
end
abbrev TG:=V->St->Hp->(St->Hp->Prop)->Prop
abbrev NK:=List V->St->Hp->(St->Hp->Prop)->Prop
def PG(X:Cx)(target:bP)(t:TG):Prop:=
 ∀(pins:List (aI×Obj))(s:aH)(σ:St)(H:Hp)(v:V)(u:aB)(Q:St->Hp->Prop),Inv X pins σ H s->RelV v u->t v σ H Q->
  wpAny (model X.prog X.w) X.A (assign target X.env u) (λ_ s'=>∃σ' H',Inv X pins σ' H' s'/\Q σ' H') X.xe s
def Va(X:Cx)(ts:List bP)(t:NK):Prop:=
 ∀(pins:List (aI×Obj))(s:aH)(σ:St)(H:Hp)(vs:List V)(us:List aB)(Q:St->Hp->Prop),Inv X pins σ H s->dS vs us->t vs σ H Q->
  wpAny (model X.prog X.w) X.A (assignInOrder ((assignEach ts X.env).map (·.2)) us) (λ_ s'=>∃σ' H',Inv X pins σ' H' s'/\Q σ' H') X.xe s
section
variable{X:Cx}{pos:Pos}
def yC(i:Nat):TG:=λv σ H Q=>Q (σ.set i (some v)) H
theorem bE{i:Nat}{x:Str}(hN:X.N.Nodup)(hi:X.N[i]?=some x)(hx:Loc X.env.scope x)(hf:X.fn x=true\/X.env.scope.names.lookup x=some .local:=by first|exact .inl rfl|exact .inr rfl|assumption):PG X (.Name x pos) (yC i):=by
 intro pins s σ H v u Q I r h;exact wpAny_assign_Name (A6 I hN hi hx r (λs' I'=>⟨_,H,I',h⟩) hf)
def R1:NK:=λvs σ H Q=>vs=[]/\Q σ H
def NM(t:TG)(u:NK):NK:=λvs σ H Q=>∃v r,vs=v::r/\t v σ H λσ' H'=>u r σ' H' Q
theorem eU:Va X [] R1:=by
 intro pins s σ H vs us Q I r h;obtain⟨e,h⟩:=h;subst e;cases r;exact assignInOrder_nil ⟨σ,H,I,h⟩
theorem bH{t:TG}{u:NK}(h1:PG X e t)(h2:Va X es u)
  (hs:(assignEach (e::es) X.env).map (·.2)=assign e X.env::(assignEach es X.env).map (·.2):=by rfl):Va X (e::es) (NM t u):=by
 intro pins s σ H vs us Q I r h;obtain⟨v,vr,e1,h⟩:=h;subst e1;cases r with
 |cons r rr=>
  rw[hs];refine assignInOrder_cons (f7 (h1 pins s σ H _ _ _ I r h) λ_ s1 ⟨σ1,H1,I1,q1⟩=>?_)
  exact h2 pins s1 σ1 H1 _ _ Q I1 rr q1
def R3(K:ao)(n:Nat)(t:NK):TG:=λv σ H Q=>∃a xs,v=.ref a/\mQ K H a xs/\xs.length=n/\t xs σ H Q
theorem fQ{t:NK}{n:Nat}(hc:X.calm=true)(h:Va X es t)
  (hn:(assignEach es X.env).length=n:=by rfl)(HQ:(assignEach es X.env).findIdx? (·.1)=none:=by rfl):PG X (.Tuple es k pos) (R3 X.K n t):=by
 intro pins s σ H v u Q I r hw;obtain⟨a,xs,e1,hq,hl,hw⟩:=hw;subst e1;cases r;obtain⟨its,rv,ht,hz⟩:=I.tuple hq;refine assign_Tuple_tuple (I.ok.hd hc) ht (by simp[hn,<-hl,rv.length]) HQ λh' hx=>?_
 have I1:Inv X pins σ H { s with heap:=h' }:=I.kept (t':=s.toks) λb o e=>hx b o (aU (aT e)) e
 exact h pins _ σ H xs _ Q I1 (by simpa using rv) hw
def O7(te:TE)(g:TG):TS:=λD σ H=>te σ H λx H1=>g x σ H1 D.nx
theorem O8{te:TE}{g:TG}(he:PE X e te)(hg:PG X tg g)(hs:swapsWithSole [tg] e pos.line X.env=pure false:=by rfl)(hw:swappedStores [tg] e X.env=pure none:=by rfl)
  (h1:(assignEach [tg] X.env).map (·.2)=[assign tg X.env]:=by rfl):PS X (.Assign [tg] e pos) (O7 te g):=by
 intro pins s σ H D I h;refine wpAny_Assign_stores (f7 (he pins s σ H _ I h) λv s1 ⟨x,H1,I1,r1,q1⟩=>?_) hs hw
 rw[h1];exact f7 (hg pins s1 σ H1 x v _ I1 r1 q1) λ_ s2 q=>q
theorem rQ{i:Nat}{x:Str}{te:TE}{pos':Pos}(hN:X.N.Nodup)(hi:X.N[i]?=some x)(hx:Loc X.env.scope x)(he:PE X e te)(hs:swapsWith e (some (.Name x pos')) pos.line X.env=pure false:=by rfl)(hf:X.fn x=true\/X.env.scope.names.lookup x=some .local:=by first|exact .inl rfl|exact .inr rfl|assumption):
  PS X (.Assign [.Name x pos'] e pos) (O7 te (yC i)):=by
 intro pins s σ H D I h;refine wpAny_Assign_Name (f7 (he pins s σ H _ I h) λv s1 ⟨y,H1,I1,r1,q1⟩=>?_) hs
 exact A6 I1 hN hi hx r1 (λs2 I2=>⟨_,H1,I2,q1⟩) hf
end
section
variable{X:Cx}{pos:Pos}
end
structure It where
 go:Nat->Hp->Prop
 R4:Nat->Hp->V->Hp->Prop
 stop:Nat->Hp->Prop
def rR(X:Cx)(pins:List (aI×Obj))(H:Hp)(b:aI):Prop:=
 H b=none/\b≠X.env.locals/\b∉X.fs/\(b∈X.ex\/X.s₀.heap.objs.size<=b)/\(∀x c,X.env.cells.lookup x=some c->c≠b)/\∀p∈X.pn++pins,p.1≠b
theorem Inv.uh{H': Hp}{b:aI}(I:Inv X pins σ H s)(hb:s.heap.objs.size<=b)(hn:H' b=none):rR X pins H' b:=by
 refine⟨hn,eL (bR I.lt hb),I.VZ hb,.inr (bZ I.sz hb),λx c e z=>?_,λp hp z=>?_⟩
 ·obtain⟨v,q⟩:=I.cell x c e
  exact qQ7 (bR q.lt (by rw[z];exact hb)) (jT _)
 ·exact qQ7 (bR (aT (I.pin p hp).1) (by rw[z];exact hb)) (jT _)
structure Turn(P:bC)(w:bY)(K:ao)(tg:bP)(J:It)(fp:List aI)(it:aI)(tn:Nat->cR->Prop):Prop where
 mem:it∈fp
 obj:∀i h,tn i h->∀b∈fp,∃o,h.get? b=some o/\∀v,o.data≠.cell v
 keep:∀i h h',tn i h->(∀b∈fp,∀o,h.get? b=some o->h'.get? b=some o)->tn i h'
 item:∀(X:Cx),X.prog=P->X.w=w->X.K=K->X.calm=true->∀(i:Nat)(pins:List (aI×Obj))(s:aH)(σ:St)(H:Hp)(E:aB->aH->Prop),Inv X pins σ H s->(∀b∈fp,rR X pins H b)->tn i s.heap->J.go i H->
  wpAny (model P w) X.A (pyNext (.ref it)) (λr s1=>∃u,r=some u/\
   wpAny (model P w) X.A (letOwnedTupleGo tg (.ref it) u) (λ_ s2=>∃x H',Inv X pins σ H' s2/\RelV x u/\J.R4 i H x H'/\tn (i+1) s2.heap/\∀b∈fp,H' b=none) E s1) E s
 done:∀(X:Cx),X.prog=P->X.w=w->X.K=K->X.calm=true->∀(i:Nat)(pins:List (aI×Obj))(s:aH)(σ:St)(H:Hp)(E:aB->aH->Prop),Inv X pins σ H s->(∀b∈fp,rR X pins H b)->tn i s.heap->J.stop i H->
  wpAny (model P w) X.A (pyNext (.ref it)) (λr s1=>r=none/\Inv X pins σ H s1) E s
 self:∀(A:dg)(i:Nat)(s:aH)(Q:aB->aH->Prop)(E:aB->aH->Prop),tn i s.heap->Q (.ref it) s->wpAny (model P w) A (pyIter (.ref it)) Q E s
abbrev TI:=St->Hp->(It->Hp->Prop)->Prop
def Wc(X:Cx)(pins:List (aI×Obj))(σ:St)(tg:bP)(R:It->Hp->Prop)(Vb:aB)(s2:aH):Prop:=
 ∃(it:aI)(fp:List aI)(tn:Nat->cR->Prop)(J:It)(H':Hp),Vb=.ref it/\Inv X pins σ H' s2/\Turn X.prog X.w X.K tg J fp it tn/\tn 0 s2.heap/\(∀b∈fp,rR X pins H' b)/\R J H'
def PI(X:Cx)(tg iter:bP)(wi:TI):Prop:=
 ∀(pins:List (aI×Obj))(s:aH)(σ:St)(H:Hp)(R:It->Hp->Prop),Inv X pins σ H s->wi σ H R->
  wpAny (model X.prog X.w) X.A (eval iter X.env) (λv s1=>wpAny (model X.prog X.w) X.A (pyIter v) (Wc X pins σ tg R) X.xe s1) X.xe s
theorem EG{n:String}{vs:Array aB}{Q:Unit->aH->Prop}(ho:s.heap.get? it=some o)(hc:o.cls=.type n)(hd:o.data=.fields vs)
    (hn:["enumerate","zip","dict_itemiterator","dict_reverseitemiterator","odict_iterator","itertools.zip_longest","itertools.pairwise"].contains n=false)(hQ:Q () s):wpAny M A (letOwnedTupleGo tg (.ref it) u) Q E s:=by
  unfold letOwnedTupleGo;cases tg<;>first
    | exact a9 hQ
    | (cases u<;>first
        | exact a9 hQ
        | (refine ax (wpAny_load ho ?_)
           rw[hc,hd];show wpAny M A (if(["enumerate","zip","dict_itemiterator","dict_reverseitemiterator","odict_iterator","itertools.zip_longest","itertools.pairwise"].contains n&&vs[0]?==some (rawInt _))=true then _ else _) Q E s
           rw[qQ2 (by intro h;rw[hn,Bool.false_and]at h;cases h)]
           exact a9 hQ))
def Y9(K:ao)(a:aI):It:=
 ⟨λi H=>∃xs x,jV K H a xs/\xs[i]?=some x,λi H x H'=>H'=H/\∀xs,jV K H a xs->xs[i]?=some x,λi H=>∃xs,jV K H a xs/\xs.length<=i⟩
def Y_(K:ao)(a:aI):It:=
 ⟨λi H=>∃xs x,mQ K H a xs/\xs[i]?=some x,λi H x H'=>H'=H/\∀xs,mQ K H a xs->xs[i]?=some x,λi H=>∃xs,mQ K H a xs/\xs.length<=i⟩
def Wf(lo:Int)(n:Nat):It:=⟨λi _=>i<n,λi H x H'=>H'=H/\x=.int (lo+i),λi _=>n<=i⟩
theorem FP(a it:aI):Turn P w K tg (Y9 K a) [it] it (λi h=>h.IsListIter it a i) where
 mem:=by simp
 obj:=λi h st b hb=>by
  have e:b=it:=by simpa using hb
  subst e;obtain⟨o,e,c,d⟩:=st;exact⟨o,e,λv z=>by rw[d]at z;cases z⟩
 keep:=λi h h' st k=>st.at λo e=>k it (by simp) o e
 item:=by
  intro X hP hw hK hc i pins s σ H E I hf st hg;subst hP hw hK;obtain⟨xs,x,hq,hx⟩:=hg;obtain⟨its,rv,p,hz⟩:=I.list hq;obtain⟨u,hu,ru⟩:=rv.get hx;obtain⟨f0,f1,f2,f3,f4,f5⟩:=hf it (by simp)
  refine wpAny_pyNext_list_item st p.isList (x:=u) (by simpa using hu) λh' yf sb=>?_
  have I1:Inv X pins σ H { s with heap:=h' }:=I.turned (t':=s.toks) (λb o hb e=>(sb.2 b hb).trans e) f0 f1 f3 f4 f5
  obtain⟨o,e,c,d⟩:=id yf;exact⟨u,rfl,EG (s:={ s with heap:=h' }) e c d (by decide) ⟨x,H,I1,ru,⟨rfl,λys hy=>by rw[I.wm hy hq];exact hx⟩,yf,λb hb=>(hf b hb).1⟩⟩
 done:=by
  intro X hP hw hK hc i pins s σ H E I hf st hg;subst hP hw hK;obtain⟨xs,hq,hx⟩:=hg;obtain⟨its,rv,p,hz⟩:=I.list hq;obtain⟨f0,f1,f2,f3,f4,f5⟩:=hf it (by simp)
  have hl:=rv.length;exact wpAny_pyNext_list_end (I.ok.hd hc) st p.isList (by simp;omega) λh' eb=>⟨rfl,I.turned (t':=s.toks) (λb o hb e=>eb b o hb e) f0 f1 f3 f4 f5⟩
 self:=λ_ _ _ _ _ st h=>wpAny_pyIter_listiter st h
theorem De(a it:aI):Turn P w K tg (Y_ K a) [it] it (λi h=>h.IsTupleIter it a i) where
 mem:=by simp
 obj:=λi h st b hb=>by
  have e:b=it:=by simpa using hb
  subst e;obtain⟨o,e,c,d⟩:=st;exact⟨o,e,λv z=>by rw[d]at z;cases z⟩
 keep:=λi h h' st k=>st.at λo e=>k it (by simp) o e
 item:=by
  intro X hP hw hK hc i pins s σ H E I hf st hg;subst hP hw hK;obtain⟨xs,x,hq,hx⟩:=hg;obtain⟨its,rv,p,hz⟩:=I.tuple hq;obtain⟨u,hu,ru⟩:=rv.get hx;obtain⟨f0,f1,f2,f3,f4,f5⟩:=hf it (by simp)
  refine wpAny_pyNext_tuple_item st (show s.heap.IsTuple a its.toArray from p) (x:=u) (by simpa using hu) λh' yf sb=>?_
  have I1:Inv X pins σ H { s with heap:=h' }:=I.turned (t':=s.toks) (λb o hb e=>(sb.2 b hb).trans e) f0 f1 f3 f4 f5
  obtain⟨o,e,c,d⟩:=id yf;exact⟨u,rfl,EG (s:={ s with heap:=h' }) e c d (by decide) ⟨x,H,I1,ru,⟨rfl,λys hy=>by rw[I.ug hy hq];exact hx⟩,yf,λb hb=>(hf b hb).1⟩⟩
 done:=by
  intro X hP hw hK hc i pins s σ H E I hf st hg;subst hP hw hK;obtain⟨xs,hq,hx⟩:=hg;obtain⟨its,rv,p,hz⟩:=I.tuple hq;obtain⟨f0,f1,f2,f3,f4,f5⟩:=hf it (by simp)
  have hl:=rv.length;exact wpAny_pyNext_tuple_end (I.ok.hd hc) st (show s.heap.IsTuple a its.toArray from p) (by simp;omega) λh' eb=>⟨rfl,I.turned (t':=s.toks) (λb o hb e=>eb b o hb e) f0 f1 f3 f4 f5⟩
 self:=λ_ _ _ _ _ st h=>wpAny_pyIter_tupleiter st h
theorem Df(it:aI)(lo:Int)(n:Nat):Turn P w K tg (Wf lo n) [it] it (λi h=>IsRangeIter h it (lo+(i:Nat)*1) ((n:Int)-(i:Nat)) 1) where
 mem:=by simp
 obj:=λi h st b hb=>by
  have e:b=it:=by simpa using hb
  subst e;exact⟨_,st,λv z=>by
   have z':Data.fields _=Data.cell v:=z;cases z'⟩
 keep:=λi h h' st k=>k it (by simp) _ st
 item:=by
  intro X hP hw hK hc i pins s σ H E I hf st hg;subst hP hw hK;obtain⟨f0,f1,f2,f3,f4,f5⟩:=hf it (by simp)
  have W:=Walks.range (prog:=X.prog) (w:=X.w) (I.ok.hd hc) it lo 1 n;refine W.item i s _ _ hg st λv h' tk hv yf kk=>?_
  obtain⟨t,rfl⟩:=hv;have I1:Inv X pins σ H { s with heap:=h',toks:=tk }:=I.turned (λb o hb e=>kk b o (by simpa using hb) e) f0 f1 f3 f4 f5
  refine⟨_,rfl,EG (s:={ s with heap:=h',toks:=tk }) (n:="range_iterator") yf rfl rfl (by decide) ⟨.int (lo+i),H,I1,⟨t,?_⟩,⟨rfl,rfl⟩,yf,λb hb=>(hf b hb).1⟩⟩
  rw[Int.mul_one]
 done:=by
  intro X hP hw hK hc i pins s σ H E I hf st hg;subst hP hw hK;obtain⟨f0,f1,f2,f3,f4,f5⟩:=hf it (by simp)
  exact wpAny_pyNext_range_end (I.ok.hd hc) st (by have:n<=i:=hg;omega) λh' eb=>⟨rfl,I.turned (t':=s.toks) (λb o hb e=>eb b o hb e) f0 f1 f3 f4 f5⟩
 self:=λ_ _ _ _ _ st h=>wpAny_pyIter_rangeiter st h
section
variable{X:Cx}{tg:bP}
def R5(K:ao)(tl:TE):TI:=λσ H R=>tl σ H λx H1=>∃a,x=.ref a/\(∃xs,jV K H1 a xs)/\R (Y9 K a) H1
def Wh(K:ao)(tl:TE):TI:=λσ H R=>tl σ H λx H1=>∃a,x=.ref a/\(∃xs,mQ K H1 a xs)/\R (Y_ K a) H1
theorem K9{l:bP}{tl:TE}(hl:PE X l tl):PI X tg l (R5 X.K tl):=by
 intro pins s σ H R I h;refine f7 (hl pins s σ H _ I h) λv s1 ⟨x,H1,I1,r1,q1⟩=>?_
 obtain⟨a,e,⟨xs,hq⟩,q⟩:=q1;subst e;cases r1;obtain⟨its,rv,p,hz⟩:=I1.list hq;refine ly p.isList ?_
 refine⟨s1.heap.objs.size,[s1.heap.objs.size],_,_,H1,rfl,I1.kept (t':=s1.toks) λb o e=>ay _ e,FP a _,⟨_,a8 _ rfl,rfl,rfl⟩,λb hb=>?_,q⟩
 have e:b=s1.heap.objs.size:=by simpa using hb
 subst e;exact I1.uh (aA _) (I1.hok.fresh (aA _))
theorem O9{l:bP}{tl:TE}(hl:PE X l tl):PI X tg l (Wh X.K tl):=by
 intro pins s σ H R I h;refine f7 (hl pins s σ H _ I h) λv s1 ⟨x,H1,I1,r1,q1⟩=>?_
 obtain⟨a,e,⟨xs,hq⟩,q⟩:=q1;subst e;cases r1;obtain⟨its,rv,p,hz⟩:=I1.tuple hq;refine iS (show s1.heap.IsTuple a its.toArray from p) ?_
 refine⟨s1.heap.objs.size,[s1.heap.objs.size],_,_,H1,rfl,I1.kept (t':=s1.toks) λb o e=>ay _ e,De a _,⟨_,a8 _ rfl,rfl,rfl⟩,λb hb=>?_,q⟩
 have e:b=s1.heap.objs.size:=by simpa using hb
 subst e;exact I1.uh (aA _) (I1.hok.fresh (aA _))
theorem HR{R:It->Hp->Prop}{lo hi:Int}{t u v:Tok}{tk:Nat}(I:Inv X pins σ H s)(h1:-(2^62)<=lo)(h2:lo<2^62)(h3:-(2^62)<=hi)(h4:hi<2^62)
  (q:R (Wf lo (hi-lo).toNat) H):wpAny (model X.prog X.w) X.A (pyIter (.ref s.heap.objs.size)) (Wc X pins σ tg R) E { s with heap:=s.heap.push { cls:=.type "range",data:=.fields #[.int lo t,.int hi u,.int 1 v] },toks:=tk }:=by
 refine wpAny_pyIter_range (IsRange.new ..) (small_one h1 h2 h3 h4) ?_
 have I1:Inv X pins σ H { s with heap:=s.heap.push { cls:=.type "range",data:=.fields #[.int lo t,.int hi u,.int 1 v] },toks:=tk }:=I.kept λb o e=>ay _ e
 refine⟨(s.heap.push { cls:=.type "range",data:=.fields #[.int lo t,.int hi u,.int 1 v] }).objs.size,[(s.heap.push { cls:=.type "range",data:=.fields #[.int lo t,.int hi u,.int 1 v] }).objs.size],_,_,H,rfl,
  I1.kept (t':=tk) λb o e=>ay _ e,Df _ lo (hi-lo).toNat,?_,λb hb=>?_,q⟩
 ·have e1:lo+((0:Nat):Int)*1=lo:=by simp
  have e2:(((hi-lo).toNat:Nat):Int)-((0:Nat):Int)=pD.Range.rangeSize lo hi 1:=by rw[rangeSize_one];split<;>omega
  show IsRangeIter _ _ (lo+((0:Nat):Int)*1) ((((hi-lo).toNat:Nat):Int)-((0:Nat):Int)) 1;rw[e1,e2];exact a8 _ rfl
 ·have e:b=(s.heap.push { cls:=.type "range",data:=.fields #[.int lo t,.int hi u,.int 1 v] }).objs.size:=by simpa using hb
  subst e;exact I1.uh (aA _) (I1.hok.fresh (aA _))
def R6(ta:TA):TI:=λσ H R=>ta σ H λvs H1=>∃j:Int,vs=[.int j]/\-(2^62)<=j/\j<2^62/\R (Wf 0 j.toNat) H1
theorem FQ{a:bP}{ta:TA}{p pos:Pos}(hg:Gl X "range")(hm:X.mg "range"=none)(ha:PA X [a] ta)(hs:starEach [a] X.env=[(false,eval a X.env)]:=by rfl):PI X tg (.Call (.Name "range" p) [a] [] pos) (R6 ta):=by
 intro pins s σ H R I h;refine Call_ (oo I hg hm boot_range (dZ (f7 (ha pos pins s σ H _ I h) λus s1 ⟨vs,H1,I1,r1,q1⟩=>?_) hs rfl))
 obtain⟨j,e,q1,q2,q⟩:=q1;subst e;cases r1 with
 |cons r rr=>
  cases rr;obtain⟨t,rfl⟩:=r;exact call_range_1 (HR I1 (by omega) (by omega) q1 q2 (by simpa using q))
def Wi(wi:TI)(g:TG)(tb:TS):TS:=λD σ H=>wi σ H λJ H1=>∃W:Nat->Nat->St->Hp->Prop,(∃m,W 0 m σ H1)/\∀i m σ H,W i m σ H->
 (J.stop i H/\D.nx σ H)\/(J.go i H/\∃N:St->Hp->Prop,(∀σ' H',N σ' H'->∃m',m'<m/\W (i+1) m' σ' H')/\∀x H',J.R4 i H x H'->g x σ H' λσ2 H2=>tb { D with nx:=N,ct:=N,bk:=D.nx } σ2 H2)
def wo(fp:List aI)(h:cR):List (aI×Obj):=fp.filterMap λb=>(h.get? b).map λo=>(b,o)
theorem oq{b:aI}(hb:b∈fp)(e:h.get? b=some o):(b,o)∈wo fp h:=t_.mpr ⟨b,hb,by rw[e];rfl⟩
theorem FT{p:aI×Obj}(hp:p∈wo fp h):p.1∈fp/\h.get? p.1=some p.2:=by
 obtain⟨b,hb,e⟩:=t_.mp hp;cases q:h.get? b with
 |none=>rw[q]at e;cases e
 |some o=>
  rw[q]at e;have e':(b,o)=p:=cQ e;subst e';exact⟨hb,q⟩
theorem Inv.pinned(I:Inv X pins σ H s)(hf:∀b∈fp,rR X pins H b)(ho:∀b∈fp,∃o,s.heap.get? b=some o/\∀v,o.data≠.cell v):Inv X (pins++wo fp s.heap) σ H s:=
 I.ED λp hp=>(cx.mp hp).elim (λz=>I.pin p (cJ _ z)) λz=>by
  obtain⟨hb,e⟩:=FT z;obtain⟨f0,f1,f2,_⟩:=hf p.1 hb;obtain⟨o,e',d⟩:=ho p.1 hb;rw[e]at e';cases e';exact⟨e,f0,f1,f2,d⟩
theorem Inv.pU{pl: List (aI×Obj)}(I:Inv X (pins++pl) σ H s):Inv X pins σ H s:=I.ED λp hp=>I.pin p (cJ _ (gX _ hp))
theorem wq{iter:bP}{wi:TI}{g:TG}{tb:TS}{pos:Pos}(hp:uN (model X.prog X.w) X.A X.env X.xe)(hc:X.calm=true)(hi:PI X tg iter wi)(hg:PG X tg g)(hb:EE X body tb)
  (hs:∀x,foldedSetIterable iter X.env x=pure x:=by intro _;rfl):PS X (.For tg iter body [] pos) (Wi wi g tb):=by
 intro pins s σ H D I h;refine wpAny_For (f7 (hi pins s σ H _ I h) λv s1 h1=>f7 h1 λVb s2 h2=>?_) hs
 obtain⟨it,fp,tn,J,H2,e,I2,T,R7,f2,W,⟨m0,w0⟩,turn⟩:=h2;subst e;have stat:∀{H':Hp},(∀b∈fp,H' b=none)->∀b∈fp,rR X pins H' b:=λhn b hb=>⟨hn b hb,(f2 b hb).2⟩
 refine codeAny_forLoop_any (λn s'=>∃i σ' H',Inv X pins σ' H' s'/\tn i s'.heap/\(∀b∈fp,H' b=none)/\W i n σ' H') ?_ m0 ⟨0,σ,H2,I2,R7,λb hb=>(f2 b hb).1,w0⟩
 rintro n s3 ⟨i,σ3,H3,I3,Y',Za,w3⟩
 rcases turn i n σ3 H3 w3 with⟨stop,qn⟩|⟨go,N,hN,step⟩
 ·refine ny hp (f7 (T.done X rfl rfl rfl hc i pins s3 σ3 H3 X.xe I3 (stat Za) Y' stop) λr s4 ⟨hr,I4⟩=>?_)
  subst hr;exact A0 ⟨σ3,H3,I4,qn⟩
 ·refine ny hp (f7 (T.item X rfl rfl rfl hc i pins s3 σ3 H3 X.xe I3 (stat Za) Y' go) λr s4 ⟨u,hr,h4⟩=>?_)
  subst hr;refine ny hp (f7 h4 λ_ s5 ⟨x,H5,I5,r5,y5,Wj,fr5⟩=>?_)
  have I5':=I5.pinned (stat fr5) (T.obj _ _ Wj);refine ny hp (f7 (hg _ s5 σ3 H5 x u _ I5' r5 (step x H5 y5)) λ_ s6 ⟨σ6,H6,I6,q6⟩=>?_)
  refine ny hp (f7 (hb _ s6 σ6 H6 _ I6 q6) λf s7 q7=>?_)
  have again:∀{σ7:St}{H7:Hp},Inv X (pins++wo fp s5.heap) σ7 H7 s7->N σ7 H7->∃m,m<n/\∃i σ' H',Inv X pins σ' H' s7/\tn i s7.heap/\(∀b∈fp,H' b=none)/\W i m σ' H':=λ{σ7 H7}I7 n7=>by
   obtain⟨m',hm,w7⟩:=hN σ7 H7 n7;refine⟨m',hm,i+1,σ7,H7,I7.pU,T.keep _ _ _ Wj λb hb o e=>(I7.pin (b,o) (cJ _ (cJ _ (oq hb e)))).1,λb hb=>?_,w7⟩
   obtain⟨o,e,d⟩:=T.obj _ _ Wj b hb;exact(I7.pin (b,o) (cJ _ (cJ _ (oq hb e)))).2.1
  cases f with
  |next=>obtain⟨σ7,H7,I7,n7⟩:=q7;exact again I7 n7
  |cont=>obtain⟨σ7,H7,I7,n7⟩:=q7;exact again I7 n7
  |brk=>obtain⟨σ7,H7,I7,q7⟩:=q7;exact⟨σ7,H7,I7.pU,q7⟩
  |ret v=>obtain⟨x7,σ7,H7,I7,r7,q7⟩:=q7;exact⟨x7,σ7,H7,I7.pU,r7,q7⟩
end
abbrev R2:=V->V->Hp->VK->Prop
variable{r:R2}
def qE(X:Cx)(f:aB->aB->Sem aB)(r:R2):Prop:=
 ∀(pins:List (aI×Obj))(s:aH)(σ:St)(H:Hp)(x y:V)(v u:aB)(Q:VK),Inv X pins σ H s->RelV x v->RelV y u->r x y H Q->
  wpAny (model X.prog X.w) X.A (f v u) (EP X pins σ Q) X.xe s
def Wk(X:Cx)(f:aB->Sem aB)(r:V->Hp->VK->Prop):Prop:=
 ∀(pins:List (aI×Obj))(s:aH)(σ:St)(H:Hp)(x:V)(v:aB)(Q:VK),Inv X pins σ H s->RelV x v->r x H Q->
  wpAny (model X.prog X.w) X.A (f v) (EP X pins σ Q) X.xe s
def jD(X:Cx)(f:aB)(r:List V->Hp->VK->Prop):Prop:=
 ∀(pins:List (aI×Obj))(s:aH)(σ:St)(H:Hp)(xs:List V)(us:List aB)(Q:VK),Inv X pins σ H s->dS xs us->r xs H Q->
  wpAny (model X.prog X.w) X.A (call f us) (EP X pins σ Q) X.xe s
def Wm(X:Cx)(r:V->Hp->(Bool->Hp->Prop)->Prop):Prop:=
 ∀(pins:List (aI×Obj))(s:aH)(σ:St)(H:Hp)(x:V)(v:aB)(Q:Bool->Hp->Prop),Inv X pins σ H s->RelV x v->r x H Q->
  wpAny (model X.prog X.w) X.A (truthy v) (TP X pins σ Q) X.xe s
def R8(r:R2)(ta tb:TE):TE:=λσ H Q=>ta σ H λx H1=>tb σ H1 λy H2=>r x y H2 Q
def tUn(r:V->Hp->VK->Prop)(ta:TE):TE:=λσ H Q=>ta σ H λx H1=>r x H1 Q
def rI(C:Int->Int->Prop)(g:Int->Int->V):R2:=λx y H Q=>∃i j,x=.int i/\y=.int j/\C i j/\Q (g i j) H
def KH(g:Int->Int->V):R2:=λx y H Q=>∃i j,x=.int i/\y=.int j/\Q (g i j) H
def rU(g:Int->V):V->Hp->VK->Prop:=λx H Q=>∃i,x=.int i/\Q (g i) H
section
variable{X:Cx}{a b c:bP}{ta tb tc:TE}{pos:Pos}
theorem O_(ha:PE X a ta)(hb:PE X b tb)(I:Inv X pins σ H s)
  (h:ta σ H λx H1=>tb σ H1 λy H2=>R x y H2)
  (hf:∀v u s2 x y H2,Inv X pins σ H2 s2->RelV x v->RelV y u->R x y H2->wpAny (model X.prog X.w) X.A (f v u) Q X.xe s2):
  wpAny (model X.prog X.w) X.A (eval a X.env) (λv s₁=>wpAny (model X.prog X.w) X.A (eval b X.env) (λu s₂=>wpAny (model X.prog X.w) X.A (f v u) Q X.xe s₂) X.xe s₁) X.xe s:=by
 refine f7 (ha pins s σ H _ I h) λv s1 ⟨x,H1,I1,r1,q1⟩=>?_
 refine f7 (hb pins s1 σ H1 _ I1 q1) λu s2 ⟨y,H2,I2,r2,q2⟩=>?_
 exact hf v u s2 x y H2 I2 r1 r2 q2
theorem EH{op:Operator}(ho:qE X (binaryOp op) r)(ha:PE X a ta)(hb:PE X b tb):PE X (.BinOp a op b pos) (R8 r ta tb):=by
 intro pins s σ H Q I h;exact wpAny_BinOp (O_ ha hb I h λv u s2 x y H2 I2 rx ry q=>ho pins s2 σ H2 x y v u Q I2 rx ry q)
theorem NP{op:UnaryOp}{r:V->Hp->VK->Prop}(ho:Wk X (unaryOp op) r)(ha:PE X a ta):PE X (.UnaryOp op a pos) (tUn r ta):=by
 intro pins s σ H Q I h;exact UnaryOp_ (f7 (ha pins s σ H _ I h) λv s1 ⟨x,H1,I1,r1,q1⟩=>ho pins s1 σ H1 x v Q I1 r1 q1)
theorem Wn{C:Int->Int->Prop}
  (rule:∀(i j:Int)(t u:Tok)(s:aH)(Q:aB->aH->Prop)(E:aB->aH->Prop),C i j->Q (.int (g i j) s.toks) { s with toks:=s.toks+1 }->wpAny (model X.prog X.w) X.A (f (.int i t) (.int j u)) Q E s):
  qE X f (rI C λi j=>.int (g i j)):=by
 intro pins s σ H x y v u Q I rx ry h;obtain⟨i,j,rfl,rfl,hc,q⟩:=h;obtain⟨t,rfl⟩:=rx;obtain⟨t',rfl⟩:=ry;exact rule i j t t' s _ _ hc ⟨.int (g i j),H,I.tok _,⟨_,rfl⟩,q⟩
theorem R9
  (rule:∀(i j:Int)(t u:Tok)(s:aH)(Q:aB->aH->Prop)(E:aB->aH->Prop),Q (.int (g i j) s.toks) { s with toks:=s.toks+1 }->wpAny (model X.prog X.w) X.A (f (.int i t) (.int j u)) Q E s):
  qE X f (KH λi j=>.int (g i j)):=by
 intro pins s σ H x y v u Q I rx ry h;obtain⟨i,j,rfl,rfl,q⟩:=h;obtain⟨t,rfl⟩:=rx;obtain⟨t',rfl⟩:=ry;exact rule i j t t' s _ _ ⟨.int (g i j),H,I.tok _,⟨_,rfl⟩,q⟩
theorem K_{g:Int->Int->Bool}
  (rule:∀(i j:Int)(t u:Tok)(s:aH)(Q:aB->aH->Prop)(E:aB->aH->Prop),Q (.bool (g i j)) s->wpAny (model X.prog X.w) X.A (f (.int i t) (.int j u)) Q E s):
  qE X f (KH λi j=>.bl (g i j)):=by
 intro pins s σ H x y v u Q I rx ry h;obtain⟨i,j,rfl,rfl,q⟩:=h;obtain⟨t,rfl⟩:=rx;obtain⟨t',rfl⟩:=ry;exact rule i j t t' s _ _ ⟨.bl (g i j),H,I,rfl,q⟩
def R_(i j:Int):Prop:=0<j/\j<1073741824
def La(i j:Int):Prop:=(-(2^64)<i/\i<2^64)\/(-(2^64)<j/\j<2^64)
theorem La.ok{i j:Int}(h:La i j):IntMulOk i j:=by
 rcases h with⟨h1,h2⟩|⟨h1,h2⟩
 ·exact .of_left (intBits_le_64 h1 h2)
 ·exact .of_right (intBits_le_64 h1 h2)
theorem Pa:qE X (binaryOp .Add) (KH λi j=>.int (i+j)):=R9 λ_ _ _ _ _ _ _ q=>add_int q
theorem Pb:qE X (binaryOp .Sub) (KH λi j=>.int (i-j)):=R9 λ_ _ _ _ _ _ _ q=>sub_int q
theorem Pg:qE X (binaryOp .Mult) (rI La λi j=>.int (i*j)):=Wn λ_ _ _ _ _ _ _ hc q=>mul_int q hc.ok
theorem Lb:qE X (binaryOp .FloorDiv) (rI R_ λi j=>.int (i/j)):=Wn λi j _ _ _ _ _ hc q=>by
 have h1:(0:Int)<j:=hc.1;have h2:j<1073741824:=hc.2;exact floordiv_int (by omega) (by rw[Int.fdiv_eq_ediv_of_nonneg i (by omega)];exact q) (.inl (PyProof.noPylong_small (by omega)))
theorem Ph:qE X (binaryOp .Mod) (rI (λ_ j=>0<j) λi j=>.int (i%j)):=Wn λi j _ _ _ _ _ hc q=>by
 have h1:(0:Int)<j:=hc;exact mod_int' (by omega) (by rw[Int.fmod_eq_emod_of_nonneg i (by omega)];exact q)
theorem unI{f:aB->Sem aB}{g:Int->Int}
  (rule:∀(i:Int)(t:Tok)(s:aH)(Q:aB->aH->Prop)(E:aB->aH->Prop),Q (.int (g i) s.toks) { s with toks:=s.toks+1 }->wpAny (model X.prog X.w) X.A (f (.int i t)) Q E s):
  Wk X f (rU λi=>.int (g i)):=by
 intro pins s σ H x v Q I rx h;obtain⟨i,rfl,q⟩:=h;obtain⟨t,rfl⟩:=rx;exact rule i t s _ _ ⟨.int (g i),H,I.tok _,⟨_,rfl⟩,q⟩
theorem HS:Wk X (unaryOp .USub) (rU λi=>.int (-i)):=unI λ_ _ _ _ _ q=>neg_int q
end
section
variable{X:Cx}{a b c:bP}{ta tb tc:TE}{pos:Pos}
theorem Dg{Q:VK}{k k':Bool}(I:Inv X pins σ H s)(q:Q (.bl k) H)(e:k=k'):EP X pins σ Q (.bool k') s:=by
 subst e;exact⟨.bl k,H,I,rfl,q⟩
theorem Sb:qE X (compareOp .Lt) (KH λi j=>.bl (decide (i<j))):=K_ λ_ _ _ _ _ _ _ q=>lt_int q
theorem A8:qE X (compareOp .LtE) (KH λi j=>.bl (decide (i<=j))):=K_ λ_ _ _ _ _ _ _ q=>le_int q
theorem NQ:qE X (compareOp .Gt) (KH λi j=>.bl (decide (j<i))):=K_ λ_ _ _ _ _ _ _ q=>gt_int q
theorem Sd:qE X (compareOp .GtE) (KH λi j=>.bl (decide (j<=i))):=K_ λ_ _ _ _ _ _ _ q=>ge_int q
theorem FU:qE X (compareOp .In) (λx y H Q=>∃i j,x=.str i/\y=.str j/\Q (.bl (!(pD.Str.occurrences j i 0 j.length 1).isEmpty)) H):=by
 intro pins s σ H x y v u Q I rx ry h;obtain⟨i,j,rfl,rfl,q⟩:=h;obtain⟨t,rfl⟩:=rx;obtain⟨t',rfl⟩:=ry;exact in_str (Dg I q rfl)
theorem kH:qE X (compareOp .Is) (λx y H Q=>y=.non/\Q (.bl (decide (x=.non))) H):=by
 intro pins s σ H x y v u Q I rx ry h;obtain⟨rfl,q⟩:=h;cases ry;refine is_none_gen (Dg I q ?_)
 cases x<;>first
  |(cases rx;rfl)
  |(obtain⟨t,rfl⟩:=rx;rfl)
theorem EI:qE X (compareOp .IsNot) (λx y H Q=>y=.non/\Q (.bl (!decide (x=.non))) H):=by
 intro pins s σ H x y v u Q I rx ry h;obtain⟨rfl,q⟩:=h;cases ry;refine isnot_none_gen (Dg I q ?_)
 cases x<;>first
  |(cases rx;rfl)
  |(obtain⟨t,rfl⟩:=rx;rfl)
theorem gb(b:bP){op:CT}(h:op≠.In:=by decide)(h2:op≠.NotIn:=by decide):behindInMarks op b=false:=by
 have e1:(op==CT.In)=false:=by cases op<;>first|rfl|exact qQ7 rfl h
 have e2:(op==CT.NotIn)=false:=by cases op<;>first|rfl|exact qQ7 rfl h2
 cases b<;>simp[behindInMarks,e1,e2]
theorem Lc{op:CT}(ho:qE X (compareOp op) r)(ha:PE X a ta)(hb:PE X b tb)(hm:behindInMarks op b=false):PE X (.Compare a [op] [b] pos) (R8 r ta tb):=by
 intro pins s σ H Q I h;exact wpAny_Compare1 (O_ ha hb I h λv u s2 x y H2 I2 rx ry q=>ho pins s2 σ H2 x y v u Q I2 rx ry q) hm
def Se(t:TE):TT:=λσ H Q=>t σ H λx H'=>∃k,x=.bl k/\Q k H'
theorem Ld{op:CT}(ho:qE X (compareOp op) r)(ha:PE X a ta)(hb:PE X b tb)(hm:behindInMarks op b=false):PT X (.Compare a [op] [b] pos) (Se (R8 r ta tb)):=by
 intro pins s σ H Q I h;refine wpAny_isTrue_Compare1 (f7 (ha pins s σ H _ I h) λv s1 ⟨x,H1,I1,r1,q1⟩=>f7 (hb pins s1 σ H1 _ I1 q1) λu s2 ⟨y,H2,I2,r2,q2⟩=>
  f7 (ho pins s2 σ H2 x y v u _ I2 r1 r2 q2) λc s3 ⟨z,H3,I3,r3,k,e,q3⟩=>?_) hm
 subst e;cases r3;exact fx ⟨H3,I3,q3⟩
def Pj(r r':R2)(ta tb tc:TE):TE:=λσ H Q=>ta σ H λx H1=>tb σ H1 λy H2=>r x y H2 λz H3=>∃k,z=.bl k/\
 (if k=true then tc σ H3 λw' H4=>r' y w' H4 Q else Q (.bl false) H3)
theorem A9{op op':CT}{r': R2}(ho:qE X (compareOp op) r)(CJ:qE X (compareOp op') r')(ha:PE X a ta)(hb:PE X b tb)(hc:PE X c tc)
  (hm:lastMarks [op,op'] [b,c]=false:=by with_unfolding_all rfl):PE X (.Compare a [op,op'] [b,c] pos) (Pj r r' ta tb tc):=by
 intro pins s σ H Q I h;refine Compare_chain (f7 (ha pins s σ H _ I h) λv s1 ⟨x,H1,I1,r1,q1⟩=>chain_link (f7 (hb pins s1 σ H1 _ I1 q1) λu s2 ⟨y,H2,I2,r2,q2⟩=>
  f7 (ho pins s2 σ H2 x y v u _ I2 r1 r2 q2) λd s3 ⟨z,H3,I3,r3,k,e,q3⟩=>?_)) hm
 subst e;cases r3;refine fx ?_
 cases k with
 |false=>exact ite_ff ⟨.bl false,H3,I3,rfl,q3⟩
 |true=>exact ite_tt (chain_last (f7 (hc pins s3 σ H3 _ I3 q3) λw' s4 ⟨z',H4,I4,r4,q4⟩=>CJ pins s4 σ H4 y z' u w' Q I4 r2 r4 q4))
def Sf(K:ao)(x:V)(H:Hp)(k:Bool):Prop:=
 match x with
 | .non=>k=false
 | .bl b=>k=b
 | .int i=>k=(i != 0)
 | .str y=>y.length<=sizeLine/\k=((y.length:Int) != 0)
 | .Rg y=>y.size<=sizeLine/\k=((y.size:Int) != 0)
 | .ref p=>(∃xs,jV K H p xs/\k=!xs.isEmpty)\/(∃xs,mQ K H p xs/\k=!xs.isEmpty)\/∃kvs,H p=some (.dK kvs)/\k=!kvs.isEmpty
 |_=>False
theorem Dh{κ:Type}{kvs:List (κ×V)}{vs:List (κ×aB)}(r:KV kvs vs):(!vs.isEmpty)=!kvs.isEmpty:=by
 cases r<;>rfl
theorem wt{its:List aB}(r:dS xs its):(!its.toArray.isEmpty)=!xs.isEmpty:=by
 cases r<;>simp
theorem rS:(sizeLine:Nat)<2^63:=by rw[d_];decide
theorem Pk:Wm X (λx H Q=>∃k,Sf X.K x H k/\Q k H):=by
 intro pins s σ H x v Q I rx h;obtain⟨k,e,q⟩:=h;have hl:=rS;have hs:sizeLine=16777216:=d_;cases x with
 |non=>
  cases rx;have e':k=false:=e;subst e';exact truthy_none ⟨H,I,q⟩
 |bl b=>
  cases rx;have e':k=b:=e;subst e';exact fx ⟨H,I,q⟩
 |int i=>
  obtain⟨t,rfl⟩:=rx;have e':k=(i != 0):=e;subst e';exact PySem.P.truthy_int ⟨H,I,q⟩
 |str y=>
  obtain⟨t,rfl⟩:=rx;obtain⟨hy,e'⟩:y.length<=sizeLine/\k=((y.length:Int) != 0):=e;subst e';exact PySem.P.truthy_str (by omega) ⟨H,I.tok _,q⟩
 |Rg y=>
  obtain⟨t,rfl⟩:=rx;obtain⟨hy,e'⟩:y.size<=sizeLine/\k=((y.size:Int) != 0):=e;subst e';exact PySem.W.truthy_bytes (by omega) ⟨H,I.tok _,q⟩
 |ref p=>
  cases rx;have e':(∃xs,jV X.K H p xs/\k=!xs.isEmpty)\/(∃xs,mQ X.K H p xs/\k=!xs.isEmpty)\/∃kvs,H p=some (.dK kvs)/\k=!kvs.isEmpty:=e;rcases e' with⟨xs,hx,e'⟩|⟨xs,hx,e'⟩|⟨kvs,hx,e'⟩
  ·subst e'
   obtain⟨its,r,pl,hz⟩:=I.list hx;have hlen:=r.length;exact wpAny_truthy_list pl.isList (by simp only[bD];omega) ⟨H,I.tok _,by rw[wt r];exact q⟩
  ·subst e'
   obtain⟨its,r,pl,hz⟩:=I.tuple hx;have hlen:=r.length;exact truthy_tuple pl (by simp only[bD];omega) ⟨H,I.tok _,by rw[wt r];exact q⟩
  ·subst e'
   obtain⟨hz,hS,vs,r,m⟩:kvs.length<=sizeLine/\(p==sysModules)=false/\∃vs,KV kvs vs/\s.heap.DictOf (eY X.prog X.w) p vs:=I.hok p _ hx;have hlen:kvs.length=vs.length:=rK r;exact wpAny_truthy_dict hS m (by omega) ⟨H,I.tok _,by rw[Dh r];exact q⟩
 |_=>exact(show False from e).elim
theorem HV(ha:PE X a ta)(he:∀whole,isTrue a X.env whole=(do let v <-whole;standAt a.pos;holding [v] (truthy v))):
  PT X a (λσ H Q=>ta σ H λx H'=>∃k,Sf X.K x H' k/\Q k H'):=by
 intro pins s σ H Q I h;exact isTrue_plain (f7 (ha pins s σ H _ I h) λv s1 ⟨x,H1,I1,r1,q1⟩=>Pk pins s1 σ H1 x v Q I1 r1 q1) (he _)
theorem Di:qE X (binaryOp .Add) (λx y H Q=>∃i j,x=.str i/\y=.str j/\i.length+j.length<=sizeLine/\Q (.str (i++j)) H):=by
 intro pins s σ H x y v u Q I rx ry h;obtain⟨i,j,rfl,rfl,hz,q⟩:=h;obtain⟨t,rfl⟩:=rx;obtain⟨t',rfl⟩:=ry;exact add_str (λt' tk=>⟨.str (i++j),H,I.tok _,⟨_,rfl⟩,q⟩) hz
theorem vals1{x:V}(r:dS [x] us):∃u,us=[u]/\RelV x u:=by
 cases r with
 |cons r1 r2=>cases r2;exact⟨_,rfl,r1⟩
theorem vals2{x y:V}(r:dS [x,y] us):∃u w',us=[u,w']/\RelV x u/\RelV y w':=by
 cases r with
 |cons r1 r2=>
  cases r2 with
  |cons r3 r4=>cases r4;exact⟨_,_,rfl,r1,r3⟩
theorem ui(hc:X.calm=true):jD X (.builtin "max") (λxs H Q=>∃i j,xs=[.int i,.int j]/\Q (.int (if j>i then j else i)) H):=by
 intro pins s σ H xs us Q I r h;obtain⟨i,j,rfl,q⟩:=h;obtain⟨u,w',rfl,⟨t,rfl⟩,⟨t',rfl⟩⟩:=vals2 r;refine max_two_ints (I.ok.hd hc) λh' tk k=>⟨_,H,I.kept k,?_,q⟩
 by_cases hj:j>i
 ·rw[qQ3 hj,qQ3 hj];exact⟨_,rfl⟩
 ·rw[qQ2 hj,qQ2 hj];exact⟨_,rfl⟩
theorem FV:jD X (.type "int") (λxs H Q=>(∃i,xs=[.int i]/\Q (.int i) H)\/∃k,xs=[.bl k]/\Q (.int (if k then 1 else 0)) H):=by
 intro pins s σ H xs us Q I r h;rcases h with⟨i,rfl,q⟩|⟨k,rfl,q⟩
 ·obtain⟨u,rfl,t,rfl⟩:=vals1 r
  exact call_int_int ⟨.int i,H,I,⟨_,rfl⟩,q⟩
 ·obtain⟨u,rfl,r1⟩:=vals1 r
  cases r1;exact call_int_bool ⟨.int (if k then 1 else 0),H,I.tok _,⟨_,rfl⟩,q⟩
theorem zE:jD X (.type "str") (λxs H Q=>∃i,xs=[.int i]/\i.natAbs.log2<1920/\Q (.str (toString i)) H):=by
 intro pins s σ H xs us Q I r h;obtain⟨i,rfl,hz,q⟩:=h;obtain⟨u,rfl,t,rfl⟩:=vals1 r;exact PySem.P.str_of_int hz ⟨.str _,H,I.tok _,⟨_,rfl⟩,q⟩
end
structure FW(h:cR)(x dx C:aI)(mA:Str->Option aB):Prop where
 obj:h.get? x=some (gI C dx)
 ns:h.Ns1 dx mA
 ne:dx≠x
theorem FX{dx:aI}(n:h.Ns1 dx mA):∃od,h.get? dx=some od/\∀name,v8 name od=some (mA name):=by
 obtain⟨o,es,ep,ho,hd,hk,_,hm⟩:=n;refine⟨o,ho,λname=>?_⟩
 have e:=hm name;unfold nsFind findBy at e;rw[<-Array.find?_toList]at e
 unfold v8;rw[hd]
 dsimp only
 split
 ·rename_i y q
  rw[q]at e;exact qQ6 some e
 ·rename_i q
  rw[q]at e;have a:es.toList.any (·.refKey)=false:=by
   rw[uO];intro y hy;obtain⟨z,t,Wo⟩:=hk y (Array.mem_toList_iff.mp hy);simp[uP.refKey,Wo]
  have a':¬es.toList.any (·.refKey)=true:=by rw[a];exact cq
  rw[qQ2 a'];exact qQ6 some e
theorem FW.look{x dx: aI}(I:FW h x dx C mA):∃od,PySem.W.InstAt h x (gI C dx) C (some od)/\∀name,v8 name od=some (mA name):=
 let⟨od,ho,hl⟩:=FX I.ns
 ⟨od,⟨I.obj,rfl,rfl,ho⟩,hl⟩
section
variable{prog:bC}{w:bY}{A:dg}{E:aB->aH->Prop}{s:aH}{K:ao}{x dx C f:aI}{mA:Str->Option aB}{name:Str}{v:aB}
theorem get_map{expr:Bool}(X:K.In s.heap)(I:FW s.heap x dx C mA)(hg:nO K C name=true)(hh:mV K C=true)
  (ha:c5 K (.ref C) name=some none)(hv:mA name=some v)(HW:PySem.W.handedIn v=true)(h:Q v { s with toks:=s.toks+1 }):
  wpAny (model prog w) A (getAttr (.ref x) name expr) Q E s:=by
 obtain⟨od,J,hl⟩:=I.look;exact PySem.W.get_value X J (PySem.W.plainGet_of hg).1 (PySem.W.findObj_own hh ha rfl (by rw[hl,hv])) HW h
theorem Le{ns:List Str}{Q:Unit->aH->Prop}(X:K.In s.heap)(I:FW s.heap x dx C mA)
  (hs:c5 K (.ref C) "__setattr__"=some (some (.builtin "object.__setattr__")))(hp:sN K C=true)(ht:vy K C name=some none)(hh:mV K C=true)
  (hw:AZ mA ns)(hsz:ns.length<=sizeLine)
  (h:∀h',FW h' x dx C (λy=>if y=name then some v else mA y)->gY dx s.heap h'->Q () { s with heap:=h',toks:=s.toks+2 }):
  wpAny (model prog w) A (setAttr (.ref x) name v) Q E s:=by
 obtain⟨od,J,hl⟩:=I.look;refine PySem.W.set_plain X J hs (PySem.W.osa_open (s:={ s with toks:=s.toks+1 }) (r:=none) X J hp ht λb=>?_)
 obtain⟨cd,hc,V0⟩:=PySem.W.any_some hh;have hx:s.heap.get? x=some ⟨.ref C,some dx,.plain,#[]⟩:=I.obj;refine ax (a9 (ax (ax (wpAny_loadPart hx (ax (PySem.W.Looks.here (s:={ s with toks:=s.toks+1 }) (PySem.W.looks_clsIn X hc) ?_))))))
 rw[V0];refine a9 (a:=some dx) (ax (a9 (ax ?_)))
 refine wpAny_nsSet1 (s:={ s with toks:=s.toks+1 }) I.ns λh' Sg pV=>?_
 obtain⟨oD,esD,epD,hoD,hdD,hcD⟩:=Sg.count (AZ.cons name v hw);refine ax (wpAny_lookBehind hoD (by rw[hdD];exact pastItsLine_dict (bZ hcD (by rw[bF];omega))) ?_)
 exact a9 (h _ ⟨(pV.2 _ (bV I.ne)).trans I.obj,Sg,I.ne⟩ pV)
theorem HX{R:rM->aH->Prop}{vs:List aB}(X:K.In s.heap)(hm:vz K C=true)
  (hi:c5 K (.ref C) "__init__"=some (some (.ref f)))(hf:PySem.W.typeIn K (.ref f)=some (.type "function"))
  (h:codeAny (model prog w) (A.under (.builtin "type.__call__" ⟨.ref C::vs,kw⟩)) (.call (.ref f) ⟨.ref (s.heap.objs.size+1)::vs,kw⟩) (PySem.W.InitBack (s.heap.objs.size+1) R)
   { s with heap:=(s.heap.push e8).push (gI C s.heap.objs.size) }) :
  codeAny (model prog w) A (.call (.ref C) ⟨vs,kw⟩) R s:=by
 obtain⟨hh,g,d,t,os⟩:=s;exact PySem.W.make_core (PySem.W.makes_of X hm) (PySem.W.looks_findIn X hi) (λself=>PySem.W.bind_fn X self hf) (.inl rfl) h
end
def lD(f:Str)(v:V):List (Str×V)->List (Str×V)
 | []=>[(f,v)]
 |(g,x)::r=>if g=f then(g,v)::r else(g,x)::lD f v r
theorem uS(f g:Str)(v:V):∀fs:List (Str×V),(lD f v fs).lookup g=if g=f then some v else fs.lookup g
 | []=>by
  show jY g [(f,v)]=_;by_cases h:g=f
  ·have hb:(g==f)=true:=beq_iff_eq.mpr h
   simp only[jY,hb,qQ3 h]
  ·have hb:(g==f)=false:=beq_eq_false_iff_ne.mpr h
   simp only[jY,hb,qQ2 h]
 |(k,x)::r=>by
  have ih:=uS f g v r;rw[show lD f v ((k,x)::r)=(if k=f then(k,v)::r else(k,x)::lD f v r)from rfl]
  by_cases hk:k=f
  ·rw[qQ3 hk]
   by_cases h:g=k
   ·have hb:(g==k)=true:=beq_iff_eq.mpr h
    simp only[jY,hb,qQ3 (h.trans hk)]
   ·have hb:(g==k)=false:=beq_eq_false_iff_ne.mpr h
    simp only[jY,hb,qQ2 (λe:g=f=>h (e.trans hk.symm))]
  ·rw[qQ2 hk]
   by_cases h:g=k
   ·have hb:(g==k)=true:=beq_iff_eq.mpr h
    simp only[jY,hb,qQ2 (λe:g=f=>hk (h.symm.trans e))]
   ·have hb:(g==k)=false:=beq_eq_false_iff_ne.mpr h
    simp only[jY,hb];exact ih
theorem uj(f:Str)(v:V):∀fs:List (Str×V),f∈(lD f v fs).map (·.1)/\∀g,g∈fs.map (·.1)->g∈(lD f v fs).map (·.1)
 | []=>⟨by simp[lD],λg h=>by simp at h⟩
 |(k,x)::r=>by
  obtain⟨i1,i2⟩:=uj f v r;rw[show lD f v ((k,x)::r)=(if k=f then(k,v)::r else(k,x)::lD f v r)from rfl]
  by_cases hk:k=f
  ·rw[qQ3 hk]
   subst hk;exact⟨by simp,λg h=>by simpa using h⟩
  ·rw[qQ2 hk]
   refine⟨?_,λg h=>?_⟩
   ·rw[aD]
    exact aR _ i1
   ·rw[aD]at h ⊢
    rcases av.mp h with e|e
    ·exact av.mpr (.inl e)
    ·exact aR _ (i2 g e)
theorem uU(f:Str)(v:V):∀fs:List (Str×V),(lD f v fs).length<=fs.length+1
 | []=>by simp[lD]
 |(k,x)::r=>by
  have ih:=uU f v r;rw[show lD f v ((k,x)::r)=(if k=f then(k,v)::r else(k,x)::lD f v r)from rfl]
  by_cases hk:k=f
  ·rw[qQ3 hk,bF,bF];omega
  ·rw[qQ2 hk,bF,bF];omega
theorem rO.some_of{v:V}{o:Option aB}(r:rO (some v) o):∃u,o=some u/\RelV v u:=by
 cases o with
 |none=>exact(show False from r).elim
 |some u=>exact⟨u,rfl,r⟩
theorem FY{v:V}(r:RelV v u):PySem.W.handedIn u=true:=by
 cases v with
 |non=>cases(show u=g7 from r);rfl
 |bl b=>cases(show u=aB.bool b from r);rfl
 |int i=>obtain⟨t,e⟩:=(show ∃t,u=AF i t from r);cases e;rfl
 |str x=>obtain⟨t,e⟩:=(show ∃t,u=AG x t from r);cases e;rfl
 |Rg b=>obtain⟨t,e⟩:=(show ∃t,u=aB.bytes b t from r);cases e;rfl
 |flt b=>obtain⟨t,e⟩:=(show ∃t,u=aB.float b t from r);cases e;rfl
 |ref a=>cases(show u=cU a from r);rfl
 |ty n=>cases(show u=jf n from r);rfl
section
variable{P:bC}{w:bY}{H H':Hp}{h h':cR}{a C dx:aI}{fs fs':List (Str×V)}
theorem EJ(hok:sJ P w H h)(e:H a=some (.ins C dx fs)):∃mA,FW h a dx C mA/\(∀f,rO (fs.lookup f) (mA f))/\AZ mA (fs.map (·.1))/\fs.length<=1000/\H dx=some (.own a):=by
 obtain⟨d,z,ne,ob,mA,n,r,q⟩:=(show hZ P w H h a (.ins C dx fs)from hok a _ e)
 exact⟨mA,⟨ob,n,ne⟩,r,q,z,d⟩
end
structure A_(K:ao)(C:aI):Prop where
 pg:nO K C ft=true
 hd:mV K C=true
 po:sN K C=true
 sa:c5 K (.ref C) "__setattr__"=some (some (.builtin "object.__setattr__"))
theorem A_.get(c:A_ K C)(f:Str):nO K C f=true:=c.pg
def jo(K:ao)(C:aI)(f:Str):Prop:=c5 K (.ref C) f=some none
theorem jo.taker{f:Str}(n:jo K C f):vy K C f=some none:=by
 unfold vy;rw[show c5 K (.ref C) f=some none from n]
 rfl
section
variable{X:Cx}{pins:List (aI×Obj)}{σ:St}{H:Hp}{s:aH}{a C dx:aI}{fs:List (Str×V)}{f:Str}{v:V}{A:dg}{E:aB->aH->Prop}
theorem Dj{b:Bool}(I:Inv X pins σ H s)(e:H a=some (.ins C dx fs))(c:A_ X.K C)(n:jo X.K C f)(l:fs.lookup f=some v)
  (h:∀u s',Inv X pins σ H s'->RelV v u->Q u s'):wpAny (model X.prog X.w) A (getAttr (.ref a) f b) Q E s:=by
 obtain⟨mA,O,r,_,_,_⟩:=EJ I.hok e;obtain⟨u,hu,ru⟩:=rO.some_of (v:=v) (o:=mA f) (by rw[<-l];exact r f)
 exact get_map I.zA O (c.get f) c.hd n hu (FY ru) (h u _ (I.tok _) ru)
theorem Dl{y:V}{Q:Unit->aH->Prop}(I:Inv X pins σ H s)(e:H a=some (.ins C dx fs))(c:A_ X.K C)(n:jo X.K C f)(hl:fs.length<1000)(ry:RelV y u)
  (h:∀s',Inv X pins σ (upd H a (.ins C dx (lD f y fs))) s'->Q () s'):wpAny (model X.prog X.w) A (setAttr (.ref a) f u) Q E s:=by
 obtain⟨mA,O,r,wi,_,ho⟩:=EJ I.hok e;have hz:(fs.map (·.1)).length<=sizeLine:=by rw[aj,d_];omega
 refine Le I.zA O c.sa c.po n.taker c.hd wi hz λh' O' sb=>h _ ?_
 have hd:∃o,h'.get? dx=some o:=let⟨o,_,_,e',_⟩:=O'.ns;⟨o,e'⟩;refine I.write (x:=a) (e:=dx) (by rw[e];exact fG) (.inr ho) (λb q hb z=>(sb.2 b hb).trans z) hd ?_
 refine⟨by rw[aN O.ne];exact ho,?_,O.ne,O'.obj,_,O'.ns,λg=>?_,λg hg=>?_⟩
 ·have:=uU f y fs;omega
 ·show rO ((lD f y fs).lookup g) (if g=f then some u else mA g)
  rw[uS];by_cases q:g=f
  ·rw[qQ3 q,qQ3 q];exact ry
  ·rw[qQ2 q,qQ2 q];exact r g
 ·by_cases q:g=f
  ·rw[q];exact(uj f y fs).1
  ·refine(uj f y fs).2 g (wi g λz=>hg ?_)
   show(if g=f then some u else mA g)=none
   rw[qQ2 q];exact z
theorem Inv.made(I:Inv X pins σ H s):Inv X pins σ (upd (upd H s.heap.objs.size (.own (s.heap.objs.size+1))) (s.heap.objs.size+1) (.ins C s.heap.objs.size []))
  { s with heap:=(s.heap.push e8).push (gI C s.heap.objs.size) }:=by
 have e1:(s.heap.push e8).get? s.heap.objs.size=some e8:=a8 s.heap rfl;have e2:((s.heap.push e8).push (gI C s.heap.objs.size)).get? (s.heap.objs.size+1)=some (gI C s.heap.objs.size):=by
  have:=a8 (s.heap.push e8) (o:=gI C s.heap.objs.size) rfl
  rwa [fh]at this
 have e3:(s.heap.push e8).Ns s.heap.objs.size (λ_=>none):=⟨e8,#[],_,e1,rfl,(λe he=>qQ7 he (by simp)),λ_=>rfl⟩
 have I1:=I.laid (a:=s.heap.objs.size) (o:=.own (s.heap.objs.size+1)) (h':=s.heap.push e8) (t':=s.toks) (λb u q=>ay _ q) (aA _) ⟨_,e1⟩
 refine I1.laid (a:=s.heap.objs.size+1) (o:=.ins C s.heap.objs.size []) (t':=s.toks) (λb u q=>ay _ q) (Nat.le_of_eq (fh _ _)) ?_
 have ne:s.heap.objs.size≠s.heap.objs.size+1:=aU (jy _);refine⟨by rw[aN ne,bB],aV _,ne,e2,λ_=>none,(cR.Ns1.of_empty e3).at λo q=>ay _ q,λ_=>fG,λy hy=>qQ7 rfl hy⟩
theorem Lf{prog:bC}{env:Env}{f:Str}{pos:Pos}(hb:attributeBase e f env (eval e env)=eval e env)
  (h:wpAny (model prog w) A (eval e env) (λo s₁=>wpAny (model prog w) A (getAttr o f true) Q E s₁) E s):wpAny (model prog w) A (eval (.Attribute e f pos) env) Q E s:=
 Attribute_any_ h (by rw[arm_eval_Attribute,hb])
end
def Wp(K:ao)(ta:TE)(f:Str):TE:=λσ H Q=>ta σ H λx H1=>∃a C dx fs v,x=.ref a/\H1 a=some (.ins C dx fs)/\A_ K C/\jo K C f/\fs.lookup f=some v/\Q v H1
def Wq(K:ao)(ta tv:TE)(f:Str):TS:=λD σ H=>tv σ H λy H1=>ta σ H1 λx H2=>∃a C dx fs,x=.ref a/\H2 a=some (.ins C dx fs)/\A_ K C/\jo K C f/\fs.length<1000/\
 D.nx σ (upd H2 a (.ins C dx (lD f y fs)))
section
variable{X:Cx}{o e value:bP}{f:Str}{pos pos' Wr:Pos}{ta tv:TE}
theorem wu(he:PE X e ta)(hb:attributeBase e f X.env (eval e X.env)=eval e X.env):PE X (.Attribute e f pos) (Wp X.K ta f):=by
 intro pins s σ H Q I h;refine Lf hb (f7 (he pins s σ H _ I h) λu s1 ⟨x,H1,I1,rx,a,C,dx,fs,v,ex,ea,c,n,l,q⟩=>?_)
 subst ex;obtain rfl:u=cU a:=rx;exact Dj I1 ea c n l λu' s2 I2 ru=>⟨v,H1,I2,ru,q⟩
theorem rT(ha:PE X o ta)(hv:PE X value tv)(hs:swapsWith value (some (.Attribute o f pos')) pos.line X.env=pure false):PS X (.Assign [.Attribute o f pos'] value pos) (Wq X.K ta tv f):=by
 intro pins s σ H D I h;refine plainObj_wpAny_Assign_Attribute (f7 (hv pins s σ H _ I h) λu s1 ⟨y,H1,I1,ry,q⟩=>f7 (ha pins s1 σ H1 _ I1 q) λov s2 ⟨x,H2,I2,rx,a,C,dx,fs,ex,ea,c,n,l,q2⟩=>?_) hs
 subst ex;obtain rfl:ov=cU a:=rx;exact Dl I2 ea c n l ry λs3 I3=>⟨σ,_,I3,q2⟩
end
section
variable{X:Cx}{pins:List (aI×Obj)}{σ:St}{H:Hp}{s:aH}{A:dg}{E:aB->aH->Prop}{Q:aB->aH->Prop}{c:aB}{b:Bool}
inductive wx(K:ao)(H:Hp):V->aB->Prop where
 |non:wx K H .non (.type "NoneType")
 |bl (x:Bool):wx K H (.bl x) (.type "bool")
 |int (i:Int):wx K H (.int i) (.type "int")
 |str (x:Str):wx K H (.str x) (.type "str")
 |flt (x:UInt64):wx K H (.flt x) (.type "float")
 |lst {a:aI} {xs:List V} (e:H a=some (.lst xs)):wx K H (.ref a) (.type "list")
 |FL {a:aI} {o:Obj} {xs:List V} (e:H a=some (.FL o (.lst xs))):wx K H (.ref a) (.type "list")
 |tup {a:aI} {xs:List V} (e:H a=some (.tup xs)):wx K H (.ref a) (.type "tuple")
 |dK {a:aI} {kvs:List (Key×V)} (e:H a=some (.dK kvs)):wx K H (.ref a) (.type "dict")
 |dT {a:aI} {kvs:List (List Key×V)} (e:H a=some (.dT kvs)):wx K H (.ref a) (.type "dict")
 |ins {a C dx:aI} {fs:List (Str×V)} (e:H a=some (.ins C dx fs)) (cl:A_ K C) (ha:c5 K (.ref C) "__class__"=some (some (.builtin "object.__class__")))
   (hn:PySem.W.specialIn K (.builtin "object.__class__") "__get__"=some (some (.builtin "getset_descriptor.__get__"))) (Rj:PySem.W.takesIn K (.builtin "object.__class__")=some true)
   (hm:PySem.W.mroIn K C (.type "object")=some true):wx K H (.ref a) (.ref C)
end
structure eE(k:Nat)(A:dg):Prop where
 hd:A.handled=none
 dp:A.depth+3*k+5<recursionLimit
 un:A.units+16*k+200<cLine
theorem eE.mono{j: Nat}(r:eE k A)(h:j<=k):eE j A:=⟨r.hd,by have:=r.dp;omega,by have:=r.un;omega⟩
theorem eE.deeper(r:eE (k+1) A)(env:Env):eE k (A.deeper env):=
 ⟨r.hd,by have:=r.dp;show A.depth+1+3*k+5<_;omega,by have:=r.un;show A.units+3+16*k+200<_;omega⟩
theorem Dm:(A.under (.builtin "type.__call__" ⟨.ref C::us,kw⟩)).depth=A.depth+1:=by
 first|rfl|simp[AH,Code.weight,Code.isCreation,Code.isGuard,Code.isCaller,Code.frames,Cy,guardIds]
theorem Dn:(A.under (.builtin "type.__call__" ⟨.ref C::us,kw⟩)).units=A.units+1:=by
 first|rfl|simp[AH,Code.cUnits,Code.frames,Cy]
theorem eE.make(r:eE (k+1) A)(C:aI)(us:List aB)(kw:List (Str×aB)):eE k (A.under (.builtin "type.__call__" ⟨.ref C::us,kw⟩)):=
 ⟨r.hd,by have:=r.dp;rw[Dm];omega,by have:=r.un;rw[Dn];omega⟩
theorem eE.depth(r:eE k A):A.depth<recursionLimit:=by have:=r.dp;omega
def Si:TA:=λ_ H Q=>Q [] H
def Sj(ta:TE)(tr:TA):TA:=λσ H Q=>ta σ H λx H1=>tr σ H1 λxs H2=>Q (x::xs) H2
section
variable{X:Cx}{e:bP}{es:List bP}{te:TE}{t:TA}{pos:Pos}
theorem fK:PA X [] Si:=λ_ _ _ _ H Q I h=>nM ⟨[],H,I,.nil,h⟩
theorem ej(ha:PE X e te)(hr:PA X es t)(hs:starEach (e::es) X.env=(false,eval e X.env)::starEach es X.env:=by rfl):PA X (e::es) (Sj te t):=by
 intro pos pins s σ H Q I h;rw[hs];show wpAny _ _ (spliced ((false,eval e X.env)::backTo pos (starEach es X.env))) _ _ s;refine iE (f7 (ha pins s σ H _ I h) λu s1 ⟨x,H1,I1,r1,q1⟩=>?_)
 exact f7 (hr pos pins s1 σ H1 _ I1 q1) λus s2 ⟨xs,H2,I2,r2,q2⟩=>⟨x::xs,H2,I2,.cons r1 r2,q2⟩
def Ws(t:TA):TE:=λσ H Q=>t σ H λxs H1=>xs.length<=sizeLine/\∀p,H1 p=none->Q (.ref p) (upd H1 p (.tup xs))
def Wt(t:TA):TE:=λσ H Q=>t σ H λxs H1=>xs.length<=sizeLine/\∀p,H1 p=none->Q (.ref p) (upd H1 p (.lst xs))
theorem zF{x1}(h:PA X es t):PE X (.Tuple es x1 pos) (Ws t):=by
 intro pins s σ H Q I hq;refine wpAny_Tuple_spliced (f7 (h pos pins s σ H _ I hq) λus s1 ⟨xs,H1,I1,r,z,q⟩=>⟨by rw[<-r.length];exact z,?_⟩)
 have hf:H1 s1.heap.objs.size=none:=I1.hok.fresh (aA _);refine⟨.ref s1.heap.objs.size,upd H1 s1.heap.objs.size (.tup xs),I1.laid (t':=s1.toks) (λb u e=>ay _ e) (aA _) ?_,rfl,q _ hf⟩
 exact⟨z,us,r,⟨_,a8 _ rfl,rfl,_,rfl⟩⟩
theorem wy(h:PA X es t):PE X (.List es pos) (Wt t):=by
 intro pins s σ H Q I hq;refine wpAny_List_spliced (f7 (h pos pins s σ H _ I hq) λus s1 ⟨xs,H1,I1,r,z,q⟩=>⟨by rw[<-r.length];exact z,?_⟩)
 have hf:H1 s1.heap.objs.size=none:=I1.hok.fresh (aA _);refine⟨.ref s1.heap.objs.size,upd H1 s1.heap.objs.size (.lst xs),I1.laid (t':=s1.toks) (λb u e=>ay _ e) (aA _) ?_,rfl,q _ hf⟩
 exact⟨z,us,0,r,a8 _ rfl⟩
end
abbrev Sp:=List V->Hp->VK->XK->Prop
abbrev Hw:=List Env->Hp->aH->XK->aB->aH->Prop
variable{CX:Hw}
structure Dp(P:bC)(w:bY)(K:ao)(mg:Str->Option aB)(base:cR)(A:dg)(outer:List Env)(s:aH)(H:Hp):Prop where
 frames:A.frames=some outer
 mod:Mod K mg base
 bs:∀b o,base.get? b=some o->s.heap.get? b=some o/\H b=none
 Ny:base.objs.size<=s.heap.objs.size
 vF:s.heap.FunFrames base outer
 OX:∀b∈Hu outer,H b=none
 hok:sJ P w H s.heap
 bare:rL s.gens
def CE(outer:List Env)(P:bC)(w:bY)(H:Hp)(s:aH)(Q:VK)(u:aB)(s':aH):Prop:=
 ∃v H',s'.os=s.os/\rL s'.gens/\Un (Hu outer) [] H H' s.heap s'.heap/\sJ P w H' s'.heap/\RelV v u/\Q v H'
def CR(CX:Hw)(outer:List Env)(P:bC)(w:bY)(H:Hp)(s:aH)(Q:VK)(E:XK)(r:rM)(s':aH):Prop:=
 match r with
 | .ok (.ret u)=>CE outer P w H s Q u s'
 | .ok _=>False
 | .error e=>CX outer H s E e s'
structure fY(P:bC)(w:bY)(K:ao)(mg:Str->Option aB)(base:cR)(CX:Hw)(k:Nat)(f:aI)(fd:fe)(ps:List Str)(sp:Sp):Prop where
 len:∀vs H Q E,sp vs H Q E->vs.length=ps.length
 run:∀(A:dg)(outer:List Env)(s:aH)(H:Hp)(args:Args)(us:List aB)(vs:List V)(Q:VK)(E:XK),eE k A->Dp P w K mg base A outer s H->BindsTo s fd args (ps.zip us)->dS vs us->sp vs H Q E->
  codeAny (model P w) A (.call (.ref f) args) (CR CX outer P w H s Q E) s
theorem Dp.make(e:Dp P w K mg base A outer s H)(C:aI)(us:List aB)(kw:List (Str×aB)):
  Dp P w K mg base (A.under (.builtin "type.__call__" ⟨.ref C::us,kw⟩)) outer s H:=⟨by first|exact e.frames|(simpa[AH,Code.envs,Cy,pushEnvs]using e.frames),e.mod,e.bs,e.Ny,e.vF,e.OX,e.hok,e.bare⟩
section
variable{X:Cx}{pins:List (aI×Obj)}{σ:St}{H:Hp}{s s':aH}
theorem Inv.env0(I:Inv X pins σ H s):Dp X.prog X.w X.K X.mg X.base X.A X.stack s H:=
 ⟨I.ok.frames,I.ok.mod,I.bs,bZ I.ok.Ny I.sz,I.stack,I.EC,I.hok,I.bare⟩
theorem Inv.after{Q:VK}(I:Inv X pins σ H s)(h:CE X.stack X.prog X.w H s Q u s'):EP X pins σ Q u s':=by
 obtain⟨v,H',os,bare,un,hok,r,q⟩:=h;obtain⟨hh,g,d,t,Lg⟩:=s';obtain rfl:Lg=s.os:=os;exact⟨v,H',I.call (h':=hh) (g':=g) (d':=d) (t':=t) (ch:=[]) un hok bare (λb z=>qQ7 z (by simp)),r,q⟩
end
def Sl(sp:Sp)(Dq:List V)(E:XK)(t:TA):TE:=λσ H Q=>t σ H λvs H1=>sp (vs++Dq) H1 Q E
def Sn(C:aI)(sp:Sp)(Dq:List V)(E:XK)(t:TA):TE:=λσ H Q=>t σ H λvs H1=>∀x dx,H1 x=none->H1 dx=none->dx≠x->
 sp (.ref x::(vs++Dq)) (upd (upd H1 dx (.own x)) x (.ins C dx [])) (λv H2=>v=.non/\Q (.ref x) H2) E
def Binds(K:ao)(fd:fe)(ps:List Str)(ds:List aB):Prop:=
 ∀(s:aH)(us:List aB),K.In s.heap->(us++ds).length=ps.length->BindsTo s fd ⟨us,[]⟩ (ps.zip (us++ds))
theorem Binds.all{fd:fe}(h:∀us:List aB,us.length=ps.length->bindArgs fd ⟨us,[]⟩=pure (ps.zip us)):Binds K fd ps []:=λs us _ hl=>by
 rw[du]at hl ⊢;exact .of_eq (h us hl)
def wz(CX:Hw)(X:Cx)(E:XK):Prop:=∀(pins:List (aI×Obj))(σ:St)(H:Hp)(s:aH)(e:aB)(s':aH),Inv X pins σ H s->CX X.stack H s E e s'->X.xe e s'
section
variable{X:Cx}{CX:Hw}{k:Nat}{f C:aI}{fd:fe}{ps:List Str}{sp:Sp}{Dq:List V}{ds:List aB}{E:XK}{x m:Str}{p pos apos:Pos}{e o:bP}{es:List bP}{ta:TE}{t:TA}
theorem Pm{Q:VK}(F:fY X.prog X.w X.K X.mg X.base CX k f fd ps sp)(hr:eE k X.A)(hb:Binds X.K fd ps ds)(hd:dS Dq ds)(hx:wz CX X E)
  (I:Inv X pins σ H s)(r:dS vs us)(h:sp (vs++Dq) H Q E):wpAny (model X.prog X.w) X.A (call (.ref f) us) (EP X pins σ Q) X.xe s:=by
 have r2:dS (vs++Dq) (us++ds):=r.append hd;have hl:(us++ds).length=ps.length:=by rw[<-r2.length];exact F.len _ _ _ _ h
 refine wpAny_call (nP (F.run X.A X.stack s H ⟨us,[]⟩ (us++ds) (vs++Dq) Q E hr I.env0 (hb s us I.zA hl) r2 h) λr s' hq=>?_)
 cases r with
 |error e=>exact hx pins σ H s e s' I hq
 |ok fl=>
  cases fl with
  |ret u=>exact I.after hq
  |next=>exact gD hq
  |brk=>exact gD hq
  |cont=>exact gD hq
theorem zG(F:fY X.prog X.w X.K X.mg X.base CX k f fd ps sp)(hr:eE k X.A)(hg:Gl X x)(hm:X.mg x=some (.ref f))(hk:hX X.K (.ref f)=true)(hb:Binds X.K fd ps ds)(hd:dS Dq ds)(hx:wz CX X E)
  (ha:PA X (e::es) t)(nB:(x==("__debug__":Str))=false:=by decide)(he:starEach (e::es) X.env=(false,eval e X.env)::starEach es X.env:=by rfl)(sW:(backTo pos (starEach es X.env)).any (·.1)=false:=by rfl):
  PE X (.Call (.Name x p) (e::es) [] pos) (Sl sp Dq E t):=by
 intro pins s σ H Q I h;refine iT (zC I hg hm ?_ nB)
 refine PySem.W.callWith_K (h₀:=X.base) I.ok.mod.RL hk (f7 (ha pos pins s σ H _ I h) λus s1 ⟨vs,H1,I1,r,q⟩=>⟨I1.zA,?_⟩) he sW
 exact Pm F hr hb hd hx I1 r q
structure Mk(K:ao)(C f:aI):Prop where
 makes:vz K C=true
 init:c5 K (.ref C) "__init__"=some (some (.ref f))
 fn:PySem.W.isFn K (.ref f)=true
 kp:hX K (.ref C)=true
theorem HY{Q:VK}(M:Mk X.K C f)(F:fY X.prog X.w X.K X.mg X.base CX k f fd ps sp)(hr:eE (k+1) X.A)(hb:Binds X.K fd ps ds)(hd:dS Dq ds)
  (hx:wz CX X E)(I:Inv X pins σ H s)(r:dS vs us)
  (h:∀x dx,H x=none->H dx=none->dx≠x->sp (.ref x::(vs++Dq)) (upd (upd H dx (.own x)) x (.ins C dx [])) (λv H2=>v=.non/\Q (.ref x) H2) E):
  wpAny (model X.prog X.w) X.A (call (.ref C) us) (EP X pins σ Q) X.xe s:=by
 have hq:=h (s.heap.objs.size+1) s.heap.objs.size (I.hok.fresh (jm _)) (I.hok.fresh (aA _)) (aU (jy _));have I2:=Inv.made (C:=C) I;have r2:dS (V.ref (s.heap.objs.size+1)::(vs++Dq)) (cU (s.heap.objs.size+1)::(us++ds)):=.cons rfl (r.append hd);have hl:(cU (s.heap.objs.size+1)::us++ds).length=ps.length:=by
  have e:=r2.length;rw[F.len _ _ _ _ hq]at e;exact e.symm
 refine wpAny_call (HX (f:=f) I.zA M.makes M.init (beq_iff_eq.mp M.fn) (nP (F.run _ X.stack _ _ ⟨cU (s.heap.objs.size+1)::us,[]⟩ (cU (s.heap.objs.size+1)::(us++ds)) _ _ E (hr.make C us [])
  (I2.env0.make C us []) (hb _ (cU (s.heap.objs.size+1)::us) I2.zA hl) r2 hq) λr s' Dr=>?_))
 cases r with
 |error e=>exact hx pins σ _ _ e s' I2 Dr
 |ok fl=>
  cases fl with
  |ret u=>
   obtain⟨v,H',I3,rv,ev,q3⟩:=I2.after Dr;subst ev;exact⟨rv,⟨V.ref (s.heap.objs.size+1),H',I3,rfl,q3⟩⟩
  |next=>exact gD Dr
  |brk=>exact gD Dr
  |cont=>exact gD Dr
theorem HZ(M:Mk X.K C f)(F:fY X.prog X.w X.K X.mg X.base CX k f fd ps sp)(hr:eE (k+1) X.A)(hg:Gl X x)(hm:X.mg x=some (.ref C))(hb:Binds X.K fd ps ds)(hd:dS Dq ds)(hx:wz CX X E)
  (nB:(x==("__debug__":Str))=false:=by decide):PE X (.Call (.Name x p) [] [] pos) (Sn C sp Dq E Si):=by
 intro pins s σ H Q I h;refine iT (zC I hg hm ?_ nB)
 exact PySem.W.callWith_K0 I.zA M.kp (HY (us:=[]) M F hr hb hd hx I .nil h)
end
section
variable{X:Cx}{CX:Hw}{k:Nat}{f C:aI}{fd:fe}{ps ks:List Str}{sp:Sp}{E:XK}{x m:Str}{p pos apos zaZ:Pos}{e o:bP}{es:List bP}{kws:List fV}{te ta:TE}{t tk:TA}{nm:Option Str}
variable{g:List aB->List aB->List aB}{gV:List V->List V->List V}
end
structure cY(N P:List Str)(sc:kz):Prop where
 kind:sc.kind=.function
 co:sc.isCoroutine=false
 gen:sc.isGenerator=false
 nd:N.Nodup
 pre:N.take P.length=P
 par:∀x∈P,sc.names.lookup x=some .local\/sc.names.lookup x=some .cell
 Pn:∀y∈sc.names,y.2≠.free
theorem yD{x:Str}:∀{binds:List (Str×aB)}{m:Str->Option aB},(∀v,(x,v)∉binds)->bindL kindOf binds m x=m x
 | [],_,_=>rfl
 |(n,v)::r,m,h=>by
  unfold bindL;rw[yD λw hw=>h w (aR _ hw)]
  split
  ·have:x≠n:=by rintro rfl;exact h v aO
   simp[this]
  ·rfl
theorem yE{x:Str}:∀{binds:List (Str×aB)}{m:Str->Option aB},(∀v,(x,v)∉binds)->bindC kindOf binds m x=m x
 | [],_,_=>rfl
 |(n,v)::r,m,h=>by
  unfold bindC;rw[yE λw hw=>h w (aR _ hw)]
  split
  ·rfl
  ·have:x≠n:=by rintro rfl;exact h v aO
   simp[this]
theorem yF{kindOf:Str->Option mS}{x:Str}{v:aB}:∀{P:List Str}{vs:List aB}{i:Nat}{m:Str->Option aB},P.Nodup->P[i]?=some x->vs[i]?=some v->kindOf x=some .local->
  bindL kindOf (P.zip vs) m x=some v
 | [],_,_,_,_,h,_,_=>by simp at h
 |_::_,[],_,_,_,_,h,_=>by simp at h
 |p::P,w::vs,0,m,nd,h1,h2,hk=>by
  simp at h1 h2;subst h1;subst h2;show bindL kindOf ((p,w)::P.zip vs) m p=_;unfold bindL;rw[yD λv hv=>(dw.mp nd).1 (pH hv).1,qQ3 hk]
  simp
 |p::P,w::vs,i+1,m,nd,h1,h2,hk=>by
  show bindL kindOf ((p,w)::P.zip vs) m x=_;unfold bindL;exact yF (i:=i) (dw.mp nd).2 (by simpa using h1) (by simpa using h2) hk
theorem yG{kindOf:Str->Option mS}{x:Str}{v:aB}:∀{P:List Str}{vs:List aB}{i:Nat}{m:Str->Option aB},P.Nodup->P[i]?=some x->vs[i]?=some v->kindOf x≠some .local->
  bindC kindOf (P.zip vs) m x=some v
 | [],_,_,_,_,h,_,_=>by simp at h
 |_::_,[],_,_,_,_,h,_=>by simp at h
 |p::P,w::vs,0,m,nd,h1,h2,hk=>by
  simp at h1 h2;subst h1;subst h2;show bindC kindOf ((p,w)::P.zip vs) m p=_;unfold bindC;rw[yE λv hv=>(dw.mp nd).1 (pH hv).1,qQ2 hk]
  simp
 |p::P,w::vs,i+1,m,nd,h1,h2,hk=>by
  show bindC kindOf ((p,w)::P.zip vs) m x=_;unfold bindC;exact yG (i:=i) (dw.mp nd).2 (by simpa using h1) (by simpa using h2) hk
def start(N:List Str)(vs:List V):St:=vs.map some++bp (N.length-vs.length) none
def jq(CX:Hw)(P:bC)(w:bY)(K:ao)(mg:Str->Option aB)(base:cR)(N:List Str)(qual:Str)(scope:kz)(f:aI)(cd:aB)(A:dg)(outer:List Env)(s:aH)(H:Hp)(E:XK):Cx where
 prog:=P
 w:=w
 K:=K
 mg:=mg
 base:=base
 A:=A.deeper (envOfC qual scope s.heap.objs.size f cd)
 N:=N
 s₀:=s
 H₀:=H
 env:=envOfC qual scope s.heap.objs.size f cd
 outer:=outer
 stack:=envOfC qual scope s.heap.objs.size f cd::outer
 ex:=[]
 calm:=true
 fn:=λ_=>true
 pn:=[]
 xe:=λe s'=>wpAny (model P w) (A.deeper (envOfC qual scope s.heap.objs.size f cd)) (leaving (envOfC qual scope s.heap.objs.size f cd) e) (λ_ Lh=>CX outer H s E e Lh) (λe' Lh=>CX outer H s E e' Lh) s'
theorem Ba{sc:kz}{n:Nat}{x:Str}(h:sc.names.lookup x=some .cell):∃c,(cellsFrom n sc.names []).lookup x=some c:=by
 have q:=zl sc.names n [] (.inl h);exact Option.isSome_iff_exists.mp q
theorem FZ{qual:Str}{f:aI}{cd:aB}{s1: aH}{E:XK}
  (S:cY N ps scope)(hd:A.handled=none)(e0:Dp P w K mg base A outer s H)(hl:vs.length=ps.length)(r:dS vs us)
  (x:InCallC s s.heap.objs.size (bindL (envOfC qual scope s.heap.objs.size f cd).kindOf (ps.zip us) λ_=>none) (cellsFrom (s.heap.objs.size+1) scope.names []) (bindC (envOfC qual scope s.heap.objs.size f cd).kindOf (ps.zip us) λ_=>none) s1):
  Inv (jq CX P w K mg base N qual scope f cd A outer s H E) [] (start N vs) H s1:=by
 have sW:ps.length<=N.length:=by have:=qQ6 gw S.pre;rw[dz]at this;omega
 obtain⟨h1,tk,rfl,hk⟩:=x.done;have Sq:∀b:aI,b∉(jq CX P w K mg base N qual scope f cd A outer s H E).ex:=λb z=>qQ7 (show b∈([]:List aI)from z) (by simp)
 refine⟨⟨e0.mod,S.kind,rfl,rfl,aA _,λy z c h1 h2=>?_,λy hy=>?_,λy c _ h=>?_,λ_=>hd,dg.frames_deeper e0.frames,.inr ⟨rfl,rfl⟩,λb z=>qQ7 z (Sq b),e0.bs,e0.Ny,λb _ _=>Sq b,λb z=>qQ7 z (Sq b),e0.vF,e0.OX⟩,
  rfl,e0.bare,Un.kept hk,⟨_,x.toInCall.ns,λi y v h1 h2 h3=>?_⟩,λy c h=>⟨_,x.cell y c h⟩,e0.hok.fresh (aA _),λy c h=>?_,λp hp=>qQ7 (show p∈([]:List (aI×Obj))from hp) (by simp),e0.hok.kept hk,?_⟩
 ·exact name_of_addr x.apart (ia h1) (ia h2)
 ·have hy:scope.names.lookup y=some .cell\/scope.names.lookup y=some .free:=hy
  rcases hy with hy|hy
  ·exact Ba hy
  ·exact qQ7 rfl (S.Pn _ (ia hy))
 ·exact pG (x.above y c (ia h))
 ·have hi:i<vs.length:=by
   unfold start at h2;by_cases hi:i<vs.length
   ·exact hi
   ·rw[cn (by simpa using hi)]at h2
    rw[eD]at h2
    split at h2<;>cases h2
  have ha:vs[i]?=some v:=by
   unfold start at h2;rw[bX (by simpa using hi),aF]at h2
   cases e:vs[i]? with
   |none=>rw[e]at h2;cases h2
   |some a=>rw[e]at h2;cases h2;rfl
  obtain⟨u,hu,rv⟩:=r.get ha;have hp:ps[i]?=some y:=by
   rw[<-S.pre,List.getElem?_take_of_lt (by omega)];exact h1
  have Zb:ps.Nodup:=by rw[<-S.pre];exact S.nd.sublist (List.take_sublist _ _)
  refine⟨u,rv,?_⟩
  rcases S.par y (bh hp)with k|k
  ·exact .inl ⟨k,yF Zb hp hu k⟩
  ·obtain⟨c,e⟩:=Ba (n:=s.heap.objs.size+1) k
   refine .inr ⟨.inl k,c,e,?_⟩
   have q:=x.cell y c e;rw[yG Zb hp hu (by show scope.names.lookup y≠_;rw[k];decide)]at q
   exact q
 ·exact e0.hok.fresh (pG (x.above y c (ia h)))
 ·unfold start
  show _=N.length;rw[bq,aj,c9];omega
theorem Sr{f:aI}{name qual:Str}{params:Arguments}{dV kV doc pm eZ ct oc:aB}{an od:Option aI}
  {H_:Array (Option aB)}{sp:Sp}(lk:K.lookup f=some ⟨oc,od,.func (iu name qual params body scope dV kV doc pm an eZ ct),H_⟩)(nQ:lY K eZ qual=true)(S:cY N ps scope)
  (len:∀vs H Q E,sp vs H Q E->vs.length=ps.length)
  (Ia:∀(A:dg)(outer:List Env)(s:aH)(H:Hp)(vs:List V)(Q:VK)(E:XK),eE k (A.deeper (envOfC qual scope s.heap.objs.size f eZ))->sp vs H Q E->
   ∃t,EE (jq CX P w K mg base N qual scope f eZ A outer s H E) body t/\t { nx:=λ_ H'=>Q .non H',rt:=Q } (start N vs) H) :
  fY P w K mg base CX (k+1) f (iu name qual params body scope dV kV doc pm an eZ ct) ps sp:=by
 refine⟨len,λA outer s H args us vs Q E hr e0 hb r zH=>?_⟩
 have hl:=len _ _ _ _ zH;have KX:K.In s.heap:=e0.mod.RL.keeps λb o e=>(e0.bs b o e).1
 have lim:s.heap.NoLimit:=e0.mod.nolimit.keeps λb o e=>(e0.bs b o e).1
 have uV:∀y∈ps.zip us,scope.names.lookup y.1=some .local\/(scope.names.lookup y.1=some .cell/\((cellsFrom (s.heap.objs.size+1) scope.names []).lookup y.1).isSome=true):=λ⟨n,v⟩ hy=>by
  rcases S.par n (pH hy).1 with q|q
  ·exact .inl q
  ·exact .inr ⟨q,zl _ _ _ (.inl q)⟩
 refine codeAny_call_function hr.depth (KX _ _ lk) rfl S.co S.gen rfl (PySem.W.codeRec_of KX nQ) (hb _ _ _ _ ?_)
 refine wpAny_newFunctionEnv_cells S.kind uV λenv he s1 x=>?_
 subst he;refine⟨lim.keeps x.toInCall.keep,codeAny_func ?_⟩
 obtain⟨t,ht,hq⟩:=Ia A outer s H vs Q E (hr.deeper _) zH;have I:Inv (jq CX P w K mg base N qual scope f eZ A outer s H E) [] (start N vs) H s1:=FZ S hr.hd e0 hl r x;refine gQ (ht [] s1 (start N vs) H _ I hq) (λfl s' hs=>?_) λe s' hs=>hs
 have fin:∀{σ':St}{H':Hp}{v:V}{u:aB},Inv (jq CX P w K mg base N qual scope f eZ A outer s H E) [] σ' H' s'->RelV v u->Q v H'->CE outer P w H s Q u s':=
  λ{σ' H' v u}J rv q=>⟨v,H',J.os,J.bare,J.base,J.hok,rv,q⟩
 cases fl with
 |ret u=>
  obtain⟨v,σ',H',J,rv,q⟩:=hs;exact fin J rv q
 |next=>
  obtain⟨σ',H',J,q⟩:=hs;exact fin (v:=V.non) (u:=g7) J rfl q
 |brk=>
  obtain⟨_,_,_,q⟩:=hs;exact gD q
 |cont=>
  obtain⟨_,_,_,q⟩:=hs;exact gD q
section
variable{X:Cx}{x:Str}{p pos:Pos}{e:bP}{es:List bP}{t:TA}{id T:String}{r:List V->Hp->VK->Prop}
def Zc(r:List V->Hp->VK->Prop)(t:TA):TE:=λσ H Q=>t σ H λvs H1=>r vs H1 Q
theorem wA(hc:jD X (.builtin id) r)(hg:Gl X x)(hm:X.mg x=none)(hv:bootBuiltins x=some (.builtin id))(ha:PA X (e::es) t)(hn:x≠"__name__":=by decide)(nB:(x==("__debug__":Str))=false:=by decide)
  (he:starEach (e::es) X.env=(false,eval e X.env)::starEach es X.env:=by rfl)(sW:(backTo pos (starEach es X.env)).any (·.1)=false:=by rfl):PE X (.Call (.Name x p) (e::es) [] pos) (Zc r t):=by
 intro pins s σ H Q I h;refine iT (oo I hg hm hv ?_ hn nB)
 exact PyProof.Rows.callWith_builtin1 (f7 (ha pos pins s σ H _ I h) λus s1 ⟨vs,H1,I1,r1,q1⟩=>hc pins s1 σ H1 vs us Q I1 r1 q1) he sW
theorem qG(hc:jD X (.type T) r)(hg:Gl X x)(hm:X.mg x=none)(hv:bootBuiltins x=some (.type T))(ha:PA X (e::es) t)(hn:x≠"__name__":=by decide)(nB:(x==("__debug__":Str))=false:=by decide)
  (he:starEach (e::es) X.env=(false,eval e X.env)::starEach es X.env:=by rfl)(sW:(backTo pos (starEach es X.env)).any (·.1)=false:=by rfl):PE X (.Call (.Name x p) (e::es) [] pos) (Zc r t):=by
 intro pins s σ H Q I h;refine iT (oo I hg hm hv ?_ hn nB)
 exact dZ (f7 (ha pos pins s σ H _ I h) λus s1 ⟨vs,H1,I1,r1,q1⟩=>hc pins s1 σ H1 vs us Q I1 r1 q1) he sW
end
end L2
namespace HT
open PySem PyProof.Rows
variable{Q:aB->aH->Prop}
section
open PySem.SeqAt
open PySem.AutoSeq1 (wpAny_loadPart')
open PySem.MeetsSeq PySem.MeetsSeq2 PySem.MeetsSeq3
end
section
variable{prog:bC}{w:bY}{A:dg}{E:aB->aH->Prop}{s:aH}
theorem Li{t b:aI}{vs ws:List aB}(ht:IsTup s.heap t vs.toArray)(hb:IsTup s.heap b ws.toArray)(hv:vs≠[])
  (h1:ws=[]->Q (.ref t) s)(h2:ws≠[]->Q (.ref s.heap.objs.size) { s with heap:=s.heap.push { cls:=.type "tuple",data:=.seq (vs++ws).toArray } })
  (hsz:vs.length+ws.length<=sizeLine):wpAny (model prog w) A (binaryOp .Add (.ref t) (.ref b)) Q E s:=by
 obtain⟨⟨cls,dd,data,sl⟩,ho,hc,n,hd⟩:=id ht;obtain⟨⟨Wu,Vc,data2,Vd⟩,Rk,Ve,n2,hd2⟩:=id hb;simp only at hc hd Ve hd2;subst hc hd Ve hd2;have e:vs.toArray++ws.toArray=(vs++ws).toArray:=by simp
 by_cases hw:ws=[]
 ·exact concat_meets ⟨_,ho,rfl⟩ ⟨_,Rk,rfl⟩ noFill_tuple_add seq_tuple_add zm yu (x6 _ _)
   (tuple_addW1 t b vs.toArray ws.toArray n n2 dd Vc sl Vd (by simpa using hv) (by simp[hw])) ⟨ho,Rk,h1 hw⟩
 ·refine concat_meets ⟨_,ho,rfl⟩ ⟨_,Rk,rfl⟩ noFill_tuple_add seq_tuple_add zm yu (x6 _ _)
   (tuple_addW2 t b vs.toArray ws.toArray n n2 dd Vc sl Vd (by simpa using hv) (by simpa using hw) (by rw[bD,bD];exact hsz)) ⟨ho,Rk,?_⟩
  rw[e];exact h2 hw
def ky(n d:Nat):Option Int->Nat
 |none=>d
 |some v=>if v<0 then(v+(n:Int)).toNat else min v.toNat n
theorem Bb(n d:Nat):ky n d none=d:=rfl
theorem mZ(n d k:Nat):ky n d (some (k:Int))=min k n:=by
 show(if(k:Int)<0 then((k:Int)+(n:Int)).toNat else min (k:Int).toNat n)=min k n
 rw[qQ2 (by omega),eS]
theorem Pp(n d:Nat)(hd:d<=n)(o:Option Int):ky n d o<=n:=by
 cases o with
 |none=>exact hd
 |some v=>
  show(if v<0 then(v+(n:Int)).toNat else min v.toNat n)<=n
  by_cases hv:v<0
  ·rw[qQ3 hv];omega
  ·rw[qQ2 hv];exact Nat.min_le_right _ _
theorem EK(v:Int)(n d:Nat):(if v<0 then max (v+(n:Int)) 0 else min v (n:Int))=((ky n d (some v):Nat):Int):=by
 show(if v<0 then max (v+(n:Int)) 0 else min v (n:Int))=(((if v<0 then(v+(n:Int)).toNat else min v.toNat n):Nat):Int)
 by_cases hv:v<0
 ·simp only[qQ3 hv];omega
 ·simp only[qQ2 hv];omega
theorem Ds(lo hi:Option Int)(n:Nat):lz lo hi 1 (n:Int)=(((ky n 0 lo:Nat):Int),((ky n n hi:Nat):Int)):=by
 have h1:¬((1:Int)<0):=by omega
 unfold lz;simp only[h1,if_false];refine Prod.ext ?_ ?_
 ·cases lo with
  |none=>rfl
  |some v=>exact EK v n 0
 ·cases hi with
  |none=>rfl
  |some v=>exact EK v n n
theorem Dt(i j:Nat):iI (i:Int) (j:Int) 1=j-i:=by
 unfold iI;have h1:(1:Int)>0:=by omega
 simp only[h1,if_true,Int.ediv_one]
 split<;>omega
theorem wB{v:aB}{o:Option Int}{Q:Option Int->aH->Prop}(p:zo v o)(h:Q o s):wpAny (model prog w) A (pD.Slice.slicePartIndex v) Q E s:=by
 cases p with
 |none=>exact slicePart_none h
 |int i t=>exact slicePart_int h
theorem uk{sl:aI}{vl vu:aB}{lo hi:Option Int}{n:Nat}{Q:Int×Int×Nat->aH->Prop}(hs:s.heap.IsSliceOf sl vl vu .none)(pl:zo vl lo)(pu:zo vu hi)
  (h:Q (((ky n 0 lo:Nat):Int),1,ky n n hi-ky n 0 lo) s):wpAny (model prog w) A (sO (.ref sl) (pure (n:Int))) Q E s:=by
 obtain⟨os,Ss,KJ,Pq⟩:=id hs;unfold sO pD.Slice.sliceFields;refine ax (ax (eW Ss Pq (x:=vl) rfl (ax (eW Ss Pq (x:=vu) rfl (ax (eW Ss Pq (x:=.none) rfl (a9 ?_)))))))
 refine ax (slicePart_none ?_)
 show wpAny _ _ (if((1:Int)==0)=true then _ else _) _ _ s
 rw[qQ2 (by decide)]
 refine ax (wB pl (ax (wB pu (ax (a9 ?_)))))
 show wpAny _ _ (match lz lo hi 1 (n:Int)with|(lo,hi)=>pure (lo,(1:Int),iI lo hi 1)) _ _ s
 rw[Ds lo hi n];show wpAny _ _ (pure (((ky n 0 lo:Nat):Int),(1:Int),iI ((ky n 0 lo:Nat):Int) ((ky n n hi:Nat):Int) 1)) _ _ s;rw[Dt];exact a9 h
theorem Ib(xs:Array aB)(i k:Nat):((bS k).filterMap λ(m:Nat)=>xs[((i:Int)+(m:Int)*1).toNat]?).toArray=((xs.toList.drop i).take k).toArray:=by
 have e:(λ(m:Nat)=>xs[((i:Int)+(m:Int)*1).toNat]?)=λm=>xs[i+m]?:=by
  funext m
  have:((i:Int)+(m:Int)*1).toNat=i+m:=by omega
  rw[this]
 rw[e];have:=pick_run xs i k;rw[bQ]at this;have e2:((λx=>xs[x]?)∘λx=>i+x)=λm=>xs[i+m]?:=rfl
 rw[e2]at this;rw[this]
theorem sX{t sl:aI}{items:Array aB}{vl vu:aB}{lo hi:Option Int}(ht:IsTup s.heap t items)(hs:s.heap.IsSliceOf sl vl vu .none)(pl:zo vl lo)(pu:zo vu hi)
  (hw:¬(ky items.size 0 lo=0/\ky items.size items.size hi=items.size))
  (h:Q (.ref s.heap.objs.size) { s with heap:=s.heap.push { cls:=.type "tuple",data:=.seq ((items.toList.drop (ky items.size 0 lo)).take (ky items.size items.size hi-ky items.size 0 lo)).toArray } })
  (hsz:items.size<=sizeLine):wpAny (model prog w) A (getItem (.ref t) (.ref sl)) Q E s:=by
 have EL:sizeOk (.seq ((items.toList.drop (ky items.size 0 lo)).take (ky items.size items.size hi-ky items.size 0 lo)).toArray):=by
  show((items.toList.drop (ky items.size 0 lo)).take (ky items.size items.size hi-ky items.size 0 lo)).toArray.size<=sizeLine
  rw[bD,dz,eI,cM];omega
 have hj:ky items.size items.size hi<=items.size:=Pp _ _ (aA _) hi;obtain⟨os,Ss,KJ,Pq⟩:=id hs;have hTs:s.TypeIs (.ref sl) "slice":=⟨os,Ss,KJ⟩;unfold getItem
 try with_reducible refine mO ?_
 first|refine ax (a9 ?_)|skip
 refine ax (wpAny_sequenceKey ht.typeIs (by decide) ?_)
 refine ax (gv (name:=jz "__getitem__") ht.typeIs jR
  (jU jR ht.typeIs entry_tuple_getitem ?_ (args_tuple_getitem _ _)))
 show wpAny _ _ (pD.Tuple.tupleItemsOf (.ref t) >>= _) _ _ s;refine ax (tupleItemsOf_ ht ?_)
 refine ax (x8 hTs ?_)
 rw[qQ3 (by decide)]
 refine ax (uk hs pl pu ?_)
 have Du:¬((((ky items.size 0 lo:Nat):Int)==0&&(1:Int)==1&&(ky items.size items.size hi-ky items.size 0 lo)==items.size)=true):=by
  intro q;rw[oX,oX]at q;have q1:((ky items.size 0 lo:Nat):Int)=0:=eq_of_beq q.1.1;have q2:ky items.size items.size hi-ky items.size 0 lo=items.size:=eq_of_beq q.2;exact hw ⟨by omega,by omega⟩
 show wpAny _ _ (if(((ky items.size 0 lo:Nat):Int)==0&&(1:Int)==1&&(ky items.size items.size hi-ky items.size 0 lo)==items.size)=true then _ else _) _ _ s
 rw[qQ2 Du,Ib]
 first
  |exact ax (m:=iU _) (ic (a9 ⟨_,rfl,a9 h⟩) EL)
  |exact ax (m:=iU _) (ic (ax (a9 (a9 ⟨_,rfl,a9 h⟩))) EL)
  |exact ax (ax (m:=iU _) (ic (a9 (a9 ⟨_,rfl,a9 h⟩)) EL))
  |exact ax (ax (m:=iU _) (ic (a9 ⟨_,rfl,a9 h⟩) EL))
end
end HT
namespace L2
open PySem PySem.Spec PyProof.Rows
variable{xs:List V}{its us:List aB}{t':Nat}
abbrev TO:=St->Hp->(Option Int->Hp->Prop)->Prop
def PO(X:Cx)(e:Option bP)(t:TO):Prop:=
 ∀(pins:List (aI×Obj))(s:aH)(σ:St)(H:Hp)(Q:Option Int->Hp->Prop),Inv X pins σ H s->t σ H Q->
  wpAny (model X.prog X.w) X.A (evalPart e X.env) (λu s'=>∃o H',Inv X pins σ H' s'/\zo u o/\Q o H') X.xe s
def Lj:TO:=λ_ H Q=>Q none H
def Sv(t:TE):TO:=λσ H Q=>t σ H λx H1=>∃i,x=.int i/\Q (some i) H1
theorem intsAre_of{ns:List Int}:∀{us:List aB},dS (ns.map V.int) us->x9 us ns:=by
 induction ns with
 |nil=>intro us r;rw[eJ]at r;cases r;exact .nil
 |cons n ns ih=>
  intro us r;rw[aD]at r;cases r with
  |cons r1 r2=>
   obtain⟨t,e⟩:=r1;subst e;exact .cons n t (ih r2)
section
variable{X:Cx}{e:bP}{te:TE}{lo hi:Option bP}{tl th:TO}{pos p2:Pos}
theorem Lk:PO X none Lj:=by
 intro pins s σ H Q I h;rw[evalPart_none];exact a9 ⟨none,H,I,.none,h⟩
theorem Ln(h:PE X e te):PO X (some e) (Sv te):=by
 intro pins s σ H Q I hw;rw[evalPart_some];refine f7 (h pins s σ H _ I hw) λu s1 ⟨x,H1,I1,r1,q1⟩=>?_
 obtain⟨i,rfl,q⟩:=q1;obtain⟨t,rfl⟩:=r1;exact⟨some i,H1,I1,.int i t,q⟩
def Vf(X:Cx)(r:V->Option Int->Option Int->Hp->VK->Prop):Prop:=
 ∀(pins:List (aI×Obj))(s:aH)(σ:St)(H:Hp)(x:V)(v vl vu:aB)(lo hi:Option Int)(sl:aI)(Q:VK),Inv X pins σ H s->RelV x v->s.heap.IsSliceOf sl vl vu .none->zo vl lo->zo vu hi->r x lo hi H Q->
  ∃T id,typeLookup (.type T) "__getitem__"=pure (some (.builtin id))/\s.TypeIs v T/\wpAny (model X.prog X.w) X.A (getItem v (.ref sl)) (EP X pins σ Q) X.xe s
def tSl(r:V->Option Int->Option Int->Hp->VK->Prop)(te:TE)(tl th:TO):TE:=λσ H Q=>te σ H λx H1=>tl σ H1 λl H2=>th σ H2 λu H3=>r x l u H3 Q
theorem wC{r:V->Option Int->Option Int->Hp->VK->Prop}(hr:Vf X r)(he:PE X e te)(hl:PO X lo tl)(hu:PO X hi th):PE X (.Subscript e (.Slice lo hi none p2) pos) (tSl r te tl th):=by
 intro pins s σ H Q I h;refine CV (f7 (he pins s σ H _ I h) λv s1 ⟨x,H1,I1,r1,q1⟩=>?_)
 refine wpAny_Slice (f7 (hl pins s1 σ H1 _ I1 q1) λvl s2 ⟨l,H2,I2,pl,q2⟩=>f7 (hu pins s2 σ H2 _ I2 q2) λvu s3 ⟨u,H3,I3,pu,q3⟩=>?_)
 rw[evalPart_none];refine a9 ?_
 have I4:Inv X pins σ H3 { s3 with heap:=s3.heap.push { cls:=.type "slice",data:=.fields #[vl,vu,.none] } }:=I3.kept (t':=s3.toks) λb ob q=>ay _ q
 obtain⟨T,id,hT,ht,hg⟩:=hr pins { s3 with heap:=s3.heap.push { cls:=.type "slice",data:=.fields #[vl,vu,.none] } } σ H3 x v vl vu l u s3.heap.objs.size Q I4 r1 (xT ..) pl pu q3
 show wpAny (model X.prog X.w) X.A (subscriptTail e (.Slice lo hi none p2) v (.ref s3.heap.objs.size)) (EP X pins σ Q) X.xe { s3 with heap:=s3.heap.push { cls:=.type "slice",data:=.fields #[vl,vu,.none] } }
 exact tail_any (ops:=[.ref s3.heap.objs.size,v]) ht hT hg (by with_unfolding_all rfl)
def Bc(xs:List V)(lo hi:Option Int):List V:=(xs.drop (HT.ky xs.length 0 lo)).take (HT.ky xs.length xs.length hi-HT.ky xs.length 0 lo)
theorem uW(xs:List V)(lo hi:Option Int):(Bc xs lo hi).length<=xs.length:=by
 unfold Bc;rw[dz,eI];omega
def Wv(K:ao):V->Option Int->Option Int->Hp->VK->Prop:=λx lo hi H Q=>∃a xs,x=.ref a/\mQ K H a xs/\
 ¬(HT.ky xs.length 0 lo=0/\HT.ky xs.length xs.length hi=xs.length)/\∀p,H p=none->Q (.ref p) (upd H p (.tup (Bc xs lo hi)))
theorem Pr:Vf X (Wv X.K):=by
 intro pins s σ H x v vl vu lo hi sl Q I rx hs pl pu h;obtain⟨a,xs,rfl,hx,hw,q⟩:=h;cases rx;obtain⟨its,r,ht,hz⟩:=I.tuple hx;have hlen:its.toArray.size=xs.length:=by rw[bD];exact r.length.symm
 refine⟨"tuple",_,jR.lookup,ht.typeIs,?_⟩
 refine HT.sX ht hs pl pu (by rw[hlen];exact hw) ?_ (by rw[hlen];exact hz)
 rw[hlen];refine⟨.ref s.heap.objs.size,_,I.laid (t':=s.toks) (o:=.tup (Bc xs lo hi)) (λb ob q=>ay _ q) (aA _) ?_,rfl,q _ (I.hok.fresh (aA _))⟩
 exact⟨bZ (uW xs lo hi) hz,_,(r.drop (HT.ky xs.length 0 lo)).take (HT.ky xs.length xs.length hi-HT.ky xs.length 0 lo),AI _ _⟩
def Sw(K:ao):R2:=λx y H Q=>∃a b xs ys,x=.ref a/\y=.ref b/\mQ K H a xs/\mQ K H b ys/\xs≠[]/\xs.length+ys.length<=sizeLine/\
 (ys=[]->Q (.ref a) H)/\(ys≠[]->∀p,H p=none->Q (.ref p) (upd H p (.tup (xs++ys))))
theorem dS.vU(r:dS xs us):us=[]↔xs=[]:=by
 cases r with
 |nil=>simp
 |cons _ _=>simp
theorem Lp:qE X (binaryOp .Add) (Sw X.K):=by
 intro pins s σ H x y v u Q I rx ry h;obtain⟨a,b,xs,ys,rfl,rfl,ha,hb,hx,hz,q1,q2⟩:=h;cases rx;cases ry;obtain⟨its,r1,p1,_⟩:=I.tuple ha;obtain⟨Lq,r2,p2,_⟩:=I.tuple hb;refine HT.Li p1 p2 (λz=>hx (r1.vU.mp z)) (λz=>⟨.ref a,H,I,rfl,q1 (r2.vU.mp z)⟩) (λz=>?_) (by rw[<-r1.length,<-r2.length];exact hz)
 refine⟨.ref s.heap.objs.size,_,I.laid (t':=s.toks) (o:=.tup (xs++ys)) (λb ob q=>ay _ q) (aA _) ?_,rfl,q2 (λw=>z (r2.vU.mpr w)) _ (I.hok.fresh (aA _))⟩
 exact⟨by rw[bq];exact hz,_,r1.append r2,AI _ _⟩
end
def Lr(n:Nat)(i:Int):Option Nat:=if 0<=i then(if i<n then some i.toNat else none)else if -(n:Int)<=i then some (i+n).toNat else none
def pj{α:Type}(xs:List α)(i:Int):Option α:=(Lr xs.length i).bind λj=>xs[j]?
theorem Ls{n:Nat}{i:Int}{j:Nat}(h:Lr n i=some j):seqIndex? i n=some j/\j<n/\-(n:Int)<=i/\i<n:=by
 unfold Lr at h;by_cases h0:0<=i
 ·rw[qQ3 h0]at h
  by_cases h1:i<n
  ·rw[qQ3 h1]at h
   have e:i.toNat=j:=cQ h;exact⟨by rw[seqIndex_of h0 h1,e],by omega,by omega,h1⟩
  ·rw[qQ2 h1]at h;cases h
 ·rw[qQ2 h0]at h
  by_cases h1:-(n:Int)<=i
  ·rw[qQ3 h1]at h
   have e:(i+n).toNat=j:=cQ h;exact⟨by rw[seqIndex_neg (by omega) h1,e],by omega,h1,by omega⟩
  ·rw[qQ2 h1]at h;cases h
theorem zI{α:Type}{xs:List α}{i:Int}{v:α}(h:pj xs i=some v):∃j,seqIndex? i xs.length=some j/\xs[j]?=some v/\j<xs.length/\-(xs.length:Int)<=i/\i<xs.length:=by
 unfold pj at h;cases e:Lr xs.length i with
 |none=>rw[e]at h;cases h
 |some j=>
  rw[e]at h;obtain⟨h1,h2,h3,h4⟩:=Ls e;exact⟨j,h1,h,h2,h3,h4⟩
theorem bK{α:Type}{xs:List α}{j:Nat}{v:α}(h:xs[j]?=some v):pj xs (j:Int)=some v:=by
 have hj:j<xs.length:=(aJ.mp h).1;have e:Lr xs.length (j:Int)=some j:=by
  unfold Lr;rw[qQ3 (by omega),qQ3 (by omega)];simp
 unfold pj;rw[e];exact h
def sY(b:bP):Prop:=∀o i,subscripted b false o i=operate [o,i] (getItem o i)
def KL(X:Cx)(r:R2):Prop:=
 ∀(value slice:bP)(pins:List (aI×Obj))(s:aH)(σ:St)(H:Hp)(x y:V)(v u:aB)(Q:VK),Inv X pins σ H s->RelV x v->RelV y u->r x y H Q->
  subscripted slice false v u=operate [v,u] (getItem v u)->wpAny (model X.prog X.w) X.A (subscriptTail value slice v u) (EP X pins σ Q) X.xe s
def MtR(X:Cx)(id:String)(r:V->List V->Hp->VK->Prop):Prop:=
 ∀(pins:List (aI×Obj))(s:aH)(σ:St)(H:Hp)(x:V)(xs:List V)(v:aB)(us:List aB)(Q:VK),Inv X pins σ H s->RelV x v->dS xs us->r x xs H Q->
  wpAny (model X.prog X.w) X.A (call (.builtin id) (v::us)) (EP X pins σ Q) X.xe s
section
variable{X:Cx}{a b:bP}{ta tb:TE}{pos:Pos}
theorem KL.or{r r':R2}(h:KL X r)(h':KL X r'):KL X (λx y H Q=>r x y H Q\/r' x y H Q):=by
 intro value slice pins s σ H x y v u Q I rx ry q hs;rcases q with q|q
 ·exact h value slice pins s σ H x y v u Q I rx ry q hs
 ·exact h' value slice pins s σ H x y v u Q I rx ry q hs
theorem Sx{r:R2}(hr:KL X r)(ha:PE X a ta)(hb:PE X b tb)(hs:sY b):PE X (.Subscript a b pos) (R8 r ta tb):=by
 intro pins s σ H Q I h;exact CV (O_ ha hb I h λv u s2 x y H2 I2 rx ry q=>hr a b pins s2 σ H2 x y v u Q I2 rx ry q (hs _ _))
def Sy(K:ao):R2:=λx y H Q=>∃p xs i v,x=.ref p/\y=.int i/\jV K H p xs/\pj xs i=some v/\Q v H
def Sz(K:ao):R2:=λx y H Q=>∃p xs i v,x=.ref p/\y=.int i/\mQ K H p xs/\pj xs i=some v/\Q v H
def SD:R2:=λx y H Q=>∃z i c,x=.str z/\y=.int i/\z.length<=sizeLine/\pj z.cps.toList i=some c/\Q (.str ⟨#[c]⟩) H
theorem Lv:KL X (Sy X.K):=by
 intro value slice pins s σ H x y v u Q I rx ry h hs;obtain⟨p,xs,i,z,rfl,rfl,hq,he,q⟩:=h;cases rx;obtain⟨t,rfl⟩:=ry;obtain⟨its,r,pl,hz⟩:=I.list hq;obtain⟨j,h1,h2,h3,h4,h5⟩:=zI he;obtain⟨w,ew,ub⟩:=r.get h2;have hl:=r.length;have hn:=rS;have fin:EP X pins σ Q w s:=⟨z,H,I,ub,q⟩;by_cases h0:0<=i
 ·have hj:i.toNat=j:=by
   rw[seqIndex_of h0 h5]at h1;exact cQ h1
  exact item_listR pl.isList h0 (by omega) (by rw[hj];simpa using ew) fin hs
 ·have hj:(i+(its.toArray.size:Int)).toNat=j:=by
   rw[seqIndex_neg (by omega) h4]at h1
   rw[bD,<-hl];exact cQ h1
  exact subscriptTail_builtinR (x:=w) pl.isList.typeIs yb.lookup
   (wpAny_getItem_list_neg (Q:=λr s'=>r=w/\EP X pins σ Q r s') pl.isList (by omega) (by rw[bD]<;>omega) (by omega) (by rw[hj];simpa using ew) ⟨rfl,fin⟩) hs
theorem Pt:KL X (Sz X.K):=by
 intro value slice pins s σ H x y v u Q I rx ry h hs;obtain⟨p,xs,i,z,rfl,rfl,hq,he,q⟩:=h;cases rx;obtain⟨t,rfl⟩:=ry;obtain⟨its,r,pl,hz⟩:=I.tuple hq;obtain⟨j,h1,h2,h3,h4,h5⟩:=zI he;obtain⟨w,ew,ub⟩:=r.get h2;have hl:=r.length;have hn:=rS;have fin:EP X pins σ Q w s:=⟨z,H,I,ub,q⟩;exact subscriptTail_builtinR (x:=w) pl.typeIs slot_tuple_getitem.lookup
  (getItem_tuple (j:=j) (Q:=λr s'=>r=w/\EP X pins σ Q r s') pl (by omega) (by omega) (by rw[bD,<-hl];exact h1) (by simpa using ew) ⟨rfl,fin⟩) hs
theorem Pu:KL X SD:=by
 intro value slice pins s σ H x y v u Q I rx ry h hs;obtain⟨z,i,c,rfl,rfl,hz,he,q⟩:=h;obtain⟨t,rfl⟩:=rx;obtain⟨t',rfl⟩:=ry;obtain⟨j,h1,h2,h3,h4,h5⟩:=zI he;have hl:z.cps.toList.length=z.length:=by simp[Str.length]
 rw[hl]at h1 h4 h5;have hn:=rS;exact tail_any (rN s z t) slot_str_getitem.lookup (getItem_str (c:=c) (by
  have e1:decide (i < -(2^63:Int))=false:=qQ0 (by omega)
  have e2:decide (i>=2^63)=false:=qQ0 (by omega)
  rw[e1,e2,Bool.or_false]) (by rw[h1];simpa using h2) ⟨.str ⟨#[c]⟩,H,I.tok _,⟨_,rfl⟩,q⟩) hs
def Vg(K:ao):R2:=λx y H Q=>Sy K x y H Q\/Sz K x y H Q\/SD x y H Q
theorem Dv:KL X (Vg X.K):=Lv.or (Pt.or Pu)
theorem zJ(lo hi:Option Int)(n:Nat):(sliceBounds lo hi none n).1=((HT.ky n 0 lo:Nat):Int)/\(sliceBounds lo hi none n).2.1=((HT.ky n n hi:Nat):Int)/\(sliceBounds lo hi none n).2.2=1:=by
 refine⟨?_,?_,rfl⟩
 ·cases lo with
  |none=>simp[sliceBounds,HT.ky]
  |some i=>
   simp only[sliceBounds,HT.ky,Option.getD_none,show(1:Int)>0 by decide,if_true]
   by_cases h:i<0
   ·simp only[h,if_true]<;>omega
   ·simp only[h,if_false]<;>omega
 ·cases hi with
  |none=>simp[sliceBounds,HT.ky]
  |some i=>
   simp only[sliceBounds,HT.ky,Option.getD_none,show(1:Int)>0 by decide,if_true]
   by_cases h:i<0
   ·simp only[h,if_true]<;>omega
   ·simp only[h,if_false]<;>omega
theorem yg(its:List aB)(lo hi:Option Int):slicePick its.toArray lo hi none=((its.drop (HT.ky its.length 0 lo)).take (HT.ky its.length its.length hi-HT.ky its.length 0 lo)).toArray:=by
 obtain⟨h1,h2,h3⟩:=zJ lo hi its.toArray.size;unfold slicePick;rw[h1,h2,h3];simp only[sliceRange_one,pick_run,bD]<;>rfl
def Ww(K:ao):V->Option Int->Option Int->Hp->VK->Prop:=λx lo hi H Q=>∃a xs,x=.ref a/\jV K H a xs/\∀p,H p=none->Q (.ref p) (upd H p (.lst (Bc xs lo hi)))
theorem Lw:Vf X (Ww X.K):=by
 intro pins s σ H x v vl vu lo hi sl Q I rx hs pl pu h;obtain⟨a,xs,rfl,hx,q⟩:=h;cases rx;obtain⟨its,r,ht,hz⟩:=I.list hx;have hlen:=r.length;refine⟨"list",_,yb.lookup,ht.isList.typeIs,?_⟩
 refine wpAny_getItem_list_slice ht.isList hs pl pu .none (by simp) ?_ (by rw[bD]<;>omega)
 rw[yg,<-hlen];refine⟨.ref s.heap.objs.size,_,I.laid (t':=s.toks) (o:=.lst (Bc xs lo hi)) (λb ob q=>ay _ q) (aA _) ?_,rfl,q _ (I.hok.fresh (aA _))⟩
 exact⟨bZ (uW xs lo hi) hz,_,0,(r.drop (HT.ky xs.length 0 lo)).take (HT.ky xs.length xs.length hi-HT.ky xs.length 0 lo),a8 _ rfl⟩
theorem sZ:jD X (.builtin "len") (λxs H Q=>∃p ys,xs=[.ref p]/\(jV X.K H p ys\/mQ X.K H p ys)/\Q (.int ys.length) H):=by
 intro pins s σ H xs us Q I r h;obtain⟨p,ys,rfl,hq,q⟩:=h;obtain⟨u,rfl,rx⟩:=vals1 r;cases rx;have hn:=rS;rcases hq with hq|hq
 ·obtain⟨its,r',pl,hz⟩:=I.list hq
  have hlen:=r'.length;exact Calls.call_len_list pl.isList (by simp only[bD]<;>omega) ⟨.int ys.length,H,I.tok _,⟨s.toks+1,by rw[bD,hlen]⟩,q⟩
 ·obtain⟨its,r',pl,hz⟩:=I.tuple hq
  have hlen:=r'.length;exact len_tuple pl (by simp only[bD]<;>omega) ⟨.int ys.length,H,I.tok _,⟨s.toks+1,by rw[bD,hlen]⟩,q⟩
theorem zK:jD X (.builtin "len") (λxs H Q=>∃z,xs=[.str z]/\z.length<=sizeLine/\Q (.int z.length) H):=by
 intro pins s σ H xs us Q I r h;obtain⟨z,rfl,hz,q⟩:=h;obtain⟨u,rfl,t,rfl⟩:=vals1 r;have hn:=rS;exact len_str (by omega) ⟨.int z.length,H,I.tok _,⟨_,rfl⟩,q⟩
theorem tf:jD X (.type "list") (λxs H Q=>∃p ys,xs=[.ref p]/\(jV X.K H p ys\/mQ X.K H p ys)/\∀l,H l=none->Q (.ref l) (upd H l (.lst ys))):=by
 intro pins s σ H xs us Q I r h;obtain⟨p,ys,rfl,hq,q⟩:=h;obtain⟨u,rfl,rx⟩:=vals1 r;cases rx;have fin:∀(its:List aB),dS ys its->ys.length<=sizeLine->∀(h':cR)(c':Nat),(∀b o',s.heap.get? b=some o'->h'.get? b=some o')->
   h'.get? s.heap.objs.size=some { cls:=.type "list",dict:=none,data:=.seq its.toArray c',slots:=#[] }->EP X pins σ Q (.ref s.heap.objs.size) { s with heap:=h' }:=λits r' hz h' c' kp e=>
  ⟨.ref s.heap.objs.size,_,I.laid (t':=s.toks) kp (aA _) (show hZ X.prog X.w _ h' _ (.lst ys) from⟨hz,its,c',r',e⟩),rfl,q _ (I.hok.fresh (aA _))⟩
 rcases hq with hq|hq
 ·obtain⟨its,r',pl,hz⟩:=I.list hq
  have hlen:=r'.length;obtain⟨o,ho,hc,n,hd⟩:=pl.isList;exact call_list_seq p (.inl rfl) ho hc hd (λh' c' kp e=>fin its r' hz h' c' kp e) (by simp only[bD]<;>omega)
 ·obtain⟨its,r',pl,hz⟩:=I.tuple hq
  have hlen:=r'.length;obtain⟨o,ho,hc,n,hd⟩:=pl;exact call_list_seq p (.inr rfl) ho hc hd (λh' c' kp e=>fin its r' hz h' c' kp e) (by simp only[bD]<;>omega)
theorem kS:jD X (.type "tuple") (λxs H Q=>∃p ys,xs=[.ref p]/\((jV X.K H p ys/\∀l,H l=none->Q (.ref l) (upd H l (.tup ys)))\/(mQ X.K H p ys/\Q (.ref p) H))):=by
 intro pins s σ H xs us Q I r h;obtain⟨p,ys,rfl,h⟩:=h;obtain⟨u,rfl,rx⟩:=vals1 r;cases rx;rcases h with⟨hq,q⟩|⟨hq,q⟩
 ·obtain⟨its,r',pl,hz⟩:=I.list hq
  have hlen:=r'.length;refine call_tuple_list pl.isList (λh' kp=>?_) (by simp only[bD]<;>omega)
  have I1:Inv X pins σ H { s with heap:=h' }:=I.kept (t':=s.toks) kp
  have I2:Inv X pins σ (upd H h'.objs.size (.tup ys)) { s with heap:=h'.push { cls:=.type "tuple",data:=.seq its.toArray } }:=
   I1.laid (t':=s.toks) (λb o e=>ay _ e) (aA _) (show hZ X.prog X.w _ _ _ (.tup ys) from⟨hz,its,r',AI _ _⟩)
  exact⟨.ref h'.objs.size,_,I2,rfl,q _ (I1.hok.fresh (aA _))⟩
 ·obtain⟨its,r',pl,hz⟩:=I.tuple hq
  exact call_tuple_same pl ⟨.ref p,H,I,rfl,q⟩
def Zd(K:ao)(T:String)(x:V)(H:Hp):Prop:=match x with
 | .str _=>T="str"
 | .int _=>T="int"
 | .ref p=>(T="list"/\∃xs,jV K H p xs)\/(T="tuple"/\∃o,K.lookup p=some o/\o.cls=.type "tuple"/\o.dict=none)\/
   (T="dict"/\((∃kvs,H p=some (.dK kvs))\/∃kvs,H p=some (.dT kvs)))\/(T="set"/\∃S n,H p=some (.set S n))
 |_=>False
theorem Pw{pins:List (aI×Obj)}{σ:St}{H:Hp}{s:aH}{T:String}{x:V}{v:aB}(I:Inv X pins σ H s)(r:RelV x v)(ty:Zd X.K T x H):
  s.TypeIs v T/\∀a,v=.ref a->∃ob,s.heap.get? a=some ob/\ob.dict=none:=by
 cases x with
 |str z=>
  obtain⟨t,rfl⟩:=r
  cases(show T="str" from ty)
  exact⟨rN s z t,λ_ e=>nomatch e⟩
 |int i=>
  obtain⟨t,rfl⟩:=r
  cases(show T="int" from ty)
  exact⟨typeIs_int s i t,λ_ e=>nomatch e⟩
 |ref p=>
  cases r;rcases ty with⟨rfl,xs,hq⟩|⟨rfl,o,hk,hc,hd⟩|⟨rfl,hk⟩|⟨rfl,S,n,hk⟩
  ·obtain⟨its,_,pl,_⟩:=I.list hq
   refine⟨pl.isList.typeIs,λa e=>?_⟩
   cases e;obtain⟨o,n,e,c,hd,_⟩:=pl;exact⟨o,e,hd⟩
  ·refine⟨⟨o,I.zA p o hk,hc⟩,λa e=>?_⟩
   cases e;exact⟨o,I.zA _ o hk,hd⟩
  ·have z:∃o,s.heap.get? p=some o/\o.ExactDict:=by
    rcases hk with⟨kvs,hk⟩|⟨kvs,hk⟩
    ·obtain⟨_,_,_,_,o,_,_,e,ex,_⟩:=I.hok p _ hk
     exact⟨o,e,ex⟩
    ·obtain⟨_,_,_,_,o,_,_,e,ex,_⟩:=I.hok p _ hk
     exact⟨o,e,ex⟩
   obtain⟨o,e,ex⟩:=z;refine⟨⟨o,e,ex.1⟩,λa e2=>?_⟩
   cases e2;exact⟨o,e,ex.2.1⟩
  ·obtain⟨o,_,_,_,e,ex,_⟩:=I.hok p _ hk
   refine⟨⟨o,e,ex.1⟩,λa e2=>?_⟩
   cases e2;exact⟨o,e,ex.2.1⟩
 |_=>exact gD ty
def tBM(K:ao)(T:String)(r:V->List V->Hp->VK->Prop)(to:TE)(t:TA):TE:=λσ H Q=>to σ H λx H1=>Zd K T x H1/\t σ H1 λxs H2=>r x xs H2 Q
variable{o e:bP}{es:List bP}{to:TE}{t:TA}{name:Str}{apos ot:Pos}{T id:String}{r:V->List V->Hp->VK->Prop}
theorem uX(pa:PlainAttrs T)(slot:Slot T name id)(hty:typeOf (.builtin id)=pure (.type "method_descriptor"))(hm:MtR X id r)(ho:PE X o to)(ha:PA X (e::es) t)
  (j0:attributeBase o name X.env (eval o X.env)=eval o X.env:=by rfl)
  (ou:((backTo ot (starEach (e::es) X.env)).all (λx=>!x.1)&&(backToKw ot (keywordEach [] X.env)).all (λx=>x.1.isSome)
   && decide ((e::es).length+([]:List fV).length+(if([]:List fV).isEmpty then 0 else 1)<30))=true:=by rfl)
  (hline:(apos.endLine==ot.line)=true:=by rfl) (hs:starEach (e::es) X.env=(false,eval e X.env)::starEach es X.env:=by rfl) (iy:(backTo ot (starEach es X.env)).any (·.1)=false:=by rfl) :
  PE X (.Call (.Attribute o name apos) (e::es) [] ot) (tBM X.K T r to t):=by
 intro pins s σ H Q I h;refine wpAny_Call_method_late j0 ou hline rfl (f7 (ho pins s σ H _ I h) λv s1 ⟨x,H1,I1,r1,ty,q1⟩=>?_)
 obtain⟨h1,h2⟩:=Pw I1 r1 ty;refine⟨T,id,pa,slot,hty,h1,h2,?_⟩
 have hA:=ha ot pins s1 σ H1 _ I1 q1;rw[hs]at hA ⊢;refine o8 (by show(false||(backTo ot (starEach es X.env)).any (·.1))=false;rw[iy]<;>rfl) (qX ?_)
 exact f7 hA λus s2 ⟨vs,H2,I2,r2,q2⟩=>hm pins s2 σ H2 x vs v us Q I2 r1 r2 q2
end
def Vh(X:Cx)(id:String)(r:V->List V->Hp->VK->Prop):Prop:=
 ∀(pins:List (aI×Obj))(s:aH)(σ:St)(H:Hp)(x:V)(xs:List V)(v:aB)(us:List aB)(Q:VK),Inv X pins σ H s->RelV x v->dS xs us->r x xs H Q->
  wpAny (model X.prog X.w) X.A (call (.builtin id) (v::us)) (EP X pins σ Q) X.xe s
theorem dS.one:∀{x:V}{us:List aB},dS [x] us->∃u,us=[u]/\RelV x u
 |_,_,.cons r .nil=>⟨_,rfl,r⟩
theorem dS.reverse(h:dS xs us):dS xs.reverse us.reverse:=by
 induction h with
 |nil=>exact .nil
 |cons r t ih=>rw[iV,iV];exact dS.append ih (.cons r .nil)
theorem dS.rep(h:dS xs us):∀k:Nat,dS (bp k xs).flatten (bp k us).flatten
 |0=>.nil
 |k+1=>by
  rw[dJ,dJ,fW,fW];exact dS.append h (dS.rep h k)
theorem foldl_rep(its:List aB):∀(k:Nat)(acc:List aB),
  List.foldl (λx1 x2=>x1++x2) acc.toArray (bp k its.toArray)=(acc++(bp k its).flatten).toArray
 |0,acc=>by simp
 |k+1,acc=>by
  have e:acc.toArray++its.toArray=(acc++its).toArray:=by simp
  have e2:(acc++its)++(bp k its).flatten=acc++(bp (k+1) its).flatten:=by
   rw[dJ,fW,eu]
  rw[<-e2,<-foldl_rep its k (acc++its),<-e,dJ,pI]
section
variable{X:Cx}{pins:List (aI×Obj)}{σ:St}{H:Hp}{s:aH}{l b:aI}{xs ys zs:List V}
theorem Inv.Wx{its': List aB}{n:Nat}{f:Array aB->Array aB}(I:Inv X pins σ H s)(hH:H l=some (.lst xs))
  (e:s.heap.get? l=some { cls:=.type "list",data:=.seq its.toArray n })(hf:f its.toArray=its'.toArray)(hv:dS ys its')(hz:ys.length<=sizeLine):
  Inv X pins σ (upd H l (.lst ys)) { s with heap:=s.heap.update l (zp f),toks:=t' }:=by
 have q:=PySem.IsL.update e f;rw[hf]at q;refine I.write (x:=l) (e:=l) (by rw[hH];exact trivial) (.inl rfl) (λb' u hb hu=>(Cz s.heap (zp f) (bV hb)).trans hu) ⟨_,q⟩ ?_
 exact⟨hz,its',_,hv,q⟩
theorem Inv.Wy(I:Inv X pins σ H s)(hv:dS ys its)(hz:ys.length<=sizeLine):
  Inv X pins σ (upd H s.heap.objs.size (.lst ys)) { s with heap:=s.heap.push { cls:=.type "list",data:=.seq its.toArray },toks:=t' }:=
 I.laid (λ_ _ q=>ay _ q) (aA _) ⟨hz,its,0,hv,a8 _ rfl⟩
theorem Inv.fresh(I:Inv X pins σ H s):H s.heap.objs.size=none:=I.hok.fresh (aA _)
theorem Inv.Wz(I:Inv X pins σ H s)(hH:H l=some (.lst xs)):xs.length<=sizeLine/\∃(its:List aB)(n:Nat),dS xs its/\xs.length=its.length/\s.heap.get? l=some { cls:=.type "list",data:=.seq its.toArray n }:=by
 obtain⟨z,its,n,r,e⟩:=I.hok l _ hH;exact⟨z,its,n,r,r.length,e⟩
end
section
variable{X:Cx}
def Lx:V->List V->Hp->VK->Prop:=λx vs H Q=>∃l xs y,x=.ref l/\vs=[y]/\H l=some (.lst xs)/\xs.length<sizeLine/\Q .non (upd H l (.lst (xs ++ [y])))
theorem lV:Vh X "list.append" Lx:=by
 intro pins s σ H x vs v us Q I rx rv h;obtain⟨l,xs,y,rfl,rfl,hH,hz,q⟩:=h;cases rx;obtain⟨u,rfl,ru⟩:=rv.one;obtain⟨z,its,n,r,hl,e⟩:=I.Wz hH;refine lZ F.slot_list_append ⟨_,e,rfl⟩ F.entry_list_append (F.args_list_append_2 _ _) (PySem.list_append l its.toArray n u (by rw[bD];omega)) ⟨e,?_⟩
 refine⟨.non,_,I.Wx (its':=its ++ [u]) hH e (by simp) (r.append (.cons ru .nil)) ?_,rfl,q⟩
 rw[bq,eT];omega
theorem len_rep{α:Type}(xs:List α)(k:Nat):(bp k xs).flatten.length=k*xs.length:=by
 induction k with
 |zero=>simp
 |succ k ih=>rw[dJ,fW,bq,ih,CW,Nat.add_comm]
end
section
variable{prog:bC}{w:bY}{A:dg}{E:aB->aH->Prop}{s:aH}
end
section
variable{X:Cx}
end
end L2
namespace Ze
open PySem PySem.W PySem.Calls PyProof.Rows
variable{h:cR}{l:OpenLaw}{P:zq}
theorem vG:∀(ns:List Int)(vs:List aB),WellAll P h vs (ns.map WData.int)->x9 vs ns:=by
 intro ns
 induction ns with
 |nil=>
  intro vs w;rw[eJ]at w;cases w;exact .nil
 |cons n ns ih=>
  intro vs w;rw[aD]at w;cases w with
  |cons a b=>
   cases a;exact .cons _ _ (ih _ b)
theorem F0{n:Nat}(hn:l.most=some n){args:List WData}{vals:List aB}
  (Ly:l.row.toRowW.claim.pre args=true)(Px:WellAll P h vals args):
  ∃a vs ns,vals=[cU a]/\args=[WData.list (ns.map WData.int)]/\h.get? a=some { cls:=.type "list",data:=.seq vs.toArray }/\x9 vs ns/\ns.length<=n:=by
 have hsh:WShape.hasAll [] args [.list .int]=true:=(pre_splitW Ly).1;have hc:l.pre.holds [] { args:=args }=true:=(pre_splitW Ly).2;obtain⟨d,r,rfl,h1,h2⟩:=hasAllW_cons hsh;obtain rfl:=hasAllW_nil h2;obtain⟨xs,rfl,h3⟩:=hasW_list h1;obtain⟨ns,rfl⟩:=items_int h3;have hlen:ns.length<=n:=by
  unfold OpenLaw.pre at hc;have h4:(WTm.not (.lt (.lit (.int (n:Int))) (.len (.arg 0)))).holds [] { args:=[.list (ns.map .int)] }=true:=by
   have h4:=(holds_andW hc).1;rw[hn]at h4;exact h4
  have h5:=condW_of h4 (w_not (w_lt w_lit (w_len_list (w_arg rfl))));rw[aj]at h5;refine fJ λq=>?_
  have q':(n:Int)<((ns.length:Nat):Int):=by omega
  first
   |(rw[qQ1 q']at h5;exact qQ7 h5 (by decide))
   |(simp at h5;omega)
 cases Px with
 |cons w1 w2=>
  cases w2;cases w1 with
  |list ho pW=>exact⟨_,_,ns,rfl,rfl,ho,vG ns _ pW,hlen⟩
theorem F1(l:OpenLaw)(args:List WData):l.row.toRowW.claim.post args (.bool true) args=true:=
 postW_of (r:=l.row.toRowW) (X:=(true==true))
  (show WShape.has [] (.bool true) .bool=true by first|rfl|decide|simp[WShape.has,WShape.arms,WShape.armsAll])
  (show(WTm.eq .res (.lit (.bool true))).value [] { args:=args,res:=some (.bool true),after:=args }=some (.bool (true==true))from w_eq_bool (w_res rfl) w_lit) rfl
theorem Bd{n:Nat}{q:bC}{loose:List Str}{XP:(Str->Option aB)->cR->Prop}{YP:bY->cR->Prop}{d:DefRec}
  (hn:l.most=some n)(SF:d.params.defaults=[])
  (call:∀(w:bY)(s₀ s₁:aH)(mg mb:Str->Option aB)(fa:aI)(o:Obj)(pm cd doc:aB)(a:aI)(vs:List aB)(ns:List Int),
   Ground q loose [] XP w s₀ mg mb s₁.heap->YP w s₁.heap->
   s₁.heap.get? fa=some o->o.data=.func (docDef d.name d.params d.body d.scope pm cd doc)->s₁.heap.CodeRec cd d.name->mg d.name=some (.ref fa)->
   s₁.heap.get? a=some { cls:=.type "list",data:=.seq vs.toArray }->x9 vs ns->ns.length<=n->s₁.gens=#[]->
   codeAny (model l.prog w) callerA (.call (.ref fa) ⟨[.ref a],[]⟩) (λr s'=>r=.ok (.ret (.bool true))/\OldK s₁.heap s'.heap/\s'.os=s₁.os/\rL s'.gens) s₁) :
  WalkO q loose XP YP l.row.toRowW d [] (λf vs=>PySem.call f vs):=by
 intro w s₀ s₁ mg mb G Y fa o pm cd doc dV kV ho hd nQ hD KN hg args vals as Ly hlay hrd Px hlo;obtain rfl:dV=.none:=Dflts.none hD SF;obtain rfl:kV=.none:=Dflts.noKw hD;obtain⟨a,vs,ns,rfl,rfl,Py,hints,hlen⟩:=F0 hn Ly Px;refine enter_call (nP (call w s₀ s₁ mg mb fa o pm cd doc a vs ns G Y ho (fd_plain hd) nQ KN Py hints hlen hg) λr s' hq=>?_)
 obtain⟨rfl,h2,h3,h4⟩:=hq;exact⟨.inl ⟨.bool true,.bool true,[],rfl,λ_=>rfl,.bool true,F1 l _,λ_=>⟨yv,λ_ hm=>(nomatch hm)⟩⟩,h2,h3,h4⟩
section
variable{prog:bC}{w:bY}{A:dg}{E:aB->aH->Prop}{s:aH}{K:Frag}
end
end Ze
namespace L2
open PySem PySem.Spec PyProof.Rows
variable{a b f:aI}{X:Cx}{fd:fe}{h':cR}{H H':Hp}{pins:List (aI×Obj)}{xs:List (List Key×aI×aB)}{kvs:List (List Key×V)}{F2:List (TE×TE)}{ps:List Str}{o:Option V}{pos:Pos}{P:bC}{K:ao}{s:aH}{st:fH}{qual x:Str}{y:V}{u:aB}{Q:aB->aH->Prop}{w:bY}
theorem yH:∀{vs:List aB}{ns:List Int},x9 vs ns->dS (ns.map V.int) vs
 |_,_,.nil=>.nil
 |_,_,.cons n t h=>.cons ⟨t,rfl⟩ (yH h)
def Only(H:Hp):Prop:=∀b,H b=none\/∃o xs,H b=some (.FL o (.lst xs))
theorem Ie{mg mb:Str->Option aB}{CX:Hw}{k:Nat}{fa: aI}{sp:Sp}{s₁:aH}{vs:List aB}{ns:List Int}
  (KX:K.In s₁.heap)(KP:s₁.heap.Ns mainGlobals mg)(hb:s₁.heap.Ns builtinsNs mb)(hbb:∀x:Str,x≠"__name__"->mb x=bootBuiltins x)(WB:s₁.heap.NoLimit)(hg:s₁.gens=#[])
  (ha:s₁.heap.get? a=some { cls:=.type "list",data:=.seq vs.toArray })(hi:x9 vs ns)(hl:ns.length<=sizeLine)(hr:eE k callerA)
  (F:∀base:cR,K.In base->base.Ns mainGlobals mg->fY P w K mg base CX k fa fd [x] sp)(SG:∀(s:aH)(u:aB),BindsTo s fd ⟨[u],[]⟩ [(x,u)])
  (zH:∀H:Hp,Only H->jV K H a (ns.map V.int)->sp [.ref a] H (λv _=>v=.bl true) λ_ _ _=>False)
  (WC:∀H e s',CX [] H s₁ (λ_ _ _=>False) e s'->False):
  codeAny (model P w) callerA (.call (.ref fa) ⟨[.ref a],[]⟩) (λr s'=>r=.ok (.ret (.bool true))/\OldK s₁.heap s'.heap/\s'.os=s₁.os/\rL s'.gens) s₁:=by
 have rv:=yH hi;have WD:=hi.length;have core:∀H:Hp,Only H->jV K H a (ns.map V.int)->sJ P w H s₁.heap->(∀b,H b≠none->b=a)->(H a≠none->K.lookup a=none)->
   codeAny (model P w) callerA (.call (.ref fa) ⟨[.ref a],[]⟩) (λr s'=>r=.ok (.ret (.bool true))/\OldK s₁.heap s'.heap/\s'.os=s₁.os/\rL s'.gens) s₁:=by
  intro H hO hS hok hA hK;have ER:∀{b:aI}{o:Obj},s₁.heap.get? b=some o->H b=none->(zz s₁.heap H).get? b=some o:=λe n=>HJ e n
  have Sq:∀{b:aI}{o:Obj}{es:Array uP}{ep:Nat},s₁.heap.get? b=some o->o.data=.dict es ep->H b=none:=λ{b o es ep}e d=>by
   cases q:H b with
   |none=>rfl
   |some u=>
    have e':b=a:=hA b (by rw[q];simp)
    subst e';rw[ha]at e;cases e;have d':Data.seq vs.toArray _=Data.dict es ep:=d;cases d'
  have Vi:∀{b:aI}{m:Str->Option aB},s₁.heap.Ns b m->(zz s₁.heap H).Ns b m:=λ{b m}⟨o,es,ep,e,d,r⟩=>⟨o,es,ep,ER e (Sq e d),d,r⟩
  have Zf:K.In (zz s₁.heap H):=λb o e=>ER (KX b o e) (by
   cases q:H b with
   |none=>rfl
   |some u=>
    have e':b=a:=hA b (by rw[q];simp)
    subst e';rw[hK (by rw[q];simp)]at e;cases e)
  have hM:Mod K mg (zz s₁.heap H):=⟨Zf,Vi KP,⟨mb,Vi hb,hbb⟩,let⟨mc,h1,h2⟩:=WB;⟨mc,Vi h1,h2⟩⟩;have e0:Dp P w K mg (zz s₁.heap H) callerA [] s₁ H:=⟨rfl,hM,λb o e=>K6 e,Nat.le_of_eq (FN _ _),trivial,λb hb=>qQ7 (show b∈([]:List aI)from hb) (by simp),hok,.of_eq hg⟩
  refine nP ((F _ Zf (Vi KP)).run callerA [] s₁ H ⟨[.ref a],[]⟩ [.ref a] [.ref a] _ _ hr e0 (SG s₁ (.ref a)) (.cons rfl .nil) (zH H hO hS)) λr s' h=>?_
  cases r with
  |error e=>exact(WC H e s' h).elim
  |ok fl=>
   cases fl with
   |next=>exact gD h
   |brk=>exact gD h
   |cont=>exact gD h
   |ret u=>
    obtain⟨v,H',os,bare,un,WG,r',q⟩:=h;have q':v=.bl true:=q;subst q';obtain rfl:u=aB.bool true:=r';refine⟨rfl,OldK.of_keep λb o e=>?_,os,bare⟩
    cases q:H b with
    |none=>exact un.keep b o e q (by intro z;exact qQ7 (show b∈([]:List aI)from z) (by simp)) (by simp)
    |some u=>
     rcases hO b with z|⟨ob,xs,z⟩
     ·rw[q]at z;cases z
     ·have z2:=un.wj b ob _ z
      obtain⟨e1,_⟩:=hok b _ z;obtain⟨e2,_⟩:=WG b _ z2;rw[e]at e1;cases e1;exact e2
 cases hk:K.lookup a with
 |some o=>
  have e:=KX a o hk;rw[ha]at e;cases e;refine core (λ_=>none) (λ_=>.inl rfl) (.inr ⟨_,vs.toArray,_,hk,rfl,rfl,rfl,by rw[bD,WD];exact hl,by simpa using rv⟩) (λb u z=>by have z':(none:Option HO)=some u:=z;cases z') (λb z=>qQ7 rfl z) λz=>qQ7 rfl z
 |none=>
  refine core (λb=>if b=a then some (.FL { cls:=.type "list",data:=.seq vs.toArray } (.lst (ns.map V.int)))else none) (λb=>?_) (.inl (.inr ⟨{ cls:=.type "list",data:=.seq vs.toArray },qQ3 rfl⟩)) (λb u z=>?_) (λb z=>?_) λ_=>hk
  ·by_cases hb:b=a
   ·exact .inr ⟨_,_,qQ3 hb⟩
   ·exact .inl (qQ2 hb)
  ·by_cases hb:b=a
   ·have z':=(qQ3 hb).symm.trans z
    cases z';subst hb;exact⟨ha,by rw[aj];exact hl,vs,_,rv,ha⟩
   ·have z':=(qQ2 hb).symm.trans z
    cases z'
  ·by_cases hb:b=a
   ·exact hb
   ·exact qQ7 (qQ2 hb) z
theorem Lz{l:PySem.W.OpenLaw}{n k:Nat}{q:bC}{loose:List Str}{XP:(Str->Option aB)->cR->Prop}{YP:bY->cR->Prop}{d:DefRec}{K:zq->ao}{CX:bY->Hw}{sp:bY->Sp}
  (hn:l.most=some n)(Sg:n<=sizeLine)(SF:d.params.defaults=[])(hr:eE k callerA)
  (hY:∀(w:bY)(h:cR),YP w h->(K w.params).In h)
  (F:∀(w:bY)(mg:Str->Option aB)(fa:aI)(h:cR),(K w.params).In h->h.Ns mainGlobals mg->mg d.name=some (.ref fa)->
   ∃fd:fe,(∀(s:aH)(u:aB),BindsTo s fd ⟨[u],[]⟩ [(x,u)])/\
    ∀base:cR,(K w.params).In base->base.Ns mainGlobals mg->fY l.prog w (K w.params) mg base (CX w) k fa fd [x] (sp w))
  (zH:∀(w:bY)(H:Hp)(a:aI)(ns:List Int),ns.length<=n->Only H->jV (K w.params) H a (ns.map V.int)->sp w [.ref a] H (λv _=>v=.bl true) λ_ _ _=>False)
  (WC:∀(w:bY)(H:Hp)(s:aH)(e:aB)(s':aH),CX w [] H s (λ_ _ _=>False) e s'->False) :
  PySem.W.WalkO q loose XP YP l.row.toRowW d [] (λf vs=>PySem.call f vs):=by
 refine Ze.Bd hn SF λw s₀ s₁ mg mb fa o pm cd doc a vs ns G Y ho hd nQ KN Py hints hlen hg=>?_
 have KX:=hY w _ Y;obtain⟨fd,hb,hF⟩:=F w mg fa _ KX G.T.g KN;exact Ie KX G.T.g G.T.b G.T.builtins G.T.nolimit hg Py hints (bZ hlen Sg) hr hF hb (λH hO hS=>zH w H a ns hlen hO hS) λH e s'=>WC w H s₁ e s'
def inClass(s:fH)(j:Nat):fH:=match s with
 | .ClassDef _ _ _ body _ _ _ _ _ _ _=>body.getD j (.Pass ⟨0,0,0,0⟩)
 |_=>.Pass ⟨0,0,0,0⟩
def oy(s:fH):Arguments:=match s with
 | .FunctionDef _ a _ _ _ _ _ _ _ _=>a
 |_=>{ posonlyargs:=[],args:=[],vararg:=none,kwonlyargs:=[],kw_defaults:=[],kwarg:=none,defaults:=[] }
def dq(s:fH):List fH:=match s with
 | .FunctionDef _ _ b _ _ _ _ _ _ _=>b
 |_=>[]
def a_(s:fH):kz:=match s with
 | .FunctionDef _ _ _ _ _ _ sc _ _ _=>sc
 |_=>{ kind:=.function,names:=[],isGenerator:=false,isCoroutine:=false }
abbrev iP:Hw:=λ_ _ _ _ _ _=>False
abbrev E0:XK:=λ_ _ _=>False
theorem EV:wz iP X E0:=λ_ _ _ _ _ _ _ h=>h.elim
structure mR(K:ao)(x qual:Str)(st:fH)(f:aI)(fd:fe):Prop where
 ex:∃(oc:aB)(od:Option aI)(kV doc pm:aB)(an:Option aI)(eZ ct:aB)(H_:Array (Option aB)),
  fd=iu x qual (oy st) (dq st) (a_ st) .none kV doc pm an eZ ct/\K.lookup f=some ⟨oc,od,.func fd,H_⟩/\lY K eZ qual=true
 kp:hX K (.ref f)=true
section
variable{P:bC}{w:bY}{K:ao}{mg:Str->Option aB}{base:cR}
theorem mR.ok{N: List Str}{k:Nat}{sp:Sp}(F:mR K x qual st f fd)(S:cY N ps (a_ st))(len:∀vs H Q E,sp vs H Q E->vs.length=ps.length)
  (Ia:∀(eZ:aB)(A:dg)(outer:List Env)(s:aH)(H:Hp)(vs:List V)(Q:VK)(E:XK),eE k (A.deeper (envOfC qual (a_ st) s.heap.objs.size f eZ))->sp vs H Q E->
   ∃t,EE (jq iP P w K mg base N qual (a_ st) f eZ A outer s H E).rP (dq st) t/\t { nx:=λ_ H'=>Q .non H',rt:=Q } (start N vs) H):fY P w K mg base iP (k+1) f fd ps sp:=by
 obtain⟨oc,od,kV,doc,pm,an,eZ,ct,H_,rfl,lk,nQ⟩:=F.ex;refine Sr lk nQ S len λA outer s H vs Q E hr zH=>?_
 obtain⟨t,h,q⟩:=Ia eZ A outer s H vs Q E hr zH;exact⟨t,h.rP,q⟩
theorem mR.binds(F:mR K x qual st f fd)
  (h:∀(kV doc pm:aB)(an:Option aI)(eZ ct:aB)(us:List aB),us.length=ps.length->bindArgs (iu x qual (oy st) (dq st) (a_ st) .none kV doc pm an eZ ct) ⟨us,[]⟩=pure (ps.zip us)):Binds K fd ps []:=by
 obtain⟨oc,od,kV,doc,pm,an,eZ,ct,H_,rfl,lk,nQ⟩:=F.ex;exact .all (h kV doc pm an eZ ct)
theorem Ig{oc:aB}{od an:Option aI}{H_:Array (Option aB)}{kV doc pm eZ ct:aB}(l:K.lookup f=some ⟨oc,od,.func (iu x qual (oy st) (dq st) (a_ st) .none kV doc pm an eZ ct),H_⟩)
  (c:lY K eZ qual=true)(k:hX K (.ref f)=true):mR K x qual st f (iu x qual (oy st) (dq st) (a_ st) .none kV doc pm an eZ ct):=⟨⟨oc,od,kV,doc,pm,an,eZ,ct,H_,rfl,l,c⟩,k⟩
end
section
variable{X:Cx}
theorem pv(i:Nat)(hN:X.N[i]?=some x:=by rfl)(hv:AW X.env.scope x:=by first|exact aY rfl|exact b_ (aY rfl)|exact b_ (b_ rfl))(hd:(x==("__debug__":Str))=false:=by decide)
  (nQ:(x==("__classdict__":Str))=false:=by decide):PE X (.Name x pos) (RQ i):=jN hN hv hd nQ
end
theorem Pz{A B:Prop}(h:B):if false=true then A else B:=by
 rw[qQ2 cq];exact h
theorem PB{A B:Prop}(h:A):if true=true then A else B:=by
 rw[qQ3 rfl];exact h
def dC(H H':Hp):Prop:=∀b o,H b=some o->H' b=some o
theorem dC.refl(H:Hp):dC H H:=λ_ _ h=>h
theorem dC.trans{H1 H2: Hp}(a:dC H H1)(b:dC H1 H2):dC H H2:=λc o h=>b c o (a c o h)
theorem dC.free(e:dC H H'){l:aI}(h:H' l=Option.none):H l=Option.none:=by
 cases q:H l with
 |none=>rfl
 |some o=>
  rw[e l o q]at h;cases h
theorem dC.seq{xs:List V}(e:dC H H')(h:jV K H a xs):jV K H' a xs:=by
 rcases h with(h|⟨o,h⟩)|h
 ·exact .inl (.inl (e _ _ h))
 ·exact .inl (.inr ⟨o,e _ _ h⟩)
 ·exact .inr h
section
variable{κ:Type}[DecidableEq κ]
def g_(kvs:List (κ×V))(k:κ):Option V:=(kvs.find? λkv=>decide (kv.1=k)).map (·.2)
def putK(kvs:List (κ×V))(k:κ)(v:V):List (κ×V):=
 if(kvs.any λkv=>decide (kv.1=k))=true then kvs.map (λkv=>if kv.1=k then(kv.1,v)else kv)else kvs ++ [(k,v)]
theorem ml{p:κ×V}{r:List (κ×V)}{k:κ}(e:p.1=k):g_ (p::r) k=some p.2:=by simp[g_,dA,e]
theorem j5{p:κ×V}{r:List (κ×V)}{k:κ}(e:¬p.1=k):g_ (p::r) k=g_ r k:=by simp[g_,dA,e]
theorem wD(k:κ):∀kvs:List (κ×V),(kvs.any λkv=>decide (kv.1=k))=(g_ kvs k).isSome
 | []=>rfl
 |p::r=>by
  rw[gx];by_cases e:p.1=k
  ·simp only[ml e,qQ1 e,Bool.true_or,Option.isSome_some]
  ·rw[j5 e,qQ0 e,sP];exact wD k r
theorem k7(kvs:List (κ×V))(k:κ)(v:V):(putK kvs k v).length<=kvs.length+1:=by
 unfold putK
 split
 ·rw[aj];omega
 ·rw[bq,bF,cp];omega
theorem pX{kvs:List (κ×V)}{k:κ}(v:V)(h:g_ kvs k=none):putK kvs k v=kvs ++ [(k,v)]:=by
 unfold putK;rw[wD,h];exact qQ2 (by decide)
theorem rO.nR{u:Option aB}(r:rO o u):o.isSome=u.isSome:=by
 cases o with
 |none=>cases u with
  |none=>rfl
  |some _=>exact(show False from r).elim
 |some _=>cases u with
  |none=>exact(show False from r).elim
  |some _=>rfl
theorem rO.getD{u:Option aB}{d:V}{d':aB}(r:rO o u)(rd:RelV d d'):RelV (o.getD d) (u.getD d'):=by
 cases o with
 |none=>cases u with
  |none=>exact rd
  |some _=>exact(show False from r).elim
 |some _=>cases u with
  |none=>exact(show False from r).elim
  |some _=>exact r
theorem KV.val{kvs:List (κ×V)}{vs:List (κ×aB)}(r:KV kvs vs)(k:κ):rO (g_ kvs k) (valueAt vs k):=by
 unfold KV at r
 induction r with
 |nil=>exact fG
 | @cons p q ps qs h t ih=>
  obtain⟨h1,h2⟩:=h;by_cases e:p.1=k
  ·have e':q.1=k:=h1.symm.trans e
   have b:valueAt (q::qs) k=some q.2:=by simp[valueAt,dA,e']
   rw[ml e,b];exact h2
  ·have e':¬q.1=k:=λz=>e (h1.trans z)
   have b:valueAt (q::qs) k=valueAt qs k:=by simp[valueAt,dA,e']
   rw[j5 e,b];exact ih
theorem KV.any{kvs:List (κ×V)}{vs:List (κ×aB)}(r:KV kvs vs)(k:κ):(kvs.any λkv=>decide (kv.1=k))=vs.any λkv=>decide (kv.1=k):=by
 unfold KV at r
 induction r with
 |nil=>rfl
 |cons h t ih=>rw[gx,gx,ih,h.1]
theorem KV.repl{kvs:List (κ×V)}{vs:List (κ×aB)}(r:KV kvs vs)(k:κ)(ry:RelV y u):
  KV (kvs.map λkv=>if kv.1=k then(kv.1,y)else kv) (vs.map λkv=>if kv.1=k then(kv.1,u)else kv):=by
 unfold KV at r ⊢
 induction r with
 |nil=>exact .nil
 | @cons p q ps qs h t ih=>
  rw[aD,aD];refine .cons ?_ ih
  obtain⟨h1,h2⟩:=h;by_cases e:p.1=k
  ·rw[qQ3 e,qQ3 (h1.symm.trans e)];exact⟨h1,ry⟩
  ·rw[qQ2 e,qQ2 (λz=>e (h1.trans z))];exact⟨h1,h2⟩
theorem KV.put{kvs:List (κ×V)}{vs:List (κ×aB)}(r:KV kvs vs)(k:κ)(ry:RelV y u):KV (putK kvs k y) (stored vs k u):=by
 unfold putK stored;rw[r.any k];by_cases e:(vs.any λkv=>decide (kv.1=k))=true
 ·rw[qQ3 e,qQ3 e];exact r.repl k ry
 ·rw[qQ2 e,qQ2 e];exact CQ.snoc r ⟨rfl,ry⟩
theorem KV.length{kvs:List (κ×V)}{vs:List (κ×aB)}(r:KV kvs vs):kvs.length=vs.length:=rK r
end
theorem pY{k:Key}(r:RelV (kV k) u):(eY P w).is k u=true:=by
 cases k with
 |inl i=>obtain⟨t,e⟩:=(show ∃t,u=AF i t from r);subst e;exact A4 P w i t
 |inr x=>obtain⟨t,e⟩:=(show ∃t,u=AG x t from r);subst e;exact pR P w x t
theorem yI:∀{ks:List Key}{us:List aB},dS (ks.map kV) us->ItemsAre (eY P w) ks us
 | [],_,r=>by rw[eJ]at r;cases r;exact .nil
 |k::ks,_,r=>by
  rw[aD]at r;cases r with
  |cons h t=>exact .cons (pY h) (yI t)
abbrev KT(H:Hp):List (List Key×V)->List (List Key×aI×aB)->Prop:=CQ λp q=>p.1=q.1/\H q.2.1=some (.tup (p.1.map kV))/\RelV p.2 q.2.2
theorem KT.val(r:KT H kvs xs)(k:List Key):rO (g_ kvs k) ((atKey xs k).map (·.2)):=by
 induction r with
 |nil=>exact fG
 | @cons p q ps qs h t ih=>
  obtain⟨h1,_,h2⟩:=h;by_cases e:p.1=k
  ·have e':q.1=k:=h1.symm.trans e
   have b:atKey (q::qs) k=some q.2:=by simp[atKey,dA,e']
   rw[ml e,b];exact h2
  ·have e':¬q.1=k:=λz=>e (h1.trans z)
   have b:atKey (q::qs) k=atKey qs k:=by simp[atKey,dA,e']
   rw[j5 e,b];exact ih
theorem KT.repl(r:KT H kvs xs)(k:List Key)(ry:RelV y u):
  KT H (kvs.map λkv=>if kv.1=k then(kv.1,y)else kv) (xs.map (putAt k u)):=by
 induction r with
 |nil=>exact .nil
 | @cons p q ps qs h t ih=>
  rw[aD,aD];refine .cons ?_ ih
  obtain⟨h1,h2,h3⟩:=h;unfold putAt;by_cases e:p.1=k
  ·rw[qQ3 e,qQ3 (h1.symm.trans e)];exact⟨h1,h2,ry⟩
  ·rw[qQ2 e,qQ2 (λz=>e (h1.trans z))];exact⟨h1,h2,h3⟩
theorem KT.put(r:KT H kvs xs)(k:List Key)(hb:H b=some (.tup (k.map kV)))(ry:RelV y u):
  KT H (putK kvs k y) (storedH xs k b u):=by
 have e:(kvs.any λkv=>decide (kv.1=k))=(atKey xs k).isSome:=by
  rw[wD,(r.val k).nR,ua]
 unfold putK storedH;rw[e];by_cases q:(atKey xs k).isSome=true
 ·rw[qQ3 q,qQ3 q];exact r.repl k ry
 ·rw[qQ2 q,qQ2 q];exact CQ.snoc r ⟨rfl,hb,ry⟩
theorem KT.keeps(r:KT H kvs xs)(ht:∀b ys,H b=some (.tup ys)->H' b=some (.tup ys)):KT H' kvs xs:=
 CQ.OV r λ_ _ z=>⟨z.1,ht _ _ z.2.1,z.2.2⟩
section
variable{P:bC}{w:bY}{H:Hp}{h:cR}{a:aI}
theorem NR{u:HO}(ok:sJ P w H h)(e:Rd H a u):hZ P w H h a u:=e.ok ok
theorem wF{kvs:List (Key×V)}(ok:sJ P w H h)(e:Rd H a (.dK kvs)):kvs.length<=sizeLine/\(a==sysModules)=false/\∃vs,KV kvs vs/\h.DictOf (eY P w) a vs:=
 show hZ P w H h a (.dK kvs)from NR ok e
theorem Ih{kvs:List (Key×V)}(ok:sJ P w H h)(e:H a=some (.dK kvs)):kvs.length<=sizeLine/\(a==sysModules)=false/\∃vs,KV kvs vs/\h.DictOf (eY P w) a vs:=wF ok (.inl e)
theorem um{ks:List Key}(ok:sJ P w H h)(e:H a=some (.tup (ks.map kV))):(tupleKind (eY P w)).is h ks a:=by
 obtain⟨_,its,r,o,h1,h2,n,h3⟩:=(show hZ P w H h a (.tup (ks.map kV))from ok a _ e)
 exact⟨o,its.toArray,n,h1,h2,h3,by simpa using yI r⟩
theorem wG(ok:sJ P w H h)(e:Rd H a (.dT kvs)):kvs.length<=sizeLine/\(a==sysModules)=false/\
  ∃xs,KT H kvs xs/\h.DictOfH (tupleKind (eY P w)) a xs:=by
 obtain⟨z,y,xs,r,o,es,ep,h1,h2,h3,h4,h5⟩:=(show hZ P w H h a (.dT kvs)from NR ok e)
 refine⟨z,y,xs,r,o,es,ep,h1,h2,h3,h4,λx hx=>?_,h5⟩
 have all:∀{l:List (List Key×V)}{m:List (List Key×aI×aB)},KT H l m->∀x∈m,(tupleKind (eY P w)).is h x.1 x.2.1:=by
  intro l m q
  induction q with
  |nil=>intro x hx;exact nomatch hx
  | @cons p q ps qs hq t ih=>
   intro x hx;rcases av.mp hx with e|hx
   ·subst e
    exact um ok (by rw[<-hq.1];exact hq.2.1)
   ·exact ih x hx
 exact all r x hx
theorem SJ(ok:sJ P w H h)(e:H a=some (.dT kvs)):kvs.length<=sizeLine/\(a==sysModules)=false/\
  ∃xs,KT H kvs xs/\h.DictOfH (tupleKind (eY P w)) a xs:=wG ok (.inl e)
end
def nS(H:Hp)(a:aI)(y:V)(r:Option V):Prop:=
 (∃kvs k,Rd H a (.dK kvs)/\y=kV k/\r=g_ kvs k)\/∃kvs k b,Rd H a (.dT kvs)/\y=.ref b/\H b=some (.tup (k.map kV))/\r=g_ kvs k
def wH(H:Hp)(a:aI)(y v:V)(H':Hp):Prop:=
 (∃kvs k,H a=some (.dK kvs)/\y=kV k/\kvs.length<sizeLine/\H'=upd H a (.dK (putK kvs k v)))\/
 ∃kvs k b,H a=some (.dT kvs)/\y=.ref b/\H b=some (.tup (k.map kV))/\kvs.length<sizeLine/\H'=upd H a (.dT (putK kvs k v))
theorem nS.k{kvs:List (Key×V)}{k:Key}(e:H a=some (.dK kvs)):nS H a (kV k) (g_ kvs k):=.inl ⟨kvs,k,.inl e,rfl,rfl⟩
theorem nS.t{k:List Key}(e:H a=some (.dT kvs))(eb:H b=some (.tup (k.map kV))):nS H a (.ref b) (g_ kvs k):=.inr ⟨kvs,k,b,.inl e,rfl,eb,rfl⟩
theorem wH.k{kvs:List (Key×V)}{k:Key}{v:V}(e:H a=some (.dK kvs))(hl:kvs.length<sizeLine):wH H a (kV k) v (upd H a (.dK (putK kvs k v))):=.inl ⟨kvs,k,e,rfl,hl,rfl⟩
theorem wH.t{k:List Key}{v:V}(e:H a=some (.dT kvs))(eb:H b=some (.tup (k.map kV)))(hl:kvs.length<sizeLine):
  wH H a (.ref b) v (upd H a (.dT (putK kvs k v))):=.inr ⟨kvs,k,b,e,rfl,eb,hl,rfl⟩
section
variable{X:Cx}{pins:List (aI×Obj)}{σ:St}{H:Hp}{s:aH}{a:aI}{y v:V}{u r:aB}{o:Option V}{A:dg}{E:aB->aH->Prop}
theorem Inv.big(I:Inv X pins σ H s):sysModules<s.heap.objs.size:=by
 have h:mainGlobals<s.heap.objs.size:=(I.mod.glob.keeps I.bk).lt;exact vA (by decide) h
theorem F3(hu:A.units+1<cLine)(I:Inv X pins σ H s)(g:nS H a y (some v))(ry:RelV y u)(h:∀w' s',Inv X pins σ H s'->RelV v w'->Q w' s'):
  wpAny (model X.prog X.w) A (getItem (.ref a) u) Q E s:=by
 rcases g with⟨kvs,k,e,ey,l⟩|⟨kvs,k,b,e,ey,eb,l⟩
 ·subst ey
  obtain⟨z,hd,vs,rel,dd⟩:=wF I.hok e;obtain⟨w',hw,ub⟩:=rO.some_of (v:=v) (o:=valueAt vs k) (by rw[l];exact rel.val k)
  exact wpAny_getItem_of (pY ry) dd.mapOf hw (h w' _ (I.tok _) ub)
 ·subst ey
  cases(show u=cU b from ry)
  obtain⟨z,hd,xs,rel,dd⟩:=wG I.hok e;obtain⟨w',hw,ub⟩:=rO.some_of (v:=v) (o:=(atKey xs k).map (·.2)) (by rw[l];exact rel.val k)
  obtain⟨p,hp,hp2⟩:=AJ.mp hw;refine wpAny_getItem_heap (kF hu) (um I.hok eb) dd hp ?_
  rw[hp2];exact h w' _ (I.tok _) ub
theorem WH(hu:A.units+1<cLine)(I:Inv X pins σ H s)(g:nS H a y o)(ry:RelV y u)(h:∀s',Inv X pins σ H s'->Q (.bool o.isSome) s'):
  wpAny (model X.prog X.w) A (compareOp .In u (.ref a)) Q E s:=by
 rcases g with⟨kvs,k,e,ey,l⟩|⟨kvs,k,b,e,ey,eb,l⟩
 ·subst ey
  obtain⟨z,hd,vs,rel,dd⟩:=wF I.hok e;refine wpAny_in_of (pY ry) hd dd.mapOf ?_
  rw[<-(rel.val k).nR,<-l];exact h _ (I.tok _)
 ·subst ey
  cases(show u=cU b from ry)
  obtain⟨z,hd,xs,rel,dd⟩:=wG I.hok e;refine wpAny_in_heap (kF hu) (um I.hok eb) hd dd ?_
  have q:=(rel.val k).nR;rw[ua]at q;rw[<-q,<-l];exact h _ (I.tok _)
theorem LC(hu:A.units+1<cLine)(I:Inv X pins σ H s)(g:nS H a y o)(ry:RelV y u)(h:∀s',Inv X pins σ H s'->Q (.bool (!o.isSome)) s'):
  wpAny (model X.prog X.w) A (compareOp .NotIn u (.ref a)) Q E s:=by
 rcases g with⟨kvs,k,e,ey,l⟩|⟨kvs,k,b,e,ey,eb,l⟩
 ·subst ey
  obtain⟨z,hd,vs,rel,dd⟩:=wF I.hok e;refine wpAny_notIn_of (pY ry) hd dd.mapOf ?_
  rw[<-(rel.val k).nR,<-l];exact h _ (I.tok _)
 ·subst ey
  cases(show u=cU b from ry)
  obtain⟨z,hd,xs,rel,dd⟩:=wG I.hok e;refine wpAny_notIn_heap (kF hu) (um I.hok eb) hd dd ?_
  have q:=(rel.val k).nR;rw[ua]at q;rw[<-q,<-l];exact h _ (I.tok _)
theorem vV{t':Nat}{ob:HO}(I:Inv X pins σ H s)(mu:RJ (H a))(hs:gY a s.heap h')(he:∃q,h'.get? a=some q)(new:hZ X.prog X.w (upd H a ob) h' a ob):
  Inv X pins σ (upd H a ob) { s with heap:=h',toks:=t' }:=
 I.write (x:=a) (e:=a) mu (.inl rfl) (λb q hb z=>(hs.2 b hb).trans z) he new
theorem zL{kvs:List (Key×V)}{vs:List (Key×aB)}(z:kvs.length<=sizeLine)(hd:(a==sysModules)=false)(rel:KV kvs vs)(dd:h'.DictOf (eY P w) a vs):
  hZ P w H' h' a (.dK kvs):=⟨z,hd,vs,rel,dd⟩
theorem F4{Q:Unit->aH->Prop}(hu:A.units+1<cLine)(I:Inv X pins σ H s)(g:wH H a y v H')(ry:RelV y u)(rv:RelV v r)(h:∀s',Inv X pins σ H' s'->Q () s'):
  wpAny (model X.prog X.w) A (setItem (.ref a) u r) Q E s:=by
 rcases g with⟨kvs,k,e,ey,l,eH⟩|⟨kvs,k,b,e,ey,eb,l,eH⟩
 ·subst ey eH
  obtain⟨z,hd,vs,rel,dd⟩:=Ih I.hok e;have hz:vs.length<=sizeLine:=by rw[<-rel.length];exact z
  have hl:(putK kvs k v).length<=sizeLine:=by have:=k7 kvs k v;omega
  refine wpAny_setItem_pairs (hsz:=hz) (pY ry) dd λh' Hz hs=>h _ ?_
  have he:∃q,h'.get? a=some q:=let⟨q,_,_,hq,_⟩:=Hz;⟨q,hq⟩;exact vV I (by rw[e];exact fG) hs he (zL hl hd (rel.put k rv) Hz)
 ·subst ey eH
  cases(show u=cU b from ry)
  obtain⟨z,hd,xs,rel,dd⟩:=SJ I.hok e;have hz:xs.length<=sizeLine:=by rw[<-rK rel];exact z
  have hl:(putK kvs k v).length<=sizeLine:=by have:=k7 kvs k v;omega
  refine wpAny_setItem_heap (hsz:=hz) (kF hu) (um I.hok eb) dd λh' Hz hs=>h _ ?_
  obtain⟨q,es,ep,hq,h2,h3,h4,_,h5⟩:=Hz;refine vV I (by rw[e];exact fG) hs ⟨q,hq⟩ ⟨hl,hd,_,(rel.put k eb rv).keeps λc ys ec=>?_,q,es,ep,hq,h2,h3,h4,h5⟩
  rw[aN (RH ec e (λz=>nomatch z))]
  exact ec
end
section
variable{X:Cx}{pins:List (aI×Obj)}{σ:St}{H:Hp}{s:aH}{a:aI}{kvs:List (Key×V)}{k:Key}{u:aB}{A:dg}{E:aB->aH->Prop}
end
def F5(i:bP):Prop:=∀ov iv,subscripted i false ov iv=operate [ov,iv] (getItem ov iv)
theorem EW{prog:bC}{A:dg}{E:aB->aH->Prop}{env:Env}{value slice:bP}{T id:String}
  (hl:typeLookup (.type T) "__getitem__"=pure (some (.builtin id)))(hs:F5 slice)
  (h:wpAny (model prog w) A (eval value env) (λo s₁=>wpAny (model prog w) A (eval slice env) (λi s₂=>s₂.TypeIs o T/\wpAny (model prog w) A (getItem o i) Q E s₂) E s₁) E s):
  wpAny (model prog w) A (eval (.Subscript value slice pos) env) Q E s:=by
 refine CV (gQ h (λo s₁ h₁=>gQ h₁ (λi s₂ h₂=>?_) λ_ _ x=>x) λ_ _ x=>x)
 obtain⟨hT,h₂⟩:=h₂;unfold subscriptTail;refine ax ?_
 rw[getitemInPython_of_ne hT.not_modules];refine ax (A1 hT hl ?_)
 have fin:wpAny (model prog w) A (subscripted slice false o i) (λr s₃=>wpAny (model prog w) A (letTemporaryGo value o r >>= λ_=>pure r) Q E s₃) E s₂:=by
  rw[hs o i];exact wpAny_operating (gQ h₂ (λr s₃ h₃=>ax (wpAny_letTemporaryGo (a9 h₃))) λ_ _ x=>x)
 first
  |exact a9 (ax fin)
  |exact ax (a9 (ax fin))
  |exact ax fin
theorem Be{σ:St}(I:Inv X pins σ H s)(g:nS H a y o):s.TypeIs (.ref a) "dict":=by
 rcases g with⟨kvs,k,e,_,_⟩|⟨kvs,k,b,e,_,_,_⟩
 ·obtain⟨_,_,vs,_,dd⟩:=wF I.hok e
  exact dd.typeIs
 ·obtain⟨_,_,xs,_,dd⟩:=wG I.hok e
  exact dd.typeIs
def SK(td ty:TE):TE:=λσ H Q=>td σ H λx H1=>ty σ H1 λy H2=>∃a v,x=.ref a/\nS H2 a y (some v)/\Q v H2
def WK(ty td:TE):TE:=λσ H Q=>ty σ H λy H1=>td σ H1 λx H2=>∃a o,x=.ref a/\nS H2 a y o/\Q (.bl o.isSome) H2
def LD(ty td:TE):TE:=λσ H Q=>ty σ H λy H1=>td σ H1 λx H2=>∃a o,x=.ref a/\nS H2 a y o/\Q (.bl (!o.isSome)) H2
def SM(td ty tv:TE):TS:=λD σ H=>tv σ H λv H1=>td σ H1 λx H2=>ty σ H2 λy H3=>∃a H4,x=.ref a/\wH H3 a y v H4/\D.nx σ H4
section
variable{X:Cx}{o i e value:bP}{pos pos' Wr:Pos}{td ty tv:TE}
theorem EX(hu:X.A.units+1<cLine)(ho:PE X o td)(hi:PE X i ty)(hs:F5 i):PE X (.Subscript o i pos) (SK td ty):=by
 intro pins s σ H Q I h;refine EW xU.lookup hs (f7 (ho pins s σ H _ I h) λu s1 ⟨x,H1,I1,rx,q1⟩=>f7 (hi pins s1 σ H1 _ I1 q1) λiv s2 ⟨y,H2,I2,ry,a,v,ex,g,q2⟩=>?_)
 subst ex;obtain rfl:u=cU a:=rx;exact⟨Be I2 g,F3 hu I2 g ry λw' s3 I3 ub=>⟨v,H2,I3,ub,q2⟩⟩
theorem Dw(hu:X.A.units+1<cLine)(hi:PE X i ty)(ho:PE X o td):PC X .In i o (WK ty td):=by
 intro pins s σ H Q I h;refine f7 (hi pins s σ H _ I h) λiv s1 ⟨y,H1,I1,ry,q1⟩=>f7 (ho pins s1 σ H1 _ I1 q1) λu s2 ⟨x,H2,I2,rx,a,ov,ex,g,q2⟩=>?_
 subst ex;obtain rfl:u=cU a:=rx;exact WH hu I2 g ry λs3 I3=>⟨.bl ov.isSome,H2,I3,rfl,q2⟩
theorem yJ(hu:X.A.units+1<cLine)(hi:PE X i ty)(ho:PE X o td):PC X .NotIn i o (LD ty td):=by
 intro pins s σ H Q I h;refine f7 (hi pins s σ H _ I h) λiv s1 ⟨y,H1,I1,ry,q1⟩=>f7 (ho pins s1 σ H1 _ I1 q1) λu s2 ⟨x,H2,I2,rx,a,ov,ex,g,q2⟩=>?_
 subst ex;obtain rfl:u=cU a:=rx;exact LC hu I2 g ry λs3 I3=>⟨.bl (!ov.isSome),H2,I3,rfl,q2⟩
theorem tj(hu:X.A.units+1<cLine)(ho:PE X o td)(hi:PE X i ty)(hv:PE X value tv)(hs:swapsWith value (some (.Subscript o i pos')) pos.line X.env=pure false):
  PS X (.Assign [.Subscript o i pos'] value pos) (SM td ty tv):=by
 intro pins s σ H D I h;refine wpAny_Assign_Subscript (f7 (hv pins s σ H _ I h) λr s1 ⟨v,H1,I1,rv,q1⟩=>f7 (ho pins s1 σ H1 _ I1 q1) λu s2 ⟨x,H2,I2,rx,q2⟩=>f7 (hi pins s2 σ H2 _ I2 q2) λiv s3 ⟨y,H3,I3,ry,a,H4,ex,g,q3⟩=>?_) hs
 subst ex;obtain rfl:u=cU a:=rx;exact F4 hu I3 g ry rv λs4 I4=>⟨σ,H4,I4,q3⟩
end
theorem Bf(h:cR)(hb:sysModules<h.objs.size):hZ P w H (h.push { cls:=.type "dict",data:=.dict #[] }) h.objs.size (.dK []):=
 ⟨aV _,beq_eq_false_iff_ne.mpr (bV (aU hb)),[],.nil,cR.DictOf.new h⟩
theorem Ii(h:cR)(hb:sysModules<h.objs.size):hZ P w H (h.push { cls:=.type "dict",data:=.dict #[] }) h.objs.size (.dT []):=
 ⟨aV _,beq_eq_false_iff_ne.mpr (bV (aU hb)),[],.nil,_,#[],0,a8 _ rfl,⟨rfl,rfl,rfl⟩,rfl,rfl,mW⟩
def PD:TE:=λ_ H Q=>∀p,H p=none->Q (.ref p) (upd H p (.dK []))
def PF:TE:=λ_ H Q=>∀p,H p=none->Q (.ref p) (upd H p (.dT []))
section
variable{X:Cx}{pos:Pos}
theorem pZ:PE X (.Dict [] [] pos) PD:=λpins s σ H Q I h=>
 wpAny_Dict_empty ⟨.ref s.heap.objs.size,_,I.laid (a:=s.heap.objs.size) (o:=.dK []) (t':=s.toks) (λ_ _ q=>ay _ q) (aA _) (Bf s.heap I.big),rfl,h _ (I.hok.fresh (aA _))⟩
theorem Ij:PE X (.Dict [] [] pos) PF:=λpins s σ H Q I h=>
 wpAny_Dict_empty ⟨.ref s.heap.objs.size,_,I.laid (a:=s.heap.objs.size) (o:=.dT []) (t':=s.toks) (λ_ _ q=>ay _ q) (aA _) (Ii s.heap I.big),rfl,h _ (I.hok.fresh (aA _))⟩
end
def zM:List (TE×TE)->St->Hp->(List (V×V)->Hp->Prop)->Prop
 | [],_,H,Q=>Q [] H
 |(tk,tv)::r,σ,H,Q=>tk σ H λx H1=>tv σ H1 λy H2=>zM r σ H2 λps H3=>Q ((x,y)::ps) H3
abbrev VV:List (V×V)->List (aB×aB)->Prop:=CQ λp q=>RelV p.1 q.1/\RelV p.2 q.2
def SN(X:Cx)(pos:Pos)(keys:List (Option bP))(values:List bP)(F2:List (TE×TE)):Prop:=
 ∀(pins:List (aI×Obj))(s:aH)(σ:St)(H:Hp)(Q:List (V×V)->Hp->Prop),Inv X pins σ H s->zM F2 σ H Q->
  wpAny (model X.prog X.w) X.A (evalPairs (pairTrees keys values X.env pos)) (λvs s'=>∃ps H',Inv X pins σ H' s'/\VV ps vs/\Q ps H') X.xe s
theorem LJ:SN X pos [] [] []:=λpins s σ H Q I h=>pairTrees_nil_walk ⟨[],H,I,.nil,h⟩
theorem Ik{k v:bP}{ks:List (Option bP)}{vs:List bP}{tk tv:TE}(hk:PE X k tk)(hv:PE X v tv)(hr:SN X pos ks vs F2):
  SN X pos (some k::ks) (v::vs) ((tk,tv)::F2):=λpins s σ H Q I h=>
 pairTrees_cons_walk (f7 (hk pins s σ H _ I h) λu s1 ⟨x,H1,I1,rx,q1⟩=>f7 (hv pins s1 σ H1 _ I1 q1) λw2 s2 ⟨y,H2,I2,ry,q2⟩=>
  f7 (hr pins s2 σ H2 _ I2 q2) λws s3 ⟨ps,H3,I3,rel,q3⟩=>⟨(x,y)::ps,H3,I3,.cons ⟨rx,ry⟩ rel,q3⟩)
def p9(kvs more:List (Key×V)):List (Key×V):=more.foldl (λacc kv=>putK acc kv.1 kv.2) kvs
theorem KV.merge:∀{more:List (Key×V)}{rs:List (Key×aB)}{kvs:List (Key×V)}{vs:List (Key×aB)},KV more rs->KV kvs vs->KV (p9 kvs more) (merged vs rs):=by
 intro more rs kvs vs r;unfold KV at r
 induction r generalizing kvs vs with
 |nil=>intro q;exact q
 | @cons p q ps qs h t ih=>
  intro r0;have e:KV (putK kvs p.1 p.2) (stored vs q.1 q.2):=by
   have:=r0.put p.1 h.2;rw[<-h.1];exact this
  exact ih e
theorem rj:∀(more kvs:List (Key×V)),(p9 kvs more).length<=kvs.length+more.length
 | [],kvs=>by show kvs.length<=kvs.length+0;omega
 |p::r,kvs=>by
  have h1:=rj r (putK kvs p.1 p.2);have h2:=k7 kvs p.1 p.2
  show(p9 (putK kvs p.1 p.2) r).length<=_
  rw[bF];omega
theorem wI{P:bC}{w:bY}:∀{kvs:List (Key×V)}{ws:List (aB×aB)},VV (kvs.map λkv=>(kV kv.1,kv.2)) ws->∃rs,Carries (eY P w) ws rs/\KV kvs rs
 | [],_,r=>by rw[eJ]at r;cases r;exact⟨[],fG,.nil⟩
 |p::kvs,_,r=>by
  rw[aD]at r;cases r with
  | @cons a b as bs h t=>
   obtain⟨rs,c,q⟩:=wI (P:=P) (w:=w) t;obtain⟨b1,b2⟩:=b;exact⟨(p.1,b2)::rs,⟨pY h.1,rfl,c⟩,.cons ⟨rfl,h.2⟩ q⟩
def SQ(F2:List (TE×TE)):TE:=λσ H Q=>∀p,H p=none->zM F2 σ (upd H p (.dK [])) λps H2=>H2 p=some (.dK [])/\∃kvs:List (Key×V),ps=kvs.map (λkv=>(kV kv.1,kv.2))/\kvs.length<=15/\Q (.ref p) (upd H2 p (.dK (p9 [] kvs)))
theorem LK{keys:List (Option bP)}{values:List bP}(h:SN X pos keys values F2)(pW:keys.all (·.isSome)=true)(hl:keys.length=values.length)(h0:keys≠[])
  (Zg:keys.length<=15):PE X (.Dict keys values pos) (SQ F2):=by
 intro pins s σ H Q I q;have hn:=I.hok.fresh (aA s.heap.objs.size);have I1:=I.laid (a:=s.heap.objs.size) (o:=.dK []) (h':=s.heap.push { cls:=.type "dict",data:=.dict #[] }) (t':=s.toks) (λ_ _ q=>ay _ q) (aA _) (Bf s.heap I.big)
 refine wpAny_Dict_walk (knd:=eY X.prog X.w) pW hl h0 Zg (f7 (h pins _ σ _ _ I1 (q _ hn)) λws s2 ⟨ps,H2,I2,rel,e,kvs,ep,lk,q2⟩=>?_)
 subst ep;obtain⟨rs,c,rk⟩:=wI (P:=X.prog) (w:=X.w) rel;obtain⟨z,hd,vs0,r0,dd⟩:=Ih I2.hok e;cases r0;refine⟨rs,c,dd,λh' Hz hs=>⟨.ref s.heap.objs.size,_,?_,rfl,q2⟩⟩
 have hz:(p9 [] kvs).length<=sizeLine:=by
  have h1:=rj kvs [];rw[cp]at h1;rw[d_];omega
 have he:∃q,h'.get? s.heap.objs.size=some q:=let⟨q,_,_,hq,_⟩:=Hz;⟨q,hq⟩;exact vV I2 (by rw[e];exact fG) hs he (zL hz hd (rk.merge .nil) Hz)
structure M2(X:Cx)(o:bP)(m:Str)(apos:Pos)(e f:bP)(ot:Pos):Prop where
 base:attributeBase o m X.env (eval o X.env)=eval o X.env
 few:((backTo ot (starEach [e,f] X.env)).all (λx=>!x.1)&&(backToKw ot (keywordEach [] X.env)).all (λx=>x.1.isSome)
  && decide (([e,f]:List bP).length+([]:List fV).length+(if([]:List fV).isEmpty then 0 else 1)<30))=true
 line:(apos.endLine==ot.line)=true
 trees:backTo ot (starEach [e,f] X.env)=[(false,eval e X.env),(false,eval f X.env)]
def WL(H:Hp)(a:aI):Prop:=(∃kvs,Rd H a (.dK kvs))\/∃kvs,Rd H a (.dT kvs)
theorem Il{σ:St}(I:Inv X pins σ H s)(d:WL H a):
  s.TypeIs (.ref a) "dict"/\(∀b,cU a=.ref b->∃ob,s.heap.get? b=some ob/\ob.dict=none)/\(a==sysModules)=false:=by
 rcases d with⟨kvs,e⟩|⟨kvs,e⟩
 ·obtain⟨_,hd,vs,_,dd⟩:=wF I.hok e
  refine⟨dd.typeIs,λb q=>?_,hd⟩
  cases q;obtain⟨ob,_,_,h1,h2,_⟩:=dd;exact⟨ob,h1,h2.2.1⟩
 ·obtain⟨_,hd,xs,_,dd⟩:=wG I.hok e
  refine⟨dd.typeIs,λb q=>?_,hd⟩
  cases q;obtain⟨ob,_,_,h1,h2,_⟩:=dd;exact⟨ob,h1,h2.2.1⟩
section
variable{X:Cx}{pins:List (aI×Obj)}{σ:St}{H:Hp}{s:aH}{a:aI}{y d:V}{u r:aB}{o:Option V}{A:dg}{E:aB->aH->Prop}
theorem PH(hu:A.units+1<cLine)(I:Inv X pins σ H s)(g:nS H a y o)(ry:RelV y u)(rd:RelV d r)(h:∀w' s',Inv X pins σ H s'->RelV (o.getD d) w'->Q w' s'):
  wpAny (model X.prog X.w) A (call (.builtin "dict.get") [.ref a,u,r]) Q E s:=by
 rcases g with⟨kvs,k,e,ey,l⟩|⟨kvs,k,b,e,ey,eb,l⟩
 ·subst ey
  obtain⟨z,hd,vs,rel,dd⟩:=wF I.hok e;refine call_meetsIn o9 dd.typeIs zr (yw _ _ _) (meets_dict_get_default (eY X.prog X.w) a (pY ry) hd r) ⟨_,dd.mapOf,h _ _ (I.tok _) ?_⟩
  rw[l];exact(rel.val k).getD rd
 ·subst ey
  cases(show u=cU b from ry)
  obtain⟨z,hd,xs,rel,dd⟩:=wG I.hok e;refine call_meetsIn o9 dd.typeIs zr (yw _ _ _) (meetsH_dict_get_default (tupleKind (eY X.prog X.w)) a b hd r) ⟨kF hu,k,xs,um I.hok eb,dd,h _ _ (I.tok _) ?_⟩
  rw[l];exact(rel.val k).getD rd
end
def PJ(td ty tx:TE):TE:=λσ H Q=>td σ H λx H1=>∃a,x=.ref a/\WL H1 a/\ty σ H1 λy H2=>tx σ H2 λz H3=>∃o,nS H3 a y o/\Q (o.getD z) H3
section
variable{X:Cx}{o e f:bP}{apos ot:Pos}{td ty tx:TE}
theorem Im(hu:X.A.units+1<cLine)(ho:PE X o td)(he:PE X e ty)(hf:PE X f tx)(m:M2 X o "get" apos e f ot):PE X (.Call (.Attribute o "get" apos) [e,f] [] ot) (PJ td ty tx):=by
 intro pins s σ H Q I h;refine wpAny_Call_method m.base m.few m.line yx o9 PySem.F.type_dict_get (f7 (ho pins s σ H _ I h) λu s1 ⟨x,H1,I1,rx,a,ex,d,q1⟩=>?_)
 subst ex;obtain rfl:u=cU a:=rx;obtain⟨t1,t2,_⟩:=Il I1 d;refine⟨t1,t2,?_⟩
 rw[m.trees];refine o8 rfl (qX (iE (f7 (he pins s1 σ H1 _ I1 q1) λiv s2 ⟨y,H2,I2,ry,q2⟩=>
  iE (f7 (hf pins s2 σ H2 _ I2 q2) λfv s3 ⟨z,H3,I3,rz,ov,g,q3⟩=>nM ?_))))
 exact PH hu I3 g ry rz λw' s4 I4 ub=>⟨_,H3,I4,ub,q3⟩
end
section
variable{X:Cx}{pins:List (aI×Obj)}{σ:St}{H:Hp}{s:aH}{a:aI}{kvs:List (Key×V)}{A:dg}{E:aB->aH->Prop}
end
def za7(o:Array (Option Nat)):Nat:=o.toList.countP Option.isSome
section
variable{prog:bC}{w:bY}{A:dg}{E:aB->aH->Prop}{s:aH}
end
section
variable{prog:bC}{w:bY}{A:dg}{R:rM->aH->Prop}{I:aI}{fp wr:List aI}{G:Array qW->Array qW->Prop}{n:Nat}{P:Nat->aB->Prop}{St:Nat->aH->Prop}
theorem Io(W:WalksS prog w A.in1 I fp wr G n P St)(S:aI)(Ip:S∉fp)(T:Nat->cR->Prop)(keep:∀i h h',T i h->(∀b o,b∉wr->h.get? b=some o->h'.get? b=some o)->T i h')
  (add:∀i v (s:aH) (Q:Bool->aH->Prop) (E:aB->aH->Prop),i<n->P i v->T i s.heap->(∀h' tk b,s.toks<=tk->gY S s.heap h'->T (i+1) h'->Q b { s with heap:=h',toks:=tk })->wpAny (model prog w) A.in1 (setAdd S v) Q E s):
  ∀(k i:Nat)(s:aH),n-i=k->i<=n->St i s->T i s.heap->(∀s',Moved (S::wr) G s s'->T n s'.heap->R (.ok (.ret .none)) s')->
   codeAny (model prog w) A (.builtin "set.update.loop" ⟨[.ref S,.ref I],[]⟩) R s:=by
 have hSw:S∉wr:=λh=>Ip (W.sub _ h)
 have Bg:∀b∈wr,b∈S::wr:=λb hb=>aR _ hb
 intro k
 induction k with
 |zero=>
  intro i s hk hi HQ hS hR;have SR:i=n:=by omega
  subst SR;refine kB Eu ?_
  rw[jd pJ _];show wpAny _ A.in1 (pyNext (.ref I) >>= _) _ _ s;refine ax (W.done s _ _ HQ λs' hm=>?_)
  show wpAny _ A.in1 (ret g7) _ _ s';exact a9 (hR s' (hm.mono Bg) (keep _ _ _ hS λb o hb e=>hm.heap b o hb e))
 |succ k ih=>
  intro i s hk hi HQ hS hR;have kA:i<n:=by omega
  refine kB Eu ?_
  rw[jd pJ _];show wpAny _ A.in1 (pyNext (.ref I) >>= _) _ _ s;refine ax (W.item i s _ _ kA HQ λv s' hP PK hm=>?_)
  have F6:T i s'.heap:=keep _ _ _ hS λb o hb e=>hm.heap b o hb e
  show wpAny _ A.in1 (holding [v] (setAdd S v) >>= _) _ _ s';refine ax (mO ?_)
  refine add i v s' _ _ kA hP F6 λh' tk b Rj PL hT=>?_
  refine a9 ⟨pK pJ _,ih (i+1) _ (by omega) kA (W.frame _ s' _ _ PK Rj λb hb o e=>?_) hT λLh PN PQ=>?_⟩
  ·rw[PL.2 b (λh:b=S=>Ip (by rw[<-h];exact hb))];exact e
  ·refine hR Lh (Moved.trans W.gtrans ((hm.mono Bg).then_heap Rj λb o hb e=>?_) PN) PQ
   rw[PL.2 b (λh:b=S=>hb (by rw[h];exact aO))];exact e
end
section
variable{prog:bC}{w:bY}{A:dg}{E:aB->aH->Prop}{s:aH}
abbrev iX(led:Bool):Obj:={ cls:=.type "set",dict:=none,data:=.set #[] 0 (.fresh 0 0 led) }
end
end L2
namespace L2
open PySem
end L2
namespace L2
open PySem PySem.Spec PyProof.Rows
variable{a:aI}{b k1 k2:Bool}{op:CT}{X:Cx}{env:Env}{e:bP}{o:HO}{H H' H0:Hp}{g:Int->Int->Int}{pins:List (aI×Obj)}{elts:List bP}{cap:List Nat}{R:List ai->List ai->Prop}{own:List Str}{vs xs:List V}{r:List V->Hp->VK->Prop}{i n:Nat}{p p2 tp:Pos}{P:bC}{d:ai}{F:ai->Option ai}{K:ao}{sc:kz}{s:aH}{σ:St}{x:Str}{id:String}{w:bY}
abbrev LN:aB->aH->Prop:=λ_ _=>False
abbrev testsOf(ifs:List bP)(env:Env):Sem Bool:=
 forIn ifs true λc r=>if r=true then(do let ok <-isTrue c env (eval c env);pure (oj ok))else pure (oj r)
theorem F7{A:dg}{R:rM->aH->Prop}{elt tg iter:bP}{ifs:List bP}{pos:Pos}{it acc:aB}(J:Nat->aH->Prop)
  (turn:∀n s,J n s->wpAny (model P w) A (pyNext it) (λr s1=>match r with
   |none=>R (.ok .next) s1
   |some v=>wpAny (model P w) A (letOwnedTupleGo tg it v) (λ_ s2=>wpAny (model P w) A (assign tg env v) (λ_ s3=>
     wpAny (model P w) A (testsOf ifs env) (λok s4=>if ok=true then wpAny (model P w) A (eval elt env) (λx s5=>
       wpAny (model P w) A (call (.builtin "list.append") [acc,x]) (λ_ s6=>∃m,m<n/\J m s6) LN s5) LN s4
      else ∃m,m<n/\J m s4) LN s3) LN s2) LN s1) LN s)
  (h:J n s):codeAny (model P w) A (.compLoop (.ListComp elt [⟨tg,iter,ifs,0⟩] sc pos) 0 it acc env) R s:=by
 refine codeAny_loop rfl J (λn s hJ=>?_) n h
 show wpAny _ A ((compTurn (.ListComp elt [⟨tg,iter,ifs,0⟩] sc pos) 0 it acc env).onRaise (λx=>do noteFrame x env;theTreesLotGoes x)) _ _ s
 refine wpAny_noted ?_
 rw[compTurn_list];refine ax (wpAny_standAt (ax (gQ (turn n s hJ) (λr s1 h1=>?_) λ_ _ f=>f.elim)))
 cases r with
 |none=>exact a9 h1
 |some v=>
  refine ax (gQ h1 (λ_ s2 h2=>?_) λ_ _ f=>f.elim)
  refine ax (gQ h2 (λ_ s3 h3=>?_) λ_ _ f=>f.elim)
  refine ax (gQ h3 (λok s4 h4=>?_) λ_ _ f=>f.elim)
  cases ok with
  |false=>exact a9 ⟨rfl,h4⟩
  |true=>
   refine ax (ax (gQ h4 (λx s5 h5=>?_) λ_ _ f=>f.elim))
   exact ax (gQ h5 (λ_ s6 h6=>a9 (a9 ⟨rfl,h6⟩)) λ_ _ f=>f.elim)
def nT(env:Env):List (Str×mS)->List (Str×aI)->Option (List (Str×aI))
  | [],acc=>some acc
  | (n,k)::r,acc=>if(k==dM)=true then(match env.cells.lookup n with
      | some c=>nT env r ((n,c)::acc)
      | none=>none)else nT env r acc
theorem zN(env:Env):∀(names:List (Str×mS))(acc cl:List (Str×aI)),nT env names acc=some cl->
  (forIn names acc λ(x:Str×mS)(r:List (Str×aI))=>if(x.2==dM)=true then(do let c <-cellOf env x.1;pure (oj ((x.1,c)::r)))else pure (oj r):Sem (List (Str×aI)))=pure cl
 | [],acc,cl,h=>by
  simp only[nT,gE]at h;subst h;rfl
 |(n,k)::r,acc,cl,h=>by
  rw[xV];unfold nT at h;by_cases hk:(k==dM)=true
  ·rw[qQ3 hk]at h
   rw[qQ3 (show((n,k).2==dM)=true from hk)]
   cases e:env.cells.lookup n with
   |none=>rw[e]at h;cases h
   |some c=>
    rw[e]at h;have e2:cellOf env (n,k).1=pure c:=by unfold cellOf;rw[show jY (n,k).1 env.cells=some c from e]
    rw[e2,pure_bind,pure_bind];exact zN env r _ cl h
  ·rw[qQ2 hk]at h
   rw[qQ2 (show ¬((n,k).2==dM)=true from hk),pure_bind]
   exact zN env r acc cl h
theorem EY{cl:List (Str×aI)}(h:nT env sc.names []=some cl):closureFor sc env=pure cl:=by
 unfold closureFor;have:=zN env sc.names [] cl h;simp only[bind_pure];exact this
theorem tq{env:Env}:∀{names:List (Str×mS)}{acc cl:List (Str×aI)},nT env names acc=some cl->(∀x c,acc.lookup x=some c->env.cells.lookup x=some c)->∀x c,cl.lookup x=some c->env.cells.lookup x=some c
 | [],acc,cl,h,ha=>by
  simp only[nT,gE]at h;subst h;exact ha
 |(n,k)::r,acc,cl,h,ha=>by
  unfold nT at h;by_cases hk:(k==dM)=true
  ·rw[qQ3 hk]at h
   cases e:env.cells.lookup n with
   |none=>rw[e]at h;cases h
   |some c=>
    rw[e]at h;refine tq (names:=r) h λx d hx=>?_
    rw[ei]at hx;cases Vj:x==n with
    |true=>
     rw[Vj]at hx;have:x=n:=by simpa using Vj
     subst this;rw[e];exact hx
    |false=>rw[Vj]at hx;exact ha x d hx
  ·rw[qQ2 hk]at h
   exact tq (names:=r) h ha
theorem tE{env:Env}:∀{names:List (Str×mS)}{acc cl:List (Str×aI)},nT env names acc=some cl->∀x,((x,dM)∈names\/∃c,acc.lookup x=some c)->∃c,cl.lookup x=some c
 | [],acc,cl,h,x,hx=>by
  simp only[nT,gE]at h;subst h;rcases hx with hx|hx
  ·exact qQ7 hx (by simp)
  ·exact hx
 |(n,k)::r,acc,cl,h,x,hx=>by
  unfold nT at h;by_cases hk:(k==dM)=true
  ·rw[qQ3 hk]at h
   cases e:env.cells.lookup n with
   |none=>rw[e]at h;cases h
   |some c=>
    rw[e]at h;refine tE (names:=r) h x ?_
    rcases hx with hx|⟨d,hx⟩
    ·rcases av.mp hx with hx|hx
     ·cases hx
      exact .inr ⟨c,by simp[ei]⟩
     ·exact .inl hx
    ·refine .inr ?_
     rw[ei];cases Vj:x==n with
     |true=>exact⟨_,rfl⟩
     |false=>exact⟨d,hx⟩
  ·rw[qQ2 hk]at h
   refine tE (names:=r) h x ?_
   rcases hx with hx|hx
   ·rcases av.mp hx with hx|hx
    ·cases hx;exact qQ7 rfl hk
    ·exact .inl hx
   ·exact .inr hx
theorem tF{env:Env}:∀{names:List (Str×mS)}{x:Str},names.lookup x=some .free->
  (names.map λ(n,k)=>if(k==dM&&env.scope.kind == .function&&env.kindOf n==some .cell) then(n,jv) else(n,k)).lookup x=some .cell\/
   (names.map λ(n,k)=>if(k==dM&&env.scope.kind == .function&&env.kindOf n==some .cell) then(n,jv) else(n,k)).lookup x=some .free
 | [],x,h=>by simp at h
 |(n,k)::r,x,h=>by
  have ih:=@tF env r x;rw[aD]
  dsimp only
  by_cases hb:(k==dM&&env.scope.kind == .function&&env.kindOf n==some .cell)=true
  ·rw[qQ3 hb]
   cases hx:x==n with
   |true=>simp[ei,hx]
   |false=>
    simp only[ei,hx]at h ⊢;exact ih h
  ·rw[qQ2 hb]
   cases hx:x==n with
   |true=>
    simp only[ei,hx]at h ⊢;exact .inr h
   |false=>
    simp only[ei,hx]at h ⊢;exact ih h
theorem uY{env:Env}:∀{names:List (Str×mS)}{x:Str},(∀y∈names,y.2≠jv)->
  ((names.map λ(n,k)=>if(k==dM&&env.scope.kind == .function&&env.kindOf n==some .cell) then(n,jv) else(n,k)).lookup x=some .cell\/
   (names.map λ(n,k)=>if(k==dM&&env.scope.kind == .function&&env.kindOf n==some .cell) then(n,jv) else(n,k)).lookup x=some .free)->(x,dM)∈names
 | [],x,_,h=>by simp at h
 |(n,k)::r,x,hc,h=>by
  have ih:=@uY env r x λy hy=>hc y (aR _ hy)
  have NS:k≠jv:=hc (n,k) aO;rw[aD]at h
  dsimp only at h
  by_cases hb:(k==dM&&env.scope.kind == .function&&env.kindOf n==some .cell)=true
  ·have hk:k=dM:=by
    simp only[oX]at hb;simpa using hb.1.1
   rw[qQ3 hb]at h;cases hx:x==n with
   |true=>
    have:x=n:=by simpa using hx
    subst this;rw[hk];exact aO
   |false=>
    simp only[ei,hx]at h;exact aR _ (ih h)
  ·rw[qQ2 hb]at h
   cases hx:x==n with
   |true=>
    have:x=n:=by simpa using hx
    subst this;simp only[ei,beq_self_eq_true,gE]at h;rcases h with h|h
    ·exact qQ7 h NS
    ·rw[h];exact aO
   |false=>
    simp only[ei,hx]at h;exact aR _ (ih h)
def fL(X:Cx)(sc:kz)(N:List Str)(cl:List (Str×aI))(fp:List aI)(s:aH)(H:Hp):Cx where
 prog:=X.prog
 w:=X.w
 K:=X.K
 mg:=X.mg
 base:=X.base
 A:=X.A
 N:=N
 s₀:=s
 H₀:=H
 env:=compEnvC sc cl s.heap.objs.size X.env
 outer:=X.stack
 stack:=X.stack
 ex:=fp
 fn:=λ_=>false
 calm:=X.calm
 pn:=[]
 xe:=LN
structure kI(X:Cx)(sc:kz)(own:List Str)(cap:List Nat)(N:List Str)(cl:List (Str×aI)):Prop where
 kind:sc.kind=.function
 Iq:∀y∈sc.names,y.2≠jv
 loc:∀y∈sc.names,y.2=.local->sc.names.lookup y.1=some .local
 clos:nT X.env sc.names []=some cl
 names:N=own++cap.map λi=>X.N.getD i ft
 SV:∀i∈cap,i<X.N.length/\(X.env.kindOf (X.N.getD i ft)=some .cell\/X.env.kindOf (X.N.getD i ft)=some .free)/\sc.names.lookup (X.N.getD i ft)=some .free
def kJ(own:List Str)(cap:List Nat)(σ:St):St:=bp own.length none++cap.map λi=>σ.getD i none
section
variable{X:Cx}{pins:List (aI×Obj)}{σ:St}{H:Hp}{s:aH}{sc:kz}{own N:List Str}{cap:List Nat}{cl:List (Str×aI)}{fp:List aI}{tg:bP}{J:It}{it:aI}{tn:Nat->cR->Prop}
theorem Ir{h4:cR}{t4:Nat}(CS:kI X sc own cap N cl)(I:Inv X pins σ H s)(T:Turn X.prog X.w X.K tg J fp it tn)(st:tn 0 s.heap)(hf:∀b∈fp,rR X pins H b)
  (D:aI)(hD:D=s.heap.objs.size)(s3:aH)(h3:s3={ s with heap:=s.heap.push { cls:=.type "list",dict:=none,data:=.seq ([]:List aB).toArray } })
  (KP:h4.Ns s3.heap.objs.size (λ_=>none))(hk:∀b o,s3.heap.get? b=some o->h4.get? b=some o):
  Inv (fL X sc N cl fp s3 (upd H D (.lst []))) [] (kJ own cap σ) (upd H D (.lst [])) { s3 with heap:=h4,toks:=t4 }:=by
 subst hD;have hDn:H s.heap.objs.size=none:=I.fresh;have k3:∀b o,s.heap.get? b=some o->s3.heap.get? b=some o:=λb o e=>by rw[h3];exact ay _ e
 have z3:s3.heap.objs.size=s.heap.objs.size+1:=by rw[h3];exact fh ..
 have I3:Inv X pins σ (upd H s.heap.objs.size (.lst [])) s3:=by
  rw[h3];exact I.laid (t':=s.toks) (λb o e=>ay _ e) (aA _) ⟨aV _,[],0,.nil,a8 _ rfl⟩
 have LQ:∀b∈fp,b<s.heap.objs.size:=λb hb=>by
  obtain⟨o,e,_⟩:=T.obj 0 _ st b hb;exact aT e
 have LV:∀b,b<s.heap.objs.size->b≠s3.heap.objs.size:=λb hb=>by rw[z3];exact aU (je hb)
 have oA:∀x c,cl.lookup x=some c->X.env.cells.lookup x=some c:=tq CS.clos λx c h=>by simp at h
 have ok:(fL X sc N cl fp s3 (upd H s.heap.objs.size (.lst []))).Ok:=by
  refine⟨I.ok.mod,CS.kind,I.ok.glob,I.ok.blt,aA _,λx y c hx hy=>I.ok.inj x y c (oA x c hx) (oA y c hy),λx hx=>?_,λx c hx _=>qQ7 (show false=true from hx) cq,I.ok.hd,I.ok.frames,.inl rfl,λb hb=>⟨?_,λx c hx=>?_⟩,λb o e=>?_,?_,λb o e hb=>?_,λb hb hs=>?_,?_,?_⟩
  ·exact tE CS.clos x (.inl (uY CS.Iq hx))
  ·exact LV b (LQ b hb)
  ·exact(hf b hb).2.2.2.2.1 x c (oA x c hx)
  ·exact I3.bs b o e
  ·exact bZ I.ok.Ny (bZ I.sz (by show s.heap.objs.size<=s3.heap.objs.size;rw[z3];exact jm _))
  ·rcases(hf b hb).2.2.2.1 with z|z
   ·exact I.ok.HK b o e z
   ·exact qQ7 (bR (aT (I.ok.bs b o e).1) z) (jT _)
  ·rcases av.mp (I.zB b hs)with z|z
   ·exact(hf b hb).2.1 z
   ·exact(hf b hb).2.2.1 z
  ·exact I3.stack
  ·exact I3.EC
 have frC:∀b,s.heap.objs.size<b->(upd H s.heap.objs.size (.lst [])) b=none:=λb hb=>by
  rw[aN (eL hb)];exact I.hok.fresh (pG hb)
 refine⟨ok,?_,I3.bare,Un.kept hk,⟨_,KP,λi x v e1 e2 e3=>?_⟩,λx c hx=>?_,?_,λx c hx=>?_,λp hp=>qQ7 (show p∈([]:List (aI×Obj))from hp) (by simp),I3.hok.kept hk,?_⟩
 ·rfl
 ·have PV:(kJ own cap σ)[i]?=some (some v):=e2
  have SW:N[i]?=some x:=e1;unfold kJ at PV;by_cases hi:i<own.length
  ·rw[bX (by simpa using hi),eD]at PV
   split at PV<;>cases PV
  ·rw[cn (by simpa using fJ hi),c9,aF]at PV
   rw[CS.names,cn (fJ hi),aF]at SW;cases ec:cap[i-own.length]? with
   |none=>rw[ec]at SW;cases SW
   |some j=>
    rw[ec]at SW PV;have ex:X.N.getD j ft=x:=by simpa using SW
    have ev:σ.getD j none=some v:=by simpa using PV
    obtain⟨hj,uV,wJ⟩:=CS.SV j (bh ec);rw[ex]at uV wJ;obtain⟨m,hn,hl⟩:=I.loc;have hxj:X.N[j]?=some x:=by
     rw[au hj];rw[<-ex,aG,au hj];rfl
    have hvj:σ[j]?=some (some v):=by
     have:j < σ.length:=by rw[I.len];exact hj
     rw[aG,au this]at ev;rw[au this];exact qQ6 some ev
    obtain⟨u,r,l⟩:=hl j x v hxj hvj (by
     rcases uV with z|z
     ·exact .inr (.inl z)
     ·exact .inr (.inr z))
    refine⟨u,r,?_⟩
    rcases l with⟨k,_⟩|⟨k,c,e,z⟩
    ·rcases uV with z|z<;>(rw[z]at k;cases k)
    ·obtain⟨c',Zh⟩:=tE CS.clos x (.inl (ia wJ))
     have:c'=c:=by
      have:=oA x c' Zh;rw[e]at this;exact(cQ this).symm
     subst this;refine .inr ⟨?_,c',Zh,?_⟩
     ·exact tF wJ
     ·obtain⟨o,ho,hd⟩:=z
      exact⟨o,hk _ _ (k3 _ _ ho),hd⟩
 ·obtain⟨v,o,ho,hd⟩:=I.cell x c (oA x c hx)
  exact⟨v,o,hk _ _ (k3 _ _ ho),hd⟩
 ·exact frC _ (by show s.heap.objs.size<s3.heap.objs.size;rw[z3];exact jy _)
 ·obtain⟨v,o,ho,hd⟩:=I.cell x c (oA x c hx)
  rw[aN (aU (aT ho))];exact I.pS x c (oA x c hx)
 ·show(kJ own cap σ).length=N.length
  unfold kJ;rw[CS.names];simp
theorem Inv.qH{h':cR}{t':Nat}{ch:List aI}(I:Inv X pins σ H s)(k:∀b o,b∉ch->s.heap.get? b=some o->h'.get? b=some o)(hf:∀b∈ch,rR X pins H b):Inv X pins σ H { s with heap:=h',toks:=t' }:=by
 have RP:∀b u,H b=some u->b∉ch:=λb u e z=>by rw[(hf b z).1]at e;cases e
 refine I.step (g':=s.gens) (d':=s.drawn) (ch:=ch) (λb hb=>⟨(hf b hb).2.2.2.1,(hf b hb).2.1,(hf b hb).2.2.2.2.1,(hf b hb).2.2.2.2.2⟩) (λb o _ _ hc e _=>k b o hc e) (λb o _ _ hc e _=>⟨o.slots,k b o hc e⟩) (λ_ _ _ _ n=>n)
  (λb o hc e=>⟨o,k b o hc e⟩) (λ_ _ e=>e) (λ_ _ _ e=>e) (λb ps e=>⟨#[],by rw[e];simp⟩) (λm hm=>?_) (λb u e=>?_) I.bare
 ·obtain⟨o,es,ep,ho,r⟩:=hm
  exact⟨o,es,ep,k _ o (λz=>(hf _ z).2.1 rfl) ho,r⟩
 ·refine(I.hok b u e).stay (λc v hc q=>k c v ?_ q) (λ_ q=>q) λ_ _ q=>q
  rcases hc with z|z
  ·rw[z];exact RP b u e
  ·exact RP c _ z
theorem Inv.track(I:Inv X pins σ H s)(f:rR X pins H a)(new:hZ X.prog X.w (upd H a o) s.heap a o):Inv X pins σ (upd H a o) s:=by
 obtain⟨f0,f1,f2,f3,f4,f5⟩:=f;have ne:∀b u,H b=some u->b≠a:=λb u e=>bG e f0
 refine⟨I.ok,I.os,I.bare,⟨I.base.keep,I.base.slot,λb ob e n hx=>?_,I.base.there,λb xs e=>?_,λb ob u e=>?_,λb ps e=>?_⟩,I.loc,I.cell,?_,λx c e=>?_,λp hp=>?_,λb u e=>?_,I.len⟩
 ·have nb:b≠a:=λz=>by
   subst z;rcases f3 with z|z
   ·exact hx z
   ·exact qQ7 (bR (aT e) z) (jT _)
  rw[aN nb];exact I.base.free b ob e n hx
 ·have q:=I.base.tups b xs e
  rw[aN (ne _ _ q)];exact q
 ·have q:=I.base.wj b ob u e
  rw[aN (ne _ _ q)];exact q
 ·obtain⟨more,q⟩:=I.base.ye b ps e
  exact⟨more,by rw[aN (ne _ _ q)];exact q⟩
 ·rw[aN (bV f1)]
  exact I.free
 ·rw[aN (f4 x c e)]
  exact I.pS x c e
 ·obtain⟨e,n,r⟩:=I.pin p hp
  exact⟨e,by rw[aN (f5 p hp)];exact n,r⟩
 ·by_cases hb:b=a
  ·subst hb
   rw[bB]at e;cases e;exact new
  ·rw[aN hb]at e
   exact(I.hok b u e).stay (λ_ _ _ q=>q) (λc q=>by rw[aN (ne _ _ q)];exact q) λc xs q=>by rw[aN (ne _ _ q)];exact q
end
def SX(X:Cx)(ifs:List bP)(t:TT):Prop:=
 ∀(pins:List (aI×Obj))(s:aH)(σ:St)(H:Hp)(Q:Bool->Hp->Prop),Inv X pins σ H s->t σ H Q->wpAny (model X.prog X.w) X.A (testsOf ifs X.env) (TP X pins σ Q) X.xe s
def WM:TT:=λ_ H Q=>Q true H
theorem LW:SX X [] WM:=λ_ _ _ H _ I h=>wpAny_tests_nil ⟨H,I,h⟩
theorem LX{c:bP}{t:TT}(h:PT X c t):SX X [c] t:=λpins s σ H Q I q=>wpAny_tests_one (h pins s σ H Q I q)
def qI(J:It)(g:TG)(tc:TT)(te:TE)(σ:St)(H:Hp)(Q:VK):Prop:=
 ∀D,H D=none->∃W:Nat->Nat->List V->St->Hp->Prop,(∃m,W 0 m [] σ (upd H D (.lst [])))/\∀i m ys σ' H',W i m ys σ' H'->
  (J.stop i H'/\Q (.ref D) H')\/(J.go i H'/\∀x H2,J.R4 i H' x H2->g x σ' H2 λσ3 H3=>tc σ3 H3 λb H4=>if b=true then te σ3 H4 λy H5=>
   H5 D=some (.lst ys)/\ys.length<sizeLine/\∃m',m'<m/\W (i+1) m' (ys ++ [y]) σ3 (upd H5 D (.lst (ys ++ [y])))else ∃m',m'<m/\W (i+1) m' ys σ3 H4)
def NT(own:List Str)(cap:List Nat)(wi:TI)(g:TG)(tc:TT)(te:TE):TE:=λσ H Q=>wi σ H λJ H1=>qI J g tc te (kJ own cap σ) H1 Q
section
variable{X:Cx}{pins:List (aI×Obj)}{σ:St}{H:Hp}{s:aH}{sc:kz}{own N:List Str}{cap:List Nat}{cl:List (Str×aI)}{fp:List aI}{tg elt iter:bP}{ifs:List bP}{J:It}{it:aI}{tn:Nat->cR->Prop}{g:TG}{tc:TT}{te:TE}{wi:TI}{pos:Pos}
theorem yK{RR:aB->aI->rM->aH->Prop}{E:aB->aH->Prop}{Q:VK}(hc:X.calm=true)(CS:kI X sc own cap N cl)(I:Inv X pins σ H s)(T:Turn X.prog X.w X.K tg J fp it tn)(st:tn 0 s.heap)(hf:∀b∈fp,rR X pins H b)
  (hg:∀f s3 H3,PG (fL X sc N cl f s3 H3) tg g)(ht:∀f s3 H3,SX (fL X sc N cl f s3 H3) ifs tc)(he:∀f s3 H3,PE (fL X sc N cl f s3 H3) elt te)
  (h:qI J g tc te (kJ own cap σ) H Q)
  (fin:∀D C H' s',Inv X pins σ H' s'->(∃m,s'.heap.Ns C m)->rR X pins H' C->Q (.ref D) H'->RR (.ref D) C (.ok .next) s'):
  wpAny (model X.prog X.w) X.A (newList []) (λacc s₃=>wpAny (model X.prog X.w) X.A (newFunctionEnv sc X.env.globals cl [] X.env.qual none .none (some X.env)) (λSY s₄=>
   codeAny (model X.prog X.w) X.A (.compStart (.ListComp elt [⟨tg,iter,ifs,0⟩] sc pos) 0 (.ref it) acc { SY with scope:=relabel sc X.env }) (RR acc SY.locals) s₄) E s₃) E s:=by
 refine ic (wpAny_newFunctionEnv CS.Iq (λy hy=>qQ7 hy (by simp)) (λh4 KP PL=>?_) CS.kind)
 have hD:H s.heap.objs.size=none:=I.fresh;obtain⟨W,⟨m0,w0⟩,turn⟩:=h s.heap.objs.size hD
 generalize hs3:({ s with heap:=s.heap.push { cls:=.type "list",dict:=none,data:=.seq ([]:List aB).toArray } }:aH)=s3 at *
 have h3:=hs3.symm;have e3:s.heap.push { cls:=.type "list",dict:=none,data:=.seq ([]:List aB).toArray }=s3.heap:=by rw[h3]
 have z3:s3.heap.objs.size=s.heap.objs.size+1:=by rw[h3];exact fh ..
 have k3:∀b o,s.heap.get? b=some o->s3.heap.get? b=some o:=λb o e=>by rw[h3];exact ay _ e
 have k4:∀b o,s3.heap.get? b=some o->h4.get? b=some o:=λb o e=>PL.extBut b o (aU (aT e)) (ay _ e)
 have LQ:∀b∈fp,b<s.heap.objs.size:=λb hb=>by
  obtain⟨o,e,_⟩:=T.obj 0 _ st b hb;exact aT e
 have Ic:∀t4,Inv (fL X sc N cl fp s3 (upd H s.heap.objs.size (.lst []))) [] (kJ own cap σ) (upd H s.heap.objs.size (.lst [])) { s3 with heap:=h4,toks:=t4 }:=λt4=>
  Ir (t4:=t4) CS I T st hf _ rfl s3 h3 (by simpa using KP) k4
 have Zi:tn 0 h4:=T.keep _ _ _ st λb hb o e=>k4 b o (k3 b o e)
 have fr4:∀b∈fp,(upd H s.heap.objs.size (.lst [])) b=none:=λb hb=>by
  rw[aN (aU (LQ b hb))];exact(hf b hb).1
 have stat:∀{H':Hp},(∀b∈fp,H' b=none)->∀b∈fp,rR (fL X sc N cl fp s3 (upd H s.heap.objs.size (.lst []))) [] H' b:=λ{H'}hn b hb=>by
  refine⟨hn b hb,?_,λhs=>?_,.inl hb,λx c hx=>?_,λp hp=>qQ7 (show p∈([]:List (aI×Obj))from hp) (by simp)⟩
  ·show b≠s3.heap.objs.size
   rw[z3];exact aU (je (LQ b hb))
  ·rcases av.mp (I.zB b hs)with z|z
   ·exact(hf b hb).2.1 z
   ·exact(hf b hb).2.2.1 z
  ·exact(hf b hb).2.2.2.2.1 x c (tq CS.clos (λx c h=>by simp at h) x c hx)
 have loop:∀s5:aH,(∃t4,s5={ s3 with heap:=h4,toks:=t4 })->codeAny (model X.prog X.w) X.A (.compLoop (.ListComp elt [⟨tg,iter,ifs,0⟩] sc pos) 0 (.ref it) (.ref s.heap.objs.size) (compEnvC sc cl s3.heap.objs.size X.env))
   (RR (.ref s.heap.objs.size) s3.heap.objs.size) s5:=by
  rintro s5 ⟨t4,rfl⟩
  refine F7 (λn s'=>∃i ys σ' H',Inv (fL X sc N cl fp s3 (upd H s.heap.objs.size (.lst []))) [] σ' H' s'/\tn i s'.heap/\(∀b∈fp,H' b=none)/\W i n ys σ' H') ?_
   ⟨0,[],_,_,Ic t4,Zi,fr4,w0⟩
  rintro n s' ⟨i,ys,σ',H',I',yf,fr',w'⟩
  rcases turn i n ys σ' H' w' with⟨stop,q⟩|⟨go,step⟩
  ·refine f7 (T.done (fL X sc N cl fp s3 (upd H s.heap.objs.size (.lst []))) rfl rfl rfl hc i [] s' σ' H' LN I' (stat fr') yf stop) λr s6 ⟨hr,I6⟩=>?_
   subst hr;have bs:=I6.base;have un:Un (Hu X.stack) fp H H' s.heap s6.heap:=by
    have WN:∀b o,s.heap.get? b=some o->b≠s.heap.objs.size:=λb o e=>aU (aT e)
    refine⟨λb o e n hb hx=>bs.keep b o (k3 b o e) (by show upd H _ _ b=none;rw[aN (WN b o e)];exact n) hb hx,λb o e n hb hx=>bs.slot b o (k3 b o e) (by show upd H _ _ b=none;rw[aN (WN b o e)];exact n) hb hx,
     λb o e n hx=>bs.free b o (k3 b o e) (by show upd H _ _ b=none;rw[aN (WN b o e)];exact n) hx,λb o e hx=>bs.there b o (k3 b o e) hx,
     λb xs e=>bs.tups b xs (by show upd H _ _ b=_;rw[aN (bG e hD)];exact e),λb o u e=>bs.wj b o u (by show upd H _ _ b=_;rw[aN (bG e hD)];exact e),λb ps e=>bs.ye b ps (by show upd H _ _ b=_;rw[aN (bG e hD)];exact e)⟩
   have I7:Inv X pins σ H' s6:=I.call' (ch:=fp) (by rw[I6.os];show s3.os=s.os;rw[h3]) un I6.hok I6.bare λb hb=>⟨(hf b hb).2.2.2.1,(hf b hb).2.1,(hf b hb).2.2.2.2.1,(hf b hb).2.2.2.2.2⟩
   obtain⟨mC,nC,_⟩:=I6.loc;exact fin _ _ H' s6 I7 ⟨mC,nC⟩ (I.uh (by show s.heap.objs.size<=s3.heap.objs.size;rw[z3];exact jm _) I6.free) q
  ·refine f7 (T.item (fL X sc N cl fp s3 (upd H s.heap.objs.size (.lst []))) rfl rfl rfl hc i [] s' σ' H' LN I' (stat fr') yf go) λr s6 ⟨u,hr,h6⟩=>?_
   subst hr;refine f7 h6 λ_ s7 ⟨x,H7,I7,r7,y7,WO,fr7⟩=>?_
   have I7':=I7.pinned (stat fr7) (T.obj _ _ WO);have back:∀{σ8:St}{H8:Hp}{s8:aH},Inv (fL X sc N cl fp s3 (upd H s.heap.objs.size (.lst []))) ([]++wo fp s7.heap) σ8 H8 s8->tn (i+1) s8.heap/\∀b∈fp,H8 b=none:=λ{σ8 H8 s8}I8=>by
    refine⟨T.keep _ _ _ WO λb hb o e=>(I8.pin (b,o) (cJ _ (cJ _ (oq hb e)))).1,λb hb=>?_⟩
    obtain⟨o,e,d⟩:=T.obj _ _ WO b hb;exact(I8.pin (b,o) (cJ _ (cJ _ (oq hb e)))).2.1
   refine f7 (hg _ _ _ _ s7 σ' H7 x u _ I7' r7 (step x H7 y7)) λ_ s8 ⟨σ8,H8,I8,q8⟩=>?_
   refine f7 (ht _ _ _ _ s8 σ8 H8 _ I8 q8) λok s9 ⟨H9,I9,q9⟩=>?_
   cases ok with
   |false=>
    rw[qQ2 cq]at q9 ⊢;obtain⟨m',hm,w9⟩:=q9;exact⟨m',hm,i+1,ys,σ8,H9,I9.pU,(back I9).1,(back I9).2,w9⟩
   |true=>
    rw[qQ3 rfl]at q9 ⊢;refine f7 (he _ _ _ _ s9 σ8 H9 _ I9 q9) λxv WQ ⟨y,Zj,I10,r10,HB,hz,m',hm,w10⟩=>?_
    refine f7 (lV _ WQ σ8 Zj (.ref s.heap.objs.size) [y] (.ref s.heap.objs.size) [xv] (λ_ uZ=>uZ=upd Zj s.heap.objs.size (.lst (ys ++ [y]))) I10 rfl (.cons r10 .nil) ⟨_,ys,y,rfl,rfl,HB,hz,rfl⟩) λ_ s11 ⟨_,H11,WR,_,e11⟩=>?_
    subst e11;exact⟨m',hm,i+1,ys ++ [y],σ8,_,WR.pU,(back WR).1,(back WR).2,w10⟩
 exact codeAny_compStart_list (loop _ ⟨_,rfl⟩) (T.self _ 0 _ _ _ Zi (loop _ ⟨_,rfl⟩))
theorem EZ(hc:X.calm=true)(CS:kI X sc own cap N cl)(hi:PI X tg iter wi)(hg:∀f s3 H3,PG (fL X sc N cl f s3 H3) tg g)(ht:∀f s3 H3,SX (fL X sc N cl f s3 H3) ifs tc)(he:∀f s3 H3,PE (fL X sc N cl f s3 H3) elt te)
  (hs:∀x,foldedSetIterable iter X.env x=pure x:=by intro _;rfl):PE X (.ListComp elt [⟨tg,iter,ifs,0⟩] sc pos) (NT own cap wi g tc te):=by
 intro pins s σ H Q I h;rw[eval_ListComp];refine wpAny_comprehension_free (use:=none) rfl hs (EY CS.clos) CS.kind CS.loc (f7 (hi pins s σ H _ I h) λv s1 h1=>f7 h1 λVb s2 h2=>?_)
 obtain⟨it,fp,tn,J,H2,e,I2,T,R7,f2,q2⟩:=h2;subst e;refine yK (RR:=λacc C=>compPost (model X.prog X.w) X.A X.xe none (EP X pins σ Q) acc C) (Q:=Q) hc CS I2 T R7 f2 hg ht he q2 ?_
 intro D C H' s' I' ⟨m,hn⟩ fC q;exact⟨m,hn,λh' sb=>⟨.ref D,H',I'.turned (t':=s'.toks) (λb o hb e=>(sb.2 b hb).trans e) fC.1 fC.2.1 fC.2.2.2.1 fC.2.2.2.2.1 fC.2.2.2.2.2,rfl,q⟩⟩
theorem Dx{px yh:Pos}(hN:X.N.Nodup)(WT:X.N[i]?=some x)(hx:Loc X.env.scope x)(hc:X.calm=true)(CS:kI X sc own cap N cl)(hi:PI X tg iter wi)(hg:∀f s3 H3,PG (fL X sc N cl f s3 H3) tg g)
  (ht:∀f s3 H3,SX (fL X sc N cl f s3 H3) ifs tc)(he:∀f s3 H3,PE (fL X sc N cl f s3 H3) elt te)(zO:swapsWith (.ListComp elt [⟨tg,iter,ifs,0⟩] sc pos) (some (.Name x px)) yh.line X.env=pure true:=by rfl)
  (hs:∀x,foldedSetIterable iter X.env x=pure x:=by intro _;rfl)(hf:X.fn x=true\/X.env.scope.names.lookup x=some .local:=by first|exact .inl rfl|exact .inr rfl|assumption):
  PS X (.Assign [.Name x px] (.ListComp elt [⟨tg,iter,ifs,0⟩] sc pos) yh) (O7 (NT own cap wi g tc te) (yC i)):=by
 intro pins s σ H D I h;rw[exec_Assign_Name_used _ _ _ _ zO];refine ax (wpAny_standAt (ax (?_:wpAny _ _ _ _ _ _)))
 show wpAny _ X.A (do let _ <-comprehension (.ListComp elt [⟨tg,iter,ifs,0⟩] sc pos) sc X.env _ (newList []) false (eval iter X.env) (some (assign (.Name x px) X.env))) _ _ s
 refine ax (gQ (wpAny_comprehension_free (use:=some (assign (.Name x px) X.env)) (Q:=λ_ s'=>SP X pins D .next s') rfl hs (EY CS.clos) CS.kind CS.loc
  (f7 (hi pins s σ H _ I h) λv s1 h1=>f7 h1 λVb s2 h2=>?_)) (λ_ s' hq=>a9 (a9 hq)) λ_ _ e=>e)
 obtain⟨it,fp,tn,J,H2,e,I2,T,R7,f2,q2⟩:=h2;subst e;refine yK (RR:=λacc C=>compPost (model X.prog X.w) X.A X.xe (some (assign (.Name x px) X.env)) (λ_ s'=>SP X pins D .next s') acc C) (Q:=λv H'=>yC i v σ H' D.nx) hc CS I2 T R7 f2 hg ht he q2 ?_
 intro D' C H' s' I' ⟨m,hn⟩ fC q;show wpAny _ _ (assign (.Name x px) X.env (.ref D')) _ _ s';refine wpAny_assign_Name (yA I' hN WT hx (v:=.ref D') rfl (λLh I'' ⟨a,sb,ha⟩=>?_) hf)
 have Rh:C≠a:=by
  rcases ha with z|z
  ·rw[z];exact fC.2.1
  ·exact λy=>fC.2.2.2.2.1 x a z y.symm
 exact⟨m,hn.sameBut sb Rh,λh' sb'=>⟨_,H',I''.turned (t':=Lh.toks) (λb o hb e=>(sb'.2 b hb).trans e) fC.1 fC.2.1 fC.2.2.2.1 fC.2.2.2.2.1 fC.2.2.2.2.2,q⟩⟩
end
def Zk(K:ao)(a:aI):It:=
 ⟨λi H=>∃xs x,jV K H a xs/\xs[i]?=some x,λi H v H'=>∃t x,v=.ref t/\H t=none/\H'=upd H t (.tup [.int i,x])/\∀xs,jV K H a xs->xs[i]?=some x,λi H=>∃xs,jV K H a xs/\xs.length<=i⟩
theorem F8{k}(a e it:aI)(KQ:e≠it):Turn P w K (.Tuple elts k tp) (Zk K a) [e,it] e (λi h=>(∃old,IsEnum h e it (i:Nat) old)/\h.IsListIter it a i) where
 mem:=by simp
 obj:=λi h st b hb=>by
  obtain⟨⟨old,he⟩,⟨o,ho,c,d⟩⟩:=st;rcases av.mp hb with z|z
  ·subst z
   exact⟨_,he,λv z=>by cases z⟩
  ·have z':b=it:=by simpa using z
   subst z';exact⟨o,ho,λv z=>by rw[d]at z;cases z⟩
 keep:=λi h h' st kp=>⟨let⟨old,he⟩:=st.1;⟨old,kp e (by simp) _ he⟩,st.2.at λo q=>kp it (by simp) o q⟩
 item:=by
  intro X hP hw hK hc i pins s σ H E I hf st hg;subst hP hw hK;obtain⟨⟨old,he⟩,hit⟩:=st;obtain⟨xs,x,hq,hx⟩:=hg;obtain⟨its,rv,p,hz⟩:=I.list hq;obtain⟨u,hu,ru⟩:=rv.get hx;refine wpAny_pyNext_enum_item he hit p.isList (x:=u) (by simpa using hu) KQ λh1 KG WU WV hz1 LY=>?_
  refine⟨.ref s.heap.objs.size,rfl,CY KG λh2 S0 pV=>?_⟩
  have elt:e<s.heap.objs.size:=aT he;have WW:it<s.heap.objs.size:=by obtain⟨o,ho,_⟩:=id hit;exact aT ho
  have k2:∀b o,b∉[e,it]->s.heap.get? b=some o->h2.get? b=some o:=λb o hb q=>by
   have n1:b≠e:=λz=>hb (by simp[z])
   have n2:b≠it:=λz=>hb (by simp[z])
   exact(pV.2 b n1).trans (LY b o n1 n2 q)
  have I2:Inv X pins σ H { s with heap:=h2,toks:=s.toks+1 }:=I.qH k2 hf
  have PX:h2.get? s.heap.objs.size=some { cls:=.type "tuple",data:=.seq #[.int i s.toks,u] }:=(pV.2 _ (eL elt)).trans WV;have fT:rR X pins H s.heap.objs.size:=I.uh (aA _) I.fresh;have I3:Inv X pins σ (upd H s.heap.objs.size (.tup [.int i,x])) { s with heap:=h2,toks:=s.toks+1 }:=
   I2.track fT ⟨by show 2<=sizeLine;rw[d_];decide,[.int i s.toks,u],.cons ⟨_,rfl⟩ (.cons ru .nil),⟨_,PX,rfl,_,rfl⟩⟩
  refine⟨.ref s.heap.objs.size,_,I3,rfl,⟨_,x,rfl,I.fresh,rfl,λys hy=>by rw[I.wm hy hq];exact hx⟩,⟨⟨_,by simpa using S0⟩,WU.at λo q=>(pV.2 it KQ.symm).trans q⟩,λb hb=>?_⟩
  rcases av.mp hb with z|z
  ·subst z
   rw[aN (aU elt)];exact(hf b hb).1
  ·have z':b=it:=by simpa using z
   subst z';rw[aN (aU WW)];exact(hf b hb).1
 done:=by
  intro X hP hw hK hc i pins s σ H E I hf st hg;subst hP hw hK;obtain⟨⟨old,he⟩,hit⟩:=st;obtain⟨xs,hq,hx⟩:=hg;obtain⟨its,rv,p,hz⟩:=I.list hq;have hl:=rv.length;exact wpAny_pyNext_enum_end (I.ok.hd hc) he hit p.isList (by simp;omega) λh' eb=>⟨rfl,I.qH (ch:=[e,it]) (t':=s.toks) (λb o hb q=>eb b o (λz=>hb (by simp[z])) q) hf⟩
 self:=λ_ _ _ _ _ st h=>let⟨⟨_,he⟩,_⟩:=st;pC he h
def S1(K:ao)(ta:TA):TI:=λσ H R=>ta σ H λvs H1=>∃a,vs=[.ref a]/\(∃xs,jV K H1 a xs)/\R (Zk K a) H1
theorem LZ{a:bP}{ta:TA}{pos: Pos}{k}(hg:Gl X "enumerate")(hm:X.mg "enumerate"=none)(ha:PA X [a] ta)(hs:starEach [a] X.env=[(false,eval a X.env)]:=by rfl):
  PI X (.Tuple elts k tp) (.Call (.Name "enumerate" p) [a] [] pos) (S1 X.K ta):=by
 intro pins s σ H R I h;refine Call_ (oo I hg hm boot_enumerate (dZ (f7 (ha pos pins s σ H _ I h) λus s1 ⟨vs,H1,I1,r1,q1⟩=>?_) hs rfl))
 obtain⟨l,e,⟨xs,hq⟩,q⟩:=q1;subst e;obtain⟨u,rfl,rx⟩:=vals1 r1;cases rx;obtain⟨its,rv,pl,hz⟩:=I1.list hq;refine call_enumerate_list pl.isList λh' he hit hsz hk=>pC he ?_
 have I2:Inv X pins σ H1 { s1 with heap:=h' }:=I1.kept (t':=s1.toks) hk
 refine⟨_,[s1.heap.objs.size+1,s1.heap.objs.size],_,_,H1,rfl,I2,F8 l _ _ (Nat.succ_ne_self _),⟨⟨_,he⟩,hit⟩,λb hb=>?_,q⟩
 rcases av.mp hb with z|z
 ·subst z
  exact I1.uh (jm _) (I1.hok.fresh (jm _))
 ·have z':b=s1.heap.objs.size:=by simpa using z
  subst z';exact I1.uh (aA _) I1.fresh
def lJ:Key->ai
 | .inl i=>.int i
 | .inr x=>.str x
mutual
inductive Rep(K:ao)(H:Hp):V->ai->Prop
 |non:Rep K H .non .none
 |bl (b:Bool):Rep K H (.bl b) (.bool b)
 |int (i:Int):Rep K H (.int i) (.int i)
 |str (x:Str):Rep K H (.str x) (.str x)
 |lst {a:aI} {xs:List V} {ds:List ai}:jV K H a xs->cu K H xs ds->Rep K H (.ref a) (.list ds)
 |tup {a:aI} {xs:List V} {ds:List ai}:mQ K H a xs->cu K H xs ds->Rep K H (.ref a) (.tuple ds)
 |dct {a:aI} {kvs:List (Key×V)} {ds:List (ai×ai)}:H a=some (.dK kvs)->ds.map (·.1)=kvs.map (λp=>lJ p.1)->cu K H (kvs.map (·.2)) (ds.map (·.2))->Rep K H (.ref a) (.dict ds)
 |Rm {a:aI} {kvs:List (List Key×V)} {ds:List (ai×ai)}:H a=some (.dT kvs)->ds.map (·.1)=kvs.map (λp=>dB (p.1.map lJ))->cu K H (kvs.map (·.2)) (ds.map (·.2))->Rep K H (.ref a) (.dict ((.none,.bool true)::ds))
 |obj {a C dx:aI} {fs:List (Str×V)} {ds:List (ai×ai)}:H a=some (.ins C dx fs)->A_ K C->(∀f∈fs.map (·.1),jo K C f)->ds.map (·.1)=fs.map (λp=>aQ p.1)->cu K H (fs.map (·.2)) (ds.map (·.2))->Rep K H (.ref a) (.dict ((.none,.none)::ds))
 |Vk {a:aI} {o:Obj} {kvs:List (Key×V)} {ds:List (ai×ai)}:H a=some (.FL o (.dK kvs))->ds.map (·.1)=kvs.map (λp=>lJ p.1)->cu K H (kvs.map (·.2)) (ds.map (·.2))->Rep K H (.ref a) (.dict ((.none,.int 1)::ds))
inductive cu(K:ao)(H:Hp):List V->List ai->Prop
 |nil:cu K H [] []
 |cons {x:V} {d:ai} {xs:List V} {ds:List ai}:Rep K H x d->cu K H xs ds->cu K H (x::xs) (d::ds)
end
theorem dC.mU(e:dC H H')(h:mQ K H a xs):mQ K H' a xs:=by
 rcases h with(h|⟨o,h⟩)|h
 ·exact .inl (.inl (e _ _ h))
 ·exact .inl (.inr ⟨o,e _ _ h⟩)
 ·exact .inr h
theorem Rep.mono(s:dC H H'){v:V}(r:Rep K H v d):Rep K H' v d:=
 Rep.rec (motive_1:=λv d _=>Rep K H' v d) (motive_2:=λxs ds _=>cu K H' xs ds) .non (λb=>.bl b) (λi=>.int i) (λx=>.str x) (λh _ t=>.lst (s.seq h) t) (λh _ t=>.tup (s.mU h) t) (λh k _ t=>.dct (s _ _ h) k t) (λh k _ t=>.Rm (s _ _ h) k t) (λh c n k _ t=>.obj (s _ _ h) c n k t) (λh k _ t=>.Vk (s _ _ h) k t) .nil (λ_ _ a t=>.cons a t) r
theorem cu.mono(s:dC H H'):∀{ds:List ai}{xs:List V},cu K H xs ds->cu K H' xs ds
 | [],_,r=>by cases r;exact .nil
 |d::ds,_,r=>by cases r with|cons a t=>exact .cons (a.mono s) (cu.mono s t)
section
variable{K:ao}{H:Hp}
theorem cu.length:∀{xs:List V}{ds:List ai},cu K H xs ds->xs.length=ds.length
 | [],_,r=>by cases r;rfl
 |x::xs,_,r=>by cases r with|cons a t=>simp[cu.length t]
theorem cu.get:∀{xs:List V}{ds:List ai}{i:Nat}{d:ai},cu K H xs ds->ds[i]?=some d->∃x,xs[i]?=some x/\Rep K H x d
 | [],_,_,_,r,e=>by cases r;simp at e
 |x::xs,_,i,d,r,e=>by
  cases r with
  |cons a t=>
   cases i with
   |zero=>simp at e;subst e;exact⟨x,rfl,a⟩
   |succ i=>simpa using cu.get (i:=i) t (by simpa using e)
theorem cu.at{ds:List ai}{x:V}(r:cu K H xs ds)(e:ds[i]?=some d)(h:xs[i]?=some x):Rep K H x d:=by
 obtain⟨y,h1,h2⟩:=r.get e;rw[h]at h1;cases h1;exact h2
theorem cu.append:∀{xs ys:List V}{ds es:List ai},cu K H xs ds->cu K H ys es->cu K H (xs++ys) (ds++es)
 | [],_,_,_,r,s=>by cases r;exact s
 |x::xs,_,_,_,r,s=>by cases r with|cons a t=>exact .cons a (cu.append t s)
theorem cu.take:∀{xs:List V}{ds:List ai}(n:Nat),cu K H xs ds->cu K H (xs.take n) (ds.take n)
 |_,_,0,_=>by simpa using cu.nil
 | [],_,_+1,r=>by cases r;exact .nil
 |x::xs,_,n+1,r=>by cases r with|cons a t=>exact .cons a (cu.take n t)
theorem cu.drop:∀{xs:List V}{ds:List ai}(n:Nat),cu K H xs ds->cu K H (xs.drop n) (ds.drop n)
 |_,_,0,r=>r
 | [],_,_+1,r=>by cases r;exact .nil
 |x::xs,_,n+1,r=>by cases r with|cons a t=>exact cu.drop n t
end
mutual
theorem jE(I:Inv X pins σ H s):∀(d:ai){v:V}{u:aB},d.canLay0=true->Rep X.K H v d->RelV v u->∃as,Reads s.heap u d as
 | .none,_,_,_,r,q=>by cases r;cases q;exact⟨_,.none⟩
 | .bool b,_,_,_,r,q=>by cases r;cases q;exact⟨_,.bool b⟩
 | .int i,_,_,_,r,q=>by cases r;obtain⟨t,rfl⟩:=q;exact⟨_,.int i t⟩
 | .str x,_,_,_,r,q=>by cases r;obtain⟨t,rfl⟩:=q;exact⟨_,.str x t⟩
 | .list ds,_,_,hc,r,q=>by
  cases r with
  |lst h t=>
   cases q;obtain⟨its,rv,⟨o,n,e,c,_,dt⟩,_⟩:=I.list h;obtain⟨as,ra⟩:=m8 I ds hc t rv;exact⟨_,.list e c dt (by simpa using ra)⟩
 | .tuple ds,_,_,hc,r,q=>by
  cases r with
  |tup h t=>
   cases q;obtain⟨its,rv,⟨o,e,c,n,dt⟩,_⟩:=I.tuple h;obtain⟨as,ra⟩:=m8 I ds hc t rv;exact⟨_,.tuple e c dt (by simpa using ra)⟩
 | .dict _,_,_,hc,_,_=>by cases hc
theorem m8(I:Inv X pins σ H s):∀(ds:List ai){xs:List V}{us:List aB},nz ds=true->cu X.K H xs ds->dS xs us->∃as,ReadsAll s.heap us ds as
 | [],_,_,_,r,q=>by cases r;cases q;exact⟨_,.nil⟩
 |d::ds,_,_,hc,r,q=>by
  have Ri:(d.canLay0&&nz ds)=true:=hc;rw[oX]at Ri;cases r with
  |cons a t=>
   cases q with
   |cons b w=>
    obtain⟨as,h1⟩:=jE I d Ri.1 a b;obtain⟨bs,h2⟩:=m8 I ds Ri.2 t w;exact⟨_,.cons h1 h2⟩
end
def Lay(n:Nat)(d:ai):Prop:=d.canLay0=true/\d.depth<=n
inductive Slot where
 |un
 |val (d:ai)
 |own (ds:List ai)
 |ref (a:aI)
variable{δ δ':List Slot}
structure dQ(H0 H di H':Hp):Prop where
 big:dC H H'
 fA:dC H0 di
 sub:dC di H'
 new:∀a,di a≠none->H0 a≠none\/H a=none
theorem dQ.refl(s:dC H0 H):dQ H0 H H0 H:=⟨dC.refl _,dC.refl _,s,λ_ h=>.inl h⟩
theorem dC.ne(s:dC H H')(h:H a≠none):H' a≠none:=by
 cases e:H a with
 |none=>exact qQ7 e h
 |some o=>rw[s a o e];simp
theorem dQ.trans{A B C D E F:Hp}(x:dQ A B C D)(y:dQ C D E F):dQ A B E F:=
 ⟨x.big.trans y.big,x.fA.trans y.fA,y.sub,λa h=>(y.new a h).elim (x.new a) λz=>.inr (x.big.free z)⟩
theorem dQ.laid(s:dC H0 H){p:aI}(h:H p=none):dQ H0 H (upd H0 p o) (upd H p o):=by
 have h0:H0 p=none:=s.free h;refine⟨λb u e=>?_,λb u e=>?_,λb u e=>?_,λb e=>?_⟩
 ·rw[aN (bG e h)];exact e
 ·rw[aN (bG e h0)];exact e
 ·by_cases hb:b=p
  ·subst hb;rw[bB]at e ⊢;exact e
  ·rw[aN hb]at e ⊢;exact s b u e
 ·by_cases hb:b=p
  ·subst hb;exact .inr h
  ·rw[aN hb]at e;exact .inl e
theorem dQ.loose(s:dC H0 H){p:aI}(h:H p=none):dQ H0 H H0 (upd H p o):=
 ⟨λb u e=>by rw[aN (bG e h)];exact e,dC.refl _,λb u e=>by rw[aN (bG (s b u e) h)];exact s b u e,λ_ e=>.inl e⟩
def Iu(K:ao)(B H0 H:Hp):Slot->Option (Option V)->Prop
 | .un,_=>True
 | .val d,o=>∃v,o=some (some v)/\Rep K H0 v d
 | .own ds,o=>∃p xs,o=some (some (.ref p))/\H p=some (.lst xs)/\H0 p=none/\B p=none/\cu K H0 xs ds
 | .ref a,o=>o=some (some (.ref a))
structure gf(K:ao)(B0 B H0 H:Hp)(σ:St)(δ:List Slot):Prop where
 ent:dQ B0 B H0 H
 len:σ.length=δ.length
 slot:∀(i:Nat)sl,δ[i]?=some sl->Iu K B H0 H sl σ[i]?
 apart:∀(i j:Nat)ds es p,i≠j->δ[i]?=some (.own ds)->δ[j]?=some (.own es)->σ[i]?=some (some (.ref p))->σ[j]?≠some (some (.ref p))
section
variable{K:ao}{B0 B H0 H di H':Hp}{σ:St}{δ:List Slot}
theorem gf.sub(f:gf K B0 B H0 H σ δ):dC H0 H:=f.ent.sub
theorem gf.grow(f:gf K B0 B H0 H σ δ)(g:dQ H0 H di H'):gf K B0 B di H' σ δ:=by
 refine⟨f.ent.trans g,f.len,λi sl e=>?_,f.apart⟩
 have q:=f.slot i sl e;cases sl with
 |un=>trivial
 |ref a=>exact q
 |val d=>obtain⟨v,h1,h2⟩:=q;exact⟨v,h1,h2.mono g.fA⟩
 |own ds=>
  obtain⟨p,xs,h1,h2,h3,h4,h5⟩:=q;refine⟨p,xs,h1,g.big _ _ h2,?_,h4,h5.mono g.fA⟩
  cases e2:di p with
  |none=>rfl
  |some o=>
   rcases g.new p (by rw[e2];simp)with z|z
   ·exact qQ7 h3 z
   ·rw[h2]at z;cases z
theorem gf.val(f:gf K B0 B H0 H σ δ)(h:δ[i]?=some (.val d)):∃v,σ[i]?=some (some v)/\Rep K H0 v d:=f.slot i _ h
theorem gf.set(f:gf K B0 B H0 H σ δ){v:V}(r:Rep K H0 v d):gf K B0 B H0 H (σ.set i (some v)) (δ.set i (.val d)):=by
 refine⟨f.ent,by simp[f.len],λj sl e=>?_,λj k ds es p KR e1 e2 e3=>?_⟩
 ·by_cases hj:j=i
  ·subst hj
   have hl:j < δ.length:=by
    have:=(aJ.mp e).1;simpa using this
   rw[bu hl]at e;cases e;rw[bu (by rw[f.len];exact hl)]
   exact⟨v,rfl,r⟩
  ·rw[bf (bV hj)]at e
   rw[bf (bV hj)];exact f.slot j sl e
 ·have nj:j≠i:=λz=>by
   subst z;have hl:j < δ.length:=by simpa using(aJ.mp e1).1
   rw[bu hl]at e1;cases e1
  have nk:k≠i:=λz=>by
   subst z;have hl:k < δ.length:=by simpa using(aJ.mp e2).1
   rw[bu hl]at e2;cases e2
  rw[bf (bV nj)]at e1 e3;rw[bf (bV nk)]at e2 ⊢;exact f.apart j k ds es p KR e1 e2 e3
theorem gf.Iv(f:gf K B0 B H0 H σ δ){ds:List ai}{p:aI}(h1:H p=some (.lst xs))(h2:H0 p=none)(h3:B p=none)(r:cu K H0 xs ds)(hn:∀(j:Nat)es,δ[j]?=some (.own es)->σ[j]?≠some (some (.ref p))):
  gf K B0 B H0 H (σ.set i (some (.ref p))) (δ.set i (.own ds)):=by
 refine⟨f.ent,by simp[f.len],λj sl e=>?_,λj k L0 es q KR e1 e2 e3=>?_⟩
 ·by_cases hj:j=i
  ·subst hj
   have hl:j < δ.length:=by simpa using(aJ.mp e).1
   rw[bu hl]at e;cases e;rw[bu (by rw[f.len];exact hl)]
   exact⟨p,xs,rfl,h1,h2,h3,r⟩
  ·rw[bf (bV hj)]at e
   rw[bf (bV hj)];exact f.slot j sl e
 ·have hlj:j < δ.length:=by simpa using(aJ.mp e1).1
  have hlk:k < δ.length:=by simpa using(aJ.mp e2).1
  by_cases nj:j=i
  ·subst nj
   rw[bu (by rw[f.len];exact hlj)]at e3
   cases e3;rw[bf KR]at e2 ⊢;exact hn k es e2
  ·rw[bf (bV nj)]at e1 e3
   by_cases nk:k=i
   ·subst nk
    rw[bu (by rw[f.len];exact hlk)]
    intro z;cases z;exact hn j L0 e1 e3
   ·rw[bf (bV nk)]at e2 ⊢
    exact f.apart j k L0 es q KR e1 e2 e3
theorem gf.push(f:gf K B0 B H0 H σ δ){ds:List ai}{p:aI}{y:V}(hi:δ[i]?=some (.own ds))(hp:σ[i]?=some (some (.ref p)))(h1:H p=some (.lst xs))(ry:Rep K H0 y d):
  gf K B0 B H0 (upd H p (.lst (xs ++ [y]))) σ (δ.set i (.own (ds ++ [d]))):=by
 obtain⟨p',xs',e1,e2,e3,e4,e5⟩:=f.slot i _ hi;rw[hp]at e1;cases e1;rw[h1]at e2;cases e2;have hl:i < δ.length:=(aJ.mp hi).1;refine⟨⟨λb u e=>?_,f.ent.fA,λb u e=>?_,f.ent.new⟩,by simp[f.len],λj sl e=>?_,λj k L0 es q KR a1 a2 a3=>?_⟩
 ·have:b≠p:=bG e e4
  rw[aN this];exact f.ent.big b u e
 ·have:b≠p:=bG e e3
  rw[aN this];exact f.ent.sub b u e
 ·by_cases hj:j=i
  ·subst hj
   rw[bu hl]at e;cases e;exact⟨p,xs ++ [y],hp,bB,e3,e4,e5.append (.cons ry .nil)⟩
  ·rw[bf (bV hj)]at e
   have q:=f.slot j sl e;cases sl with
   |un=>trivial
   |ref a=>exact q
   |val d=>exact q
   |own L0=>
    obtain⟨p2,WX,g1,g2,g3,g4,g5⟩:=q;have:p2≠p:=λz=>by subst z;exact f.apart i j ds L0 p2 (bV hj) hi e hp g1
    exact⟨p2,WX,g1,by rw[aN this];exact g2,g3,g4,g5⟩
 ·have c1:∃Vl,δ[j]?=some (.own Vl):=by
   by_cases hj:j=i
   ·subst hj;exact⟨_,hi⟩
   ·rw[bf (bV hj)]at a1;exact⟨_,a1⟩
  have c2:∃Vl,δ[k]?=some (.own Vl):=by
   by_cases hk:k=i
   ·subst hk;exact⟨_,hi⟩
   ·rw[bf (bV hk)]at a2;exact⟨_,a2⟩
  obtain⟨d1,c1⟩:=c1;obtain⟨d2,c2⟩:=c2;exact f.apart j k d1 d2 q KR c1 c2 a3
theorem gf.freeze(f:gf K B0 B H0 H σ δ){ds:List ai}{p:aI}(hi:δ[i]?=some (.own ds))(hp:σ[i]?=some (some (.ref p)))(h1:H p=some (.lst xs)):
  gf K B0 B (upd H0 p (.lst xs)) H σ (δ.set i (.val (.list ds)))/\dC H0 (upd H0 p (.lst xs)):=by
 obtain⟨p',xs',e1,e2,e3,e4,e5⟩:=f.slot i _ hi;rw[hp]at e1;cases e1;rw[h1]at e2;cases e2;have hl:i < δ.length:=(aJ.mp hi).1;have sm:dC H0 (upd H0 p (.lst xs)):=λb u e=>by rw[aN (bG e e3)];exact e
 refine⟨⟨⟨f.ent.big,f.ent.fA.trans sm,λb u e=>?_,λb e=>?_⟩,by simp[f.len],λj sl e=>?_,λj k L0 es q KR a1 a2 a3=>?_⟩,sm⟩
 ·by_cases hb:b=p
  ·subst hb;rw[bB]at e;rw[<-e];exact h1
  ·rw[aN hb]at e;exact f.ent.sub b u e
 ·by_cases hb:b=p
  ·subst hb;exact .inr e4
  ·rw[aN hb]at e;exact f.ent.new b e
 ·by_cases hj:j=i
  ·subst hj
   rw[bu hl]at e;cases e;exact⟨.ref p,hp,.lst (jV.of bB) (e5.mono sm)⟩
  ·rw[bf (bV hj)]at e
   have q:=f.slot j sl e;cases sl with
   |un=>trivial
   |ref a=>exact q
   |val d=>obtain⟨v,g1,g2⟩:=q;exact⟨v,g1,g2.mono sm⟩
   |own L0=>
    obtain⟨p2,WX,g1,g2,g3,g4,g5⟩:=q;have:p2≠p:=λz=>by subst z;exact f.apart i j ds L0 p2 (bV hj) hi e hp g1
    exact⟨p2,WX,g1,g2,by rw[aN this];exact g3,g4,g5.mono sm⟩
 ·have nj:j≠i:=λz=>by subst z;rw[bu hl]at a1;cases a1
  have nk:k≠i:=λz=>by subst z;rw[bu hl]at a2;cases a2
  rw[bf (bV nj)]at a1;rw[bf (bV nk)]at a2;exact f.apart j k L0 es q KR a1 a2 a3
end
def cE(X:Cx)(e:bP):TE:=λσ H Q=>∀pins s,Inv X pins σ H s->wpAny (model X.prog X.w) X.A (eval e X.env) (EP X pins σ Q) X.xe s
def cT(X:Cx)(e:bP):TT:=λσ H Q=>∀pins s,Inv X pins σ H s->wpAny (model X.prog X.w) X.A (isTrue e X.env (eval e X.env)) (TP X pins σ Q) X.xe s
def cS(X:Cx)(st:fH):TS:=λD σ H=>∀pins s,Inv X pins σ H s->wpAny (model X.prog X.w) X.A (exec st X.env) (SP X pins D) X.xe s
def u9(X:Cx)(st:List fH):TS:=λD σ H=>∀pins s,Inv X pins σ H s->wpAny (model X.prog X.w) X.A (execs st X.env) (SP X pins D) X.xe s
theorem cX:PE X e (cE X e):=λpins s _ _ _ I h=>h pins s I
theorem nE:PT X e (cT X e):=λpins s _ _ _ I h=>h pins s I
theorem F9{e:fH}:PS X e (cS X e):=λpins s _ _ _ I h=>h pins s I
theorem j7{e:List fH}:EE X e (u9 X e):=λpins s _ _ _ I h=>h pins s I
def VE(X:Cx)(e:bP)(δ:List Slot)(d:ai):Prop:=∀B0 B σ H0 H Q,gf X.K B0 B H0 H σ δ->(∀v di H',dQ H0 H di H'->Rep X.K di v d->Q v H')->cE X e σ H Q
def VO(X:Cx)(e:bP)(δ:List Slot)(ds:List ai):Prop:=∀B0 B σ H0 H Q,gf X.K B0 B H0 H σ δ->
 (∀p xs di H',dQ H0 H di H'->H p=none->di p=none->H' p=some (.lst xs)->cu X.K di xs ds->Q (.ref p) H')->cE X e σ H Q
def VT(X:Cx)(e:bP)(δ:List Slot)(b:Bool):Prop:=∀B0 B σ H0 H Q,gf X.K B0 B H0 H σ δ->(∀di H',dQ H0 H di H'->Q b H')->cT X e σ H Q
def VA(X:Cx)(es:List bP)(δ:List Slot)(ds:List ai):Prop:=∃t,PA X es t/\∀B0 B σ H0 H Q,gf X.K B0 B H0 H σ δ->(∀vs di H',dQ H0 H di H'->cu X.K di vs ds->Q vs H')->t σ H Q
theorem VE.of{t:TE}(h:PE X e t)(q:∀B0 B σ H0 H Q,gf X.K B0 B H0 H σ δ->(∀v di H',dQ H0 H di H'->Rep X.K di v d->Q v H')->t σ H Q):VE X e δ d:=
 λB0 B σ H0 H Q f k pins s I=>h pins s σ H Q I (q B0 B σ H0 H Q f k)
theorem VO.of{ds:List ai}{t:TE}(h:PE X e t)(q:∀B0 B σ H0 H Q,gf X.K B0 B H0 H σ δ->
  (∀p xs di H',dQ H0 H di H'->H p=none->di p=none->H' p=some (.lst xs)->cu X.K di xs ds->Q (.ref p) H')->t σ H Q):VO X e δ ds:=
 λB0 B σ H0 H Q f k pins s I=>h pins s σ H Q I (q B0 B σ H0 H Q f k)
theorem VT.of{t:TT}(h:PT X e t)(q:∀B0 B σ H0 H Q,gf X.K B0 B H0 H σ δ->(∀di H',dQ H0 H di H'->Q b H')->t σ H Q):VT X e δ b:=
 λB0 B σ H0 H Q f k pins s I=>h pins s σ H Q I (q B0 B σ H0 H Q f k)
theorem VO.ve{ds:List ai}(h:VO X e δ ds):VE X e δ (.list ds):=λB0 B σ H0 H Q f k=>h B0 B σ H0 H Q f λp xs di H' g h1 h2 h3 r=>by
 have sm:dC di (upd di p (.lst xs)):=λb u e=>by rw[aN (bG e h2)];exact e
 refine k (.ref p) (upd di p (.lst xs)) H' ⟨g.big,g.fA.trans sm,λb u e=>?_,λb e=>?_⟩ (.lst (jV.of bB) (r.mono sm))
 ·by_cases hb:b=p
  ·subst hb;rw[bB]at e;rw[<-e];exact h3
  ·rw[aN hb]at e;exact g.sub b u e
 ·by_cases hb:b=p
  ·subst hb;exact .inr h1
  ·rw[aN hb]at e;exact g.new b e
def yL(K:ao)(r:R2)(d1 d2 d:ai):Prop:=∀x y H0 H Q,dC H0 H->Rep K H0 x d1->Rep K H0 y d2->(∀v di H',dQ H0 H di H'->Rep K di v d->Q v H')->r x y H Q
section
variable{X:Cx}{a b c e:bP}{δ:List Slot}{d d1 d2 d3:ai}{pos:Pos}
theorem ae(i:Nat)(h:δ[i]?=some (.val d))(hN:X.N[i]?=some x:=by rfl)(hv:AW X.env.scope x:=by first|exact aY rfl|exact b_ (aY rfl)|exact b_ (b_ rfl))(hd:(x==("__debug__":Str))=false:=by decide)
  (nQ:(x==("__classdict__":Str))=false:=by decide):VE X (.Name x pos) δ d:=
 .of (jN hN hv hd nQ) λB0 B σ H0 H Q f k=>let⟨v,h1,h2⟩:=f.val h;⟨v,h1,k v H0 H (.refl f.sub) h2⟩
theorem aK{i:Int}{j}:VE X (.Constant (.int i) j pos) δ (.int i):=.of HL λ_ _ _ _ _ _ f k=>k _ _ _ (.refl f.sub) (.int i)
theorem Iw{i:Bool}{j}:VE X (.Constant (.bool i) j pos) δ (.bool i):=.of RT λ_ _ _ _ _ _ f k=>k _ _ _ (.refl f.sub) (.bl i)
theorem gF{j}:VE X (.Constant .none j pos) δ .none:=.of OZ λ_ _ _ _ _ _ f k=>k _ _ _ (.refl f.sub) .non
theorem aM{i:Str}{j}:VE X (.Constant (.str i) j pos) δ (.str i):=.of O1 λ_ _ _ _ _ _ f k=>k _ _ _ (.refl f.sub) (.str i)
theorem two_d{r:R2}(hd:yL X.K r d1 d2 d)(h1:VE X a δ d1)(h2:VE X b δ d2):∀B0 B σ H0 H Q,gf X.K B0 B H0 H σ δ->(∀v di H',dQ H0 H di H'->Rep X.K di v d->Q v H')->R8 r (cE X a) (cE X b) σ H Q:=λB0 B σ H0 H Q f k=>
 h1 B0 B σ H0 H _ f λv H1 dP g1 r1=>h2 B0 B σ H1 dP _ (f.grow g1) λu H2 h8 g2 r2=>hd v u H2 h8 Q g2.sub (r1.mono g2.fA) r2 λw H3 wK g3 r3=>k w H3 wK ((g1.trans g2).trans g3) r3
theorem rV{op:Operator}{r:R2}(ho:qE X (binaryOp op) r)(hd:yL X.K r d1 d2 d)(h1:VE X a δ d1)(h2:VE X b δ d2):VE X (.BinOp a op b pos) δ d:=.of (EH ho cX cX) (two_d hd h1 h2)
theorem p_{r:R2}(ho:qE X (compareOp op) r)(hd:yL X.K r d1 d2 d)(h1:VE X a δ d1)(h2:VE X b δ d2)(hm:behindInMarks op b=false):VE X (.Compare a [op] [b] pos) δ d:=.of (Lc ho cX cX hm) (two_d hd h1 h2)
theorem gT{r:R2}{k:Bool}(ho:qE X (compareOp op) r)(hd:yL X.K r d1 d2 (.bool k))(h1:VE X a δ d1)(h2:VE X b δ d2)(hm:behindInMarks op b=false):VT X (.Compare a [op] [b] pos) δ k:=
 .of (Ld ho cX cX hm) λB0 B σ H0 H Q f q=>two_d hd h1 h2 B0 B σ H0 H _ f λv di H' g r=>by cases r;exact⟨_,rfl,q di H' g⟩
theorem Dy{r:R2}(ho:KL X r)(hd:yL X.K r d1 d2 d)(h1:VE X a δ d1)(h2:VE X b δ d2)(hs:sY b:=by intro _ _;rfl):VE X (.Subscript a b pos) δ d:=.of (Sx ho cX cX hs) (two_d hd h1 h2)
end
theorem S2(i j:Int):yL K (KH λi j=>.int (g i j)) (.int i) (.int j) (.int (g i j)):=λx y H0 H Q s r1 r2 k=>by cases r1;cases r2;exact⟨_,_,rfl,rfl,k _ _ _ (.refl s) (.int _)⟩
theorem zP{g:Int->Int->Bool}(i j:Int):yL K (KH λi j=>.bl (g i j)) (.int i) (.int j) (.bool (g i j)):=λx y H0 H Q s r1 r2 k=>by cases r1;cases r2;exact⟨_,_,rfl,rfl,k _ _ _ (.refl s) (.bl _)⟩
theorem PY{C:Int->Int->Prop}(i j:Int)(h:C i j):yL K (rI C λi j=>.int (g i j)) (.int i) (.int j) (.int (g i j)):=λx y H0 H Q s r1 r2 k=>by cases r1;cases r2;exact⟨_,_,rfl,rfl,h,k _ _ _ (.refl s) (.int _)⟩
def PZ(K:ao)(n:Nat)(g:ai->ai->Bool):R2:=λx y H Q=>∃dx dy,Rep K H x dx/\Rep K H y dy/\Lay n dx/\Lay n dy/\Q (.bl (g dx dy)) H
theorem Iy(hu:X.A.units+n+2<cLine):qE X (compareOp .Eq) (PZ X.K n λx y=>dm x y):=by
 intro pins s σ H x y v u Q I rx ry ⟨dx,dy,r1,r2,l1,l2,q⟩;obtain⟨as,ra⟩:=jE I dx l1.1 r1 rx;obtain⟨bs,rb⟩:=jE I dy l2.1 r2 ry;have h1:=l1.2;exact SeqAt.compareEq_reads ra rb l1.1 l2.1 (by omega) ⟨.bl _,H,I,rfl,q⟩
theorem Iz(hu:X.A.units+n+2<cLine):qE X (compareOp .NotEq) (PZ X.K n λx y=>!dm x y):=by
 intro pins s σ H x y v u Q I rx ry ⟨dx,dy,r1,r2,l1,l2,q⟩;obtain⟨as,ra⟩:=jE I dx l1.1 r1 rx;obtain⟨bs,rb⟩:=jE I dy l2.1 r2 ry;have h1:=l1.2;exact SeqAt.neOverData X.prog X.w X.A X.xe s v u dx dy as bs _ ra rb l1.1 l2.1 (by omega) ⟨.bl _,H,I,rfl,q⟩
def rm(d:ai):ai->Bool
 | .list xs=>xs.any λy=>dm y d
 | .tuple xs=>xs.any λy=>dm y d
 |_=>false
def yM:ai->Bool
 | .list _=>true
 | .tuple _=>true
 |_=>false
def P0(K:ao)(n:Nat)(neg:Bool):R2:=λx y H Q=>∃dx dy,Rep K H x dx/\Rep K H y dy/\yM dy=true/\Lay n dx/\Lay n dy/\Q (.bl (if neg then !rm dx dy else rm dx dy)) H
theorem IA(hu:X.A.units+n+2<cLine):qE X (compareOp .In) (P0 X.K n false):=by
 intro pins s σ H x y v u Q I rx ry ⟨dx,dy,r1,r2,hs,l1,l2,q⟩;obtain⟨as,ra⟩:=jE I dx l1.1 r1 rx;obtain⟨bs,rb⟩:=jE I dy l2.1 r2 ry;have h1:=l1.2;cases dy with
 |list ys=>exact SeqAt.in_list_reads rb ra l2.1 l1.1 (by omega) ⟨.bl _,H,I,rfl,q⟩
 |tuple ys=>exact SeqAt.in_tuple_reads rb ra l2.1 l1.1 (by omega) ⟨.bl _,H,I,rfl,q⟩
 |_=>cases hs
theorem yN(hu:X.A.units+n+2<cLine):qE X (compareOp .NotIn) (P0 X.K n true):=by
 intro pins s σ H x y v u Q I rx ry ⟨dx,dy,r1,r2,hs,l1,l2,q⟩;obtain⟨as,ra⟩:=jE I dx l1.1 r1 rx;obtain⟨bs,rb⟩:=jE I dy l2.1 r2 ry;have h1:=l1.2;cases dy with
 |list ys=>exact SeqAt.notIn_list_reads rb ra l2.1 l1.1 (by omega) ⟨.bl _,H,I,rfl,q⟩
 |tuple ys=>exact SeqAt.notIn_tuple_reads rb ra l2.1 l1.1 (by omega) ⟨.bl _,H,I,rfl,q⟩
 |_=>cases hs
theorem E1{g:ai->ai->Bool}{d1 d2:ai}(l1:Lay n d1)(l2:Lay n d2):yL K (PZ K n g) d1 d2 (.bool (g d1 d2)):=λx y H0 H Q s r1 r2 k=>⟨d1,d2,r1.mono s,r2.mono s,l1,l2,k _ _ _ (.refl s) (.bl _)⟩
theorem L1{neg:Bool}{d1 d2:ai}(hs:yM d2=true)(l1:Lay n d1)(l2:Lay n d2):yL K (P0 K n neg) d1 d2 (.bool (if neg then !rm d1 d2 else rm d1 d2)):=λx y H0 H Q s r1 r2 k=>
 ⟨d1,d2,r1.mono s,r2.mono s,hs,l1,l2,k _ _ _ (.refl s) (.bl _)⟩
theorem WY{ds:List ai}{i:Int}(h:pj ds i=some d):yL K (Vg K) (.list ds) (.int i) d:=λx y H0 H Q s r1 r2 k=>by
 cases r2;cases r1 with
 |lst hq r=>
  rename_i p xs
  have hl:=r.length;unfold pj at h;cases e:Lr ds.length i with
  |none=>rw[e]at h;cases h
  |some j=>
   rw[e]at h;obtain⟨v,hv,rv⟩:=r.get (i:=j) (d:=d) h;exact .inl ⟨p,xs,i,v,rfl,rfl,s.seq hq,by unfold pj;rw[hl,e];exact hv,k v _ _ (.refl s) rv⟩
theorem S3{ds:List ai}{i:Int}(h:pj ds i=some d):yL K (Vg K) (.tuple ds) (.int i) d:=λx y H0 H Q s r1 r2 k=>by
 cases r2;cases r1 with
 |tup hq r=>
  rename_i p xs
  have hl:=r.length;unfold pj at h;cases e:Lr ds.length i with
  |none=>rw[e]at h;cases h
  |some j=>
   rw[e]at h;obtain⟨v,hv,rv⟩:=r.get (i:=j) (d:=d) h;exact .inr (.inl ⟨p,xs,i,v,rfl,rfl,s.mU hq,by unfold pj;rw[hl,e];exact hv,k v _ _ (.refl s) rv⟩)
def S4(K:ao):R2:=λx y H Q=>∃l b xs zs,x=.ref l/\y=.ref b/\jV K H l xs/\jV K H b zs/\xs.length+zs.length<=sizeLine/\∀p,H p=none->Q (.ref p) (upd H p (.lst (xs++zs)))
theorem L3:qE X (binaryOp .Add) (S4 X.K):=by
 intro pins s σ H x y v u Q I rx ry h;obtain⟨l,b,xs,zs,rfl,rfl,hl,hb,hz,q⟩:=h;cases rx;cases ry;obtain⟨its,r1,⟨⟨cls,dd,data,sl⟩,n,e1,c1,_,d1⟩,z1⟩:=I.list hl;obtain⟨Lq,r2,⟨⟨Wu,Vc,data2,Vd⟩,n2,e2,c2,_,d2⟩,z2⟩:=I.list hb;simp only at c1 d1 c2 d2;subst c1 d1 c2 d2;have l1:=r1.length;have l2:=r2.length;refine concat_meets ⟨_,e1,rfl⟩ ⟨_,e2,rfl⟩ noFill_list_add seq_list_add PySem.F.slot_list_add PySem.F.entry_list_add (PySem.F.args_list_add_2 _ _) (list_addW l b its.toArray Lq.toArray n n2 dd Vc sl Vd (by rw[bD,bD];omega)) ⟨e1,e2,?_⟩
 rw[show its.toArray++Lq.toArray=(its++Lq).toArray by simp]
 exact⟨.ref _,_,I.Wy (t':=s.toks) (r1.append r2) (by rw[bq];omega),rfl,q _ I.fresh⟩
section
variable{X:Cx}{a b c e:bP}{es:List bP}{δ:List Slot}{d d1 d2 d3:ai}{ds:List ai}{pos:Pos}{i j:Int}{k:Nat}
theorem fy(h1:VE X a δ (.int i))(h2:VE X b δ (.int j)):VE X (.BinOp a .Add b pos) δ (.int (i+j)):=rV Pa (S2 i j) h1 h2
theorem uo(h1:VE X a δ (.int i))(h2:VE X b δ (.int j)):VE X (.BinOp a .Sub b pos) δ (.int (i-j)):=rV Pb (S2 i j) h1 h2
theorem mn(h1:VE X a δ (.int i))(h2:VE X b δ (.int j))(h:La i j):VE X (.BinOp a .Mult b pos) δ (.int (i*j)):=rV Pg (PY i j h) h1 h2
theorem eV(h1:VE X a δ (.int i))(h2:VE X b δ (.int j))(h:0<j):VE X (.BinOp a .Mod b pos) δ (.int (i%j)):=rV Ph (PY i j h) h1 h2
theorem j8(h1:VE X a δ (.int i))(h2:VE X b δ (.int j))(h:R_ i j):VE X (.BinOp a .FloorDiv b pos) δ (.int (i/j)):=rV Lb (PY i j h) h1 h2
theorem S5(h1:VE X a δ (.int i))(h2:VE X b δ (.int j)):VE X (.Compare a [.Gt] [b] pos) δ (.bool (decide (j<i))):=p_ NQ (zP i j) h1 h2 (gb _)
theorem Bh(h1:VE X a δ (.int i))(h2:VE X b δ (.int j)):VT X (.Compare a [.Lt] [b] pos) δ (decide (i<j)):=gT Sb (zP i j) h1 h2 (gb _)
theorem S6(h1:VE X a δ (.int i))(h2:VE X b δ (.int j)):VT X (.Compare a [.LtE] [b] pos) δ (decide (i<=j)):=gT A8 (zP i j) h1 h2 (gb _)
theorem IB(h1:VE X a δ (.int i))(h2:VE X b δ (.int j)):VT X (.Compare a [.Gt] [b] pos) δ (decide (j<i)):=gT NQ (zP i j) h1 h2 (gb _)
theorem NV(h1:VE X a δ (.int i))(h2:VE X b δ (.int j)):VT X (.Compare a [.GtE] [b] pos) δ (decide (j<=i)):=gT Sd (zP i j) h1 h2 (gb _)
theorem zQ(hr:eE k X.A):X.A.units+20+2<cLine:=by have:=hr.un;omega
theorem bN(hr:eE k X.A)(l1:Lay 20 d1)(l2:Lay 20 d2)(h1:VE X a δ d1)(h2:VE X b δ d2):VT X (.Compare a [.Eq] [b] pos) δ (dm d1 d2):=gT (Iy (zQ hr)) (E1 l1 l2) h1 h2 (gb _)
theorem mq(hr:eE k X.A)(l1:Lay 20 d1)(l2:Lay 20 d2)(h1:VE X a δ d1)(h2:VE X b δ d2):VT X (.Compare a [.NotEq] [b] pos) δ (!dm d1 d2):=gT (Iz (zQ hr)) (E1 l1 l2) h1 h2 (gb _)
theorem oZ(hr:eE k X.A)(l1:Lay 20 d1)(l2:Lay 20 d2)(h1:VE X a δ d1)(h2:VE X b δ d2):VE X (.Compare a [.Eq] [b] pos) δ (.bool (dm d1 d2)):=p_ (Iy (zQ hr)) (E1 l1 l2) h1 h2 (gb _)
theorem S7(hr:eE k X.A)(hs:yM d2=true)(l1:Lay 20 d1)(l2:Lay 20 d2)(h1:VE X a δ d1)(h2:VE X b δ d2)(hm:behindInMarks .In b=false:=by with_unfolding_all rfl):VT X (.Compare a [.In] [b] pos) δ (rm d1 d2):=gT (IA (zQ hr)) (L1 (neg:=false) hs l1 l2) h1 h2 hm
theorem IC(hr:eE k X.A)(hs:yM d2=true)(l1:Lay 20 d1)(l2:Lay 20 d2)(h1:VE X a δ d1)(h2:VE X b δ d2)(hm:behindInMarks .NotIn b=false:=by with_unfolding_all rfl):VT X (.Compare a [.NotIn] [b] pos) δ (!rm d1 d2):=gT (yN (zQ hr)) (L1 (neg:=true) hs l1 l2) h1 h2 hm
theorem gK(h1:VE X a δ (.list ds))(h2:VE X b δ (.int i))(h:pj ds i=some d)(hs:sY b:=by intro _ _;rfl):VE X (.Subscript a b pos) δ d:=Dy Dv (WY h) h1 h2 hs
theorem b9(h1:VE X a δ (.tuple ds))(h2:VE X b δ (.int i))(h:pj ds i=some d)(hs:sY b:=by intro _ _;rfl):VE X (.Subscript a b pos) δ d:=Dy Dv (S3 h) h1 h2 hs
theorem qc:PT X e (λ_ _ _=>False):=λ_ _ _ _ _ _ h=>h.elim
theorem zR{k:Bool}(h:VT X a δ k):VT X (.UnaryOp .Not a pos) δ (!k):=.of (O2 nE) λB0 B σ H0 H Q f q=>h B0 B σ H0 H _ f q
theorem rW(h1:VT X a δ k1)(h2:k1=true->VT X b δ k2):VT X (.BoolOp .And [a,b] pos) δ (k1&&k2):=by
 cases k1 with
 |true=>
  exact .of (pw_and nE (pw_and1 nE)).pt λB0 B σ H0 H Q f q=>h1 B0 B σ H0 H _ f λH1 dP g=>by
   rw[qQ3 rfl];exact h2 rfl B0 B σ H1 dP _ (f.grow g) λH2 h8 g2=>q H2 h8 (g.trans g2)
 |false=>
  exact .of (pw_and nE (pw_and1 qc)).pt λB0 B σ H0 H Q f q=>h1 B0 B σ H0 H _ f λH1 dP g=>by
   rw[qQ2 cq];exact q H1 dP g
theorem iY(h1:VT X a δ k1)(h2:k1=false->VT X b δ k2):VT X (.BoolOp .Or [a,b] pos) δ (k1||k2):=by
 cases k1 with
 |false=>
  exact .of (pw_or nE (pw_or1 nE)).pt λB0 B σ H0 H Q f q=>h1 B0 B σ H0 H _ f λH1 dP g=>by
   rw[qQ2 cq];exact h2 rfl B0 B σ H1 dP _ (f.grow g) λH2 h8 g2=>q H2 h8 (g.trans g2)
 |true=>
  exact .of (pw_or nE (pw_or1 qc)).pt λB0 B σ H0 H Q f q=>h1 B0 B σ H0 H _ f λH1 dP g=>by
   rw[qQ3 rfl];exact q H1 dP g
theorem Dz{k3: Bool}(h1:VT X a δ k1)(h2:k1=false->VT X b δ k2)(h3:k1=false->k2=false->VT X c δ k3):VT X (.BoolOp .Or [a,b,c] pos) δ (k1||(k2||k3)):=by
 cases k1 with
 |true=>
  exact .of (pw_or nE (pw_or qc (pw_or1 qc))).pt λB0 B σ H0 H Q f q=>h1 B0 B σ H0 H _ f λH1 dP g=>by
   rw[qQ3 rfl];exact q H1 dP g
 |false=>
  cases k2 with
  |true=>
   exact .of (pw_or nE (pw_or nE (pw_or1 qc))).pt λB0 B σ H0 H Q f q=>h1 B0 B σ H0 H _ f λH1 dP g=>by
    rw[qQ2 cq];refine h2 rfl B0 B σ H1 dP _ (f.grow g) λH2 h8 g2=>?_
    rw[qQ3 rfl];exact q H2 h8 (g.trans g2)
  |false=>
   exact .of (pw_or nE (pw_or nE (pw_or1 nE))).pt λB0 B σ H0 H Q f q=>h1 B0 B σ H0 H _ f λH1 dP g=>by
    rw[qQ2 cq];refine h2 rfl B0 B σ H1 dP _ (f.grow g) λH2 h8 g2=>?_
    rw[qQ2 cq];exact h3 rfl rfl B0 B σ H2 h8 _ ((f.grow g).grow g2) λH3 wK g3=>q H3 wK ((g.trans g2).trans g3)
def WZ:ai->Option Bool
 | .none=>some false
 | .bool b=>some b
 | .int i=>some (i != 0)
 | .list ds=>some (!ds.isEmpty)
 | .tuple ds=>some (!ds.isEmpty)
 |_=>none
theorem cu.empty{ds:List ai}(r:cu K H xs ds):xs.isEmpty=ds.isEmpty:=by cases r<;>rfl
theorem nF{t:Bool}(h:VE X a δ d)(ht:WZ d=some t)(he:∀whole,isTrue a X.env whole=(do let v <-whole;standAt a.pos;holding [v] (truthy v)):=by intro _;rfl):VT X a δ t:=
 .of (HV cX he) λB0 B σ H0 H Q f q=>h B0 B σ H0 H _ f λv H1 dP g r=>by
  refine⟨t,?_,q H1 dP g⟩
  cases r with
  |non=>cases ht;exact(rfl:false=false)
  |bl b=>cases ht;exact(rfl:t=t)
  |int i=>cases ht;exact(rfl:(i != 0)=(i != 0))
  |str x=>cases ht
  |lst hq r=>cases ht;exact .inl ⟨_,g.sub.seq hq,by rw[r.empty]⟩
  |tup hq r=>cases ht;exact .inr (.inl ⟨_,g.sub.mU hq,by rw[r.empty]⟩)
  |dct _ _ _=>cases ht
  |Rm _ _ _=>cases ht
  |obj _ _ _ _ _=>cases ht
  |Vk _ _ _=>cases ht
theorem zS{k:Bool}(h:VT X c δ k)(h1:k=true->VE X a δ d)(h2:k=false->VE X b δ d):VE X (.IfExp c a b pos) δ d:=
 .of (HP nE cX cX) λB0 B σ H0 H Q f q=>h B0 B σ H0 H _ f λH1 dP g=>by
  cases k with
  |true=>
   rw[qQ3 rfl];exact h1 rfl B0 B σ H1 dP _ (f.grow g) λv H2 h8 g2 r=>q v H2 h8 (g.trans g2) r
  |false=>
   rw[qQ2 cq];exact h2 rfl B0 B σ H1 dP _ (f.grow g) λv H2 h8 g2 r=>q v H2 h8 (g.trans g2) r
theorem aZ:VA X [] δ []:=⟨_,fK,λ_ _ _ _ _ _ f q=>q _ _ _ (.refl f.sub) .nil⟩
theorem aq(h:VE X e δ d)(hr:VA X es δ ds)(hs:starEach (e::es) X.env=(false,eval e X.env)::starEach es X.env:=by rfl):VA X (e::es) δ (d::ds):=by
 obtain⟨t,p,ht⟩:=hr;exact⟨_,ej cX p hs,λB0 B σ H0 H Q f q=>h B0 B σ H0 H _ f λv H1 dP g r=>ht B0 B σ H1 dP _ (f.grow g) λvs H2 h8 g2 rs=>q _ _ _ (g.trans g2) (.cons (r.mono g2.fA) rs)⟩
theorem gy{x1}(h:VA X es δ ds)(hz:ds.length<=sizeLine:=by(simp only[gw];rw[d_];decide)):VE X (.Tuple es x1 pos) δ (.tuple ds):=by
 obtain⟨t,p,ht⟩:=h;exact .of (zF p) λB0 B σ H0 H Q f q=>ht B0 B σ H0 H _ f λvs H1 dP g r=>⟨by rw[r.length];exact hz,λa ha=>q _ _ _ (g.trans (.laid g.sub ha)) (.tup (mQ.of bB) (r.mono (dQ.laid g.sub ha).fA))⟩
theorem iH(h:VA X es δ ds)(hz:ds.length<=sizeLine:=by(simp only[gw];rw[d_];decide)):VO X (.List es pos) δ ds:=by
 obtain⟨t,p,ht⟩:=h;exact .of (wy p) λB0 B σ H0 H Q f q=>ht B0 B σ H0 H _ f λvs H1 dP g r=>⟨by rw[r.length];exact hz,λa ha=>q a vs H1 _ (g.trans (.loose g.sub ha)) (g.big.free ha) (g.sub.free ha) bB r⟩
def cutD{α:Type}(xs:List α)(lo hi:Option Int):List α:=(xs.drop (HT.ky xs.length 0 lo)).take (HT.ky xs.length xs.length hi-HT.ky xs.length 0 lo)
theorem cu.cut(r:cu K H xs ds)(lo hi:Option Int):cu K H (Bc xs lo hi) (cutD ds lo hi):=by
 unfold Bc cutD;rw[r.length];exact(r.drop _).take _
inductive rn(X:Cx)(δ:List Slot):Option bP->Option Int->Prop
 |no:rn X δ none none
 |yes {e:bP} {i:Int}:VE X e δ (.int i)->rn X δ (some e) (some i)
theorem rn.ok{o:Option bP}{p:Option Int}(h:rn X δ o p):∃t,PO X o t/\∀B0 B σ H0 H Q,gf X.K B0 B H0 H σ δ->(∀di H',dQ H0 H di H'->Q p H')->t σ H Q:=by
 cases h with
 |no=>exact⟨_,Lk,λ_ _ _ _ _ _ f q=>q _ _ (.refl f.sub)⟩
 |yes h=>exact⟨_,Ln cX,λB0 B σ H0 H Q f q=>h B0 B σ H0 H _ f λv H1 dP g r=>by cases r;exact⟨_,rfl,q _ _ g⟩⟩
theorem iF{lo hi:Option bP}{l u:Option Int}(h:VE X a δ (.list ds))(hl:rn X δ lo l)(hh:rn X δ hi u):VO X (.Subscript a (.Slice lo hi none p2) pos) δ (cutD ds l u):=by
 obtain⟨tl,pl,ql⟩:=hl.ok;obtain⟨th,ph,qh⟩:=hh.ok;refine .of (wC Lw cX pl ph) λB0 B σ H0 H Q f q=>h B0 B σ H0 H _ f λv H1 dP g r=>ql B0 B σ H1 dP _ (f.grow g) λH2 h8 g2=>qh B0 B σ H2 h8 _ ((f.grow g).grow g2) λH3 wK g3=>?_
 cases r with
 |lst hq r=>
  refine⟨_,_,rfl,g3.sub.seq ((g2.fA.trans g3.fA).seq hq),λp hp=>?_⟩
  have gg:=(g.trans g2).trans g3;exact q p _ H3 _ (gg.trans (.loose g3.sub hp)) (gg.big.free hp) (g3.sub.free hp) bB ((r.mono (g2.fA.trans g3.fA)).cut l u)
theorem qJ{lo hi:Option bP}{l u:Option Int}(h:VE X a δ (.tuple ds))(hl:rn X δ lo l)(hh:rn X δ hi u)(hw:¬(HT.ky ds.length 0 l=0/\HT.ky ds.length ds.length u=ds.length)):
  VE X (.Subscript a (.Slice lo hi none p2) pos) δ (.tuple (cutD ds l u)):=by
 obtain⟨tl,pl,ql⟩:=hl.ok;obtain⟨th,ph,qh⟩:=hh.ok;refine .of (wC Pr cX pl ph) λB0 B σ H0 H Q f q=>h B0 B σ H0 H _ f λv H1 dP g r=>ql B0 B σ H1 dP _ (f.grow g) λH2 h8 g2=>qh B0 B σ H2 h8 _ ((f.grow g).grow g2) λH3 wK g3=>?_
 cases r with
 |tup hq r=>
  refine⟨_,_,rfl,g3.sub.mU ((g2.fA.trans g3.fA).mU hq),by rw[r.length];exact hw,λp hp=>?_⟩
  have gg:=(g.trans g2).trans g3;exact q _ _ _ (gg.trans (.laid g3.sub hp)) (.tup (mQ.of bB) (((r.mono (g2.fA.trans g3.fA)).cut l u).mono (dQ.laid g3.sub hp).fA))
def mw(K:ao)(r:List V->Hp->VK->Prop)(ds:List ai)(d:ai):Prop:=∀vs H0 H Q,dC H0 H->cu K H0 vs ds->(∀v di H',dQ H0 H di H'->Rep K di v d->Q v H')->r vs H Q
def IE(K:ao)(r:List V->Hp->VK->Prop)(ds es:List ai):Prop:=∀vs H0 H Q,dC H0 H->cu K H0 vs ds->
 (∀p xs di H',dQ H0 H di H'->H p=none->di p=none->H' p=some (.lst xs)->cu K di xs es->Q (.ref p) H')->r vs H Q
theorem h_(hc:jD X (.builtin id) r)(hd:mw X.K r ds d)(ha:VA X (e::es) δ ds)(hm:X.mg x=none)(hv:bootBuiltins x=some (.builtin id))(hg:Gl X x:=by rfl)(hn:x≠"__name__":=by decide)(nB:(x==("__debug__":Str))=false:=by decide)
  (he:starEach (e::es) X.env=(false,eval e X.env)::starEach es X.env:=by rfl)(sW:(backTo pos (starEach es X.env)).any (·.1)=false:=by rfl):VE X (.Call (.Name x p) (e::es) [] pos) δ d:=by
 obtain⟨t,pa,ht⟩:=ha;exact .of (wA hc hg hm hv pa hn nB he sW) λB0 B σ H0 H Q f q=>ht B0 B σ H0 H _ f λvs H1 dP g r=>hd vs H1 dP Q g.sub r λv H2 h8 g2 r2=>q v H2 h8 (g.trans g2) r2
theorem jg(hc:jD X (.type id) r)(hd:mw X.K r ds d)(ha:VA X (e::es) δ ds)(hm:X.mg x=none)(hv:bootBuiltins x=some (.type id))(hg:Gl X x:=by rfl)(hn:x≠"__name__":=by decide)(nB:(x==("__debug__":Str))=false:=by decide)
  (he:starEach (e::es) X.env=(false,eval e X.env)::starEach es X.env:=by rfl)(sW:(backTo pos (starEach es X.env)).any (·.1)=false:=by rfl):VE X (.Call (.Name x p) (e::es) [] pos) δ d:=by
 obtain⟨t,pa,ht⟩:=ha;exact .of (qG hc hg hm hv pa hn nB he sW) λB0 B σ H0 H Q f q=>ht B0 B σ H0 H _ f λvs H1 dP g r=>hd vs H1 dP Q g.sub r λv H2 h8 g2 r2=>q v H2 h8 (g.trans g2) r2
theorem yO{zs:List ai}(hc:jD X (.type id) r)(hd:IE X.K r ds zs)(ha:VA X (e::es) δ ds)(hm:X.mg x=none)(hv:bootBuiltins x=some (.type id))(hg:Gl X x:=by rfl)(hn:x≠"__name__":=by decide)(nB:(x==("__debug__":Str))=false:=by decide)
  (he:starEach (e::es) X.env=(false,eval e X.env)::starEach es X.env:=by rfl)(sW:(backTo pos (starEach es X.env)).any (·.1)=false:=by rfl):VO X (.Call (.Name x p) (e::es) [] pos) δ zs:=by
 obtain⟨t,pa,ht⟩:=ha;exact .of (qG hc hg hm hv pa hn nB he sW) λB0 B σ H0 H Q f q=>ht B0 B σ H0 H _ f λvs H1 dP g r=>hd vs H1 dP Q g.sub r λv xs H2 h8 g2 a1 a2 a3 a4=>q v xs H2 h8 (g.trans g2) (g.big.free a1) a2 a3 a4
theorem cu.one(r:cu K H vs [d]):∃v,vs=[v]/\Rep K H v d:=by
 cases r with|cons a t=>cases t;exact⟨_,rfl,a⟩
theorem cu.two(r:cu K H vs [d1,d2]):∃v w,vs=[v,w]/\Rep K H v d1/\Rep K H w d2:=by
 cases r with|cons a t=>cases t with|cons b t=>cases t;exact⟨_,_,rfl,a,b⟩
theorem S8:mw K (λxs H Q=>∃p ys,xs=[.ref p]/\(jV K H p ys\/mQ K H p ys)/\Q (.int ys.length) H) [.list ds] (.int ds.length):=λvs H0 H Q s r k=>by
 obtain⟨v,rfl,r1⟩:=r.one;cases r1 with|lst hq r=>exact⟨_,_,rfl,.inl (s.seq hq),k _ _ _ (.refl s) (by rw[r.length];exact .int _)⟩
theorem P1:mw K (λxs H Q=>∃p ys,xs=[.ref p]/\(jV K H p ys\/mQ K H p ys)/\Q (.int ys.length) H) [.tuple ds] (.int ds.length):=λvs H0 H Q s r k=>by
 obtain⟨v,rfl,r1⟩:=r.one;cases r1 with|tup hq r=>exact⟨_,_,rfl,.inr (s.mU hq),k _ _ _ (.refl s) (by rw[r.length];exact .int _)⟩
theorem P2:IE K (λxs H Q=>∃p ys,xs=[.ref p]/\(jV K H p ys\/mQ K H p ys)/\∀l,H l=none->Q (.ref l) (upd H l (.lst ys))) [.list ds] ds:=λvs H0 H Q s r k=>by
 obtain⟨v,rfl,r1⟩:=r.one;cases r1 with|lst hq r=>exact⟨_,_,rfl,.inl (s.seq hq),λl hl=>k l _ H0 _ (.loose s hl) hl (s.free hl) bB r⟩
theorem vW:mw K (λxs H Q=>∃p ys,xs=[.ref p]/\((jV K H p ys/\∀l,H l=none->Q (.ref l) (upd H l (.tup ys)))\/(mQ K H p ys/\Q (.ref p) H))) [.list ds] (.tuple ds):=λvs H0 H Q s r k=>by
 obtain⟨v,rfl,r1⟩:=r.one;cases r1 with|lst hq r=>exact⟨_,_,rfl,.inl ⟨s.seq hq,λl hl=>k _ _ _ (.laid s hl) (.tup (mQ.of bB) (r.mono (dQ.laid s hl).fA))⟩⟩
theorem nG(h:VE X a δ (.list ds))(hm:X.mg "len"=none)(hg:Gl X "len":=by rfl)(hs:starEach [a] X.env=(false,eval a X.env)::starEach [] X.env:=by rfl):VE X (.Call (.Name "len" p) [a] [] pos) δ (.int ds.length):=h_ sZ S8 (aq h aZ hs) hm qY hg (he:=hs)
theorem oB(h:VE X a δ (.tuple ds))(hm:X.mg "len"=none)(hg:Gl X "len":=by rfl)(hs:starEach [a] X.env=(false,eval a X.env)::starEach [] X.env:=by rfl):VE X (.Call (.Name "len" p) [a] [] pos) δ (.int ds.length):=h_ sZ P1 (aq h aZ hs) hm qY hg (he:=hs)
theorem rX{d1 d2:List ai}(h1:VE X a δ (.list d1))(h2:VE X b δ (.list d2))(hz:d1.length+d2.length<=sizeLine):VO X (.BinOp a .Add b pos) δ (d1++d2):=by
 refine .of (EH L3 cX cX) λB0 B σ H0 H Q f q=>h1 B0 B σ H0 H _ f λv H1 dP g1 r1=>h2 B0 B σ H1 dP _ (f.grow g1) λu H2 h8 g2 r2=>?_
 cases r1 with
 |lst hq r1=>
  cases r2 with
  |lst Gi r2=>
   have gg:=g1.trans g2;refine⟨_,_,_,_,rfl,rfl,g2.sub.seq (g2.fA.seq hq),g2.sub.seq Gi,by rw[r1.length,r2.length];exact hz,λp hp=>?_⟩
   exact q p _ H2 _ (gg.trans (.loose g2.sub hp)) (gg.big.free hp) (g2.sub.free hp) bB ((r1.mono g2.fA).append r2)
end
inductive DB where
 |one (i:Nat)
 |tup (is:List Nat)
variable{tgt:DB}
def DC:List Nat->NK
 | []=>R1
 |i::r=>NM (yC i) (DC r)
def HC(K:ao):DB->TG
 | .one i=>yC i
 | .tup is=>R3 K is.length (DC is)
def oC:List Nat->List ai->List Slot->List Slot
 |i::r,d::ds,δ=>oC r ds (δ.set i (.val d))
 |_,_,δ=>δ
def uq:DB->ai->List Slot->Option (List Slot)
 | .one i,d,δ=>some (δ.set i (.val d))
 | .tup is,.tuple ds,δ=>if ds.length=is.length then some (oC is ds δ)else none
 |_,_,_=>none
section
variable{K:ao}{B0 B H0 H:Hp}
theorem Bi:∀{is:List Nat}{xs:List V}{ds:List ai}{σ:St}{δ:List Slot}{Q:St->Hp->Prop},gf K B0 B H0 H σ δ->cu K H0 xs ds->ds.length=is.length->(∀σ',gf K B0 B H0 H σ' (oC is ds δ)->Q σ' H)->DC is xs σ H Q
 | [],xs,ds,σ,δ,Q,f,r,hl,q=>by
  have:ds=[]:=lF hl;subst this;cases r;exact⟨rfl,q σ f⟩
 |i::is,xs,ds,σ,δ,Q,f,r,hl,q=>by
  cases r with
  |nil=>cases hl
  |cons a t=>exact⟨_,_,rfl,Bi (is:=is) (f.set a) t (by simpa using hl) q⟩
theorem my{v:V}{Q:St->Hp->Prop}(f:gf K B0 B H0 H σ δ)(r:Rep K H0 v d)(h:uq tgt d δ=some δ')(q:∀σ',gf K B0 B H0 H σ' δ'->Q σ' H):HC K tgt v σ H Q:=by
 cases tgt with
 |one i=>cases h;exact q _ (f.set r)
 |tup is=>
  cases r with
  |tup hq r=>
   rename_i ds
   have h':(if ds.length=is.length then some (oC is ds δ)else none)=some δ':=h
   by_cases hl:ds.length=is.length
   ·rw[qQ3 hl]at h'
    cases h';exact⟨_,_,rfl,f.sub.mU hq,by rw[r.length,hl],Bi f r hl q⟩
   ·rw[qQ2 hl]at h';cases h'
  |_=>cases h
end
def W1(K:ao)(J:It)(H0:Hp)(ds:List ai):Prop:=∀di H',dC H0 di->dC di H'->∀i,(i<ds.length->J.go i H')/\(ds.length<=i->J.stop i H')/\
 ∀x uZ d,ds[i]?=some d->J.R4 i H' x uZ->∃S9,dQ di H' S9 uZ/\Rep K S9 x d
def VI(X:Cx)(tg iter:bP)(δ:List Slot)(ds:List ai):Prop:=∃wi,PI X tg iter wi/\∀B0 B σ H0 H R,gf X.K B0 B H0 H σ δ->(∀J di H',dQ H0 H di H'->W1 X.K J di ds->R J H')->wi σ H R
def j9(ds:List ai):List ai:=ds.zipIdx.map λp=>.tuple [.int p.2,p.1]
theorem e9(ds:List ai):(j9 ds).length=ds.length:=by simp[j9]
theorem kK{ds:List ai}(h:(j9 ds)[i]?=some d):∃x,ds[i]?=some x/\d=.tuple [.int i,x]:=by
 unfold j9 at h;rw[aF,Ew]at h;cases e:ds[i]? with
 |none=>rw[e]at h;simp at h
 |some x=>rw[e]at h;simp at h;exact⟨x,rfl,h.symm⟩
def gG(n:Nat):List ai:=(bS n).map λ(i:Nat)=>.int (i:Int)
section
variable{X:Cx}{tg a b:bP}{δ:List Slot}{ds:List ai}{pos:Pos}
theorem fE(h:VE X a δ (.list ds)):VI X tg a δ ds:=⟨_,K9 cX,λB0 B σ H0 H R f q=>h B0 B σ H0 H _ f λv H1 dP g r=>by
 cases r with
 |lst hq r=>
  refine⟨_,rfl,⟨_,g.sub.seq hq⟩,q _ H1 dP g λHa Hb s1 s2 i=>?_⟩
  have hl:=r.length;have hS:=(s1.trans s2).seq hq;refine⟨λhi=>?_,λhi=>⟨_,hS,by omega⟩,λx uZ d hd ⟨e,y⟩=>?_⟩
  ·obtain⟨x,hx,_⟩:=r.get (i:=i) (d:=ds[i]) (by simp[hi])
   exact⟨_,x,hS,hx⟩
  ·subst e
   exact⟨Ha,.refl s2,(r.mono s1).at hd (y _ hS)⟩⟩
theorem wL(h:VE X a δ (.tuple ds)):VI X tg a δ ds:=⟨_,O9 cX,λB0 B σ H0 H R f q=>h B0 B σ H0 H _ f λv H1 dP g r=>by
 cases r with
 |tup hq r=>
  refine⟨_,rfl,⟨_,g.sub.mU hq⟩,q _ H1 dP g λHa Hb s1 s2 i=>?_⟩
  have hl:=r.length;have hS:=(s1.trans s2).mU hq;refine⟨λhi=>?_,λhi=>⟨_,hS,by omega⟩,λx uZ d hd ⟨e,y⟩=>?_⟩
  ·obtain⟨x,hx,_⟩:=r.get (i:=i) (d:=ds[i]) (by simp[hi])
   exact⟨_,x,hS,hx⟩
  ·subst e
   exact⟨Ha,.refl s2,(r.mono s1).at hd (y _ hS)⟩⟩
theorem nU{n:Int}(h:VE X a δ (.int n))(hm:X.mg "range"=none)(h1:-(2^62)<=n)(h2:n<2^62)(hg:Gl X "range":=by rfl)(hs:starEach [a] X.env=[(false,eval a X.env)]:=by rfl):VI X tg (.Call (.Name "range" p) [a] [] pos) δ (gG n.toNat):=
 ⟨_,FQ hg hm (ej cX fK hs) hs,λB0 B σ H0 H R f q=>h B0 B σ H0 H _ f λv H1 dP g r=>by
  cases r;refine⟨n,rfl,h1,h2,q _ H1 dP g λHa Hb s1 s2 i=>⟨λhi=>(show i<n.toNat from by simpa[gG]using hi),λhi=>(show n.toNat<=i from by simpa[gG]using hi),λx uZ d hd ⟨e,y⟩=>?_⟩⟩
  subst e;subst y;unfold gG at hd;rw[aF]at hd;have hi:i<n.toNat:=by
   rcases Nat.lt_or_ge i n.toNat with z|z
   ·exact z
   ·rw[df (by simpa using z)]at hd;cases hd
  rw[cg hi]at hd;cases hd;exact⟨Ha,.refl s2,by rw[Int.zero_add];exact .int _⟩⟩
theorem qK{k}(h:VE X a δ (.list ds))(hm:X.mg "enumerate"=none)(hg:Gl X "enumerate":=by rfl)(hs:starEach [a] X.env=[(false,eval a X.env)]:=by rfl):VI X (.Tuple elts k tp) (.Call (.Name "enumerate" p) [a] [] pos) δ (j9 ds):=
 ⟨_,LZ hg hm (ej cX fK hs) hs,λB0 B σ H0 H R f q=>h B0 B σ H0 H _ f λv H1 dP g r=>by
  cases r with
  |lst hq r=>
   refine⟨_,rfl,⟨_,g.sub.seq hq⟩,q _ H1 dP g λHa Hb s1 s2 i=>?_⟩
   have hl:=r.length;have hS:=(s1.trans s2).seq hq;refine⟨λhi=>?_,λhi=>⟨_,hS,by rw[e9]at hi;omega⟩,λx uZ d hd ⟨t,y,e1,e2,e3,e4⟩=>?_⟩
   ·rw[e9]at hi
    obtain⟨x,hx,_⟩:=r.get (i:=i) (d:=ds[i]) (by simp[hi])
    exact⟨_,x,hS,hx⟩
   ·obtain⟨z,hz,rfl⟩:=kK hd
    subst e1;subst e3;refine⟨upd Ha t (.tup [.int i,y]),.laid s2 e2,.tup (mQ.of bB) (.cons (.int _) (.cons ?_ .nil))⟩
    exact((r.mono s1).at hz (e4 _ hS)).mono (dQ.laid s2 e2).fA⟩
end
def Zm(X:Cx)(ifs:List bP):TT:=λσ H Q=>∀pins s,Inv X pins σ H s->wpAny (model X.prog X.w) X.A (testsOf ifs X.env) (TP X pins σ Q) X.xe s
def IG(X:Cx)(ifs:List bP)(δ:List Slot)(b:Bool):Prop:=∀B0 B σ H0 H Q,gf X.K B0 B H0 H σ δ->(∀di H',dQ H0 H di H'->Q b H')->Zm X ifs σ H Q
theorem eN:IG X [] δ true:=λ_ _ _ _ _ _ f q pins s I=>LW pins s _ _ _ I (q _ _ (.refl f.sub))
theorem tG{c:bP}(h:VT X c δ b):IG X [c] δ b:=λB0 B σ H0 H Q f q pins s I=>LX (t:=cT X c) nE pins s σ H Q I (h B0 B σ H0 H Q f q)
def S_:Slot->Slot
 | .val d=>.val d
 |_=>.un
def k8(own:List Str)(cap:List Nat)(δ:List Slot):List Slot:=bp own.length .un++cap.map λi=>S_ (δ.getD i .un)
section
variable{K:ao}{B0 B H0 H:Hp}{σ:St}{δ:List Slot}
theorem gf.comp(f:gf K B0 B H0 H σ δ)(own:List Str)(cap:List Nat):gf K B0 B H0 H (kJ own cap σ) (k8 own cap δ):=by
 have noOwn:∀(i:Nat)ds,(k8 own cap δ)[i]?≠some (.own ds):=λi ds e=>by
  unfold k8 at e;by_cases hi:i<own.length
  ·rw[bX (by simpa using hi),eD]at e
   split at e<;>cases e
  ·rw[cn (by simpa using fJ hi),aF]at e
   cases q:cap[i-(bp own.length Slot.un).length]? with
   |none=>rw[q]at e;cases e
   |some j=>
    rw[q]at e;simp only[fU,gE]at e
    revert e
    cases δ.getD j .un<;>(intro e;cases e)
 refine⟨f.ent,by simp[kJ,k8],λi sl e=>?_,λi j ds es p _ a1=>qQ7 a1 (noOwn i ds)⟩
 unfold k8 at e;unfold kJ;by_cases hi:i<own.length
 ·rw[bX (by simpa using hi),eD]at e
  split at e<;>cases e<;>trivial
 ·rw[cn (by simpa using fJ hi),aF,c9]at e
  rw[cn (by simpa using fJ hi),aF,c9]
  cases q:cap[i-own.length]? with
  |none=>rw[q]at e;cases e
  |some j=>
   rw[q]at e;simp only[fU,gE]at e ⊢;cases w:δ[j]? with
   |none=>rw[aG,w]at e;subst e;trivial
   |some RN=>
    rw[aG,w]at e;cases RN with
    |un=>subst e;trivial
    |ref a=>subst e;trivial
    |own ds=>subst e;trivial
    |val d=>
     subst e;obtain⟨v,h1,h2⟩:=f.slot j _ w;exact⟨v,by rw[aG,h1];rfl,h2⟩
theorem gf.forget(f:gf K B0 B H0 H σ δ)(hl:δ'.length=δ.length)(h:∀(i:Nat)sl,δ'[i]?=some sl->sl=.un\/δ[i]?=some sl):gf K B0 B H0 H σ δ':=by
 refine⟨f.ent,by rw[hl];exact f.len,λi sl e=>?_,λi j ds es p HD a1 a2 a3=>?_⟩
 ·rcases h i sl e with rfl|z
  ·trivial
  ·exact f.slot i sl z
 ·rcases h i _ a1 with z|z
  ·cases z
  ·rcases h j _ a2 with y|y
   ·cases y
   ·exact f.apart i j ds es p HD z y a3
theorem gf.touch{D:aI}(f:gf K B0 B H0 H σ δ)(h0:H0 D=none)(hB:B D=none)(hn:∀(i:Nat)ds,δ[i]?≠some (.own ds)):gf K B0 B H0 (upd H D o) σ δ:=by
 refine⟨⟨λb u e=>by rw[aN (bG e hB)];exact f.ent.big b u e,f.ent.fA,λb u e=>by rw[aN (bG e h0)];exact f.ent.sub b u e,f.ent.new⟩,f.len,λi sl e=>?_,f.apart⟩
 have q:=f.slot i sl e;cases sl with
 |un=>trivial
 |ref a=>exact q
 |val d=>exact q
 |own ds=>exact qQ7 e (hn i ds)
end
theorem rq:∀(is:List Nat)(ds:List ai)(δ:List Slot),(oC is ds δ).length=δ.length
 | [],_,_=>rfl
 |_::_,[],_=>rfl
 |i::is,d::ds,δ=>by
  show(oC is ds (δ.set i (.val d))).length=_
  rw[rq];simp
theorem wM:∀(is:List Nat)(ds:List ai)(δ:List Slot)(j:Nat),j∉is->(oC is ds δ)[j]?=δ[j]?
 | [],_,_,_,_=>rfl
 |_::_,[],_,_,_=>rfl
 |i::is,d::ds,δ,j,h=>by
  show(oC is ds (δ.set i (.val d)))[j]?=_
  rw[wM is ds _ j λz=>h (aR _ z),bf (λ(z:i=j)=>h (by rw[z];exact aO))]
def wN(n:Nat):DB->Bool
 | .one i=>decide (i<n)
 | .tup is=>is.all λi=>decide (i<n)
theorem comp_back(ht:wN own.length tgt=true)(h:uq tgt d (k8 own cap δ)=some δ'):
  δ'.length=(k8 own cap δ).length/\∀(i:Nat)sl,(k8 own cap δ)[i]?=some sl->sl=.un\/δ'[i]?=some sl:=by
 have low:∀(i:Nat)sl,i<own.length->(k8 own cap δ)[i]?=some sl->sl=.un:=λi sl hi e=>by
  unfold k8 at e;rw[bX (by simpa using hi),eD]at e
  split at e<;>cases e<;>rfl
 cases tgt with
 |one i=>
  cases h;refine⟨by simp,λj sl e=>?_⟩
  have hi:i<own.length:=by simpa[wN]using ht
  by_cases hj:j<own.length
  ·exact .inl (low j sl hj e)
  ·exact .inr (by rw[bf (by omega)];exact e)
 |tup is=>
  cases d with
  |tuple ds=>
   have h':(if ds.length=is.length then some (oC is ds (k8 own cap δ))else none)=some δ':=h
   by_cases hl:ds.length=is.length
   ·rw[qQ3 hl]at h'
    cases h';refine⟨rq _ _ _,λj sl e=>?_⟩
    by_cases hj:j<own.length
    ·exact .inl (low j sl hj e)
    ·refine .inr ?_
     rw[wM _ _ _ _ λz=>hj ?_]
     ·exact e
     ·have:=eK.mp ht j z
      simpa using this
   ·rw[qQ2 hl]at h';cases h'
  |_=>cases h
theorem m9(i:Nat)(ds:List ai):(k8 own cap δ)[i]?≠some (.own ds):=λe=>by
 unfold k8 at e;by_cases hi:i<own.length
 ·rw[bX (by simpa using hi),eD]at e
  split at e<;>cases e
 ·rw[cn (by simpa using fJ hi),aF]at e
  cases q:cap[i-(bp own.length Slot.un).length]? with
  |none=>rw[q]at e;cases e
  |some j=>
   rw[q]at e;simp only[fU,gE]at e
   revert e
   cases δ.getD j .un<;>(intro e;cases e)
section
variable{X:Cx}{sc:kz}{own N:List Str}{cap:List Nat}{cl:List (Str×aI)}{tg elt iter:bP}{ifs:List bP}{δ:List Slot}{ds:List ai}{pos:Pos}{tgt:DB}
def DE(X:Cx)(sc:kz)(own:List Str)(cap:List Nat)(N:List Str)(cl:List (Str×aI))(tgt:DB)(elt:bP)(ifs:List bP)(δ:List Slot)(F:ai->Option ai)(d:ai):Prop:=
 ∃δ',uq tgt d (k8 own cap δ)=some δ'/\(∀f s3 H3,IG (fL X sc N cl f s3 H3) ifs δ' (F d).isSome)/\∀r,F d=some r->∀f s3 H3,VE (fL X sc N cl f s3 H3) elt δ' r
def teC(X:Cx)(sc:kz)(N:List Str)(cl:List (Str×aI))(elt:bP):TE:=λσ H Q=>∀f s3 H3,cE (fL X sc N cl f s3 H3) elt σ H Q
def S'(X:Cx)(sc:kz)(N:List Str)(cl:List (Str×aI))(ifs:List bP):TT:=λσ H Q=>∀f s3 H3,Zm (fL X sc N cl f s3 H3) ifs σ H Q
theorem u_(ht:wN own.length tgt=true)(hz:ds.length<=sizeLine)(step:∀d∈ds,DE X sc own cap N cl tgt elt ifs δ F d){J:It}{B0 B: Hp}{Q:VK}(f:gf X.K B0 B H0 H σ δ)(it:W1 X.K J H0 ds)
  (q:∀p xs di H',dQ H0 H di H'->H p=none->di p=none->H' p=some (.lst xs)->cu X.K di xs (ds.filterMap F)->Q (.ref p) H'):
  qI J (HC X.K tgt) (S' X sc N cl ifs) (teC X sc N cl elt) (kJ own cap σ) H Q:=by
 intro D hD;have Ta:B D=none:=f.ent.big.free hD;refine⟨λi m ys σ' H'=>i<=ds.length/\m=ds.length-i/\ys.length<=i/\∃Ha,dQ H0 H Ha H'/\gf X.K B0 B Ha H' σ' (k8 own cap δ)/\Ha D=none/\H' D=some (.lst ys)/\cu X.K Ha ys ((ds.take i).filterMap F),
  ⟨ds.length,aV _,rfl,aA _,H0,.loose f.sub hD,(f.comp own cap).touch (f.sub.free hD) Ta m9,f.sub.free hD,bB,by simpa using cu.nil⟩,?_⟩
 rintro i m ys σ' H' ⟨hi,rfl,hy,Ha,g,fa,Tb,HB,rs⟩
 obtain⟨i1,i2,i3⟩:=it Ha H' g.fA g.sub i;by_cases kA:i<ds.length
 ·refine .inr ⟨i1 kA,λx H2 y=>?_⟩
  have hd:ds[i]?=some ds[i]:=by simp[kA]
  obtain⟨Hb,g2,rx⟩:=i3 x H2 ds[i] hd y;obtain⟨δ',e1,e2,e3⟩:=step ds[i] (dN kA);obtain⟨k1,k2⟩:=comp_back ht e1;have Tc:∀{Hx Hy:Hp},dQ Ha H' Hx Hy->Hx D=none:=λ{Hx Hy}gg=>by
   cases e:Hx D with
   |none=>rfl
   |some o=>
    rcases gg.new D (by rw[e];simp)with z|z
    ·exact qQ7 Tb z
    ·rw[HB]at z;cases z
  have tk:(ds.take (i+1)).filterMap F=(ds.take i).filterMap F++(F ds[i]).toList:=by
   rw[cV,hd,k6];cases eF:F ds[i]<;>simp[jI,eF]
  refine my (fa.grow g2) rx e1 λσ3 f3=>?_
  intro fp s3 H3;refine e2 fp s3 H3 B0 B σ3 Hb H2 _ f3 λHc H4 g4=>?_
  have E2:=g2.trans g4;cases eF:F ds[i] with
  |none=>
   rw[show(none:Option ai).isSome=false from rfl,qQ2 cq]
   refine⟨ds.length-(i+1),by omega,kA,rfl,by omega,Hc,g.trans E2,(f3.grow g4).forget k1.symm k2,Tc E2,E2.big _ _ HB,?_⟩
   rw[tk,eF];simpa using rs.mono E2.fA
  |some r=>
   rw[show(some r:Option ai).isSome=true from rfl,qQ3 rfl]
   intro W3 s3' wK;refine e3 r eF W3 s3' wK B0 B σ3 Hc H4 _ (f3.grow g4) λw Hd H5 g5 r5=>?_
   have L4:=E2.trans g5;have P4:Hd D=none:=Tc L4;refine⟨L4.big _ _ HB,by omega,ds.length-(i+1),by omega,kA,rfl,by simp;omega,Hd,?_,((f3.grow g4).grow g5 |>.forget k1.symm k2).touch P4 Ta m9,P4,bB,?_⟩
   ·have gg:=g.trans L4
    exact⟨λb u e=>by rw[aN (bG e hD)];exact gg.big b u e,gg.fA,λb u e=>by rw[aN (bG e P4)];exact gg.sub b u e,gg.new⟩
   ·rw[tk,eF]
    exact(rs.mono L4.fA).append (.cons r5 .nil)
 ·have e:i=ds.length:=by omega
  subst e;refine .inl ⟨i2 (aA _),q D ys Ha H' g hD Tb HB ?_⟩
  simpa using rs
theorem eO(hc:X.calm=true)(CS:kI X sc own cap N cl)(hi:VI X tg iter δ ds)(hg:∀f s3 H3,PG (fL X sc N cl f s3 H3) tg (HC X.K tgt))(ht:wN own.length tgt=true)(hz:ds.length<=sizeLine)
  (step:∀d∈ds,DE X sc own cap N cl tgt elt ifs δ F d)(hs:∀x,foldedSetIterable iter X.env x=pure x:=by intro _;rfl):VO X (.ListComp elt [⟨tg,iter,ifs,0⟩] sc pos) δ (ds.filterMap F):=by
 obtain⟨wi,pi,qi⟩:=hi;refine .of (EZ (tc:=S' X sc N cl ifs) (te:=teC X sc N cl elt) hc CS pi hg (λf s3 H3 pins s σ H Q I h=>h f s3 H3 pins s I) (λf s3 H3 pins s σ H Q I h=>h f s3 H3 pins s I) hs) λB0 B σ H0 H Q f q=>?_
 refine qi B0 B σ H0 H _ f λJ H1 dP g it=>?_
 exact u_ ht hz step (f.grow g) it λp xs Ha Hb g2 a1 a2 a3 a4=>q p xs Ha Hb (g.trans g2) (g.big.free a1) a2 a3 a4
end
inductive Out where
 |nx (δ:List Slot)|bk (δ:List Slot)|ct (δ:List Slot)
 |rt (d:ai)|ro (ds:List ai)|r2 (ds:List ai) (d:ai)|ru (U:Hp->V->Hp->Hp->Prop)
def nV(K:ao)(B0 B H0:Hp)(D:Ends):Out->Prop
 | .nx δ=>∀σ' di H',dC H0 di->gf K B0 B di H' σ' δ->D.nx σ' H'
 | .bk δ=>∀σ' di H',dC H0 di->gf K B0 B di H' σ' δ->D.bk σ' H'
 | .ct δ=>∀σ' di H',dC H0 di->gf K B0 B di H' σ' δ->D.ct σ' H'
 | .rt d=>∀v di H',dQ B0 B di H'->Rep K di v d->D.rt v H'
 | .ro ds=>∀p xs di H',dQ B0 B di H'->B p=none->di p=none->H' p=some (.lst xs)->cu K di xs ds->D.rt (.ref p) H'
 | .r2 ds d=>∀t p xs v di H',dQ B0 B di H'->B p=none->di p=none->H' p=some (.lst xs)->cu K di xs ds->B t=none->di t=none->H' t=some (.tup [.ref p,v])->Rep K di v d->D.rt (.ref t) H'
 | .ru U=>∀v di H',dQ B0 B di H'->U B v di H'->D.rt v H'
def E3:Out->Bool
 | .rt _=>true | .ro _=>true | .r2 _ _=>true | .ru _=>true|_=>false
theorem nV.mono{B0 B di: Hp}{D:Ends}(s:dC H0 di):∀{o:Out},nV K B0 B H0 D o->nV K B0 B di D o
 | .nx _,h=>λσ a b s' f=>h σ a b (s.trans s') f
 | .bk _,h=>λσ a b s' f=>h σ a b (s.trans s') f
 | .ct _,h=>λσ a b s' f=>h σ a b (s.trans s') f
 | .rt _,h=>h
 | .ro _,h=>h
 | .r2 _ _,h=>h
 | .ru _,h=>h
theorem nV.ret{B0 B di: Hp}{D D':Ends}(e:D.rt=D'.rt):∀{o:Out},E3 o=true->nV K B0 B H0 D o->nV K B0 B di D' o
 | .rt _,_,h=>by unfold nV at *;rw[<-e];exact h
 | .ro _,_,h=>by unfold nV at *;rw[<-e];exact h
 | .r2 _ _,_,h=>by unfold nV at *;rw[<-e];exact h
 | .ru _,_,h=>by unfold nV at *;rw[<-e];exact h
 | .nx _,z,_=>by cases z
 | .bk _,z,_=>by cases z
 | .ct _,z,_=>by cases z
def VS(X:Cx)(st:fH)(δ:List Slot)(o:Out):Prop:=∀B0 B σ H0 H D,gf X.K B0 B H0 H σ δ->nV X.K B0 B H0 D o->cS X st D σ H
def pF(X:Cx)(st:List fH)(δ:List Slot)(o:Out):Prop:=∀B0 B σ H0 H D,gf X.K B0 B H0 H σ δ->nV X.K B0 B H0 D o->u9 X st D σ H
section
variable{X:Cx}{st:fH}{rest body orelse:List fH}{δ δ':List Slot}{o:Out}{a b c e:bP}{d:ai}{ds:List ai}{pos px:Pos}{x:Str}
theorem bL:pF X [] δ (.nx δ):=λ_ _ σ H0 H _ f ok pins s I=>EF pins s σ H _ I (ok σ H0 H (dC.refl _) f)
theorem aP(h1:VS X st δ (.nx δ'))(h2:pF X rest δ' o):pF X (st::rest) δ o:=λB0 B σ H0 H D f ok pins s I=>
 jC F9 j7 pins s σ H D I (h1 B0 B σ H0 H _ f λσ' Ha Hb sm f'=>h2 B0 B σ' Ha Hb D f' (ok.mono sm))
theorem dU(h1:VS X st δ o)(hr:E3 o=true):pF X (st::rest) δ o:=λB0 B σ H0 H D f ok pins s I=>
 jC F9 kG pins s σ H D I (h1 B0 B σ H0 H _ f (nV.ret (D:=D) (by rfl) hr ok))
theorem bJ(h1:VS X st δ o):pF X [st] δ o:=λB0 B σ H0 H D f ok pins s I=>vT F9 pins s σ H D I (h1 B0 B σ H0 H D f ok)
theorem cO(i:Nat)(h:VE X e δ d)(hN:X.N.Nodup)(hi:X.N[i]?=some x:=by rfl)(hx:Loc X.env.scope x:=by first|exact aY rfl|exact b_ rfl)(hs:swapsWith e (some (.Name x px)) pos.line X.env=pure false:=by rfl)(hf:X.fn x=true\/X.env.scope.names.lookup x=some .local:=by first|exact .inl rfl|exact .inr rfl):
  VS X (.Assign [.Name x px] e pos) δ (.nx (δ.set i (.val d))):=λB0 B σ H0 H D f ok pins s I=>
 rQ (i:=i) hN hi hx cX hs hf pins s σ H D I (h B0 B σ H0 H _ f λv H1 dP g r=>ok _ H1 dP g.fA ((f.grow g).set r))
theorem m_(i:Nat)(h:VO X e δ ds)(hN:X.N.Nodup)(hi:X.N[i]?=some x:=by rfl)(hx:Loc X.env.scope x:=by first|exact aY rfl|exact b_ rfl)(hs:swapsWith e (some (.Name x px)) pos.line X.env=pure false:=by rfl)(hf:X.fn x=true\/X.env.scope.names.lookup x=some .local:=by first|exact .inl rfl|exact .inr rfl):
  VS X (.Assign [.Name x px] e pos) δ (.nx (δ.set i (.own ds))):=λB0 B σ H0 H D f ok pins s I=>
 rQ (i:=i) hN hi hx cX hs hf pins s σ H D I (h B0 B σ H0 H _ f λp xs H1 dP g h1 h2 h3 r=>ok _ H1 dP g.fA ((f.grow g).Iv h3 h2 (f.ent.big.free h1) r λj es e2 e3=>by
  obtain⟨p',xs',g1,g2,_⟩:=f.slot j _ e2;rw[e3]at g1;cases g1;rw[h1]at g2;cases g2))
theorem eR(h:VT X c δ true)(h1:pF X body δ o):VS X (.If c body orelse pos) δ o:=λB0 B σ H0 H D f ok pins s I=>
 yB nE j7 kG pins s σ H D I (h B0 B σ H0 H _ f λH1 dP g=>PB (h1 B0 B σ H1 dP D (f.grow g) (ok.mono g.fA)))
theorem bW(h:VT X c δ false)(h1:pF X orelse δ o):VS X (.If c body orelse pos) δ o:=λB0 B σ H0 H D f ok pins s I=>
 yB nE kG j7 pins s σ H D I (h B0 B σ H0 H _ f λH1 dP g=>Pz (h1 B0 B σ H1 dP D (f.grow g) (ok.mono g.fA)))
theorem Td{k:Bool}(h:VT X c δ k)(h1:k=true->pF X body δ o)(h2:k=false->pF X orelse δ o):VS X (.If c body orelse pos) δ o:=by
 cases k with
 |true=>exact eR h (h1 rfl)
 |false=>exact bW h (h2 rfl)
theorem cy(h:VE X e δ d):VS X (.Return (some e) pos) δ (.rt d):=λB0 B σ H0 H D f ok pins s I=>zD cX pins s σ H D I (h B0 B σ H0 H _ f λv H1 dP g r=>ok v H1 dP (f.ent.trans g) r)
theorem vX(h:VO X e δ ds):VS X (.Return (some e) pos) δ (.ro ds):=λB0 B σ H0 H D f ok pins s I=>zD cX pins s σ H D I (h B0 B σ H0 H _ f λp xs H1 dP g a1 a2 a3 a4=>ok p xs H1 dP (f.ent.trans g) (f.ent.big.free a1) a2 a3 a4)
theorem L5(i:Nat)(h:δ[i]?=some (.own ds))(hN:X.N[i]?=some x:=by rfl)(hv:AW X.env.scope x:=by first|exact aY rfl|exact b_ (aY rfl)|exact b_ (b_ rfl))(hd:(x==("__debug__":Str))=false:=by decide)(nQ:(x==("__classdict__":Str))=false:=by decide):
  VS X (.Return (some (.Name x px)) pos) δ (.ro ds):=λB0 B σ H0 H D f ok pins s I=>zD (jN hN hv hd nQ) pins s σ H D I (by
 obtain⟨p,xs,h1,h2,h3,h4,h5⟩:=f.slot i _ h;exact⟨_,h1,ok p xs H0 H f.ent h4 h3 h2 h5⟩)
theorem qL(i:Nat){ap:Pos}{p0:Pos}(hi:δ[i]?=some (.own ds))(h:VE X e δ d)(hz:ds.length<sizeLine)(hN:X.N[i]?=some x:=by rfl)(hv:AW X.env.scope x:=by first|exact aY rfl|exact b_ (aY rfl)|exact b_ (b_ rfl))(hd:(x==("__debug__":Str))=false:=by decide)(nQ:(x==("__classdict__":Str))=false:=by decide)
  (hs:starEach [e] X.env=(false,eval e X.env)::starEach [] X.env:=by rfl)(j0:attributeBase (.Name x p0) "append" X.env (eval (.Name x p0) X.env)=eval (.Name x p0) X.env:=by rfl)
  (ou:((backTo px (starEach [e] X.env)).all (λx=>!x.1)&&(backToKw px (keywordEach [] X.env)).all (λx=>x.1.isSome)&&decide (([e]:List bP).length+([]:List fV).length+(if([]:List fV).isEmpty then 0 else 1)<30))=true:=by rfl)
  (hline:(ap.endLine==px.line)=true:=by rfl)(iy:(backTo px (starEach [] X.env)).any (·.1)=false:=by rfl)(zO:swapsWith (.Call (.Attribute (.Name x p0) "append" ap) [e] [] px) none pos.line X.env=pure false:=by rfl):
  VS X (.Expr (.Call (.Attribute (.Name x p0) "append" ap) [e] [] px) pos) δ (.nx (δ.set i (.own (ds ++ [d])))):=λB0 B σ H0 H D f ok pins s I=>by
 refine qD (uX fM gR gS lV (jN hN hv hd nQ) (ej cX fK hs) j0 ou hline hs iy) zO pins s σ H D I ?_
 obtain⟨p,xs,h1,h2,h3,h4,h5⟩:=f.slot i _ hi;refine⟨_,h1,.inl ⟨rfl,_,jV.of h2⟩,?_⟩
 refine h B0 B σ H0 H _ f λv H1 dP g r=>?_
 refine⟨p,xs,v,rfl,rfl,g.big _ _ h2,by rw[h5.length];exact hz,ok σ H1 _ g.fA ((f.grow g).push hi h1 (g.big _ _ h2) r)⟩
theorem kM(i:Nat)(hi:δ[i]?=some (.own ds))(h:pF X rest (δ.set i (.val (.list ds))) o):pF X rest δ o:=λB0 B σ H0 H D f ok=>by
 obtain⟨p,xs,h1,h2,h3,h4,h5⟩:=f.slot i _ hi;obtain⟨f',sm⟩:=f.freeze hi h1 h2;exact h B0 B σ _ H D f' (ok.mono sm)
def KS:List Slot->List Slot->Prop
 | [],[]=>True
 |a::l,b::m=>(b=.un\/a=b)/\KS l m
 |_,_=>False
theorem KS.len:∀{l m:List Slot},KS l m->m.length=l.length
 | [],[],_=>rfl
 |_::_,_::_,h=>by simp[KS.len h.2]
 | [],_::_,h=>h.elim
 |_::_,[],h=>h.elim
theorem KS.at:∀{l m:List Slot},KS l m->∀(i:Nat)sl,m[i]?=some sl->sl=.un\/l[i]?=some sl
 | [],[],_,_,_,e=>by simp at e
 |a::l,b::m,h,0,sl,e=>by
  simp at e;subst e;rcases h.1 with z|z
  ·exact .inl z
  ·exact .inr (by simp[z])
 |a::l,b::m,h,i+1,sl,e=>by simpa using KS.at h.2 i sl (by simpa using e)
 | [],_::_,h,_,_,_=>h.elim
 |_::_,[],h,_,_,_=>h.elim
theorem lK{δ2:List Slot}(h:pF X rest δ (.nx δ'))(hf:KS δ' δ2):pF X rest δ (.nx δ2):=λB0 B σ H0 H D f ok=>h B0 B σ H0 H D f λσ' Ha Hb sm f'=>ok σ' Ha Hb sm (f'.forget hf.len hf.at)
theorem qd{tg iter:bP}(hp:uN (model X.prog X.w) X.A X.env X.xe)(hc:X.calm=true)(hi:VI X tg iter δ ds)(hg:PG X tg (HC X.K tgt))(δs:Nat->List Slot)(m:Nat)(h0:δs 0=δ)(hm:m<=ds.length)
  (step:∀k d,k<m->ds[k]?=some d->∃δ',uq tgt d (δs k)=some δ'/\pF X body δ' (.nx (δs (k+1))))
  (fin:(m=ds.length/\o=.nx (δs m))\/∃d δ',ds[m]?=some d/\uq tgt d (δs m)=some δ'/\E3 o=true/\pF X body δ' o)
  (hs:∀x,foldedSetIterable iter X.env x=pure x:=by intro _;rfl):VS X (.For tg iter body [] pos) δ o:=λB0 B σ H0 H D f ok pins s I=>by
 obtain⟨wi,pi,qi⟩:=hi;refine wq hp hc pi hg j7 hs pins s σ H D I ?_
 refine qi B0 B σ H0 H _ f λJ H1 dP g it=>?_
 refine⟨λi mm σ' H'=>i<=m/\mm=m+1-i/\∃Ha,dC H1 Ha/\gf X.K B0 B Ha H' σ' (δs i),⟨m+1,aV _,rfl,H1,dC.refl _,by rw[h0];exact f.grow g⟩,?_⟩
 rintro i mm σ' H' ⟨hi,rfl,Ha,sm,fa⟩
 obtain⟨i1,i2,i3⟩:=it Ha H' sm fa.sub i;by_cases kA:i<m
 ·refine .inr ⟨i1 (by omega),λσ'' uZ=>∃Hb,dC H1 Hb/\gf X.K B0 B Hb uZ σ'' (δs (i+1)),λσ'' uZ ⟨Hb,z1,z2⟩=>⟨m+1-(i+1),by omega,kA,rfl,Hb,z1,z2⟩,λv H2 y=>?_⟩
  have hd:ds[i]?=some (ds[i]'(by omega)):=by simp
  obtain⟨Hb,g2,rx⟩:=i3 v H2 _ hd y;obtain⟨δ',e1,e2⟩:=step i _ kA hd;refine my (fa.grow g2) rx e1 λσ3 f3=>?_
  exact e2 B0 B σ3 Hb H2 _ f3 λσ4 Hc H4 s4 f4=>⟨Hc,(sm.trans g2.fA).trans s4,f4⟩
 ·have e:i=m:=by omega
  subst e;rcases fin with⟨e1,e2⟩|⟨d,δ',hd,e1,hr,e2⟩
  ·subst e2
   exact .inl ⟨i2 (by omega),ok σ' Ha H' (g.fA.trans sm) fa⟩
  ·have P5:i<ds.length:=(aJ.mp hd).1
   refine .inr ⟨i1 P5,λ_ _=>False,λ_ _ z=>z.elim,λv H2 y=>?_⟩
   obtain⟨Hb,g2,rx⟩:=i3 v H2 _ hd y;refine my (fa.grow g2) rx e1 λσ3 f3=>?_
   exact e2 B0 B σ3 Hb H2 _ f3 (nV.ret (D:=D) (by rfl) hr ok)
end
def ig(K:ao)(R:List ai->ai->Prop):Sp:=λvs H Q _=>∃H0 ds d,dC H0 H/\cu K H0 vs ds/\R ds d/\∀v di H',dQ H0 H di H'->Rep K di v d->Q v H'
def II(K:ao)(R:List ai->List ai->Prop):Sp:=λvs H Q _=>∃H0 ds es,dC H0 H/\cu K H0 vs ds/\R ds es/\
 ∀p xs di H',dQ H0 H di H'->H p=none->di p=none->H' p=some (.lst xs)->cu K di xs es->Q (.ref p) H'
def bM(P:bC)(w:bY)(K:ao)(mg:Str->Option aB)(base:cR)(k:Nat)(x:Str)(ps:List Str)(sp:Sp):Prop:=
 ∃f fd,fY P w K mg base iP k f fd ps sp/\mg x=some (.ref f)/\hX K (.ref f)=true/\Binds K fd ps []
section
variable{X:Cx}{x:Str}{e:bP}{es:List bP}{δ:List Slot}{ds zs:List ai}{d:ai}{p pos:Pos}{k:Nat}{ps:List Str}
theorem bT{R:List ai->ai->Prop}(C:bM X.prog X.w X.K X.mg X.base k x ps (ig X.K R))(hr:eE k X.A)(ha:VA X (e::es) δ ds)(hp:R ds d)(hg:Gl X x:=by rfl)(nB:(x==("__debug__":Str))=false:=by decide)
  (he:starEach (e::es) X.env=(false,eval e X.env)::starEach es X.env:=by rfl)(sW:(backTo pos (starEach es X.env)).any (·.1)=false:=by rfl):VE X (.Call (.Name x p) (e::es) [] pos) δ d:=by
 obtain⟨f,fd,F,hm,hk,hb⟩:=C;obtain⟨t,pa,qa⟩:=ha;exact .of (zG F hr hg hm hk hb .nil EV pa nB he sW) λB0 B σ H0 H Q fr q=>qa B0 B σ H0 H _ fr λvs H1 dP g1 rs=>by
  rw[du];exact⟨H1,ds,d,g1.sub,rs,hp,λv H2 h8 g2 r=>q v H2 h8 (g1.trans g2) r⟩
theorem qM(C:bM X.prog X.w X.K X.mg X.base k x ps (II X.K R))(hr:eE k X.A)(ha:VA X (e::es) δ ds)(hp:R ds zs)(hg:Gl X x:=by rfl)(nB:(x==("__debug__":Str))=false:=by decide)
  (he:starEach (e::es) X.env=(false,eval e X.env)::starEach es X.env:=by rfl)(sW:(backTo pos (starEach es X.env)).any (·.1)=false:=by rfl):VO X (.Call (.Name x p) (e::es) [] pos) δ zs:=by
 obtain⟨f,fd,F,hm,hk,hb⟩:=C;obtain⟨t,pa,qa⟩:=ha;exact .of (zG F hr hg hm hk hb .nil EV pa nB he sW) λB0 B σ H0 H Q fr q=>qa B0 B σ H0 H _ fr λvs H1 dP g1 rs=>by
  rw[du];exact⟨H1,ds,zs,g1.sub,rs,hp,λv xs H2 h8 g2 a1 a2 a3 a4=>q v xs H2 h8 (g1.trans g2) (g1.big.free a1) a2 a3 a4⟩
end
def qe(N:List Str)(ds:List ai):List Slot:=ds.map .val++bp (N.length-ds.length) .un
theorem gf.start{N:List Str}{ds:List ai}(s:dC H0 H)(r:cu K H0 vs ds):gf K H0 H H0 H (start N vs) (qe N ds):=by
 have hl:=r.length;refine⟨.refl s,by simp[L2.start,qe,hl],λi sl e=>?_,λi j a b p _ e=>?_⟩
 ·unfold qe at e
  unfold L2.start;by_cases hi:i<ds.length
  ·rw[bX (by simpa using hi),aF]at e
   have hd:ds[i]?=some ds[i]:=by simp[hi]
   rw[hd]at e;cases e;obtain⟨v,h1,h2⟩:=r.get hd;exact⟨v,by rw[bX (by simp;omega),aF,h1];rfl,h2⟩
  ·rw[cn (by simpa using fJ hi),eD]at e
   split at e<;>cases e
   trivial
 ·unfold qe at e
  by_cases hi:i<ds.length
  ·rw[bX (by simpa using hi),aF]at e
   have hd:ds[i]?=some ds[i]:=by simp[hi]
   rw[hd]at e;cases e
  ·rw[cn (by simpa using fJ hi),eD]at e
   split at e<;>cases e
section
variable{P:bC}{w:bY}{K:ao}{mg:Str->Option aB}{base:cR}{x qual:Str}{st:fH}{f:aI}{fd:fe}{N ps:List Str}{k:Nat}
abbrev Bj(P:bC)(w:bY)(K:ao)(mg:Str->Option aB)(base:cR)(N:List Str)(qual:Str)(st:fH)(f:aI)(k:Nat)(ds:List ai)(o:Out):Prop:=
 ∀eZ A outer s H E,eE k (A.deeper (envOfC qual (a_ st) s.heap.objs.size f eZ))->pF (jq iP P w K mg base N qual (a_ st) f eZ A outer s H E).rP (dq st) (qe N ds) o
theorem kN{R:List ai->ai->Prop}(F:mR K x qual st f fd)(S:cY N ps (a_ st))(hl:∀ds d,R ds d->ds.length=ps.length)(hb:∀ds d,R ds d->Bj P w K mg base N qual st f k ds (.rt d)):fY P w K mg base iP (k+1) f fd ps (ig K R):=by
 refine F.ok S (λvs H Q E h=>?_) (λeZ A outer s H vs Q E hr h=>?_)
 ·obtain⟨H0,ds,d,_,r,hp,_⟩:=h
  rw[r.length,hl ds d hp]
 ·obtain⟨H0,ds,d,sm,r,hp,q⟩:=h
  exact⟨_,j7,hb ds d hp eZ A outer s H E hr H0 H _ H0 H _ (.start sm r) q⟩
theorem L6(F:mR K x qual st f fd)(S:cY N ps (a_ st))(hl:∀ds d,R ds d->ds.length=ps.length)(hb:∀ds d,R ds d->Bj P w K mg base N qual st f k ds (.ro d)):fY P w K mg base iP (k+1) f fd ps (II K R):=by
 refine F.ok S (λvs H Q E h=>?_) (λeZ A outer s H vs Q E hr h=>?_)
 ·obtain⟨H0,ds,d,_,r,hp,_⟩:=h
  rw[r.length,hl ds d hp]
 ·obtain⟨H0,ds,d,sm,r,hp,q⟩:=h
  exact⟨_,j7,hb ds d hp eZ A outer s H E hr H0 H _ H0 H _ (.start sm r) q⟩
end
end L2
namespace L2.Srt
open PySem PySem.W PyProof.Rows
section
variable{N:Nat}{lt:Nat->Nat->Bool}
end
end L2.Srt
namespace L2
open PySem PySem.Spec PyProof.Rows PySem.W
section
variable{P:bC}{w:bY}{A:dg}{E:aB->aH->Prop}{s:aH}
end
theorem cu.ints{K:ao}{H:Hp}:∀{ns:List Int}{xs:List V},cu K H xs (ns.map .int)->xs=ns.map V.int
 | [],_,r=>by cases r;rfl
 |n::ns,_,r=>by cases r with|cons a t=>cases a;rw[aD,cu.ints t]
theorem dS.getD:∀{xs:List V}{us:List aB}(i:Nat),dS xs us->RelV (xs.getD i .non) (us.getD i g7)
 |_,_,_,.nil=>by simp;rfl
 |_,_,0,.cons r _=>by simpa using r
 |_,_,i+1,.cons _ t=>by simpa using dS.getD i t
end L2
namespace L2
open PySem PySem.Spec PyProof.Rows
variable{l:aI}{kb:Bool}{X:Cx}{c:bP}{h:cR}{H:Hp}{rest:List bP}{ns:List Int}{ds:List ai}{δ:List Slot}{n:Nat}{P:bC}{K:ao}{w:bY}
section
variable{X:Cx}{a b c e:bP}{es:List bP}{δ:List Slot}{d d1 d2 d3:ai}{ds:List ai}{pos:Pos}{k:Nat}
def NW:ai->Bool
 | .none=>true
 | .bool _=>true
 | .int _=>true
 | .str _=>true
 |_=>false
theorem Rep.W4{H': Hp}{v:V}(r:Rep K H v d)(h:NW d=true):Rep K H' v d:=by
 cases r with
 |non=>exact .non
 |bl b=>exact .bl b
 |int i=>exact .int i
 |str x=>exact .str x
 |_=>cases h
def Zn:ai->Option String
 | .none=>some "NoneType"
 | .bool _=>some "bool"
 | .int _=>some "int"
 | .str _=>some "str"
 | .list _=>some "list"
 | .tuple _=>some "tuple"
 |_=>none
theorem Te{t tn:String}(ht:Zn d=some t)(hk:dX X.K (.type t) (.type tn)=some kb):jD X (.builtin "isinstance") (λxs H Q=>∃x,xs=[x,.ty tn]/\Rep X.K H x d/\Q (.bl kb) H):=by
 intro pins s σ H xs us Q I r h;obtain⟨x,rfl,rx,q⟩:=h;obtain⟨u,w',rfl,r1,r2⟩:=vals2 r;cases r2;have fin:∀tk,EP X pins σ Q (.bool kb) { s with toks:=tk }:=λtk=>⟨.bl kb,H,I.tok tk,rfl,q⟩
 cases rx with
 |non=>cases ht;cases r1;exact jJ PySem.W.kitx_none I.zA fG hk (λz=>nomatch z) fin
 |bl b=>cases ht;cases r1;exact jJ PySem.W.kitx_bool I.zA fG hk (λz=>nomatch z) fin
 |int i=>cases ht;obtain⟨t,rfl⟩:=r1;exact jJ PySem.W.kitx_int I.zA fG hk (λz=>nomatch z) fin
 |str y=>cases ht;obtain⟨t,rfl⟩:=r1;exact jJ PySem.W.kitx_str I.zA fG hk (λz=>nomatch z) fin
 |lst hq rs=>
  cases ht;cases r1;obtain⟨its,_,⟨o,n,e,c,_⟩,_⟩:=I.list hq;exact jJ PySem.W.kitx_list I.zA ⟨o,e,c⟩ hk (λz=>nomatch z) fin
 |tup hq rs=>
  cases ht;cases r1;obtain⟨its,_,⟨o,e,c,_⟩,_⟩:=I.tuple hq;exact jJ PySem.W.kitx_tuple I.zA ⟨o,e,c⟩ hk (λz=>nomatch z) fin
 |dct _ _ _=>cases ht
 |Rm _ _ _=>cases ht
 |obj _ _ _ _ _=>cases ht
 |Vk _ _ _=>cases ht
theorem IJ{x:Str}{t tn:String}{p p2:Pos}(h:VE X a δ d)(ht:Zn d=some t)(hk:dX X.K (.type t) (.type tn)=some kb)(hb:bootBuiltins x=some (.type tn))(m1:X.mg "isinstance"=none)(m2:X.mg x=none)(hv:bootBuiltins "isinstance"=some (.builtin "isinstance"))
  (hg:Gl X "isinstance":=by rfl)(P6:Gl X x:=by rfl)(hn:x≠"__name__":=by decide)(nB:(x==("__debug__":Str))=false:=by decide)(hs:starEach [a,.Name x p2] X.env=(false,eval a X.env)::starEach [.Name x p2] X.env:=by rfl)(pV:starEach [.Name x p2] X.env=(false,eval (.Name x p2) X.env)::starEach [] X.env:=by rfl)
  (sW:(backTo pos (starEach [.Name x p2] X.env)).any (·.1)=false:=by rfl):VE X (.Call (.Name "isinstance" p) [a,.Name x p2] [] pos) δ (.bool kb):=
 .of (wA (Te ht hk) hg m1 hv (ej cX (ej (K8 P6 m2 hb (v:=.ty tn) rfl hn nB) fK pV) hs) (by decide) (by decide) hs sW) λB0 B σ H0 H Q f q=>h B0 B σ H0 H _ f λv H1 dP g r=>⟨v,rfl,r.mono g.sub,q _ H1 dP g (.bl _)⟩
end
section
variable{X:Cx}{sc:kz}{own N:List Str}{cap:List Nat}{cl:List (Str×aI)}{tg elt iter:bP}{ifs:List bP}{δ:List Slot}{ds:List ai}{pos px yh:Pos}{tgt:DB}{x:Str}
theorem vY(i:Nat){F:ai->Option ai}(hc:X.calm=true)(CS:kI X sc own cap N cl)(hi:VI X tg iter δ ds)(hg:∀f s3 H3,PG (fL X sc N cl f s3 H3) tg (HC X.K tgt))(ht:wN own.length tgt=true)(hz:ds.length<=sizeLine)
  (step:∀d∈ds,DE X sc own cap N cl tgt elt ifs δ F d)(hN:X.N.Nodup)(WT:X.N[i]?=some x:=by rfl)(hx:Loc X.env.scope x:=by first|exact aY rfl|exact b_ rfl)
  (zO:swapsWith (.ListComp elt [⟨tg,iter,ifs,0⟩] sc pos) (some (.Name x px)) yh.line X.env=pure true:=by rfl)(hs:∀x,foldedSetIterable iter X.env x=pure x:=by intro _;rfl)(hf:X.fn x=true\/X.env.scope.names.lookup x=some .local:=by first|exact .inl rfl|exact .inr rfl):
  VS X (.Assign [.Name x px] (.ListComp elt [⟨tg,iter,ifs,0⟩] sc pos) yh) δ (.nx (δ.set i (.own (ds.filterMap F)))):=λB0 B σ H0 H D f ok pins s I=>by
 obtain⟨wi,pi,qi⟩:=hi;refine Dx (i:=i) (tc:=S' X sc N cl ifs) (te:=teC X sc N cl elt) hN WT hx hc CS pi hg (λf s3 H3 pins s σ H Q I h=>h f s3 H3 pins s I) (λf s3 H3 pins s σ H Q I h=>h f s3 H3 pins s I) zO hs hf pins s σ H D I ?_
 refine qi B0 B σ H0 H _ f λJ H1 dP g it=>?_
 refine u_ ht hz step (f.grow g) it λp xs Ha Hb g2 a1 a2 a3 a4=>?_
 have gg:=g.trans g2;have hp:H p=none:=g.big.free a1;refine ok _ Ha Hb gg.fA ((f.grow gg).Iv a3 a2 (f.ent.big.free hp) a4 λj es e2 e3=>?_)
 obtain⟨p',xs',g1,Zo,_⟩:=f.slot j _ e2;rw[e3]at g1;cases g1;rw[hp]at Zo;cases Zo
end
theorem VT.to{k k':Bool}(h:VT X c δ k')(e:k'=k):VT X c δ k:=e▸h
theorem VE.to{k k':ai}(h:VE X c δ k')(e:k'=k):VE X c δ k:=e▸h
theorem VO.to{k k':List ai}(h:VO X c δ k')(e:k'=k):VO X c δ k:=e▸h
def suite(b:List fH)(i:Nat):List fH:=match b.getD i (.Pass ⟨0,0,0,0⟩) with
 | .For _ _ b _ _=>b
 | .While _ b _ _=>b
 | .If _ b _ _=>b
 |_=>[]
theorem eP(n:Nat)(i:Int):Lay n (.int i):=⟨rfl,aV _⟩
theorem bw{x:Str}(h:cG (.str x)=true):Lay n (.str x):=⟨h,aV _⟩
theorem DF:∀{ds:List ai},(∀d∈ds,Lay n d)->nz ds=true/\ai.depthAll ds<=n
 | [],_=>⟨rfl,aV _⟩
 |d::ds,h=>by
  obtain⟨h1,h2⟩:=DF λe he=>h e (aR _ he)
  obtain⟨h3,h4⟩:=h d aO;refine⟨by simp[nz,h1,h3],?_⟩
  show max d.depth (ai.depthAll ds)<=n;omega
theorem zT(h:∀d∈ds,Lay n d):Lay (n+1) (.list ds):=by
 obtain⟨h1,h2⟩:=DF h;exact⟨h1,Nat.succ_le_succ h2⟩
theorem E4(h:∀d∈ds,Lay n d):Lay (n+1) (.tuple ds):=by
 obtain⟨h1,h2⟩:=DF h;exact⟨h1,Nat.succ_le_succ h2⟩
theorem filterMap_some{α β:Type}{F:α->Option β}{g:α->β}:∀{l:List α},(∀a∈l,F a=some (g a))->l.filterMap F=l.map g
 | [],_=>rfl
 |a::l,h=>by
  rw[cA (h a aO),aD,filterMap_some λb hb=>h b (aR _ hb)]
def NX:Slot->Bool
 | .own _=>true
 |_=>false
def noOwn(δ:List Slot):Bool:=δ.all λs=>!NX s
theorem mB(h:noOwn δ=true)(i:Nat)(ds:List ai):δ[i]?≠some (.own ds):=λe=>by
 have:=eK.mp h _ (bh e);cases this
section
variable{K:ao}{B0 B H0 H di H' C0 C Ha Hb:Hp}{σ σ':St}{δ δ':List Slot}
theorem gf.mD(f:gf K B0 B H0 H σ δ){i:Nat}{v:V}{sl:Slot}(hs:Iu K B H0 H sl (some (some v)))(hn:NX sl=false):gf K B0 B H0 H (σ.set i (some v)) (δ.set i sl):=by
 refine⟨f.ent,by simp[f.len],λj RN e=>?_,λj k ds es p KR e1 e2 e3=>?_⟩
 ·by_cases hj:j=i
  ·subst hj
   have hl:j < δ.length:=by simpa using(aJ.mp e).1
   rw[bu hl]at e;cases e;rw[bu (by rw[f.len];exact hl)]
   exact hs
  ·rw[bf (bV hj)]at e
   rw[bf (bV hj)];exact f.slot j RN e
 ·have nj:j≠i:=λz=>by
   subst z;have hl:j < δ.length:=by simpa using(aJ.mp e1).1
   rw[bu hl]at e1;cases e1;cases hn
  have nk:k≠i:=λz=>by
   subst z;have hl:k < δ.length:=by simpa using(aJ.mp e2).1
   rw[bu hl]at e2;cases e2;cases hn
  rw[bf (bV nj)]at e1 e3;rw[bf (bV nk)]at e2 ⊢;exact f.apart j k ds es p KR e1 e2 e3
theorem gf.re(f:gf K B0 B H0 H σ δ)(hn:noOwn δ=true)(g:dQ C0 C H0 H):gf K C0 C H0 H σ δ:=by
 refine⟨g,f.len,λi sl e=>?_,f.apart⟩
 have q:=f.slot i sl e;cases sl with
 |own ds=>exact qQ7 e (mB hn i ds)
 |_=>exact q
theorem dQ.still(g:dQ H0 H Ha Hb){p:aI}{o:HO}(h0:H0 p=none)(h:H p=some o):Ha p=none:=by
 cases e:Ha p with
 |none=>rfl
 |some u=>
  rcases g.new p (by rw[e];simp)with z|z
  ·exact qQ7 h0 z
  ·rw[h]at z;cases z
theorem dQ.far(s:dC H0 H)(b:dC H Hb):dQ H0 H H0 Hb:=⟨b,dC.refl _,s.trans b,λ_ z=>.inl z⟩
end
section
variable{X:Cx}{st:fH}{rest body orelse:List fH}{δ δ':List Slot}{o:Out}{a b c e arg:bP}{d d1 d2 da:ai}{ds zs:List ai}{pos px py:Pos}{x y:Str}
theorem IK{i:Int}(h:VE X a δ (.int i)):VE X (.UnaryOp .USub a pos) δ (.int (-i)):=.of (NP HS cX) λB0 B σ H0 H Q f q=>h B0 B σ H0 H _ f λv H1 dP g r=>by
 cases r;exact⟨_,rfl,q _ H1 dP g (.int _)⟩
theorem jF(n:Nat):(gG n).length=n:=by simp[gG]
theorem DG(tgt:DB){tg:bP}(h:VE X e δ d)(hg:PG X tg (HC X.K tgt))(ha:uq tgt d δ=some δ')(hs:swapsWithSole [tg] e pos.line X.env=pure false:=by rfl)(hw:swappedStores [tg] e X.env=pure none:=by rfl)
  (h1:(assignEach [tg] X.env).map (·.2)=[assign tg X.env]:=by rfl):VS X (.Assign [tg] e pos) δ (.nx δ'):=λB0 B σ H0 H D f ok pins s I=>
 O8 cX hg hs hw h1 pins s σ H D I (h B0 B σ H0 H _ f λv H1 dP g r=>my (f.grow g) r ha λσ' f'=>ok σ' H1 dP g.fA f')
end
section
variable{K:ao}{B0 B H0 H di H' C0 C Ha Hb:Hp}{σ σ':St}{δ δ':List Slot}{a:aI}{ps:List aI}{gs:List (List ai)}
end
section
variable{X:Cx}{B0 B H0 H di H' Ha Hb:Hp}{σ σ':St}{D:Ends}{st:fH}{rest body orelse:List fH}{δ δ':List Slot}{a:aI}{ps:List aI}{gs:List (List ai)}{e c tg iter:bP}{d:ai}{ds:List ai}{pos px yh:Pos}{x y:Str}
def Ends.tail(D:Ends)(u:St->Hp->Prop):Ends:={ D with nx:=u }
theorem c0(h:cS X st (D.tail λσ H=>u9 X rest D σ H) σ H):u9 X (st::rest) D σ H:=λpins s I=>jC F9 j7 pins s σ H D I h
theorem cK(h:cS X st D σ H):u9 X [st] D σ H:=λpins s I=>vT F9 pins s σ H D I h
end
section
variable{X:Cx}{sc:kz}{own N:List Str}{cap:List Nat}{cl:List (Str×aI)}{tg iter:bP}{δ:List Slot}{ds:List ai}{pos px yh lp:Pos}{tgt:DB}{x:Str}{B0 B H0 H:Hp}{σ:St}{D:Ends}
end
section
variable{X:Cx}{B0 B H0 H:Hp}{σ:St}{D:Ends}{δ:List Slot}{a:aI}{ps:List aI}{gs:List (List ai)}{pos px:Pos}{x:Str}
end
theorem wO{α:Type}(l:List α)(n:Nat):cutD l none (some (n:Int))=l.take n:=by
 unfold cutD;rw[HT.Bb,HT.mZ,kC,Nat.sub_zero];by_cases h:n<=l.length
 ·rw[qC h]
 ·rw[Nat.min_eq_right (by omega),fj (aA _),fj (by omega)]
theorem E5:Lay 20 (.list []):=zT (n:=19) λd hd=>by cases hd
structure Nm(mg:Str->Option aB):Prop where
 len:mg "len"=none
 Rn:mg "enumerate"=none
 srt:mg "sorted"=none
 max:mg "max"=none
 min:mg "min"=none
 rng:mg "range"=none
 sum:mg "sum"=none
 Zq:mg "isinstance"=none
 tup:mg "tuple"=none
 lst:mg "list"=none
 int:mg "int"=none
 bool:mg "bool"=none
section
variable{P:bC}{w:bY}{A:dg}{R:rM->aH->Prop}{it S:aI}{fp wr:List aI}{n:Nat}{V:Nat->aB->Prop}{St:Nat->cR->Prop}{Kp:cR->Prop}{bt:Nat->Nat->Bool}
end
section
variable{P:bC}{w:bY}{A:dg}{E:aB->aH->Prop}{s:aH}
end
section
variable{X:Cx}
def IL(ns:List Int):Prop:=∀j,j<ns.length->InLong (ns.getD j 0)/\InLong (ns.take (j+1)).sum
theorem W5{A:dg}{E:aB->aH->Prop}{s:aH}{vs:List aB}{Q:aB->aH->Prop}(hh:A.handled=none)(hl:s.heap.IsList l vs.toArray)(hi:x9 vs ns)(hf:IL ns)
  (h:∀h' (t:Tok) tk,(∀b o,s.heap.get? b=some o->h'.get? b=some o)->Q (.int ns.sum t) { s with heap:=h',toks:=tk }):wpAny (model P w) A (call (.builtin "sum") [.ref l]) Q E s:=by
 obtain⟨xs,ex⟩:=hi.allInts.items;have KP:ns=xs.toList.map (·.1):=by rw[<-hi.numsOf,<-nums_intItems,<-ex]
 have hlen:ns.length=xs.size:=by rw[KP,aj,cM]
 rw[ex]at hl;refine sum_intList hh hl (λj hj=>?_) λh' tk t' hk=>?_
 ·have:=hf j (by omega)
  rw[numAt_eq,preSum_eq,<-KP];exact this
 ·have:=h h' t' tk hk
  rw[preSum_eq,<-KP,fj (by omega)]
  exact this
theorem Gj(hc:X.calm=true):jD X (.builtin "sum") (λxs H Q=>∃p ns,xs=[.ref p]/\jV X.K H p (ns.map V.int)/\IL ns/\Q (.int ns.sum) H):=by
 intro pins s σ H xs us Q I r h;obtain⟨p,ns,rfl,hq,hf,q⟩:=h;obtain⟨u,rfl,rx⟩:=vals1 r;cases rx;obtain⟨its,rv,pl,hz⟩:=I.list hq;exact W5 (I.ok.hd hc) pl.isList (intsAre_of rv) hf λh' t tk hk=>⟨.int ns.sum,H,I.kept hk,⟨_,rfl⟩,q⟩
theorem Tf(hf:IL ns):mw K (λxs H Q=>∃p ns,xs=[.ref p]/\jV K H p (ns.map V.int)/\IL ns/\Q (.int ns.sum) H) [.list (ns.map .int)] (.int ns.sum):=λvs H0 H Q s r q=>by
 obtain⟨v,rfl,r1⟩:=r.one;cases r1 with
 |lst hq rs=>
  have e:=rs.ints;subst e;exact⟨_,ns,rfl,s.seq hq,hf,q _ _ _ (.refl s) (.int _)⟩
theorem DH(i j:Int):mw K (λxs H Q=>∃i j,xs=[.int i,.int j]/\Q (.int (if j>i then j else i)) H) [.int i,.int j] (.int (if j>i then j else i)):=λvs H0 H Q s r q=>by
 obtain⟨v,u,rfl,r1,r2⟩:=r.two;cases r1;cases r2;exact⟨i,j,rfl,q _ _ _ (.refl s) (.int _)⟩
end
def Gk(l:aI)(n:Nat):cR->Prop:=λh=>∃o es ep t,h.get? l=some o/\o.ExactSet/\o.data=.set es ep t/\t.fits es.size=true/\es.size=n
theorem Gk.ok(x:Gk l n h):hZ P w H h l (.ext (Gk l n)):=by
 refine⟨x,?_,λh1 h2 y k=>?_⟩
 ·obtain⟨o,_,_,_,e,_⟩:=x
  exact⟨o,e⟩
 ·obtain⟨o,es,ep,t,e,r⟩:=y
  exact⟨o,es,ep,t,k o e,r⟩
section
variable{X:Cx}
def dd:List Str->List Str->List Str
 |acc,[]=>acc
 |acc,x::l=>dd (if decide (x∈acc)=true then acc else acc ++ [x]) l
theorem yP:∀(l:List Str)(acc m:List Str),dd acc (l++m)=dd (dd acc l) m
 | [],_,_=>rfl
 |x::l,acc,m=>yP l _ m
theorem ur:∀(l acc:List Str),(dd acc l).length<=acc.length+l.length
 | [],_=>aA _
 |x::l,acc=>by
  have:=ur l (if decide (x∈acc)=true then acc else acc ++ [x])
  unfold dd
  split at this
  ·rename_i h;rw[qQ3 h];simp;omega
  ·rename_i h;rw[qQ2 h];simp at this ⊢;omega
theorem Bk:∀{l acc:List Str},(acc++l).Nodup->dd acc l=acc++l
 | [],acc,_=>by rw[du];rfl
 |x::l,acc,h=>by
  unfold dd;have hx:x∉acc:=λz=>by
   rw[fk]at h;exact h.2.2 x z x aO rfl
  rw[qQ2 (by simpa using hx),Bk (by simpa using h)]
  simp
theorem yQ:∀{ss:List Str}{its:List aB},dS (ss.map V.str) its->∀(i:Nat)v,its[i]?=some v->∃x t,ss[i]?=some x/\v=.str x t
 | [],_,r,i,v,e=>by cases r;simp at e
 |x::ss,_,r,i,v,e=>by
  cases r with
  |cons a t=>
   cases i with
   |zero=>obtain⟨t,rfl⟩:=a;simp at e;exact⟨x,t,rfl,e.symm⟩
   |succ i=>simpa using yQ t i v (by simpa using e)
theorem SetOf.W6{S:Str->Bool}(x:h.SetOf (strKind P w) l S n):Gk l n h:=by
 obtain⟨o,es,ep,t,ho,hex,hd,_,_,_,hf,hn⟩:=x;exact⟨o,es,ep,t,ho,hex,hd,hf,hn⟩
theorem yi:jD X (.builtin "len") (λxs H Q=>∃p n,xs=[.ref p]/\H p=some (.ext (Gk p n))/\n<10000/\Q (.int n) H):=by
 intro pins s σ H xs us Q I r h;obtain⟨p,n,rfl,hp,hn,q⟩:=h;obtain⟨u,rfl,rx⟩:=vals1 r;cases rx;obtain⟨⟨o,es,ep,t,ho,hex,hd,hf,hz⟩,_⟩:=I.hok p _ hp;exact call_len_set ho hex hd hf (by omega) ⟨.int n,H,I.tok _,⟨_,by rw[hz]⟩,q⟩
end
section
variable{X:Cx}{a b c e:bP}{δ:List Slot}{d d1 d2 d3:ai}{ds:List ai}{pos p p2 oE:Pos}{k:Nat}
theorem cu.strs:∀{ss:List Str}{xs:List V},cu K H xs (ss.map .str)->xs=ss.map V.str
 | [],_,r=>by cases r;rfl
 |x::ss,_,r=>by cases r with|cons a t=>cases a;rw[cu.strs t];rfl
theorem wQ:PE X e (λ_ _ _=>False):=λ_ _ _ _ _ _ h=>h.elim
theorem iZ{op}(h:VE X a δ d):VE X (.BoolOp op [a] pos) δ d:=.of (O4 cX) λB0 B σ H0 H Q f q=>h B0 B σ H0 H Q f q
theorem mE{k1 k2:Bool}(h1:VE X a δ (.bool k1))(h2:k1=true->VE X (.BoolOp .And (b::rest) pos) δ (.bool k2)):VE X (.BoolOp .And (a::b::rest) pos) δ (.bool (k1&&k2)):=by
 cases k1 with
 |true=>
  refine .of (HN cX cX) λB0 B σ H0 H Q f q=>h1 B0 B σ H0 H _ f λv H1 dP g r=>?_
  cases r;refine⟨true,rfl,?_⟩
  rw[qQ3 rfl];exact h2 rfl B0 B σ H1 dP _ (f.grow g) λu H2 h8 g2 r2=>q u H2 h8 (g.trans g2) r2
 |false=>
  refine .of (HN cX wQ) λB0 B σ H0 H Q f q=>h1 B0 B σ H0 H _ f λv H1 dP g r=>?_
  cases r;refine⟨false,rfl,?_⟩
  rw[qQ2 cq];exact q _ H1 dP g (.bl false)
theorem rA{k1 k2:Bool}(h1:VE X a δ (.bool k1))(h2:k1=false->VE X (.BoolOp .Or (b::rest) pos) δ (.bool k2)):VE X (.BoolOp .Or (a::b::rest) pos) δ (.bool (k1||k2)):=by
 cases k1 with
 |false=>
  refine .of (NF cX cX) λB0 B σ H0 H Q f q=>h1 B0 B σ H0 H _ f λv H1 dP g r=>?_
  cases r;refine⟨false,rfl,?_⟩
  rw[qQ2 cq];exact h2 rfl B0 B σ H1 dP _ (f.grow g) λu H2 h8 g2 r2=>q u H2 h8 (g.trans g2) r2
 |true=>
  refine .of (NF cX wQ) λB0 B σ H0 H Q f q=>h1 B0 B σ H0 H _ f λv H1 dP g r=>?_
  cases r;refine⟨true,rfl,?_⟩
  rw[qQ3 rfl];exact q _ H1 dP g (.bl true)
def o5:List Bool->Bool:=λl=>l.all id
theorem qf(hc:X.calm=true):jD X (.builtin "all") (λxs H Q=>∃p bs,xs=[.ref p]/\jV X.K H p (bs.map V.bl)/\Q (.bl (o5 bs)) H):=by
 intro pins s σ H xs us Q I r h;obtain⟨p,bs,rfl,hq,q⟩:=h;obtain⟨u,rfl,rx⟩:=vals1 r;cases rx;obtain⟨its,rv,pl,hz⟩:=I.list hq;have hl:=rv.length;simp only[aj]at hl;refine call_all_walkS (ly pl.isList ?_)
 have E6:p≠s.heap.objs.size:=aU (aT pl.isList.choose_spec.1);have W7:∀(i:Nat)v,its.toArray[i]?=some v->v=.bool (bs.getD i false):=λi v hv=>by
  have HW:its[i]?=some v:=by simpa using hv
  have e:=rv.getD i;have e2:its.getD i g7=v:=by rw[aG,HW];rfl
  have hi:i<bs.length:=by have:=(aJ.mp HW).1;omega
  have e3:(bs.map V.bl).getD i .non=.bl (bs.getD i false):=by
   rw[aG,aF,aG,au hi];rfl
  rw[e2,e3]at e;exact e
 refine⟨_,_,_,_,_,_,_,λi=>bs.getD i false,rfl,(Walks.list (by simp[I.ok.hd hc]) _ p E6 its.toArray).toS,⟨⟨_,a8 _ rfl,rfl,rfl⟩,pl.isList.push _⟩,?_,λs' hm=>?_⟩
 ·intro i v Q' E' s' hv q'
  rw[W7 i v hv];exact fx q'
 ·have ea:(bS its.toArray.size).all (λi=>bs.getD i false)=o5 bs:=by
   rw[bD,<-hl];unfold o5;rw[fw,eK,eK]
   constructor
   ·intro h x hx
    obtain⟨i,hi⟩:=CZ.mp hx;have:=h i (cw.mpr (aJ.mp hi).1);rw[aG,hi]at this;exact this
   ·intro h i hi
    have hi:=cw.mp hi;rw[aG,au hi];exact h _ (dN hi)
  rw[ea];obtain⟨h',g',d',x4,Lg⟩:=s';have eg:g'=s.gens:=hm.gens;have ed:d'=s.drawn:=hm.drawn;have eo:Lg=s.os:=hm.os;subst eg;subst ed;subst eo;refine⟨.bl _,H,I.kept (t':=x4) λb o e=>hm.heap b o ?_ (ay _ e),rfl,q⟩
  have:=aT e;simp only[aW];exact aU this
theorem cu.W8:∀{bs:List Bool}{xs:List V},cu K H xs (bs.map .bool)->xs=bs.map V.bl
 | [],_,r=>by cases r;rfl
 |x::ss,_,r=>by cases r with|cons a t=>cases a;rw[cu.W8 t];rfl
theorem Bl{bs:List Bool}:mw K (λxs H Q=>∃p bs,xs=[.ref p]/\jV K H p (bs.map V.bl)/\Q (.bl (o5 bs)) H) [.list (bs.map .bool)] (.bool (o5 bs)):=λvs H0 H Q s r q=>by
 obtain⟨v,rfl,r1⟩:=r.one;cases r1 with
 |lst hq rs=>
  have e:=rs.W8;subst e;exact⟨_,bs,rfl,s.seq hq,q _ _ _ (.refl s) (.bl _)⟩
theorem NZ(hr:eE k X.A)(hs:yM d2=true)(l1:Lay 20 d1)(l2:Lay 20 d2)(h1:VE X a δ d1)(h2:VE X b δ d2)(hm:behindInMarks .In b=false:=by with_unfolding_all rfl):VE X (.Compare a [.In] [b] pos) δ (.bool (rm d1 d2)):=p_ (IA (zQ hr)) (L1 (neg:=false) hs l1 l2) h1 h2 hm
theorem IQ(hr:eE k X.A)(hs:yM d2=true)(l1:Lay 20 d1)(l2:Lay 20 d2)(h1:VE X a δ d1)(h2:VE X b δ d2)(hm:behindInMarks .NotIn b=false:=by with_unfolding_all rfl):VE X (.Compare a [.NotIn] [b] pos) δ (.bool (!rm d1 d2)):=p_ (yN (zQ hr)) (L1 (neg:=true) hs l1 l2) h1 h2 hm
theorem IU(hr:eE k X.A)(l1:Lay 20 d1)(l2:Lay 20 d2)(h1:VE X a δ d1)(h2:VE X b δ d2):VE X (.Compare a [.NotEq] [b] pos) δ (.bool (!dm d1 d2)):=p_ (Iz (zQ hr)) (E1 l1 l2) h1 h2 (gb _)
end
end L2
namespace L2
open PySem PySem.Spec PyProof.Rows PySem.Builtin PySem.Builtin.Str
variable{i n:Int}{ap:Pos}{K:ao}
section
variable{X:Cx}
def P7:V->List V->Hp->VK->Prop:=λx vs H Q=>∃z y,x=.str z/\vs=[.str y]/\(y.length==0)=false/\z.length+2<=sizeLine/\∀l,H l=none->Q (.ref l) (upd H l (.lst ((ck z y).map V.str)))
theorem tH:∀(l:List (Str×Tok)),dS ((l.map (·.1)).map V.str) (strValues l)
 | []=>.nil
 |(x,t)::l=>.cons ⟨t,rfl⟩ (tH l)
theorem split_len{z y:Str}(hz:z.length+2<=sizeLine):(ck z y).length<=sizeLine/\(partsBetween z (occurrences z y 0 z.length (z.length+1)) y.length).length<=sizeLine:=by
 have e1:=AK z y 0 z.length (z.length+1);have e2:(partsBetween z (occurrences z y 0 z.length (z.length+1)) y.length).length<=sizeLine:=by rw[vB];omega
 refine⟨?_,e2⟩
 unfold ck
 split
 ·show 1<=sizeLine;omega
 ·split
  ·show 1<=sizeLine;omega
  ·exact e2
theorem IV:Vh X "str.split" P7:=by
 intro pins s σ H x vs v us Q I rx rv h;obtain⟨z,y,rfl,rfl,hy,hz,q⟩:=h;obtain⟨t,rfl⟩:=rx;obtain⟨u,rfl,ru⟩:=rv.one;obtain⟨tu,rfl⟩:=ru;obtain⟨sl,sp⟩:=split_len (y:=y) hz;have fin:∀(l:List (Str×Tok))(k:Nat),l.map (·.1)=ck z y->EP X pins σ Q (.ref s.heap.objs.size) { s with heap:=s.heap.push { cls:=.type "list",data:=.seq (strValues l).toArray },toks:=k }:=λl k e=>by
  refine⟨.ref s.heap.objs.size,_,I.laid (λb o e=>ay _ e) (aA _) (show hZ X.prog X.w _ _ _ (.lst ((ck z y).map V.str)) from⟨by rw[aj];exact sl,strValues l,0,by rw[<-e];exact tH l,a8 _ rfl⟩),rfl,q _ (I.hok.fresh (aA _))⟩
 cases h1:(decide (z.length<y.length)||decide (strKind z<strKind y)) with
 |true=>exact lZ yc (rN _ _ _) v9 (vC _ _) (meets_str_split_cannot_occur z y t tu h1) (fin [(z,t)] s.toks (by unfold ck;rw[qQ3 h1];rfl))
 |false=>
  cases hf:(occurrences z y 0 z.length (z.length+1)).isEmpty with
  |true=>exact lZ yc (rN _ _ _) v9 (vC _ _) (meets_str_split_not_found z y t tu h1 hy hf) (fin [(z,t)] s.toks (by unfold ck;rw[qQ2 (by rw[h1];decide),qQ3 hf];rfl))
  |false=>
   refine lZ yc (rN _ _ _) v9 (vC _ _) (meets_str_split_sep z y t tu h1 hy hf (by omega) sp) ?_
   rw[strsFrom_eq];exact fin (numbered s.toks _) _ ((numbered_texts _ _).trans (by unfold ck;rw[qQ2 (by rw[h1];decide),qQ2 (by rw[hf];decide)]))
def rJoin(K:ao):V->List V->Hp->VK->Prop:=λx vs H Q=>∃y p zs,x=.str y/\vs=[.ref p]/\(jV K H p (zs.map V.str)\/mQ K H p (zs.map V.str))/\(zs.map (·.length)).sum+zs.length*y.length<=16777216/\Q (.str (cL y zs)) H
theorem wR:∀{zs:List Str}{us:List aB},dS (zs.map V.str) us->StrsAre us zs
 | [],_,r=>by cases r;exact .nil
 |z::zs,_,r=>by cases r with|cons a t=>obtain⟨tk,rfl⟩:=a;exact .cons z tk (wR t)
theorem L7:Vh X "str.join" (rJoin X.K):=by
 intro pins s σ H x vs v us Q I rx rv h;obtain⟨y,p,zs,rfl,rfl,hq,hz,q⟩:=h;obtain⟨t,rfl⟩:=rx;obtain⟨u,rfl,ru⟩:=rv.one;cases ru;have e:Txt.join y zs=cL y zs:=StrLaws.glued_eq_join y zs;rcases hq with hq|hq
 ·obtain⟨its,r,pl,_⟩:=I.list hq
  exact join_list pl.isList (by simpa using wR r) hz λt' k=>⟨.str _,H,I.tok k,⟨t',by rw[e]⟩,q⟩
 ·obtain⟨its,r,pl,_⟩:=I.tuple hq
  exact join_tuple pl (by simpa using wR r) hz λt' k=>⟨.str _,H,I.tok k,⟨t',by rw[e]⟩,q⟩
theorem yj:jD X (.type "int") (λxs H Q=>∃x n,xs=[.str x]/\intText? x=some n/\x.length<=640/\Q (.int n) H):=by
 intro pins s σ H xs us Q I r h;obtain⟨x,n,rfl,hn,hl,q⟩:=h;obtain⟨u,rfl,t,rfl⟩:=vals1 r;exact PySem.W.KIN.call_text hn hl ⟨.int n,H,I.tok _,⟨_,rfl⟩,q⟩
def iQ(x:Str):Nat->Str
 |0=>ft
 |n+1=>x++iQ x n
theorem E7(x:Str):∀(n:Nat)(acc:Array Nat),(bp n x.cps).foldl (· ++ ·) acc=acc++(iQ x n).cps
 |0,acc=>by show acc=acc ++ #[];simp
 |n+1,acc=>by
  rw[dJ,pI,E7 x n];show acc++x.cps++(iQ x n).cps=acc++(x.cps++(iQ x n).cps);rw[Array.append_assoc]
theorem E8(x:Str):∀n,(iQ x n).length=n*x.length
 |0=>by show(ft).length=_;simp[ft,Str.length]
 |n+1=>by
  show(x++iQ x n).length=_
  rw[cj,E8 x n,CW,Nat.add_comm]
theorem L8:qE X (binaryOp .Mult) (λx y H Q=>∃z n,x=.str z/\y=.int n/\0<=n/\n<=1000/\z.length<=1000/\Q (.str (iQ z n.toNat)) H):=by
 intro pins s σ H x y v u Q I rx ry h;obtain⟨z,n,rfl,rfl,h0,h1,hz,q⟩:=h;obtain⟨t,rfl⟩:=rx;obtain⟨t',rfl⟩:=ry;have h63:(1000:Int)<2^63:=by decide
 have e63:(2:Int)^63=9223372036854775808:=by decide
 refine PySem.P.mul_str (by rw[qQ0 (by omega),qQ0 (by omega)];rfl) (λha _=>?_) (λ_ _=>?_) ?_
 ·have:((2:Int)^63-1)/n>=1000:=by
   rw[ge_iff_le,Int.le_ediv_iff_mul_le (by omega)]
   omega
  omega
 ·unfold tooLong
  rw[qQ0];rw[d_];have:z.length*n.toNat<=1000*1000:=iw hz (by omega)
  omega
 ·by_cases hn:n<1
  ·rw[qQ3 hn]
   have:n.toNat=0:=by omega
   rw[this]at q;exact⟨by decide,.str _,H,I.tok _,⟨_,rfl⟩,q⟩
  ·rw[qQ2 hn]
   by_cases hc:(n==1||z.length==0)=true
   ·rw[qQ3 hc]
    have e:iQ z n.toNat=z:=by
     rw[xW]at hc;rcases hc with hc|hc
     ·have:n=1:=by simpa using hc
      subst this;show z++ft=z;cases z with|mk c=>show(⟨c ++ #[]⟩:Str)=⟨c⟩;simp
     ·have Vm:z.length=0:=by simpa using hc
      have:z=ft:=by cases z with|mk c=>simp[Str.length]at Vm;simp[ft,Vm]
      subst this;have:∀m,iQ ft m=ft:=by
       intro m
       induction m with
       |zero=>rfl
       |succ m ih=>show ft++iQ ft m=_;rw[ih];rfl
      exact this _
    rw[e]at q;exact⟨.str _,H,I.tok _,⟨_,rfl⟩,q⟩
   ·rw[qQ2 hc]
    have e:(⟨(bp n.toNat z.cps).foldl (· ++ ·) #[]⟩:Str)=iQ z n.toNat:=by rw[E7];simp
    rw[e];refine⟨?_,.str _,H,I.tok _,⟨_,rfl⟩,q⟩
    rw[E8,d_];have:n.toNat*z.length<=1000*1000:=iw (by omega) hz
    omega
def Its(x:Str):It:=⟨λi _=>i<x.cps.size,λi H v H'=>H'=H/\∃c,x.cps[i]?=some c/\v=.str ⟨#[c]⟩,λi _=>x.cps.size<=i⟩
theorem IW{P:bC}{w:bY}{tg:bP}(it:aI)(x:Str)(t:Tok){ty:String}(hty:ty="str_ascii_iterator"\/ty="str_iterator"):Turn P w K tg (Its x) [it] it (λi h=>h.IsStrIter it ty x t i) where
 mem:=by simp
 obj:=λi h st b hb=>by
  have e:b=it:=by simpa using hb
  subst e;obtain⟨o,e,c,d⟩:=st;exact⟨o,e,λv z=>by rw[d]at z;cases z⟩
 keep:=λi h h' st k=>let⟨o,e,r⟩:=st;⟨o,k it (by simp) o e,r⟩
 item:=by
  intro X hP hw hK hc i pins s σ H E I hf st hg;subst hP hw hK;obtain⟨f0,f1,f2,f3,f4,f5⟩:=hf it (by simp)
  have hn:["enumerate","zip","dict_itemiterator","dict_reverseitemiterator","odict_iterator","itertools.zip_longest","itertools.pairwise"].contains ty=false:=by rcases hty with rfl|rfl<;>decide
  have fin:∀v h' tk,SignAt x i v->h'.IsStrIter it ty x t (i+1)->(∀b o,b∉[it]->s.heap.get? b=some o->h'.get? b=some o)->∃u,some v=some u/\wpAny (model X.prog X.w) X.A (letOwnedTupleGo tg (.ref it) u) (λ_ s2=>∃y H',Inv X pins σ H' s2/\RelV y u/\(Its x).R4 i H y H'/\s2.heap.IsStrIter it ty x t (i+1)/\∀b∈[it],H' b=none) E { s with heap:=h',toks:=tk }:=by
   intro v h' tk hv yf kk;obtain⟨c,u,hcu,rfl⟩:=hv;have I1:Inv X pins σ H { s with heap:=h',toks:=tk }:=I.turned (λb o hb e=>kk b o (by simpa using hb) e) f0 f1 f3 f4 f5
   obtain⟨o,e,cc,d⟩:=id yf;exact⟨_,rfl,EG (s:={ s with heap:=h',toks:=tk }) e cc d hn ⟨.str ⟨#[c]⟩,H,I1,⟨u,rfl⟩,⟨rfl,c,hcu,rfl⟩,yf,λb hb=>(hf b hb).1⟩⟩
  rcases hty with rfl|rfl
  ·exact(Walks.strAscii (prog:=X.prog) (w:=X.w) (I.ok.hd hc) it x t).item i s _ _ hg st λv h' tk hv yf kk=>fin v h' tk hv yf kk
  ·exact(Walks.strWide (prog:=X.prog) (w:=X.w) (I.ok.hd hc) it x t).item i s _ _ hg st λv h' tk hv yf kk=>fin v h' tk hv yf kk
 done:=by
  intro X hP hw hK hc i pins s σ H E I hf st hg;subst hP hw hK;obtain⟨f0,f1,f2,f3,f4,f5⟩:=hf it (by simp)
  have Zr:x.cps.size<=i:=hg;rcases hty with rfl|rfl
  ·exact wpAny_pyNext_ascii_end (I.ok.hd hc) st (by simp;exact Zr) λh' eb=>⟨rfl,I.turned (t':=s.toks) (λb o hb e=>eb b o hb e) f0 f1 f3 f4 f5⟩
  ·exact wpAny_pyNext_wide_end (I.ok.hd hc) st (by simp;exact Zr) λh' eb=>⟨rfl,I.turned (t':=s.toks) (λb o hb e=>eb b o hb e) f0 f1 f3 f4 f5⟩
 self:=λ_ _ _ _ _ st h=>by
  rcases hty with rfl|rfl
  ·exact wpAny_pyIter_striter_ascii st h
  ·exact wpAny_pyIter_striter_wide st h
def W9(tl:TE):TI:=λσ H R=>tl σ H λv H1=>∃x,v=.str x/\R (Its x) H1
theorem P8{tg l:bP}{tl:TE}(hl:PE X l tl):PI X tg l (W9 tl):=by
 intro pins s σ H R I h;refine f7 (hl pins s σ H _ I h) λv s1 ⟨y,H1,I1,r1,q1⟩=>?_
 obtain⟨x,e,q⟩:=q1;subst e;obtain⟨t,rfl⟩:=r1;have go:∀ty,(ty="str_ascii_iterator"\/ty="str_iterator")->∀o:Obj,o.cls=.type ty->o.data=.fields #[.str x t,.int (0:Nat) 0]->o.isFreed=false->Wc X pins σ tg R (.ref s1.heap.objs.size) { s1 with heap:=s1.heap.push o }:=λty hty o c d fr=>
  ⟨s1.heap.objs.size,[s1.heap.objs.size],_,_,H1,rfl,I1.kept (t':=s1.toks) λb o e=>ay _ e,IW _ x t hty,⟨o,a8 _ fr,c,d⟩,λb hb=>by
   have e:b=s1.heap.objs.size:=by simpa using hb
   subst e;exact I1.uh (aA _) (I1.hok.fresh (aA _)),q⟩
 cases ha:x.cps.all (·<128)
 ·exact wpAny_pyIter_wide ha (go "str_iterator" (.inr rfl) _ rfl rfl rfl)
 ·exact wpAny_pyIter_ascii ha (go "str_ascii_iterator" (.inl rfl) _ rfl rfl rfl)
end
section
variable{X:Cx}{tg a b c e:bP}{es:List bP}{δ:List Slot}{d d1 d2 d3:ai}{ds:List ai}{pos p p2 oE:Pos}{k:Nat}{x y z:Str}
def oF(x:Str):List ai:=x.cps.toList.map λc=>.str ⟨#[c]⟩
theorem P9(h:VE X a δ (.str x)):VI X tg a δ (oF x):=⟨_,P8 cX,λB0 B σ H0 H R f q=>h B0 B σ H0 H _ f λv H1 dP g r=>by
 cases r;have hl:(oF x).length=x.cps.size:=by unfold oF;rw[aj,cM]
 refine⟨x,rfl,q _ H1 dP g λHa Hb s1 s2 i=>⟨λhi=>(show i<x.cps.size by omega),λhi=>(show x.cps.size<=i by omega),λv uZ d hd ⟨e,c,hc,ev⟩=>?_⟩⟩
 subst e;subst ev;unfold oF at hd;rw[aF,CB,hc]at hd;cases hd;exact⟨Ha,.refl s2,.str _⟩⟩
theorem odS(h:x.length+y.length<=sizeLine):yL K (λx y H Q=>∃i j,x=.str i/\y=.str j/\i.length+j.length<=sizeLine/\Q (.str (i++j)) H) (.str x) (.str y) (.str (x++y)):=λv u H0 H Q s r1 r2 k=>by cases r1;cases r2;exact⟨_,_,rfl,rfl,h,k _ _ _ (.refl s) (.str _)⟩
theorem hU(h1:VE X a δ (.str x))(h2:VE X b δ (.str y))(h:x.length+y.length<=sizeLine):VE X (.BinOp a .Add b pos) δ (.str (x++y)):=rV Di (odS h) h1 h2
theorem P_(h0:0<=n)(h1:n<=1000)(hz:x.length<=1000):yL K (λx y H Q=>∃z n,x=.str z/\y=.int n/\0<=n/\n<=1000/\z.length<=1000/\Q (.str (iQ z n.toNat)) H) (.str x) (.int n) (.str (iQ x n.toNat)):=λv u H0 H Q s r1 r2 k=>by cases r1;cases r2;exact⟨_,_,rfl,rfl,h0,h1,hz,k _ _ _ (.refl s) (.str _)⟩
theorem E9(h1:VE X a δ (.str x))(h2:VE X b δ (.int n))(h0:0<=n)(hn:n<=1000)(hz:x.length<=1000):VE X (.BinOp a .Mult b pos) δ (.str (iQ x n.toNat)):=rV L8 (P_ h0 hn hz) h1 h2
theorem Tg{c:Nat}(hz:x.length<=sizeLine)(h:pj x.cps.toList i=some c):yL K (Vg K) (.str x) (.int i) (.str ⟨#[c]⟩):=λv u H0 H Q s r1 r2 k=>by
 cases r1;cases r2;exact .inr (.inr ⟨x,i,c,rfl,rfl,hz,h,k _ _ _ (.refl s) (.str _)⟩)
theorem zU{c:Nat}(h1:VE X a δ (.str x))(h2:VE X b δ (.int i))(hz:x.length<=sizeLine)(h:pj x.cps.toList i=some c)(hs:sY b:=by intro _ _;rfl):VE X (.Subscript a b pos) δ (.str ⟨#[c]⟩):=Dy Dv (Tg hz h) h1 h2 hs
def zV(x y:Str):Bool:=!(occurrences y x 0 y.length 1).isEmpty
theorem Ti:yL K (λx y H Q=>∃i j,x=.str i/\y=.str j/\Q (.bl (!(occurrences j i 0 j.length 1).isEmpty)) H) (.str x) (.str y) (.bool (zV x y)):=λv u H0 H Q s r1 r2 k=>by cases r1;cases r2;exact⟨_,_,rfl,rfl,k _ _ _ (.refl s) (.bl _)⟩
theorem P'(h1:VE X a δ (.str x))(h2:VE X b δ (.str y))(hm:behindInMarks .In b=false:=by with_unfolding_all rfl):VE X (.Compare a [.In] [b] pos) δ (.bool (zV x y)):=p_ FU Ti h1 h2 hm
theorem Qa(hz:x.length<=sizeLine):mw K (λxs H Q=>∃z,xs=[.str z]/\z.length<=sizeLine/\Q (.int z.length) H) [.str x] (.int x.length):=λvs H0 H Q s r k=>by
 obtain⟨v,rfl,r1⟩:=r.one;cases r1;exact⟨x,rfl,hz,k _ _ _ (.refl s) (.int _)⟩
theorem E_(h:VE X a δ (.str x))(hz:x.length<=sizeLine)(hm:X.mg "len"=none)(hg:Gl X "len":=by rfl)(hs:starEach [a] X.env=(false,eval a X.env)::starEach [] X.env:=by rfl):VE X (.Call (.Name "len" p) [a] [] pos) δ (.int x.length):=h_ zK (Qa hz) (aq h aZ hs) hm qY hg (he:=hs)
theorem Qb(h:i.natAbs.log2<1920):mw K (λxs H Q=>∃i,xs=[.int i]/\i.natAbs.log2<1920/\Q (.str (toString i)) H) [.int i] (.str (toString i)):=λvs H0 H Q s r k=>by
 obtain⟨v,rfl,r1⟩:=r.one;cases r1;exact⟨i,rfl,h,k _ _ _ (.refl s) (.str _)⟩
theorem Qc(h:intText? x=some n)(hl:x.length<=640):mw K (λxs H Q=>∃x n,xs=[.str x]/\intText? x=some n/\x.length<=640/\Q (.int n) H) [.str x] (.int n):=λvs H0 H Q s r k=>by
 obtain⟨v,rfl,r1⟩:=r.one;cases r1;exact⟨x,n,rfl,h,hl,k _ _ _ (.refl s) (.int _)⟩
theorem ng(h:VE X a δ (.int i))(hl:i.natAbs.log2<1920)(hm:X.mg "str"=none)(hg:Gl X "str":=by rfl)(hs:starEach [a] X.env=(false,eval a X.env)::starEach [] X.env:=by rfl):VE X (.Call (.Name "str" p) [a] [] pos) δ (.str (toString i)):=jg zE (Qb hl) (aq h aZ hs) hm rfl hg (he:=hs)
theorem L9(h:VE X a δ (.str x))(hn:intText? x=some n)(hl:x.length<=640)(hm:X.mg "int"=none)(hg:Gl X "int":=by rfl)(hs:starEach [a] X.env=(false,eval a X.env)::starEach [] X.env:=by rfl):VE X (.Call (.Name "int" p) [a] [] pos) δ (.int n):=jg yj (Qc hn hl) (aq h aZ hs) hm rfl hg (he:=hs)
theorem qg(h1:VE X a δ (.str x))(h2:VE X b δ (.str y))(hy:(y.length==0)=false)(hz:x.length+2<=sizeLine)
  (hs:starEach [b] X.env=(false,eval b X.env)::starEach [] X.env:=by rfl)(j0:attributeBase a "split" X.env (eval a X.env)=eval a X.env:=by rfl)
  (ou:((backTo pos (starEach [b] X.env)).all (λx=>!x.1)&&(backToKw pos (keywordEach [] X.env)).all (λx=>x.1.isSome)&&decide (([b]:List bP).length+([]:List fV).length+(if([]:List fV).isEmpty then 0 else 1)<30))=true:=by rfl)
  (hline:(ap.endLine==pos.line)=true:=by rfl)(iy:(backTo pos (starEach [] X.env)).any (·.1)=false:=by rfl):VO X (.Call (.Attribute a "split" ap) [b] [] pos) δ ((ck x y).map .str):=
 .of (uX zt PySem.F.slot_str_split PySem.F.type_str_split IV cX (ej cX fK hs) j0 ou hline hs iy) λB0 B σ H0 H Q f q=>h1 B0 B σ H0 H _ f λv H1 dP g r1=>by
  cases r1;refine⟨rfl,h2 B0 B σ H1 dP _ (f.grow g) λu H2 h8 g2 r2=>?_⟩
  cases r2;refine⟨x,y,rfl,rfl,hy,hz,λl hl=>?_⟩
  have gg:=g.trans g2;refine q l _ H2 _ (gg.trans (.loose g2.sub hl)) (gg.big.free hl) (g2.sub.free hl) bB ?_
  have go:∀l:List Str,cu X.K H2 (l.map V.str) (l.map aQ):=by
   intro l
   induction l with
   |nil=>exact .nil
   |cons z l ih=>exact .cons (.str z) ih
  exact go _
theorem oG{zs:List Str}(h1:VE X a δ (.str y))(h2:VE X b δ (.list (zs.map .str)))(hz:(zs.map (·.length)).sum+zs.length*y.length<=16777216)
  (hs:starEach [b] X.env=(false,eval b X.env)::starEach [] X.env:=by rfl)(j0:attributeBase a "join" X.env (eval a X.env)=eval a X.env:=by rfl)
  (ou:((backTo pos (starEach [b] X.env)).all (λx=>!x.1)&&(backToKw pos (keywordEach [] X.env)).all (λx=>x.1.isSome)&&decide (([b]:List bP).length+([]:List fV).length+(if([]:List fV).isEmpty then 0 else 1)<30))=true:=by rfl)
  (hline:(ap.endLine==pos.line)=true:=by rfl)(iy:(backTo pos (starEach [] X.env)).any (·.1)=false:=by rfl):VE X (.Call (.Attribute a "join" ap) [b] [] pos) δ (.str (cL y zs)):=
 .of (uX zt PySem.F.slot_str_join PySem.F.type_str_join L7 cX (ej cX fK hs) j0 ou hline hs iy) λB0 B σ H0 H Q f q=>h1 B0 B σ H0 H _ f λv H1 dP g r1=>by
  cases r1;refine⟨rfl,h2 B0 B σ H1 dP _ (f.grow g) λu H2 h8 g2 r2=>?_⟩
  cases r2 with
  |lst hq rs=>
   have e:=rs.strs;subst e;exact⟨y,_,zs,rfl,rfl,.inl (g2.sub.seq hq),hz,q _ H2 h8 (g.trans g2) (.str _)⟩
end
end L2
namespace L2
open PySem PySem.Spec PyProof.Rows
variable{a it l l1 l2:aI}{items xs ys:Array aB}{X:Cx}{h:cR}{H:Hp}{pins:List (aI×Obj)}{elts:List bP}{ds:List ai}{i:Nat}{d:Option ai}{o:Option V}{tp:Pos}{K:ao}{s:aH}{x:aB}{Q:aB->aH->Prop}
def gq(kvs:List (Str×ai)):ai:=.dict (kvs.map λp=>(.str p.1,p.2))
def IX(kvs:List ((Str×Str)×ai)):ai:=.dict ((.none,.bool true)::kvs.map λp=>(.tuple [.str p.1.1,.str p.1.2],p.2))
def L_(fs:List (Str×ai)):ai:=.dict ((.none,.none)::fs.map λp=>(.str p.1,p.2))
def fZ{κ:Type}[DecidableEq κ](kvs:List (κ×ai))(k:κ):Option ai:=(kvs.find? λp=>decide (p.1=k)).map (·.2)
theorem dR{κ:Type}[DecidableEq κ]{p:κ×ai}{r:List (κ×ai)}{k:κ}(e:p.1=k):fZ (p::r) k=some p.2:=by simp[fZ,dA,e]
theorem bU{κ:Type}[DecidableEq κ]{p:κ×ai}{r:List (κ×ai)}{k:κ}(e:¬p.1=k):fZ (p::r) k=fZ r k:=by simp[fZ,dA,e]
def Bm(K:ao)(H:Hp):Option V->Option ai->Prop
 |none,none=>True
 |some v,some d=>Rep K H v d
 |_,_=>False
theorem Bm.some_of{d:ai}(h:Bm K H o (some d)):∃v,o=some v/\Rep K H v d:=by
 cases o with
 |none=>exact h.elim
 |some v=>exact⟨v,rfl,h⟩
theorem Bm.isSome(h:Bm K H o d):o.isSome=d.isSome:=by
 cases o<;>cases d<;>first|rfl|exact h.elim
theorem Bm.getD{v:V}{e:ai}(h:Bm K H o d)(r:Rep K H v e):Rep K H (o.getD v) (d.getD e):=by
 cases o<;>cases d<;>first|exact r|exact h|exact h.elim
section
variable{K:ao}{H:Hp}{v:V}
theorem Rep.k9{kvs:List (Str×ai)}(r:Rep K H v (gq kvs)):∃a ws,v=.ref a/\H a=some (.dK ws)/\ws.map (·.1)=kvs.map (λp=>(a7 p.1:Key))/\cu K H (ws.map (·.2)) (kvs.map (·.2)):=by
 unfold gq at r
 generalize e:kvs.map (λp=>(aQ p.1,p.2))=ds at r
 cases r with
 |dct h k t=>
  rename_i a ws
  refine⟨a,ws,rfl,h,?_,?_⟩
  ·have k2:ws.map (λp=>lJ p.1)=kvs.map λp=>aQ p.1:=by rw[<-k,<-e,aL];rfl
   clear k t h e
   induction ws generalizing kvs with
   |nil=>cases kvs with|nil=>rfl|cons p l=>simp at k2
   |cons q ws ih=>
    cases kvs with
    |nil=>simp at k2
    |cons p l=>
     rw[aD,aD]at k2 ⊢
     injection k2 with h1 h2
     rw[ih h2]
     congr 1
     cases eq:q.1 with
     |inl i=>rw[eq]at h1;cases h1
     |inr x=>rw[eq]at h1;injection h1 with h1;rw[h1]
  ·rw[<-e,aL]at t
   exact t
 |Rm _ _ _=>cases kvs with|nil=>simp at e|cons p l=>simp at e
 |obj _ _ _ _ _=>cases kvs with|nil=>simp at e|cons p l=>simp at e
 |Vk _ _ _=>cases kvs with|nil=>simp at e|cons p l=>simp at e
theorem rY:∀{kvs:List (Str×ai)}{ws:List (Key×V)},ws.map (·.1)=kvs.map (λp=>(a7 p.1:Key))->cu K H (ws.map (·.2)) (kvs.map (·.2))->∀k,Bm K H (g_ ws (a7 k)) (fZ kvs k)
 | [],ws,e,_,k=>by
  have:ws=[]:=by simpa using e
  subst this;exact fG
 |p::kvs,ws,e,r,k=>by
  cases ws with
  |nil=>simp at e
  |cons q ws=>
   rw[aD,aD]at e r
   injection e with e1 e2
   cases r with
   |cons r1 r2=>
    by_cases h:p.1=k
    ·rw[dR h,ml (by rw[e1,h])];exact r1
    ·rw[bU h,j5 (λz=>h (by rw[e1]at z;injection z))];exact rY e2 r2 k
def uv(p:Str×Str):List Key:=[.inr p.1,.inr p.2]
theorem Bn{p q:Str×Str}(e:uv p=uv q):p=q:=by
 unfold uv at e
 injection e with e1 e2
 injection e2 with e2 _
 injection e1 with e1
 injection e2 with e2
 exact Prod.ext e1 e2
theorem Rep.IY{kvs:List ((Str×Str)×ai)}(r:Rep K H v (IX kvs)):∃a ws,v=.ref a/\H a=some (.dT ws)/\ws.map (·.1)=kvs.map (λp=>uv p.1)/\cu K H (ws.map (·.2)) (kvs.map (·.2)):=by
 unfold IX at r
 generalize e:kvs.map (λp=>(dB [.str p.1.1,.str p.1.2],p.2))=ds at r
 cases r with
 |dct h k t=>
  rename_i a ws
  exfalso
  cases ws with
  |nil=>simp at k
  |cons q ws=>
   rw[aD,aD]at k
   injection k with k1 _
   cases eq:q.1 with
   |inl i=>rw[eq]at k1;cases k1
   |inr x=>rw[eq]at k1;cases k1
 |Rm h k t=>
  rename_i a ws
  refine⟨a,ws,rfl,h,?_,?_⟩
  ·have k2:ws.map (λp=>dB (p.1.map lJ))=kvs.map λp=>dB [.str p.1.1,.str p.1.2]:=by rw[<-k,<-e,aL];rfl
   clear k t h e
   induction ws generalizing kvs with
   |nil=>cases kvs with|nil=>rfl|cons p l=>simp at k2
   |cons q ws ih=>
    cases kvs with
    |nil=>simp at k2
    |cons p l=>
     rw[aD,aD]at k2 ⊢
     injection k2 with h1 h2
     rw[ih h2]
     congr 1
     injection h1 with h1
     have one:∀(k:Key)(x:Str),lJ k=.str x->k=.inr x:=λk x h=>by
      cases k with
      |inl i=>cases h
      |inr y=>injection h with h;rw[h]
     cases e0:q.1 with
     |nil=>rw[e0]at h1;cases h1
     |cons k1 l1=>
      rw[e0]at h1;rw[aD]at h1
      injection h1 with g1 g2
      cases l1 with
      |nil=>cases g2
      |cons k2 l2=>
       rw[aD]at g2
       injection g2 with g2 g3
       have:l2=[]:=by simpa using g3
       subst this;rw[one k1 _ g1,one k2 _ g2];rfl
  ·rw[<-e,aL]at t
   exact t
theorem IZ:∀{kvs:List ((Str×Str)×ai)}{ws:List (List Key×V)},ws.map (·.1)=kvs.map (λp=>uv p.1)->cu K H (ws.map (·.2)) (kvs.map (·.2))->∀k,Bm K H (g_ ws (uv k)) (fZ kvs k)
 | [],ws,e,_,k=>by
  have:ws=[]:=by simpa using e
  subst this;exact fG
 |p::kvs,ws,e,r,k=>by
  cases ws with
  |nil=>simp at e
  |cons q ws=>
   rw[aD,aD]at e r
   injection e with e1 e2
   cases r with
   |cons r1 r2=>
    by_cases h:p.1=k
    ·rw[dR h,ml (by rw[e1,h])];exact r1
    ·rw[bU h,j5 (λz=>h (Bn (by rw[<-e1];exact z)))];exact IZ e2 r2 k
theorem Rep.I0{fs:List (Str×ai)}(r:Rep K H v (L_ fs)):∃a C dx ws,v=.ref a/\H a=some (.ins C dx ws)/\A_ K C/\(∀f∈ws.map (·.1),jo K C f)/\ws.map (·.1)=fs.map (·.1)/\cu K H (ws.map (·.2)) (fs.map (·.2)):=by
 unfold L_ at r
 generalize e:fs.map (λp=>(aQ p.1,p.2))=ds at r
 cases r with
 |dct h k t=>
  rename_i a ws
  exfalso
  cases ws with
  |nil=>simp at k
  |cons q ws=>
   rw[aD,aD]at k
   injection k with k1 _
   cases eq:q.1 with
   |inl i=>rw[eq]at k1;cases k1
   |inr x=>rw[eq]at k1;cases k1
 |obj h c nn k t=>
  rename_i a C dx ws
  refine⟨a,C,dx,ws,rfl,h,c,nn,?_,?_⟩
  ·have k2:ws.map (λp=>aQ p.1)=fs.map λp=>aQ p.1:=by rw[<-k,<-e,aL];rfl
   clear k t h e nn
   induction ws generalizing fs with
   |nil=>cases fs with|nil=>rfl|cons p l=>simp at k2
   |cons q ws ih=>
    cases fs with
    |nil=>simp at k2
    |cons p l=>
     rw[aD,aD]at k2 ⊢
     injection k2 with h1 h2
     injection h1 with h1
     rw[ih h2,h1]
  ·rw[<-e,aL]at t
   exact t
theorem I_:∀{fs:List (Str×ai)}{ws:List (Str×V)},ws.map (·.1)=fs.map (·.1)->cu K H (ws.map (·.2)) (fs.map (·.2))->∀k d,fZ fs k=some d->∃u,ws.lookup k=some u/\k∈ws.map (·.1)/\Rep K H u d
 | [],ws,e,_,k,d,h=>by cases h
 |p::fs,ws,e,r,k,d,h=>by
  cases ws with
  |nil=>simp at e
  |cons q ws=>
   obtain⟨q1,q2⟩:=q;rw[aD,aD]at e r
   injection e with e1 e2
   have e1:q1=p.1:=e1;cases r with
   |cons r1 r2=>
    by_cases hk:p.1=k
    ·rw[dR hk]at h
     cases h;refine⟨q2,?_,?_,r1⟩
     ·rw[ei,e1,hk];simp
     ·rw[aD,e1,hk];exact aO
    ·rw[bU hk]at h
     obtain⟨u,h1,h2,h3⟩:=I_ e2 r2 k d h;refine⟨u,?_,aR _ h2,h3⟩
     rw[ei];have:(k==q1)=false:=by rw[beq_eq_false_iff_ne,e1];exact λz=>hk z.symm
     rw[this];exact h1
end
section
variable{X:Cx}{a b c e:bP}{δ:List Slot}{d d1 d2 d3:ai}{ds:List ai}{pos ap:Pos}{k:Nat}{kvs fs:List (Str×ai)}{Zt:List ((Str×Str)×ai)}{x y z:Str}
theorem Gm(hr:eE k X.A):X.A.units+1<cLine:=by have:=hr.un;omega
theorem jO{f:Str}(h:VE X a δ (L_ fs))(hf:fZ fs f=some d)(hb:attributeBase a f X.env (eval a X.env)=eval a X.env:=by rfl):VE X (.Attribute a f pos) δ d:=
 .of (wu cX hb) λB0 B σ H0 H Q fr q=>h B0 B σ H0 H _ fr λv H1 dP g r=>by
  obtain⟨p,C,dx,ws,rfl,hp,cl,nn,ke,rs⟩:=r.I0;obtain⟨u,h1,h2,h3⟩:=I_ ke rs f d hf;exact⟨p,C,dx,ws,u,rfl,g.sub _ _ hp,cl,nn f h2,h1,q u H1 dP g h3⟩
theorem fN(hr:eE k X.A)(h1:VE X a δ (gq kvs))(h2:VE X b δ (.str x))(hx:fZ kvs x=some d)(hs:F5 b:=by intro _ _;rfl):VE X (.Subscript a b pos) δ d:=
 .of (EX (Gm hr) cX cX hs) λB0 B σ H0 H Q fr q=>h1 B0 B σ H0 H _ fr λv H1 dP g r=>h2 B0 B σ H1 dP _ (fr.grow g) λu H2 h8 g2 r2=>by
  obtain⟨p,ws,rfl,hp,ke,rs⟩:=r.k9;cases r2;have o:=rY ke rs x;rw[hx]at o;obtain⟨w,hw,ub⟩:=o.some_of;refine⟨p,w,rfl,?_,q w H2 h8 (g.trans g2) (ub.mono g2.fA)⟩
  rw[<-hw];exact nS.k (k:=.inr x) (g2.sub _ _ (g2.fA _ _ hp))
theorem zW(hr:eE k X.A)(h2:VE X b δ (.str x))(h1:VE X a δ (gq kvs))(hm:behindInMarks .In a=false:=by with_unfolding_all rfl):VE X (.Compare b [.In] [a] pos) δ (.bool (fZ kvs x).isSome):=
 .of (Dc (Dw (Gm hr) cX cX) hm) λB0 B σ H0 H Q fr q=>h2 B0 B σ H0 H _ fr λu H1 dP g r2=>h1 B0 B σ H1 dP _ (fr.grow g) λv H2 h8 g2 r=>by
  obtain⟨p,ws,rfl,hp,ke,rs⟩:=r.k9;cases r2;refine⟨p,g_ ws (.inr x),rfl,nS.k (k:=.inr x) (g2.sub _ _ hp),q _ H2 h8 (g.trans g2) ?_⟩
  rw[(rY ke rs x).isSome];exact .bl _
theorem yR(hr:eE k X.A)(h2:VE X b δ (.str x))(h1:VE X a δ (gq kvs))(hm:behindInMarks .NotIn a=false:=by with_unfolding_all rfl):VE X (.Compare b [.NotIn] [a] pos) δ (.bool (!(fZ kvs x).isSome)):=
 .of (Dc (yJ (Gm hr) cX cX) hm) λB0 B σ H0 H Q fr q=>h2 B0 B σ H0 H _ fr λu H1 dP g r2=>h1 B0 B σ H1 dP _ (fr.grow g) λv H2 h8 g2 r=>by
  obtain⟨p,ws,rfl,hp,ke,rs⟩:=r.k9;cases r2;refine⟨p,g_ ws (.inr x),rfl,nS.k (k:=.inr x) (g2.sub _ _ hp),q _ H2 h8 (g.trans g2) ?_⟩
  rw[(rY ke rs x).isSome];exact .bl _
theorem Ja(hr:eE k X.A)(h2:VE X b δ (.str x))(h1:VE X a δ (gq kvs))(hm:behindInMarks .In a=false:=by with_unfolding_all rfl):VT X (.Compare b [.In] [a] pos) δ (fZ kvs x).isSome:=
 .of (Dd (Dw (Gm hr) cX cX) hm) λB0 B σ H0 H Q fr q=>h2 B0 B σ H0 H _ fr λu H1 dP g r2=>h1 B0 B σ H1 dP _ (fr.grow g) λv H2 h8 g2 r=>by
  obtain⟨p,ws,rfl,hp,ke,rs⟩:=r.k9;cases r2;refine⟨p,g_ ws (.inr x),rfl,nS.k (k:=.inr x) (g2.sub _ _ hp),_,rfl,?_⟩
  rw[(rY ke rs x).isSome];exact q H2 h8 (g.trans g2)
theorem Gn(hr:eE k X.A)(h2:VE X b δ (.str x))(h1:VE X a δ (gq kvs))(hm:behindInMarks .NotIn a=false:=by with_unfolding_all rfl):VT X (.Compare b [.NotIn] [a] pos) δ (!(fZ kvs x).isSome):=
 .of (Dd (yJ (Gm hr) cX cX) hm) λB0 B σ H0 H Q fr q=>h2 B0 B σ H0 H _ fr λu H1 dP g r2=>h1 B0 B σ H1 dP _ (fr.grow g) λv H2 h8 g2 r=>by
  obtain⟨p,ws,rfl,hp,ke,rs⟩:=r.k9;cases r2;refine⟨p,g_ ws (.inr x),rfl,nS.k (k:=.inr x) (g2.sub _ _ hp),_,rfl,?_⟩
  rw[(rY ke rs x).isSome];exact q H2 h8 (g.trans g2)
theorem Ma{x1}(hr:eE k X.A)(h1:VE X a δ (.str x))(h2:VE X b δ (.str y))(h3:VE X c δ (IX Zt))(hm:behindInMarks .In c=false:=by with_unfolding_all rfl)
  (hs:starEach [a,b] X.env=(false,eval a X.env)::starEach [b] X.env:=by rfl)(pV:starEach [b] X.env=(false,eval b X.env)::starEach [] X.env:=by rfl):VE X (.Compare (.Tuple [a,b] x1 tp) [.In] [c] pos) δ (.bool (fZ Zt (x,y)).isSome):=
 .of (Dc (Dw (Gm hr) (zF (ej cX (ej cX fK pV) hs)) cX) hm) λB0 B σ H0 H Q fr q=>h1 B0 B σ H0 H _ fr λv H1 dP g r1=>h2 B0 B σ H1 dP _ (fr.grow g) λu H2 h8 g2 r2=>by
  cases r1;cases r2;refine⟨by show 2<=sizeLine;rw[d_];decide,λt ht=>?_⟩
  have g3:=(g.trans g2).trans (dQ.loose (o:=HO.tup [.str x,.str y]) g2.sub ht);refine h3 B0 B σ H2 _ _ (fr.grow g3) λv H4 W_ g4 r=>?_
  obtain⟨p,ws,rfl,hp,ke,rs⟩:=r.IY;refine⟨p,g_ ws (uv (x,y)),rfl,nS.t (k:=uv (x,y)) (g4.sub _ _ hp) (g4.big _ _ bB),q _ H4 W_ (g3.trans g4) ?_⟩
  rw[(IZ ke rs (x,y)).isSome];exact .bl _
end
section
variable{prog:bC}{w:bY}{A:dg}{E:aB->aH->Prop}{s:aH}
theorem Tj:(cU l==g7)=false:=rfl
theorem DI(hit:s.heap.IsTupleIter it l i)(hl:s.heap.IsTuple l items)(hx:items[i]?=some x)
  (hQ:∀h',h'.IsTupleIter it l (i+1)->gY it s.heap h'->Q x { s with heap:=h' }):wpAny (model prog w) A (cN (.ref it)) Q E s:=by
 obtain⟨o,ho,hc,hd⟩:=id hit;obtain⟨ol,Ro,AX,nl,Qd⟩:=hl;unfold cN;refine ax (gv (name:=jz "__next__") hit.typeIs jA (jU jA hit.typeIs AO ?_ (zu _)))
 show wpAny _ _ (field (.ref it) 0 >>= _) _ _ s;refine ax (eW ho hd (x:=.ref l) rfl ?_)
 show wpAny _ _ (if(cU l==g7)=true then _ else _) _ _ s
 rw[qQ2 (by rw[Tj];decide)]
 show wpAny _ _ (field (.ref it) 1 >>= _) _ _ s;refine ax (eW ho hd (x:=.int i 0) rfl ?_)
 show wpAny _ _ (seqItems? (.ref l) >>= _) _ _ s;refine ax (f9 Ro Qd ?_)
 simp only[eS,hx];refine ax (wpAny_setField ho hd (by simp) (a9 ⟨x,rfl,a9 (hQ _ ?_ (yd ..))⟩))
 refine⟨_,C5 _ ho (Obj.isFreed_of_fields (Obj.data_mapFields hd _)),(Obj.cls_mapFields ..).trans hc,?_⟩
 rw[Obj.data_mapFields hd];simp[rawInt]
theorem Gq(hh:A.handled=none)(hit:s.heap.IsTupleIter it l i)(hl:s.heap.IsTuple l items)(hx:items[i]?=none)
  (hE:∀h' e,cR.ExtBut it s.heap h'->(∃o,h'.get? e=some o/\o.cls=.type "StopIteration")->E (.ref e) { s with heap:=h' }):wpAny (model prog w) A (cN (.ref it)) Q E s:=by
 obtain⟨o,ho,hc,hd⟩:=id hit;obtain⟨ol,Ro,AX,nl,Qd⟩:=hl;unfold cN;refine ax (gv (name:=jz "__next__") hit.typeIs jA (jU jA hit.typeIs AO ?_ (zu _)))
 show wpAny _ _ (field (.ref it) 0 >>= _) _ _ s;refine ax (eW ho hd (x:=.ref l) rfl ?_)
 show wpAny _ _ (if(cU l==g7)=true then _ else _) _ _ s
 rw[qQ2 (by rw[Tj];decide)]
 show wpAny _ _ (field (.ref it) 1 >>= _) _ _ s;refine ax (eW ho hd (x:=.int i 0) rfl ?_)
 show wpAny _ _ (seqItems? (.ref l) >>= _) _ _ s;refine ax (f9 Ro Qd ?_)
 simp only[eS,hx];refine ax (C6 (ax (wpAny_setField ho hd (by simp) ?_)))
 show wpAny _ _ (newExc (.type "StopIteration") [] >>= _) _ _ _;refine ax ?_
 simp only[newExc,newTuple];refine ax (ic ?_ (by size_fits))
 refine ax (m:=firstArgMember _ _) (wpAny_of_eq (a:=g7) (by first|rfl|(simp only[firstArgMember];rfl)) ?_)
 refine ic ?_ (by size_fits)
 simp only[raiseNew];refine ax (wpAny_handled ?_)
 first|rw[show A.in1.handled=none from hh]|rw[hh]
 refine ax (a9 (wpAny_throw ?_))
 exact hE _ _ (((yd ..).extBut.push _).push _) ⟨_,a8 _ rfl,rfl⟩
end
inductive DJ where|lst|tup
variable{k k1 k2:DJ}
def nH(k:DJ)(h:cR)(l:aI)(xs:Array aB):Prop:=match k with | .lst=>h.IsList l xs | .tup=>h.IsTuple l xs
def pq(k:DJ)(h:cR)(i l:aI)(n:Nat):Prop:=match k with | .lst=>h.IsListIter i l n | .tup=>h.IsTupleIter i l n
theorem pq.at{h': cR}{i: aI}{n:Nat}(x:pq k h i l n)(e:∀o,h.get? i=some o->h'.get? i=some o):pq k h' i l n:=by
 cases k with
 |lst=>obtain⟨o,a,r⟩:=(show h.IsListIter i l n from x);exact(⟨o,e o a,r⟩:h'.IsListIter i l n)
 |tup=>obtain⟨o,a,r⟩:=(show h.IsTupleIter i l n from x);exact(⟨o,e o a,r⟩:h'.IsTupleIter i l n)
theorem nH.at{h': cR}(x:nH k h l xs)(e:∀o,h.get? l=some o->h'.get? l=some o):nH k h' l xs:=by
 cases k with
 |lst=>obtain⟨o,a,r⟩:=(show h.IsList l xs from x);exact(⟨o,e o a,r⟩:h'.IsList l xs)
 |tup=>obtain⟨o,a,r⟩:=(show h.IsTuple l xs from x);exact(⟨o,e o a,r⟩:h'.IsTuple l xs)
theorem pq.get{i: aI}{n:Nat}(x:pq k h i l n):∃o,h.get? i=some o/\∀v,o.data≠.cell v:=by
 cases k with
 |lst=>obtain⟨o,a,_,d⟩:=(show h.IsListIter i l n from x);exact⟨o,a,λv z=>by rw[d]at z;cases z⟩
 |tup=>obtain⟨o,a,_,d⟩:=(show h.IsTupleIter i l n from x);exact⟨o,a,λv z=>by rw[d]at z;cases z⟩
theorem nH.get(x:nH k h l xs):∃o,h.get? l=some o:=by
 cases k with
 |lst=>obtain⟨o,a,_⟩:=(show h.IsList l xs from x);exact⟨o,a⟩
 |tup=>obtain⟨o,a,_⟩:=(show h.IsTuple l xs from x);exact⟨o,a⟩
section
variable{prog:bC}{w:bY}{A:dg}{E:aB->aH->Prop}{s:aH}
theorem next_item(hit:pq k s.heap it l i)(hl:nH k s.heap l items)(hx:items[i]?=some x)
  (hQ:∀h',pq k h' it l (i+1)->gY it s.heap h'->Q x { s with heap:=h' }):wpAny (model prog w) A (cN (.ref it)) Q E s:=by
 cases k with
 |lst=>exact wpAny_nextOf_list_item hit hl hx hQ
 |tup=>exact DI hit hl hx hQ
theorem next_end(hh:A.handled=none)(hit:pq k s.heap it l i)(hl:nH k s.heap l items)(hx:items[i]?=none)
  (hE:∀h' e,cR.ExtBut it s.heap h'->(∃o,h'.get? e=some o/\o.cls=.type "StopIteration")->E (.ref e) { s with heap:=h' }):wpAny (model prog w) A (cN (.ref it)) Q E s:=by
 cases k with
 |lst=>exact wpAny_nextOf_list_end hh hit hl hx hE
 |tup=>exact Gq hh hit hl hx hE
structure Zp(k1 k2:DJ)(h:cR)(z TI TO i1 i2 l1 l2:aI)(f0:aB)(a b:aB)(n1 n2:Nat)(xs ys:Array aB):Prop where
 hz:AQ h z TI TO f0
 hTI:pL h TI (.ref i1) (.ref i2)
 hTO:pL h TO a b
 h1:pq k1 h i1 l1 n1
 h2:pq k2 h i2 l2 n2
 s1:nH k1 h l1 xs
 s2:nH k2 h l2 ys
theorem Gr{z TI TO i1 i2: aI}{n1 n2:Nat}{y a b: aB}{Q:Option aB->aH->Prop}(D:ZipApart z TI TO i1 i2 l1 l2)(Z:Zp k1 k2 s.heap z TI TO i1 i2 l1 l2 .none a b n1 n2 xs ys)(hx:xs[n1]?=some x)(hy:ys[n2]?=some y)
  (hQ:∀h',Zp k1 k2 h' z TI TO i1 i2 l1 l2 (rawInt s.heap.objs.size) x y (n1+1) (n2+1) xs ys->pL h' s.heap.objs.size x y->(∀c o,c≠z->c≠TO->c≠i1->c≠i2->s.heap.get? c=some o->h'.get? c=some o)->Q (some (.ref s.heap.objs.size)) { s with heap:=h' }):
  wpAny (model prog w) A (pyNext (.ref z)) Q E s:=by
 obtain⟨hz,hTI,hTO,h1,h2,s1,s2⟩:=Z;have hT:s.TypeIs (.ref z) "zip":=⟨_,hz,rfl⟩;unfold pyNext;refine ax (vN (gv (name:=jz "__next__") hT q5 (jU q5 hT F.entry_zip_next ?_ (F.args_zip_next_1 _))))
 show wpAny _ _ (field (.ref z) 2 >>= _) _ _ _;refine ax (eW hz rfl (x:=.bool false) rfl ?_)
 show wpAny _ _ (field (.ref z) 3 >>= _) _ _ _;refine ax (eW hz rfl (x:=.ref TI) rfl (ax (f9 hTI rfl ?_)))
 show wpAny _ _ (fD (.ref z) >>= _) _ _ _;refine ax ?_
 unfold fD;refine ax (eW hz rfl (x:=.none) rfl (a9 ?_))
 simp only[if_true];refine ax (C6 (ax (eW hz rfl (x:=.ref TO) rfl (ax (iW hz (by simp) λha N0 sa=>?_)))))
 replace N0:AQ ha z TI TO .ellipsis:=N0
 refine ax ?_
 simp only[vO,List.zipIdx_nil,xV,List.forIn_nil];refine ax (ax (vP ?_))
 show wpAny _ _ (cN (.ref i1) >>= _) _ _ _;refine ax (next_item (h1.at λo e=>sa.extBut _ o D.i1z e) (s1.at λo e=>sa.extBut _ o D.l1z e) hx λhb Zu sb=>a9 ?_)
 have tb:pL hb TO a b:=sb.extBut _ _ D.TOi1 (sa.extBut _ _ D.TOz hTO);refine ax (f9 tb rfl (ax (uc tb λhc tc sc=>?_)))
 replace tc:pL hc TO x b:=tc
 refine ax (AU (a9 (ax (ax (vP ?_)))))
 show wpAny _ _ (cN (.ref i2) >>= _) _ _ _;refine ax (next_item (h2.at λo e=>sc.extBut _ o D.TOi2.symm (sb.extBut _ o D.i12.symm (sa.extBut _ o D.i2z e))) (s2.at λo e=>sc.extBut _ o D.l2TO (sb.extBut _ o D.l2i1 (sa.extBut _ o D.l2z e))) hy λhd h2d sd=>a9 ?_)
 have td:pL hd TO x b:=sd.extBut _ _ D.TOi2 tc;refine ax (f9 td rfl (ax (uc td λhe te se=>?_)))
 replace te:pL he TO x y:=te
 refine ax (AU (a9 (a9 (ax (f9 te rfl (ax (wpAny_newTuple ?_)))))))
 have hsz:he.objs.size=s.heap.objs.size:=by rw[se.1,sd.1,sc.1,sb.1,sa.1]
 have kp:∀c o,c≠z->c≠TO->c≠i1->c≠i2->s.heap.get? c=some o->he.get? c=some o:=λc o c1 c2 c3 c4 e=>se.extBut _ _ c2 (sd.extBut _ _ c4 (sc.extBut _ _ c2 (sb.extBut _ _ c3 (sa.extBut _ _ c1 e))))
 have ze:AQ he z TI TO .ellipsis:=se.extBut _ _ D.TOz.symm (sd.extBut _ _ D.i2z.symm (sc.extBut _ _ D.TOz.symm (sb.extBut _ _ D.i1z.symm N0)));have h1e:pq k1 he i1 l1 (n1+1):=Zu.at λo e=>se.extBut _ o D.TOi1.symm (sd.extBut _ o D.i12 (sc.extBut _ o D.TOi1.symm e))
 have h2e:pq k2 he i2 l2 (n2+1):=h2d.at λo e=>se.extBut _ o D.TOi2.symm e
 show wpAny _ _ (mX (.ref z) (.ref he.objs.size) >>= _) _ _ _;refine ax ?_
 unfold mX;have zf:AQ (he.push { cls:=.type "tuple",data:=.seq #[x,y] }) z TI TO .ellipsis:=ay _ ze;refine ax (iW zf (by simp) λhg zg sg=>?_)
 replace zg:AQ hg z TI TO (rawInt he.objs.size):=zg
 refine iW zg (by simp) λhi zi si=>?_
 replace zi:AQ hi z TI TO (rawInt he.objs.size):=zi
 have up:∀c o,c≠z->he.get? c=some o->hi.get? c=some o:=λc o c1 e=>si.extBut _ _ c1 (sg.extBut _ _ c1 (ay _ e))
 have ti:pL hi he.objs.size x y:=si.extBut _ _ (eL (aT ze)) (sg.extBut _ _ (eL (aT ze)) (a8 _ rfl));rw[hsz]at zi ti;refine a9 ⟨_,rfl,?_⟩
 show wpAny _ _ (pure (some (cU he.objs.size))) _ _ _;rw[hsz];refine a9 (hQ hi ⟨zi,up _ _ D.TIz (kp _ _ D.TIz D.TITO D.TIi1 D.TIi2 hTI),up _ _ D.TOz te,h1e.at λo e=>up _ o D.i1z e,h2e.at λo e=>up _ o D.i2z e,s1.at λo e=>up _ o D.l1z (kp _ o D.l1z D.l1TO D.l1i1 D.l1i2 e),s2.at λo e=>up _ o D.l2z (kp _ o D.l2z D.l2TO D.l2i1 D.l2i2 e)⟩ ti λc o c1 c2 c3 c4 e=>up c o c1 (kp c o c1 c2 c3 c4 e))
theorem Jb{z TI TO i1 i2: aI}{n1 n2:Nat}{a b:aB}{Q:Option aB->aH->Prop}(hh:A.handled=none)(D:ZipApart z TI TO i1 i2 l1 l2)(Z:Zp k1 k2 s.heap z TI TO i1 i2 l1 l2 .none a b n1 n2 xs ys)(Mb:xs[n1]?=none\/ys[n2]?=none)
  (hQ:∀h',(∀c o,c≠z->c≠TO->c≠i1->c≠i2->s.heap.get? c=some o->h'.get? c=some o)->Q none { s with heap:=h' }):wpAny (model prog w) A (pyNext (.ref z)) Q E s:=by
 obtain⟨hz,hTI,hTO,h1,h2,s1,s2⟩:=Z;have hT:s.TypeIs (.ref z) "zip":=⟨_,hz,rfl⟩;have fin:∀h' e,(∀c o,c≠z->c≠TO->c≠i1->c≠i2->s.heap.get? c=some o->h'.get? c=some o)->(∃o,h'.get? e=some o/\o.cls=.type "StopIteration")->wpAny (model prog w) A (do if <-isInstance (.ref e) (.type "StopIteration")then pure none else throw (.ref e)) Q E { s with heap:=h' }:=by
  intro h' e hk ⟨o,ho,hc⟩;exact ax (zv (T:="StopIteration") (b:=true) (s:={ s with heap:=h' }) ⟨o,ho,hc⟩ isSubtype_stop (a9 (hQ _ hk)))
 unfold pyNext;refine ax (vN (gv (name:=jz "__next__") hT q5 (jU q5 hT F.entry_zip_next ?_ (F.args_zip_next_1 _))))
 show wpAny _ _ (field (.ref z) 2 >>= _) _ _ _;refine ax (eW hz rfl (x:=.bool false) rfl ?_)
 show wpAny _ _ (field (.ref z) 3 >>= _) _ _ _;refine ax (eW hz rfl (x:=.ref TI) rfl (ax (f9 hTI rfl ?_)))
 show wpAny _ _ (fD (.ref z) >>= _) _ _ _;refine ax ?_
 unfold fD;refine ax (eW hz rfl (x:=.none) rfl (a9 ?_))
 simp only[if_true];refine ax (C6 (ax (eW hz rfl (x:=.ref TO) rfl (ax (iW hz (by simp) λha N0 sa=>?_)))))
 replace N0:AQ ha z TI TO .ellipsis:=N0
 refine ax ?_
 simp only[vO,List.zipIdx_nil,xV,List.forIn_nil];refine ax (ax (vP ?_))
 show wpAny _ _ (cN (.ref i1) >>= _) _ _ _;cases hx:xs[n1]? with
 |none=>
  refine ax (next_end hh (h1.at λo e=>sa.extBut _ o D.i1z e) (s1.at λo e=>sa.extBut _ o D.l1z e) hx λhb e sb he=>?_)
  obtain⟨oe,Qe,Tn⟩:=he;have zb:AQ hb z TI TO .ellipsis:=sb _ _ D.i1z.symm N0;have ne:e≠z:=λx=>by subst x;rw[zb]at Qe;cases Qe;simp at Tn
  exact iW zb (by simp) λhc _ sc=>fin hc e (λc o c1 _ c3 _ x=>sc.extBut _ _ c1 (sb _ _ c3 (sa.extBut _ _ c1 x))) ⟨oe,sc.extBut _ _ ne Qe,Tn⟩
 |some x=>
  have hy:ys[n2]?=none:=by
   rcases Mb with h|h
   ·rw[hx]at h;cases h
   ·exact h
  refine ax (next_item (h1.at λo e=>sa.extBut _ o D.i1z e) (s1.at λo e=>sa.extBut _ o D.l1z e) hx λhb Zu sb=>a9 ?_)
  have tb:pL hb TO a b:=sb.extBut _ _ D.TOi1 (sa.extBut _ _ D.TOz hTO);refine ax (f9 tb rfl (ax (uc tb λhc tc sc=>?_)))
  refine ax (AU (a9 (ax (ax (vP ?_)))))
  show wpAny _ _ (cN (.ref i2) >>= _) _ _ _;refine ax (next_end hh (h2.at λo e=>sc.extBut _ o D.TOi2.symm (sb.extBut _ o D.i12.symm (sa.extBut _ o D.i2z e))) (s2.at λo e=>sc.extBut _ o D.l2TO (sb.extBut _ o D.l2i1 (sa.extBut _ o D.l2z e))) hy λhd e sd he=>?_)
  obtain⟨oe,Qe,Tn⟩:=he;have zd:AQ hd z TI TO .ellipsis:=sd _ _ D.i2z.symm (sc.extBut _ _ D.TOz.symm (sb.extBut _ _ D.i1z.symm N0));have ne:e≠z:=λx=>by subst x;rw[zd]at Qe;cases Qe;simp at Tn
  exact iW zd (by simp) λhg _ sg=>fin hg e (λc o c1 c2 c3 c4 x=>sg.extBut _ _ c1 (sd _ _ c4 (sc.extBut _ _ c2 (sb.extBut _ _ c3 (sa.extBut _ _ c1 x))))) ⟨oe,sg.extBut _ _ ne Qe,Tn⟩
def o6(k:DJ)(l:aI):Obj:=match k with | .lst=>{ cls:=.type "list_iterator",data:=.fields #[.ref l,.int 0 0] } | .tup=>{ cls:=.type "tuple_iterator",data:=.fields #[.ref l,.int 0 0] }
theorem Fb(hl:nH k s.heap l xs)(h:Q (.ref s.heap.objs.size) { s with heap:=s.heap.push (o6 k l) }):wpAny (model prog w) A (pyIter (.ref l)) Q E s:=by
 cases k with
 |lst=>exact ly hl h
 |tup=>exact iS hl h
def CK(k1 k2:DJ)(h:cR)(l1 l2:aI):cR:=(h.push (o6 k1 l1)).push (o6 k2 l2)
def W'(k1 k2:DJ)(h:cR)(l1 l2:aI):cR:=(((CK k1 k2 h l1 l2).push { cls:=.type "tuple",data:=.seq #[.ref h.objs.size,.ref (h.push (o6 k1 l1)).objs.size] }).push { cls:=.type "tuple",data:=.seq #[.none,.none] }).push
 { cls:=.type "zip",data:=.fields #[.none,.bool false,.bool false,.ref (CK k1 k2 h l1 l2).objs.size,.ref ((CK k1 k2 h l1 l2).push { cls:=.type "tuple",data:=.seq #[.ref h.objs.size,.ref (h.push (o6 k1 l1)).objs.size] }).objs.size] }
theorem nH.push(x:nH k h l xs)(o:Obj):nH k (h.push o) l xs:=x.at λ_ e=>ay _ e
theorem DK(k1 k2:DJ)(l1 l2:aI)(xs ys:Array aB):Meets (pD.«zip.__new__» ⟨[.type "zip",.ref l1,.ref l2],[]⟩) (λ_ R s=>nH k1 s.heap l1 xs/\nH k2 s.heap l2 ys/\
  R (.ok (.ret (.ref (((CK k1 k2 s.heap l1 l2).push { cls:=.type "tuple",data:=.seq #[.ref s.heap.objs.size,.ref (s.heap.push (o6 k1 l1)).objs.size] }).push { cls:=.type "tuple",data:=.seq #[.none,.none] }).objs.size))) { s with heap:=W' k1 k2 s.heap l1 l2 }):=
 .of_wp λprog w A R s h=>by
  obtain⟨hp,g,d,tk,os⟩:=s;obtain⟨KW,Qf,h⟩:=h;have Bg:=sub_zip;have a1:nH k1 (CD ⟨hp,g,d,tk,os⟩) l1 xs:=KW;have a2:nH k2 (CD ⟨hp.push (o6 k1 l1),g,d,tk,os⟩) l2 ys:=Qf.push _
  wp_walk using Fb a1,Fb a2
  exact⟨_,rfl,h⟩
theorem Bo{i: aI}(e:h.get? i=some (o6 k l)):pq k h i l 0:=by
 cases k with
 |lst=>exact(⟨_,e,rfl,rfl⟩:h.IsListIter i l 0)
 |tup=>exact(⟨_,e,rfl,rfl⟩:h.IsTupleIter i l 0)
theorem wU(k:DJ)(l:aI):(o6 k l).isFreed=false:=by cases k<;>rfl
theorem Gs(KW:nH k1 s.heap l1 xs)(Qf:nH k2 s.heap l2 ys)
  (h:∀h',Zp k1 k2 h' (s.heap.objs.size+4) (s.heap.objs.size+2) (s.heap.objs.size+3) s.heap.objs.size (s.heap.objs.size+1) l1 l2 .none .none .none 0 0 xs ys->(∀c o,s.heap.get? c=some o->h'.get? c=some o)->Q (.ref (s.heap.objs.size+4)) { s with heap:=h' }):
  wpAny (model prog w) A (call (.type "zip") [.ref l1,.ref l2]) Q E s:=by
 refine callType_new F.called_zip (by decide) (F.typeCall_zip_2 _ _) (F.newCall_zip_2 _ _) (λobj=>F.args_object_init_3 obj _ _) F.entry_zip_new (DK k1 k2 l1 l2 xs ys) ⟨KW,Qf,?_⟩
 have z1:(s.heap.push (o6 k1 l1)).objs.size=s.heap.objs.size+1:=fh ..;have z2:(CK k1 k2 s.heap l1 l2).objs.size=s.heap.objs.size+2:=by unfold CK;rw[fh,z1]
 generalize hT:({ cls:=.type "tuple",data:=.seq #[.ref s.heap.objs.size,.ref (s.heap.push (o6 k1 l1)).objs.size] }:Obj)=tI
 generalize Xa:({ cls:=.type "tuple",data:=.seq #[.none,.none] }:Obj)=tO
 have z3:((CK k1 k2 s.heap l1 l2).push tI).objs.size=s.heap.objs.size+3:=by rw[fh,z2]
 have z4:(((CK k1 k2 s.heap l1 l2).push tI).push tO).objs.size=s.heap.objs.size+4:=by rw[fh,z3]
 have fI:tI.isFreed=false:=by rw[<-hT];rfl
 have fO:tO.isFreed=false:=by rw[<-Xa];rfl
 have eq:W' k1 k2 s.heap l1 l2=(((CK k1 k2 s.heap l1 l2).push tI).push tO).push { cls:=.type "zip",data:=.fields #[.none,.bool false,.bool false,.ref (s.heap.objs.size+2),.ref (s.heap.objs.size+3)] }:=by
  unfold W';rw[hT,Xa,z2,z3]
 rw[eq,z4];have g5:((((CK k1 k2 s.heap l1 l2).push tI).push tO).push { cls:=.type "zip",data:=.fields #[.none,.bool false,.bool false,.ref (s.heap.objs.size+2),.ref (s.heap.objs.size+3)] }).get? (s.heap.objs.size+4)=some { cls:=.type "zip",data:=.fields #[.none,.bool false,.bool false,.ref (s.heap.objs.size+2),.ref (s.heap.objs.size+3)] }:=by
  rw[<-z4];exact a8 _ rfl
 have Zv:∀c o,((CK k1 k2 s.heap l1 l2).push tI).get? c=some o->((((CK k1 k2 s.heap l1 l2).push tI).push tO).push { cls:=.type "zip",data:=.fields #[.none,.bool false,.bool false,.ref (s.heap.objs.size+2),.ref (s.heap.objs.size+3)] }).get? c=some o:=λc o e=>ay _ (ay _ e)
 have Tp:∀c o,(CK k1 k2 s.heap l1 l2).get? c=some o->_:=λc o e=>Zv c o (ay _ e)
 have Xb:∀c o,s.heap.get? c=some o->(CK k1 k2 s.heap l1 l2).get? c=some o:=λc o e=>ay _ (ay _ e)
 refine⟨⟨_,g5,rfl⟩,h _ ⟨g5,?_,?_,?_,?_,?_,?_⟩ λc o e=>Tp c o (Xb c o e)⟩
 ·refine Zv _ _ ?_
  rw[<-z2];have:=a8 (CK k1 k2 s.heap l1 l2) fI;rw[this,<-hT,z1]
 ·refine ay _ ?_
  rw[<-z3];have:=a8 ((CK k1 k2 s.heap l1 l2).push tI) fO;rw[this,<-Xa]
 ·exact Bo (Tp _ _ (ay _ (a8 _ (wU k1 l1))))
 ·refine Bo (Tp _ _ ?_)
  have:=a8 (s.heap.push (o6 k1 l1)) (wU k2 l2);rw[z1]at this;exact this
 ·exact KW.at λo e=>Tp _ o (Xb _ o e)
 ·exact Qf.at λo e=>Tp _ o (Xb _ o e)
end
def Fc(k:DJ)(K:ao)(H:Hp)(a:aI)(xs:List V):Prop:=match k with | .lst=>jV K H a xs | .tup=>mQ K H a xs
theorem Inv.sq{σ:St}{xs:List V}(I:Inv X pins σ H s)(h:Fc k X.K H a xs):∃its,dS xs its/\nH k s.heap a its.toArray/\xs.length<=sizeLine:=by
 cases k with
 |lst=>obtain⟨its,r,p,z⟩:=I.list h;exact⟨its,r,p.isList,z⟩
 |tup=>obtain⟨its,r,p,z⟩:=I.tuple h;exact⟨its,r,(show s.heap.IsTuple a its.toArray from p),z⟩
theorem Inv.Jc{σ:St}{xs ys:List V}(I:Inv X pins σ H s)(h:Fc k X.K H a xs)(h':Fc k X.K H a ys):xs=ys:=by
 cases k with
 |lst=>exact I.wm h h'
 |tup=>exact I.ug h h'
theorem dC.N1{H': Hp}{xs:List V}(e:dC H H')(h:Fc k K H a xs):Fc k K H' a xs:=by
 cases k with
 |lst=>exact e.seq h
 |tup=>exact e.mU h
def Zw(k1 k2:DJ)(K:ao)(a b:aI):It:=
 ⟨λi H=>∃xs x ys y,Fc k1 K H a xs/\xs[i]?=some x/\Fc k2 K H b ys/\ys[i]?=some y,
  λi H v H'=>∃t x y,v=.ref t/\H t=none/\H'=upd H t (.tup [x,y])/\(∀xs,Fc k1 K H a xs->xs[i]?=some x)/\∀ys,Fc k2 K H b ys->ys[i]?=some y,
  λi H=>∃xs ys,Fc k1 K H a xs/\Fc k2 K H b ys/\(xs.length<=i\/ys.length<=i)⟩
theorem Jd{P:bC}{w:bY}{kk}{z TI TO i1 i2: aI}(D:ZipApart z TI TO i1 i2 l1 l2):
  Turn P w K (.Tuple elts kk tp) (Zw k1 k2 K l1 l2) [z,TI,TO,i1,i2] z (λi h=>AQ h z TI TO .none/\pL h TI (.ref i1) (.ref i2)/\(∃a b,pL h TO a b)/\pq k1 h i1 l1 i/\pq k2 h i2 l2 i) where
 mem:=by simp
 obj:=λi h st b hb=>by
  obtain⟨hz,hTI,⟨a,c,hTO⟩,h1,h2⟩:=st;simp only[av,aX,or_false]at hb;rcases hb with rfl|rfl|rfl|rfl|rfl
  ·exact⟨_,hz,λv z=>by cases z⟩
  ·exact⟨_,hTI,λv z=>by cases z⟩
  ·exact⟨_,hTO,λv z=>by cases z⟩
  ·exact h1.get
  ·exact h2.get
 keep:=λi h h' st kp=>by
  obtain⟨hz,hTI,⟨a,c,hTO⟩,h1,h2⟩:=st;exact⟨kp z (by simp) _ hz,kp TI (by simp) _ hTI,⟨a,c,kp TO (by simp) _ hTO⟩,h1.at λo e=>kp i1 (by simp) o e,h2.at λo e=>kp i2 (by simp) o e⟩
 item:=by
  intro X hP hw hK hc i pins s σ H E I hf st hg;subst hP hw hK;obtain⟨hz,hTI,⟨a,c,hTO⟩,h1,h2⟩:=st;obtain⟨xs,x,ys,y,Je,hx,Gi,hy⟩:=hg;obtain⟨its,rv,p1,_⟩:=I.sq Je;obtain⟨Zx,KY,p2,_⟩:=I.sq Gi;obtain⟨u,hu,ru⟩:=rv.get hx;obtain⟨u2,hu2,Qg⟩:=KY.get hy;refine Gr D ⟨hz,hTI,hTO,h1,h2,p1,p2⟩ (x:=u) (y:=u2) (by simpa using hu) (by simpa using hu2) λha Z ht hk=>?_
  obtain⟨az,aTI,aTO,a1,a2,_,_⟩:=Z;refine⟨.ref s.heap.objs.size,rfl,wpAny_letOwnedTupleGo_zip az λhb bz sb=>?_⟩
  have Zy:z<s.heap.objs.size:=aT hz;have k2:∀b o,b∉[z,TI,TO,i1,i2]->s.heap.get? b=some o->hb.get? b=some o:=λb o nb q=>by
   have n1:b≠z:=λe=>nb (by simp[e])
   have n2:b≠TO:=λe=>nb (by simp[e])
   have n3:b≠i1:=λe=>nb (by simp[e])
   have n4:b≠i2:=λe=>nb (by simp[e])
   exact(sb.2 b n1).trans (hk b o n1 n2 n3 n4 q)
  have I2:Inv X pins σ H { s with heap:=hb,toks:=s.toks }:=I.qH k2 hf
  have PX:pL hb s.heap.objs.size u u2:=(sb.2 _ (eL Zy)).trans ht;have fT:rR X pins H s.heap.objs.size:=I.uh (aA _) I.fresh;have I3:Inv X pins σ (upd H s.heap.objs.size (.tup [x,y])) { s with heap:=hb,toks:=s.toks }:=
   I2.track fT ⟨by show 2<=sizeLine;rw[d_];decide,[u,u2],.cons ru (.cons Qg .nil),⟨_,PX,rfl,_,rfl⟩⟩
  have up:∀b o,b≠z->ha.get? b=some o->hb.get? b=some o:=λb o nb q=>(sb.2 b nb).trans q
  refine⟨.ref s.heap.objs.size,_,I3,rfl,⟨_,x,y,rfl,I.fresh,rfl,λzs Xc=>by rw[I.Jc Xc Je];exact hx,λzs Xc=>by rw[I.Jc Xc Gi];exact hy⟩,⟨bz,up _ _ D.TIz aTI,⟨_,_,up _ _ D.TOz aTO⟩,a1.at λo q=>up _ o D.i1z q,a2.at λo q=>up _ o D.i2z q⟩,λb Qh=>?_⟩
  have kA:b<s.heap.objs.size:=by
   simp only[av,aX,or_false]at Qh;rcases Qh with rfl|rfl|rfl|rfl|rfl
   ·exact Zy
   ·exact aT hTI
   ·exact aT hTO
   ·obtain⟨o,q,_⟩:=h1.get;exact aT q
   ·obtain⟨o,q,_⟩:=h2.get;exact aT q
  rw[aN (aU kA)];exact(hf b Qh).1
 done:=by
  intro X hP hw hK hc i pins s σ H E I hf st hg;subst hP hw hK;obtain⟨hz,hTI,⟨a,c,hTO⟩,h1,h2⟩:=st;obtain⟨xs,ys,Je,Gi,hx⟩:=hg;obtain⟨its,rv,p1,_⟩:=I.sq Je;obtain⟨Zx,KY,p2,_⟩:=I.sq Gi;have e1:=rv.length;have e2:=KY.length;refine Jb (I.ok.hd hc) D ⟨hz,hTI,hTO,h1,h2,p1,p2⟩ ?_ λh' hk=>⟨rfl,I.qH (ch:=[z,TI,TO,i1,i2]) (t':=s.toks) (λb o hb q=>hk b o (λe=>hb (by simp[e])) (λe=>hb (by simp[e])) (λe=>hb (by simp[e])) (λe=>hb (by simp[e])) q) hf⟩
  rcases hx with hx|hx
  ·left;simp;omega
  ·right;simp;omega
 self:=λ_ _ _ _ _ st h=>wpAny_pyIter_zip st.1 h
def Xd(k1 k2:DJ)(K:ao)(ta:TA):TI:=λσ H R=>ta σ H λvs H1=>∃a b,vs=[.ref a,.ref b]/\(∃xs,Fc k1 K H1 a xs)/\(∃ys,Fc k2 K H1 b ys)/\R (Zw k1 k2 K a b) H1
theorem boot_zip:bootBuiltins "zip"=some (.type "zip"):=rfl
theorem Qi{a b:bP}{ta:TA}{p pos: Pos}{kk}(k1 k2:DJ)(hg:Gl X "zip")(hm:X.mg "zip"=none)(ha:PA X [a,b] ta)(hs:starEach [a,b] X.env=[(false,eval a X.env),(false,eval b X.env)]:=by rfl)(pV:starEach [b] X.env=[(false,eval b X.env)]:=by rfl):
  PI X (.Tuple elts kk tp) (.Call (.Name "zip" p) [a,b] [] pos) (Xd k1 k2 X.K ta):=by
 intro pins s σ H R I h;refine Call_ (oo I hg hm boot_zip (dZ (f7 (ha pos pins s σ H _ I h) λus s1 ⟨vs,H1,I1,r1,q1⟩=>?_) (by rw[hs,pV]) (by rw[pV];rfl)))
 obtain⟨l1,l2,e,⟨xs,Je⟩,⟨ys,Gi⟩,q⟩:=q1;subst e;obtain⟨u,u2,rfl,rx,rx2⟩:=vals2 r1;cases rx;cases rx2;obtain⟨its,rv,p1,_⟩:=I1.sq Je;obtain⟨Zx,KY,p2,_⟩:=I1.sq Gi;obtain⟨o1,e1⟩:=p1.get;obtain⟨o2,e2⟩:=p2.get;have Vn:=aT e1;have Vo:=aT e2;refine Gs p1 p2 λh' Z hk=>wpAny_pyIter_zip Z.hz ?_
 have I2:Inv X pins σ H1 { s1 with heap:=h' }:=I1.kept (t':=s1.toks) hk
 have D:ZipApart (s1.heap.objs.size+4) (s1.heap.objs.size+2) (s1.heap.objs.size+3) s1.heap.objs.size (s1.heap.objs.size+1) l1 l2:=by
  constructor
  ·exact aU (ik (by decide) _)
  ·exact aU (ik (by decide) _)
  ·exact aU (o_ (by decide))
  ·exact aU (ik (by decide) _)
  ·exact aU (ik (by decide) _)
  ·exact eL (o_ (by decide))
  ·exact eL (ik (by decide) _)
  ·exact eL (o_ (by decide))
  ·exact eL (ik (by decide) _)
  ·exact aU (jy _)
  ·exact aU (bR Vn (eM _ _))
  ·exact aU (bR Vn (eM _ _))
  ·exact aU Vn
  ·exact aU (bR Vn (eM _ _))
  ·exact aU (bR Vo (eM _ _))
  ·exact aU (bR Vo (eM _ _))
  ·exact aU Vo
  ·exact aU (bR Vo (eM _ _))
 refine⟨_,[s1.heap.objs.size+4,s1.heap.objs.size+2,s1.heap.objs.size+3,s1.heap.objs.size,s1.heap.objs.size+1],_,_,H1,rfl,I2,Jd D,⟨Z.hz,Z.hTI,⟨_,_,Z.hTO⟩,Z.h1,Z.h2⟩,λb hb=>?_,q⟩
 have hle:s1.heap.objs.size<=b:=by
  simp only[av,aX,or_false]at hb;rcases hb with rfl|rfl|rfl|rfl|rfl
  ·exact eM _ _
  ·exact eM _ _
  ·exact eM _ _
  ·exact aA _
  ·exact eM _ _
 exact I1.uh hle (I1.hok.fresh hle)
def qk(ds es:List ai):List ai:=(ds.zip es).map λp=>.tuple [p.1,p.2]
theorem va(ds es:List ai):(qk ds es).length=min ds.length es.length:=by simp[qk]
theorem Jf{es: List ai}{d:ai}(h:(qk ds es)[i]?=some d):∃x y,ds[i]?=some x/\es[i]?=some y/\d=.tuple [x,y]:=by
 unfold qk at h;rw[aF]at h;cases e:(ds.zip es)[i]? with
 |none=>rw[e]at h;cases h
 |some p=>
  rw[e]at h;cases h;rw[List.getElem?_zip_eq_some]at e
  exact⟨_,_,e.1,e.2,rfl⟩
def Qj(k:DJ)(ds:List ai):ai:=match k with | .lst=>.list ds | .tup=>.tuple ds
theorem Rep.N1{v:V}(r:Rep K H v (Qj k ds)):∃a xs,v=.ref a/\Fc k K H a xs/\cu K H xs ds:=by
 cases k with
 |lst=>cases(show Rep K H v (.list ds)from r)with|lst h t=>exact⟨_,_,rfl,h,t⟩
 |tup=>cases(show Rep K H v (.tuple ds)from r)with|tup h t=>exact⟨_,_,rfl,h,t⟩
theorem wV{a b:bP}{δ:List Slot}{es: List ai}{p pos: Pos}{kk}(k1 k2:DJ)(h1:VE X a δ (Qj k1 ds))(h2:VE X b δ (Qj k2 es))(hm:X.mg "zip"=none)(hg:Gl X "zip":=by rfl)(hs:starEach [a,b] X.env=(false,eval a X.env)::starEach [b] X.env:=by rfl)(pV:starEach [b] X.env=(false,eval b X.env)::starEach [] X.env:=by rfl)(hn:starEach [] X.env=[]:=by rfl):
  VI X (.Tuple elts kk tp) (.Call (.Name "zip" p) [a,b] [] pos) δ (qk ds es):=
 ⟨_,Qi k1 k2 hg hm (ej cX (ej cX fK pV) hs) (by rw[hs,pV,hn]) (by rw[pV,hn]),λB0 B σ H0 H R f q=>h1 B0 B σ H0 H _ f λv H1 dP g r1=>h2 B0 B σ H1 dP _ (f.grow g) λu H2 h8 g2 r2=>by
  obtain⟨a1,xs,rfl,Je,Tq⟩:=r1.N1;obtain⟨a2,ys,rfl,Gi,Rp⟩:=r2.N1;have Tq:=Tq.mono g2.fA;have Je:=g2.fA.N1 Je;refine⟨a1,a2,rfl,⟨_,g2.sub.N1 Je⟩,⟨_,g2.sub.N1 Gi⟩,q _ H2 h8 (g.trans g2) λHa Hb s1 s2 i=>?_⟩
  have l1:=Tq.length;have l2:=Rp.length;have Rq:=(s1.trans s2).N1 Je;have Tr:=(s1.trans s2).N1 Gi;refine⟨λhi=>?_,λhi=>⟨_,_,Rq,Tr,by rw[va]at hi;omega⟩,λx uZ d hd ⟨t,x1,y1,e1,e2,e3,e4,e5⟩=>?_⟩
  ·rw[va]at hi
   obtain⟨x,hx,_⟩:=Tq.get (i:=i) (d:=ds[i]'(by omega)) (by simp)
   obtain⟨y,hy,_⟩:=Rp.get (i:=i) (d:=es[i]'(by omega)) (by simp)
   exact⟨_,x,_,y,Rq,hx,Tr,hy⟩
  ·obtain⟨dx,dy,hx,hy,rfl⟩:=Jf hd
   subst e1;subst e3;refine⟨upd Ha t (.tup [x1,y1]),.laid s2 e2,.tup (mQ.of bB) (.cons ?_ (.cons ?_ .nil))⟩
   ·exact((Tq.mono s1).at hx (e4 _ Rq)).mono (dQ.laid s2 e2).fA
   ·exact((Rp.mono s1).at hy (e5 _ Tr)).mono (dQ.laid s2 e2).fA⟩
end L2
namespace L2
open PySem PySem.Spec PyProof.Rows
open AutoSeq1 (wpAny_loadPart')
theorem Gu(l:aI)(items:Array aB)(n:Nat)(dd:Option aI)(sl:Array (Option aB))(x:aB)(e:aB->Bool)(i j:Nat)(t:Tok)(HD:i<=j)(hj:j<items.size)(Qk:(j:Int)<2^63-1)
  (hit:e items[j]=true)(Du:∀m (hm:m<items.size),i<=m->m<j->e items[m]=false):
  Meets (pD.«list.index» ⟨[.ref l,x,.int i t],[]⟩)
   (λA R s=>s.heap.get? l=some { cls:=.type "list",dict:=dd,data:=.seq items n,slots:=sl }/\(∀y,y∈items->SeqAt.EqAt A.in1 s y x (e y))/\R (.ok (.ret (.int j s.toks))) { s with toks:=s.toks+1 }):=by
 intro prog w A R s h;obtain⟨hp,g,d,tk,os⟩:=s;obtain⟨hl,he,h⟩:=h
 wp_walk using dF hl
 have a1:((λi:Int=>if i<0 then max 0 (i+(items.size:Int))else i) ((some (i:Int)).getD 0))=((i:Nat):Int):=by
  show(if(i:Int)<0 then max 0 ((i:Int)+(items.size:Int)) else(i:Int))=_
  rw[qQ2 (by omega)]
 have a2:((λi:Int=>if i<0 then max 0 (i+(items.size:Int))else i) ((none:Option Int).getD (2^63-1)))=2^63-1:=by simp
 rw[a1,a2];exact⟨pK pM _,kB PySem.MeetsSeq.entry_index_loop (by
  rw[jd pM _];exact SeqAt.index_loopAt l items n dd sl x e (2^63-1) j hj Qk hit _ i rfl HD Du prog w A R _ ⟨hl,he,h⟩)⟩
section
variable{X:Cx}{a b c e:bP}{es:List bP}{δ:List Slot}{d d1 d2 d3:ai}{ds:List ai}{pos:Pos}{k:Nat}
def Md(K:ao)(n:Nat):V->List V->Hp->VK->Prop:=λx vs H Q=>∃p ds y d i j,x=.ref p/\vs=[y,.int ((i:Nat):Int)]/\Rep K H (.ref p) (.list ds)/\Rep K H y d/\Lay n (.list ds)/\Lay n d/\i<=j/\(∃h:j<ds.length,dm ds[j] d=true)/\
 (∀m (h:m<ds.length),i<=m->m<j->dm ds[m] d=false)/\Q (.int j) H
theorem Gv{n:Nat}(hu:X.A.units+n+2<cLine):Vh X "list.index" (Md X.K n):=by
 intro pins s σ H x vs v us Q I rx rv h;obtain⟨p,ds,y,d,i,j,rfl,rfl,r1,r2,l1,l2,HD,⟨hj,hit⟩,Du,q⟩:=h;cases rx;obtain⟨u,u2,rfl,ru,Qg⟩:=vals2 rv;obtain⟨t2,rfl⟩:=Qg;obtain⟨bs,rb⟩:=jE I d l2.1 r2 ru;cases r1 with
 |lst hq rs=>
  obtain⟨its,Zz,⟨⟨cls,dd,data,sl⟩,m,eo,ec,_,ed⟩,hz⟩:=I.list hq;simp only at ec ed;subst ec ed;obtain⟨as,ra⟩:=m8 I ds l1.1 rs Zz;have hl:=Zz.length;have Qf:=rs.length;have hm:=SeqAt.readsAll_map ds its as l1.1 ra;have rd:∀i (h1:i<its.length) (h2:i<ds.length),ud s.heap its[i]=ds[i]:=λi h1 h2=>by
   have e1:(its.map (ud s.heap))[i]?=some (ud s.heap its[i]):=by simp[h1]
   rw[hm]at e1;rw[au h2]at e1;exact(cQ e1).symm
  have h1:=l2.2;have hn:=rS;have zbz:sizeLine=16777216:=d_;refine lZ F.slot_list_index ⟨_,eo,rfl⟩ F.entry_list_index (F.args_list_index_3 _ _ _) (Gu p its.toArray m dd sl u (λy=>dm (ud s.heap y) d) i j t2 HD (by simp;omega) (by omega) ?_ ?_) ⟨eo,?_,?_⟩
  ·have:=rd j (by omega) hj
   simp only[Ey];rw[this];exact hit
  ·intro i' hi Xe Xf
   simp only[bD]at hi;have:=rd i' hi (by omega)
   simp only[Ey];rw[this];exact Du i' (by omega) Xe Xf
  ·exact SeqAt.items_eqAt (by simpa using ra) rb l1.1 l2.1 (by omega)
  ·exact⟨.int j,H,I.tok _,⟨_,rfl⟩,q⟩
theorem Gw{i j:Nat}{ap:Pos}(hr:eE k X.A)(h1:VE X a δ (.list ds))(h2:VE X b δ d)(h3:VE X c δ (.int (i:Nat)))(l1:Lay 20 (.list ds))(l2:Lay 20 d)(HD:i<=j)(hj:∃h:j<ds.length,dm ds[j] d=true)(Du:∀m (h:m<ds.length),i<=m->m<j->dm ds[m] d=false)
  (hs:starEach [b,c] X.env=(false,eval b X.env)::starEach [c] X.env:=by rfl)(pV:starEach [c] X.env=(false,eval c X.env)::starEach [] X.env:=by rfl)(j0:attributeBase a "index" X.env (eval a X.env)=eval a X.env:=by rfl)
  (ou:((backTo pos (starEach [b,c] X.env)).all (λx=>!x.1)&&(backToKw pos (keywordEach [] X.env)).all (λx=>x.1.isSome)&&decide (([b,c]:List bP).length+([]:List fV).length+(if([]:List fV).isEmpty then 0 else 1)<30))=true:=by rfl)
  (hline:(ap.endLine==pos.line)=true:=by rfl)(iy:(backTo pos (starEach [c] X.env)).any (·.1)=false:=by rfl):VE X (.Call (.Attribute a "index" ap) [b,c] [] pos) δ (.int j):=
 .of (uX fM PySem.F.slot_list_index PySem.F.type_list_index (Gv (zQ hr)) cX (ej cX (ej cX fK pV) hs) j0 ou hline hs iy) λB0 B σ H0 H Q f q=>h1 B0 B σ H0 H _ f λv H1 dP g r1=>by
  cases r1 with
  |lst hq rs=>
   refine⟨.inl ⟨rfl,_,g.sub.seq hq⟩,h2 B0 B σ H1 dP _ (f.grow g) λu H2 h8 g2 r2=>h3 B0 B σ H2 h8 _ ((f.grow g).grow g2) λu3 H3 wK g3 r3=>?_⟩
   cases r3;have gg:=g2.trans g3;exact⟨_,ds,u,d,i,j,rfl,rfl,.lst (gg.sub.seq (gg.fA.seq hq)) (rs.mono (gg.fA.trans gg.sub)),(r2.mono g3.fA).mono g3.sub,l1,l2,HD,hj,Du,q _ H3 wK (g.trans gg) (.int _)⟩
theorem Fd{d1 d2:List ai}(h1:VE X a δ (.tuple d1))(h2:VE X b δ (.tuple d2))(hn:d1≠[])(hz:d1.length+d2.length<=sizeLine):VE X (.BinOp a .Add b pos) δ (.tuple (d1++d2)):=by
 refine .of (EH Lp cX cX) λB0 B σ H0 H Q f q=>h1 B0 B σ H0 H _ f λv H1 dP g1 r1=>h2 B0 B σ H1 dP _ (f.grow g1) λu H2 h8 g2 r2=>?_
 cases r1 with
 |tup hq r1=>
  cases r2 with
  |tup Gi r2=>
   have gg:=g1.trans g2;have e1:=r1.length;have hx:∀xs:List V,xs.length=d1.length->xs≠[]:=λxs h z=>by rw[z]at h;exact hn (lF h.symm)
   refine⟨_,_,_,_,rfl,rfl,g2.sub.mU (g2.fA.mU hq),g2.sub.mU Gi,hx _ e1,by rw[e1,r2.length];exact hz,λhy=>?_,λ_ p hp=>q _ _ _ (gg.trans (.laid g2.sub hp)) (.tup (mQ.of bB) (((r1.mono g2.fA).append r2).mono (dQ.laid g2.sub hp).fA))⟩
   subst hy;cases r2;rw[du]at q;exact q _ H2 h8 gg (.tup (g2.fA.mU hq) (r1.mono g2.fA))
end
end L2
namespace L2
open PySem PySem.Spec PyProof.Rows
variable{a p q:aI}{H:Hp}{kvs:List (Key×V)}{as:List aI}{P:bC}{d:ai}{K:ao}{Q:aB->aH->Prop}{w:bY}
def Jg(K:ao)(b:aI)(ws:List Str):Prop:=∃(o:Obj)(its:Array aB)(n:Nat),K.lookup b=some o/\o.cls=.type "tuple"/\o.data=.seq its n/\its.size<=sizeLine/\dS (ws.map V.str) its.toList
inductive GE(pr:zq)(K:ao):List uP->List (Str×List Str)->Prop
 |nil:GE pr K [] []
 |cons {h:Int} {k:Str} {t:Tok} {b:aI} {ws:List Str} {es:List uP} {kvs:List (Str×List Str)}:h=ai.keyHash pr k->Jg K b ws->GE pr K es kvs->GE pr K (⟨h,.str k t,.ref b⟩::es) ((k,ws)::kvs)
structure GD(pr:zq)(K:ao)(a:aI)(kvs:List (Str×List Str)):Prop where
 nm:(a==sysModules)=false
 nd:(kvs.map (·.1)).Nodup
 ob:∃o es ep,K.lookup a=some o/\o.ExactDict/\o.data=.dict es ep/\GE pr K es.toList kvs
def i_(kvs:List (Str×List Str))(k:Str):Option (List Str):=(kvs.find? λp=>decide (p.1=k)).map (·.2)
theorem GE.pairs{P:bC}{w:bY}{K:ao}:∀{es:List uP}{kvs:List (Str×List Str)},GE w.params K es kvs->∃vs:List (Key×aB),Pairs (eY P w) es vs/\vs.map (·.1)=kvs.map (λp=>(a7 p.1:Key))/\
  (∀e∈es,∃k,(eY P w).is k e.key=true/\e.hash=(eY P w).hash k)/\∀k,match i_ kvs k with|none=>valueAt vs (a7 k)=none|some ws=>∃b,valueAt vs (a7 k)=some (.ref b)/\Jg K b ws
 |_,_,.nil=>⟨[],.nil,rfl,λe h=>by(cases h),λk=>rfl⟩
 |_,_,@GE.cons _ _ hh k t b ws es kvs e kt r=>by
  obtain⟨vs,h1,h2,h3,h4⟩:=GE.pairs (P:=P) r;refine⟨(.inr k,.ref b)::vs,.cons (pR P w k t) rfl h1,by rw[aD,aD,h2],λx hx=>?_,λj=>?_⟩
  ·rcases av.mp hx with rfl|hx
   ·exact⟨.inr k,pR P w k t,by rw[e];rfl⟩
   ·exact h3 x hx
  ·by_cases hj:k=j
   ·subst hj
    have:i_ ((k,ws)::kvs) k=some ws:=by simp[i_,dA]
    rw[this];exact⟨b,by simp[valueAt,dA],kt⟩
   ·have:i_ ((k,ws)::kvs) j=i_ kvs j:=by simp[i_,dA,hj]
    rw[this];have e2:valueAt ((a7 k,cU b)::vs) (a7 j:Key)=valueAt vs (a7 j):=by
     have:¬(a7 k:Key)=a7 j:=λz=>hj (by injection z)
     simp[valueAt,dA,this]
    rw[e2];exact h4 j
theorem GD.dict{h:cR}{kvs:List (Str×List Str)}(g:GD w.params K a kvs)(RL:K.In h):∃vs:List (Key×aB),h.DictOf (eY P w) a vs/\∀k,match i_ kvs k with|none=>valueAt vs (a7 k)=none|some ws=>∃b,valueAt vs (a7 k)=some (.ref b)/\Jg K b ws:=by
 obtain⟨o,es,ep,h1,h2,h3,h4⟩:=g.ob;obtain⟨vs,p1,p2,p3,p4⟩:=h4.pairs (P:=P);refine⟨vs,⟨o,es,ep,RL a o h1,h2,h3,λe he=>p3 e (by simpa using he),p1,?_⟩,p4⟩
 rw[p2];have nd:=g.nd
 clear p2 p4 h4
 induction kvs with
 |nil=>exact mW
 |cons p l ih=>
  rw[aD,dw]at nd ⊢;refine⟨λz=>nd.1 ?_,?_⟩
  ·obtain⟨q,hq,e⟩:=aE.mp z
   injection e with e
   exact aE.mpr ⟨q,hq,e⟩
  ·have go:∀l:List (Str×List Str),(l.map (·.1)).Nodup->(l.map λp=>(a7 p.1:Key)).Nodup:=by
    intro l
    induction l with
    |nil=>intro _;exact mW
    |cons p l ih=>
     intro nd;rw[aD,dw]at nd ⊢;refine⟨λz=>nd.1 ?_,ih nd.2⟩
     obtain⟨q,hq,e⟩:=aE.mp z
     injection e with e
     exact aE.mpr ⟨q,hq,e⟩
   exact go l nd.2
section
variable{X:Cx}{a b c e:bP}{δ:List Slot}{pos p:Pos}{k:Nat}{x y:Str}{kvs:List (Str×List Str)}{ws:List Str}{g:aI}
theorem uw:∀l:List Str,cu K H (l.map V.str) (l.map aQ)
 | []=>.nil
 |z::l=>.cons (.str z) (uw l)
theorem Fe(hm:X.mg x=some (.ref g))(G:GD X.w.params X.K g kvs)(h:VE X b δ (.str y))(hk:i_ kvs y=some ws)(hg:Gl X x:=by rfl)(hs:F5 b:=by intro _ _;rfl)(hd:(x==("__debug__":Str))=false:=by decide):VE X (.Subscript (.Name x p) b pos) δ (.tuple (ws.map .str)):=by
 have pe:PE X (.Subscript (.Name x p) b pos) (λσ H Q=>cE X b σ H λv H1=>v=.str y/\∀q,Jg X.K q ws->Q (.ref q) H1):=by
  intro pins s σ H Q I hw;refine EW xU.lookup hs (f7 (vS (pos:=p) hg hm (v:=.ref g) rfl hd pins s σ H (λv H'=>v=.ref g/\H'=H) I ⟨rfl,rfl⟩) λu s1 ⟨vx,H1,I1,rx,ex,eH⟩=>?_)
  subst ex eH;obtain rfl:u=cU g:=rx;refine f7 (hw pins s1 I1) λiv s2 ⟨v,H2,I2,rv,ev,q⟩=>?_
  subst ev;obtain⟨vs,dd,hv⟩:=G.dict (P:=X.prog) I2.zA;have hv:=hv y;rw[hk]at hv;obtain⟨bb,hb,kt⟩:=hv;refine⟨dd.typeIs,wpAny_getItem_of (pY (k:=.inr y) rv) dd.mapOf hb ?_⟩
  exact⟨.ref bb,H2,I2.tok _,rfl,q bb kt⟩
 exact .of pe λB0 B σ H0 H Q f q=>h B0 B σ H0 H _ f λv H1 dP g1 r=>by
  cases r;exact⟨rfl,λb' hb=>q _ H1 dP g1 (.tup (.inr hb) (uw ws))⟩
theorem yS(hm:X.mg x=some (.ref g))(G:GD X.w.params X.K g kvs)(h:VE X b δ (.str y))(hg:Gl X x:=by rfl)(hd:(x==("__debug__":Str))=false:=by decide)(hmk:behindInMarks .NotIn (.Name x p)=false:=by with_unfolding_all rfl):VT X (.Compare b [.NotIn] [.Name x p] pos) δ (!(i_ kvs y).isSome):=by
 have pc:PC X .NotIn b (.Name x p) (λσ H Q=>cE X b σ H λv H1=>v=.str y/\Q (.bl (!(i_ kvs y).isSome)) H1):=by
  intro pins s σ H Q I hw;refine f7 (hw pins s I) λiv s1 ⟨v,H1,I1,rv,ev,q⟩=>?_
  subst ev;refine f7 (vS (pos:=p) hg hm (v:=.ref g) rfl hd pins s1 σ H1 (λv H'=>v=.ref g/\H'=H1) I1 ⟨rfl,rfl⟩) λu s2 ⟨vx,H2,I2,rx,ex,eH⟩=>?_
  subst ex eH;obtain rfl:u=cU g:=rx;obtain⟨vs,dd,hv⟩:=G.dict (P:=X.prog) I2.zA;have hv:=hv y;refine wpAny_notIn_of (pY (k:=.inr y) rv) G.nm dd.mapOf ?_
  have e:(valueAt vs (a7 y)).isSome=(i_ kvs y).isSome:=by
   cases el:i_ kvs y with
   |none=>rw[el]at hv;rw[hv];rfl
   |some ws=>rw[el]at hv;obtain⟨bb,hb,_⟩:=hv;rw[hb];rfl
  rw[e];exact⟨.bl _,H2,I2.tok _,rfl,q⟩
 exact .of (Dd pc hmk) λB0 B σ H0 H Q f q=>h B0 B σ H0 H _ f λv H1 dP g1 r=>by
  cases r;exact⟨rfl,_,rfl,q H1 dP g1⟩
end
section
variable{X:Cx}{a b c e:bP}{δ:List Slot}{d d1 d2:ai}{ds:List ai}{pos px py p:Pos}{x y:Str}{k:Nat}{kvs:List (Str×ai)}
theorem Ql:Vf X (λx lo hi H Q=>∃z,x=.str z/\z.length<=sizeLine/\Q (.str (lA z lo hi)) H):=by
 intro pins s σ H x v vl vu lo hi sl Q I rx hs pl pu h;obtain⟨z,rfl,hz,q⟩:=h;obtain⟨t,rfl⟩:=rx;refine⟨"str",_,PySem.F.slot_str_getitem.lookup,rN _ _ _,?_⟩
 have fin:∀(l u:Option (Int×Tok)),l.map (·.1)=lo->u.map (·.1)=hi->s.heap.IsSlice sl l u none->wpAny (model X.prog X.w) X.A (getItem (.str z t) (.ref sl)) (EP X pins σ Q) X.xe s:=by
  intro l u e1 e2 hl;subst e1 e2;refine wpAny_getItem_str_slice (l:=l) (u:=u) (st:=none) hl rfl (post_val_or_str ⟨bZ (C7 z _ _) hz,λt' k=>?_⟩)
  exact⟨.str (lA z _ _),H,I.tok _,⟨t',rfl⟩,q⟩
 obtain⟨os,h1,h2,h3⟩:=hs;cases pl with
 |none=>cases pu with
  |none=>exact fin none none rfl rfl ⟨os,h1,h2,h3⟩
  |int j t2=>exact fin none (some (j,t2)) rfl rfl ⟨os,h1,h2,h3⟩
 |int i t1=>cases pu with
  |none=>exact fin (some (i,t1)) none rfl rfl ⟨os,h1,h2,h3⟩
  |int j t2=>exact fin (some (i,t1)) (some (j,t2)) rfl rfl ⟨os,h1,h2,h3⟩
theorem yT{lo hi:Option bP}{l u:Option Int}{p2:Pos}(h:VE X a δ (.str x))(hz:x.length<=sizeLine)(hl:rn X δ lo l)(hh:rn X δ hi u):VE X (.Subscript a (.Slice lo hi none p2) pos) δ (.str (lA x l u)):=by
 obtain⟨tl,pl,ql⟩:=hl.ok;obtain⟨th,ph,qh⟩:=hh.ok;refine .of (wC Ql cX pl ph) λB0 B σ H0 H Q f q=>h B0 B σ H0 H _ f λv H1 dP g r=>ql B0 B σ H1 dP _ (f.grow g) λH2 h8 g2=>qh B0 B σ H2 h8 _ ((f.grow g).grow g2) λH3 wK g3=>?_
 cases r;exact⟨x,rfl,hz,q _ _ _ ((g.trans g2).trans g3) (.str _)⟩
inductive VP(X:Cx)(δ:List Slot):List (Option bP)->List bP->List (Str×ai)->Prop
 |nil:VP X δ [] [] []
 |cons {k v:bP} {ks vs} {x:Str} {d:ai} {r}:VE X k δ (.str x)->VE X v δ d->VP X δ ks vs r->VP X δ (some k::ks) (v::vs) ((x,d)::r)
theorem VP.ok{keys vals}(h:VP X δ keys vals kvs):keys.all (·.isSome)=true/\keys.length=vals.length/\keys.length=kvs.length/\∃F2,SN X pos keys vals F2/\∀B0 B σ H0 H Q,gf X.K B0 B H0 H σ δ->
  (∀di H' (ws:List (Key×V)),dQ H0 H di H'->ws.map (·.1)=kvs.map (λp=>(a7 p.1:Key))->cu X.K di (ws.map (·.2)) (kvs.map (·.2))->Q (ws.map λkv=>(kV kv.1,kv.2)) H')->zM F2 σ H Q:=by
 induction h with
 |nil=>exact⟨rfl,rfl,rfl,[],LJ,λB0 B σ H0 H Q f q=>q _ _ [] (.refl f.sub) rfl .nil⟩
 | @cons k v ks vs x d r hk hv _ ih=>
  obtain⟨a1,a2,a3,F2,pp,ht⟩:=ih;refine⟨by simpa using a1,by simp[a2],by simp[a3],_,Ik cX cX pp,λB0 B σ H0 H Q f q=>?_⟩
  refine hk B0 B σ H0 H _ f λu H1 dP g1 r1=>hv B0 B σ H1 dP _ (f.grow g1) λw H2 h8 g2 r2=>?_
  cases r1;refine ht B0 B σ H2 h8 _ ((f.grow g1).grow g2) λH3 wK ws g3 e1 rs=>?_
  exact q H3 wK ((a7 x,w)::ws) ((g1.trans g2).trans g3) (by simp[e1]) (.cons (r2.mono g3.fA) rs)
theorem Mf:∀{kvs:List (Key×V)}{k:Key}{v:V},k∉kvs.map (·.1)->putK kvs k v=kvs ++ [(k,v)]:=by
 intro kvs k v h;unfold putK
 first
  |(rw[qQ2];simpa using h)
  |(simp at h;simp[h])
theorem yU:∀{more kvs:List (Key×V)},((kvs++more).map (·.1)).Nodup->p9 kvs more=kvs++more
 | [],kvs,_=>by simp[p9]
 |p::more,kvs,h=>by
  show p9 (putK kvs p.1 p.2) more=_;have hp:p.1∉kvs.map (·.1):=λz=>by
   rw[bx,aD]at h;exact(fk.mp h).2.2 _ z _ (aO) rfl
  rw[Mf hp,yU (by simpa using h)]
  simp
theorem Mh{keys vals}(h:VP X δ keys vals kvs)(hn:(kvs.map (·.1)).Nodup)(h0:kvs≠[])(Zg:kvs.length<=15):VE X (.Dict keys vals pos) δ (gq kvs):=by
 obtain⟨a1,a2,a3,F2,pp,ht⟩:=h.ok (pos:=pos);refine .of (LK pp a1 a2 (λz=>h0 (List.length_eq_zero_iff.mp (by rw[<-a3,z];rfl))) (by omega)) λB0 B σ H0 H Q f q=>λp hp=>?_
 refine ht B0 B σ H0 _ _ (f.grow (.loose f.sub hp)) λH1 dP ws g e1 rs=>?_
 have gp:=g.big _ _ (bB (H:=H) (a:=p) (o:=HO.dK []));have hp0:H1 p=none:=g.still (f.sub.free hp) bB;have wl:ws.length=kvs.length:=by have:=qQ6 gw e1;simpa using this
 refine⟨gp,ws,rfl,by omega,?_⟩
 rw[yU (by
  rw[iJ,e1];have:(kvs.map λp=>(a7 p.1:Key))=(kvs.map (·.1)).map (a7:Str->Key):=by rw[aL];rfl
  rw[this];exact yy _ (λa b Jh z=>Jh (kZ z)) hn),iJ]
 refine q (.ref p) (upd H1 p (.dK ws)) _ ⟨λb u eb=>?_,λb u eb=>?_,λb u eb=>?_,λb eb=>?_⟩ ?_
 ·have hb:b≠p:=bG eb hp
  rw[aN hb];exact g.big _ _ (by rw[aN hb];exact eb)
 ·have hb:b≠p:=bG eb (f.sub.free hp)
  rw[aN hb];exact g.fA _ _ eb
 ·by_cases hb:b=p
  ·subst hb;rw[bB]at eb ⊢;exact eb
  ·rw[aN hb]at eb ⊢;exact g.sub _ _ eb
 ·by_cases hb:b=p
  ·subst hb;exact .inr hp
  ·rw[aN hb]at eb
   rcases g.new b eb with z|z
   ·exact .inl z
   ·rw[aN hb]at z;exact .inr z
 ·refine .dct (kvs:=ws) bB ?_ ?_
  ·rw[aL]
   have:ws.map (λp=>lJ p.1)=(ws.map (·.1)).map lJ:=by rw[aL];rfl
   rw[this,e1,aL];rfl
  ·rw[aL]
   refine(rs.mono λb u eb=>?_)
   rw[aN (bG eb hp0)];exact eb
theorem Bp{ap:Pos}(hr:eE k X.A)(h3:VE X c δ (gq kvs))(h1:VE X a δ (.str x))(h4:VE X e δ d)(m:M2 X c "get" ap a e pos:=by exact⟨rfl,rfl,rfl,rfl⟩):VE X (.Call (.Attribute c "get" ap) [a,e] [] pos) δ ((fZ kvs x).getD d):=
 .of (Im (Gm hr) cX cX cX m) λB0 B σ H0 H Q fr q=>h3 B0 B σ H0 H _ fr λv H1 dP g r=>by
  obtain⟨p,ws,rfl,hp,ke,rs⟩:=r.k9;refine⟨p,rfl,.inl ⟨ws,.inl (g.sub _ _ hp)⟩,?_⟩
  refine h1 B0 B σ H1 dP _ (fr.grow g) λv H2 h8 g2 r1=>h4 B0 B σ H2 h8 _ ((fr.grow g).grow g2) λu H3 wK g3 r2=>?_
  cases r1;have gg:=g2.trans g3;refine⟨g_ ws (a7 x),.inl ⟨ws,a7 x,.inl (gg.big _ _ (g.sub _ _ hp)),rfl,rfl⟩,q _ H3 wK (g.trans gg) ?_⟩
  exact(rY ke (rs.mono gg.fA) x).getD r2
end
section
variable{X:Cx}{a b c e e1 e2:bP}{δ:List Slot}{d d1 d2:ai}{ds Vl ds2:List ai}{pos px py p:Pos}{x y:Str}{k:Nat}
end
section
variable{X:Cx}{K:ao}{B0 B H0 H di H' C0 C Ha Hb:Hp}{σ σ':St}{δ δ':List Slot}{a:aI}{ps:List aI}{gs:List (List ai)}
end
section
variable{X:Cx}{B0 B H0 H di H' Ha Hb:Hp}{σ σ':St}{D:Ends}{st:fH}{rest body orelse:List fH}{δ δ':List Slot}{a:aI}{ps:List aI}{gs:List (List ai)}{e c tg iter e1 e2 ea:bP}{d:ai}{ds:List ai}{pos px yh:Pos}{x y:Str}
end
section
variable{X:Cx}{a b c:bP}{δ:List Slot}{d1 d2 d3:ai}{pos px py pz:Pos}{x y z:Str}
theorem vZ{k:Bool}(h:VE X a δ (.bool k)):VE X (.UnaryOp .Not a pos) δ (.bool (!k)):=.of (O5 cX) λB0 B σ H0 H Q f q=>h B0 B σ H0 H _ f λv H1 dP g r=>by
 cases r;exact⟨k,rfl,q _ H1 dP g (.bl _)⟩
theorem wW{st:List fH}{o:Out}(h:∀B0 B σ H0 H D,gf X.K B0 B H0 H σ δ->nV X.K B0 B H0 D o->u9 X st D σ H):pF X st δ o:=h
end
section
variable{X:Cx}{a:bP}{δ:List Slot}{pos p:Pos}{x:Str}{ds:List ai}
theorem yk:jD X (.type "str") (λxs H Q=>∃x,xs=[.str x]/\Q (.str x) H):=by
 intro pins s σ H xs us Q I r h;obtain⟨x,rfl,q⟩:=h;obtain⟨u,rfl,t,rfl⟩:=vals1 r;exact PySem.P.str_of_str ⟨.str x,H,I,⟨t,rfl⟩,q⟩
theorem Qm:mw K (λxs H Q=>∃x,xs=[.str x]/\Q (.str x) H) [.str x] (.str x):=λvs H0 H Q s r k=>by
 obtain⟨v,rfl,r1⟩:=r.one;cases r1;exact⟨x,rfl,k _ _ _ (.refl s) (.str _)⟩
theorem Mi(h:VE X a δ (.str x))(hm:X.mg "str"=none)(hg:Gl X "str":=by rfl)(hs:starEach [a] X.env=(false,eval a X.env)::starEach [] X.env:=by rfl):VE X (.Call (.Name "str" p) [a] [] pos) δ (.str x):=jg yk Qm (aq h aZ hs) hm rfl hg (he:=hs)
theorem Mj:IE K (λxs H Q=>∃p ys,xs=[.ref p]/\(jV K H p ys\/mQ K H p ys)/\∀l,H l=none->Q (.ref l) (upd H l (.lst ys))) [.tuple ds] ds:=λvs H0 H Q s r q=>by
 obtain⟨v,rfl,r1⟩:=r.one;cases r1 with
 |tup hq rs=>
  refine⟨_,_,rfl,.inr (s.mU hq),λl hl=>?_⟩
  exact q l _ H0 _ (.loose s hl) hl (s.free hl) bB rs
end
section
variable{prog:bC}{w:bY}{A:dg}{E:aB->aH->Prop}{s:aH}
theorem yl{l:aI}{items:Array aB}(hh:A.handled=none)(hl:s.heap.IsTuple l items)(T:Nat->cR->Prop)
  (t0:∀led h',h'.get? s.heap.objs.size=some (iX led)->(∀b o,s.heap.get? b=some o->h'.get? b=some o)->T 0 h')
  (keep:∀i h h',T i h->(∀b o,b≠s.heap.objs.size+1->h.get? b=some o->h'.get? b=some o)->T i h')
  (add:∀i v (s':aH) (Q:Bool->aH->Prop) (E:aB->aH->Prop),i<items.size->items[i]?=some v->T i s'.heap->(∀h' tk b,s'.toks<=tk->gY s.heap.objs.size s'.heap h'->T (i+1) h'->Q b { s' with heap:=h',toks:=tk })->wpAny (model prog w) A.in1.in1.in1 (setAdd s.heap.objs.size v) Q E s')
  (h:∀(h':cR)(tk:Nat),T items.size h'->(∀b o,b<s.heap.objs.size->s.heap.get? b=some o->h'.get? b=some o)->Q (.ref s.heap.objs.size) { s with heap:=h',toks:=tk }):
  wpAny (model prog w) A (call (.type "set") [.ref l]) Q E s:=by
 obtain⟨c,tl,zbC⟩:=jM.mro;have ZC:=jM.made;have Bg:=jM.sub;refine wpAny_call (codeAny_of_tree ?_)
 show wpAny _ _ (callAny (.type "set") _) _ _ _;refine a9 ⟨Code.quiet_builtin _ (by symm),kB F.entry_type_call ?_⟩
 rw[dg.under_plain (weight_type_call_type "set" [.ref l] []) rfl];have h1:=jM.notType;have h2:=jM.canCreate;have ZD:=F.typeCall_set_1 (.ref l)
 repeat (any_goals (first|assumption|wp_step))
 refine nP (code_set_new_1 (.ref l) (E:=E) (Q₁:=λobj s₁=>∃led:Bool,obj=.ref s.heap.objs.size/\s₁={ s with heap:=s.heap.push (iX led) }) λled=>⟨led,rfl,rfl⟩) λr s₁ hr=>?_
 cases r with
 |error e=>exact hr
 |ok fl=>
  cases fl with
  |ret obj=>
   obtain⟨led,rfl,rfl⟩:=hr;have hS:(s.heap.push (iX led)).get? s.heap.objs.size=some (iX led):=a8 _ rfl;have hT:aH.TypeIs { s with heap:=s.heap.push (iX led) } (.ref s.heap.objs.size) "set":=⟨_,hS,rfl⟩
   have hli:=jM.init.lookup;have hbi:=jM.init.bind (.ref s.heap.objs.size)
   repeat (any_goals (first|assumption|wp_step))
   refine nP (codeAny_call_builtin (R:=wants (λr s₂=>r=.none/\∃h' tk,s₂={ s with heap:=h',toks:=tk }/\T items.size h'/\(∀b o,b<s.heap.objs.size->s.heap.get? b=some o->h'.get? b=some o)) E) jM.init.plain F.entry_set_init (check_set_init_1 hT ?_)) λr₂ s₂ Xg=>?_
   ·obtain⟨ol,Ro,AX,nl,Qd⟩:=hl
    obtain⟨Xh,N2,Ts,Ji⟩:=ol;simp only at AX Qd;subst AX;subst Qd;have Xi:(s.heap.push (iX led)).get? l=some { cls:=.type "tuple",dict:=N2,data:=.seq items nl,slots:=Ji }:=ay _ Ro;have zbD:=F.sub_tuple_set;have zbE:=F.sub_tuple_frozenset;have E6:(jf "tuple"==jf "dict")=false:=by decide
    have KW:(s.heap.push (iX led)).IsTuple l items:=⟨_,Xi,rfl,nl,rfl⟩;unfold pD.«set.__init__» noKeywords pD.Frozenset.updateFrom
    generalize hPI:pyIter=PI
    wp_walk
    subst hPI;refine iS KW ?_
    refine ax (wpAny_runValue ?_)
    have Tt:l<s.heap.objs.size:=aT Ro;have hh3:A.in1.in1.in1.handled=none:=by simp[hh]
    have zH:(s.heap.push (iX led)).objs.size=s.heap.objs.size+1:=fh _ _;have Qn:l≠(s.heap.push (iX led)).objs.size:=by rw[zH];exact aU (je Tt)
    have Ip:s.heap.objs.size∉[(s.heap.push (iX led)).objs.size,l]:=by
     rw[zH];simp only[av,aW,aX,or_false,not_or];exact⟨aU (jy _),eL Tt⟩
    refine Io ((Walks.tuple hh3 _ l Qn items).toS) s.heap.objs.size Ip T (λi h h' t k=>keep i h h' t λb o hb e=>k b o ?_ e) (λi v s' Q E hi hv t q=>add i v s' Q E hi hv t q) (items.size-0) 0 _ (by omega) (aV _)
     ⟨⟨_,a8 _ rfl,rfl,rfl⟩,(KW.push _)⟩ ?hS0 ?hR
    ·rw[zH]
     intro z;rw[aW]at z;exact hb z
    case hS0=>
     exact t0 led _ (ay _ hS) λb o e=>ay _ (ay _ e)
    case hR=>
     intro s' hm F6;obtain⟨h',g',d',x4,Lg⟩:=s';have eg:g'=s.gens:=hm.gens;have ed:d'=s.drawn:=hm.drawn;have eo:Lg=s.os:=hm.os;subst eg;subst ed;subst eo;show wpAny _ _ _ _ _ _;refine a9 ?_
     show wpAny _ _ (ret g7) _ _ _;refine a9 ⟨rfl,h',x4,rfl,F6,λb o hb e=>?_⟩
     have Xj:b≠s.heap.objs.size:=aU hb;have Xk:b≠(s.heap.push (iX led)).objs.size:=by rw[zH];exact aU (je hb)
     exact hm.heap b o (by simp only[av,aW,aX,or_false,not_or];exact⟨Xj,Xk⟩) (ay _ (ay _ e))
   ·cases r₂ with
    |error e=>exact Xg
    |ok fl₂=>
     cases fl₂ with
     |ret r=>
      obtain⟨rfl,h',tk,rfl,F6,hk'⟩:=Xg
      repeat (any_goals (first|assumption|wp_step))
      exact h _ _ F6 hk'
     |_=>exact Xg.elim
  |_=>exact hr.elim
end
section
variable{X:Cx}{a b c e:bP}{δ:List Slot}{d d1 d2:ai}{ds:List ai}{pos p p2 oE:Pos}{k:Nat}
def Qo(K:ao):List V->Hp->VK->Prop:=λxs H Q=>∃(a:aI)(ss:List Str),xs=[.ref a]/\mQ K H a (ss.map V.str)/\ss.length<4000/\∀l,H l=none->Q (.ref l) (upd H l (.ext (Gk l (dd [] ss).length)))
theorem wX(hc:X.calm=true):jD X (.type "set") (Qo X.K):=by
 intro pins s σ H xs us Q I r h;obtain⟨a,ss,rfl,hq,h4,q⟩:=h;obtain⟨u,rfl,rx⟩:=vals1 r;cases rx;obtain⟨its,rv,pl,hz⟩:=I.tuple hq;have Xl:=rv.length;simp only[aj]at Xl;have hsz:its.toArray.size=ss.length:=by simp only[bD];omega
 refine yl (I.ok.hd hc) (show s.heap.IsTuple _ _ from pl) (λi h=>(∀b o,s.heap.get? b=some o->h.get? b=some o)/\h.SetOf (strKind X.prog X.w) s.heap.objs.size (λk=>decide (k∈dd [] (ss.take i))) (dd [] (ss.take i)).length) (λled h' e k=>?_) (λi h h' ⟨k1,T⟩ k=>?_) (λi v s' Q' E' hi hv ⟨k1,T⟩ q'=>?_) (λh' tk ⟨k1,T⟩ _=>?_)
 ·have n0:dd [] (ss.take 0)=[]:=by rw[q_];rfl
  refine⟨k,?_⟩
  rw[n0];refine⟨_,#[],0,.fresh 0 0 led,e,⟨rfl,rfl,rfl⟩,rfl,(λe he=>by cases he),(λk=>⟨λz=>by simp at z,λ⟨e,he,_⟩=>by cases he⟩),(by show 0<scanBound;unfold scanBound;omega),rfl,rfl⟩
 ·refine⟨λb o e=>k b o ?_ (k1 b o e),?_⟩
  ·have:=aT e
   exact aU (je this)
  ·obtain⟨o,es,ep,t,ho,rest⟩:=T
   exact⟨o,es,ep,t,k _ _ (aU (jy _)) ho,rest⟩
 ·rw[hsz]at hi
  have HW:its[i]?=some v:=by simpa using hv
  obtain⟨x,t,hx,rfl⟩:=yQ rv i v HW;have ZE:(strKind X.prog X.w).is x (.str x t)=true:=by show sD x (.str x t)=true;simp[sD]
  have hle:=ur (ss.take i) [];simp only[cp,pN,dz]at hle;have Xm:ss.take (i+1)=ss.take i ++ [x]:=by rw[cV,hx];rfl
  unfold setAdd;refine mO (ax ((strKind X.prog X.w).pyHash ZE ?_))
  refine wpAny_setAddHashed_of (knd:=strKind X.prog X.w) (s:={ s' with toks:=s'.toks+1 }) ZE rfl T (by unfold scanBound;omega) λh' sb T'=>q' h' _ _ (jm _) sb ⟨λb o e=>?_,?_⟩
  ·have hb:=aT e
   rw[sb.2 b (aU hb)];exact k1 b o e
  ·have ed:dd [] (ss.take (i+1))=if decide (x∈dd [] (ss.take i))=true then dd [] (ss.take i)else dd [] (ss.take i) ++ [x]:=by rw[Xm,yP];rfl
   rw[ed];by_cases hm:decide (x∈dd [] (ss.take i))=true
   ·rw[qQ3 hm]at T' ⊢
    refine SetOf_congr T' (λk=>?_) rfl
    by_cases hk:k=x
    ·subst hk;rw[hm];rfl
    ·simp[hk]
   ·rw[qQ2 hm]at T' ⊢
    refine SetOf_congr T' (λk=>?_) (by simp)
    rw[fw];simp
 ·rw[hsz,jw]at T
  exact⟨.ref s.heap.objs.size,_,I.laid k1 (aA _) (SetOf.W6 T).ok,rfl,q _ (I.hok.fresh (aA _))⟩
theorem Bq{ss:List Str}(h:VE X a δ (.tuple (ss.map .str)))(hl:ss.length<4000)(hc:X.calm=true)(m1:X.mg "len"=none)(m2:X.mg "set"=none)(hg:Gl X "len":=by rfl)(P6:Gl X "set":=by rfl)
  (hs:starEach [a] X.env=(false,eval a X.env)::starEach [] X.env:=by rfl)(pV:starEach [.Call (.Name "set" p2) [a] [] oE] X.env=(false,eval (.Call (.Name "set" p2) [a] [] oE) X.env)::starEach [] X.env:=by rfl)(sW:(backTo oE (starEach [] X.env)).any (·.1)=false:=by rfl)(Jj:(backTo pos (starEach [] X.env)).any (·.1)=false:=by rfl):
  VE X (.Call (.Name "len" p) [.Call (.Name "set" p2) [a] [] oE] [] pos) δ (.int (dd [] ss).length):=
 .of (wA yi hg m1 qY (ej (qG (wX hc) P6 m2 (by rfl) (ej cX fK hs) (by decide) (by decide) hs sW) fK pV) (by decide) (by decide) pV Jj) λB0 B σ H0 H Q f q=>h B0 B σ H0 H _ f λv H1 dP g r=>by
  cases r with
  |tup hq rs=>
   have e:=rs.strs;subst e;have:=ur ss [];exact⟨_,ss,rfl,g.sub.mU hq,hl,λl hl'=>⟨l,_,rfl,bB,by simp at this;omega,q _ H1 _ (g.trans (.loose g.sub hl')) (.int _)⟩⟩
def wY:List Bool->Bool:=λl=>l.any id
theorem Jk(hc:X.calm=true):jD X (.builtin "any") (λxs H Q=>∃p bs,xs=[.ref p]/\jV X.K H p (bs.map V.bl)/\Q (.bl (wY bs)) H):=by
 intro pins s σ H xs us Q I r h;obtain⟨p,bs,rfl,hq,q⟩:=h;obtain⟨u,rfl,rx⟩:=vals1 r;cases rx;obtain⟨its,rv,pl,hz⟩:=I.list hq;have hl:=rv.length;simp only[aj]at hl;refine call_any_walkS (ly pl.isList ?_)
 have E6:p≠s.heap.objs.size:=aU (aT pl.isList.choose_spec.1);have W7:∀(i:Nat)v,its.toArray[i]?=some v->v=.bool (bs.getD i false):=λi v hv=>by
  have HW:its[i]?=some v:=by simpa using hv
  have e:=rv.getD i;have e2:its.getD i g7=v:=by rw[aG,HW];rfl
  have hi:i<bs.length:=by have:=(aJ.mp HW).1;omega
  have e3:(bs.map V.bl).getD i .non=.bl (bs.getD i false):=by
   rw[aG,aF,aG,au hi];rfl
  rw[e2,e3]at e;exact e
 refine⟨_,_,_,_,_,_,_,λi=>bs.getD i false,rfl,(Walks.list (by simp[I.ok.hd hc]) _ p E6 its.toArray).toS,⟨⟨_,a8 _ rfl,rfl,rfl⟩,pl.isList.push _⟩,?_,λs' hm=>?_⟩
 ·intro i v Q' E' s' hv q'
  rw[W7 i v hv];exact fx q'
 ·have ea:(bS its.toArray.size).any (λi=>bs.getD i false)=wY bs:=by
   rw[bD,<-hl];unfold wY;rw[fw,jx,jx]
   constructor
   ·rintro⟨i,hi,h⟩
    have hi:=cw.mp hi;rw[aG,au hi]at h;exact⟨_,dN hi,h⟩
   ·rintro⟨x,hx,h⟩
    obtain⟨i,hi⟩:=CZ.mp hx;refine⟨i,cw.mpr (aJ.mp hi).1,?_⟩
    rw[aG,hi];exact h
  rw[ea];obtain⟨h',g',d',x4,Lg⟩:=s';have eg:g'=s.gens:=hm.gens;have ed:d'=s.drawn:=hm.drawn;have eo:Lg=s.os:=hm.os;subst eg;subst ed;subst eo;refine⟨.bl _,H,I.kept (t':=x4) λb o e=>hm.heap b o ?_ (ay _ e),rfl,q⟩
  have:=aT e;simp only[aW];exact aU this
theorem Tv{bs:List Bool}:mw K (λxs H Q=>∃p bs,xs=[.ref p]/\jV K H p (bs.map V.bl)/\Q (.bl (wY bs)) H) [.list (bs.map .bool)] (.bool (wY bs)):=λvs H0 H Q s r q=>by
 obtain⟨v,rfl,r1⟩:=r.one;cases r1 with
 |lst hq rs=>
  have e:=rs.W8;subst e;exact⟨_,bs,rfl,s.seq hq,q _ _ _ (.refl s) (.bl _)⟩
theorem ux:fillsNumberSlot (.type "tuple") "mul"=pure false:=
 PySem.fillsNumberSlot_seq (id:="tuple.__mul__") (r:=some (.builtin "tuple.__rmul__")) pO.lookup (by symm) F.slot_tuple_rmul.lookup (by symm)
theorem zX:seqRepeat? (.type "tuple")=pure (some (.builtin "tuple.__mul__")):=by
 unfold seqRepeat?;rw[PySem.seqSlot_of (T:="tuple") (name:="__mul__") (id:="tuple.__mul__") pO.lookup (by symm),PySem.seqSlot_of (T:="tuple") (name:="__rmul__") (id:="tuple.__rmul__") F.slot_tuple_rmul.lookup (by symm)]
 rfl
theorem wZ(i:Int)(t:Tok)(l:aI)(items:Array aB)(n:Nat)(dd:Option aI)(sl:Array (Option aB)):
  Meets (pD.«int.__rmul__» ⟨[.int i t,.ref l],[]⟩) (λ_ R s=>s.heap.get? l=some { cls:=.type "tuple",dict:=dd,data:=.seq items n,slots:=sl }/\R (.ok (.ret aB.notImplemented)) s):=
 .of_wp λprog w A R s h=>by obtain⟨hp,g,d,tk,os⟩:=s;obtain⟨hl,h⟩:=h;wp_walk;exact⟨_,rfl,h⟩
theorem ym(l:aI)(items:Array aB)(n:Nat)(dd:Option aI)(sl:Array (Option aB))(t:Tok):
  Meets (pD.«tuple.__mul__» ⟨[.ref l,.int 1 t],[]⟩) (λ_ R s=>s.heap.get? l=some { cls:=.type "tuple",dict:=dd,data:=.seq items n,slots:=sl }/\R (.ok (.ret (.ref l))) s):=
 .of_wp λprog w A R s h=>by
  obtain⟨hp,g,d,tk,os⟩:=s;obtain⟨hl,h⟩:=h;have f1:=Ez;have f2:=xX;have c1:(items.isEmpty||(1:Int)==1)=true:=by simp
  wp_walk using dF hl
  exact⟨_,rfl,h⟩
theorem w8(l:aI)(its:List aB)(n:Nat)(dd:Option aI)(sl:Array (Option aB))(k:Int)(t:Tok)(hk:2<=k)(ZF:k<2^63)(E6:its≠[])(hsz:its.length*k.toNat<=sizeLine):
  Meets (pD.«tuple.__mul__» ⟨[.ref l,.int k t],[]⟩) (λ_ R s=>s.heap.get? l=some { cls:=.type "tuple",dict:=dd,data:=.seq its.toArray n,slots:=sl }/\R (.ok (.ret (.ref s.heap.objs.size))) { s with heap:=s.heap.push { cls:=jf "tuple",data:=Data.seq (bp k.toNat its).flatten.toArray } }):=
 .of_wp λprog w A R s h=>by
  obtain⟨hp,g,d,tk,os⟩:=s;obtain⟨hl,h⟩:=h;have f1:=Ez;have f2:=xX;have Tw:its.toArray.isEmpty=false:=by cases its with|nil=>exact qQ7 rfl E6|cons _ _=>rfl
  have zbK:its.toArray.size*k.toNat<=sizeLine:=by rw[bD];exact hsz
  have Tx:List.foldl (λx1 x2=>x1++x2) #[] (bp k.toNat its.toArray)=(bp k.toNat its).flatten.toArray:=by
   have:=foldl_rep its k.toNat [];rw[iJ]at this;exact this
  generalize hI:its.toArray=items at *
  have Vp:¬(decide (k < -2^63)||decide (k>=2^63))=true:=by simp;omega
  have Xn:¬(items.isEmpty||k==1)=true:=by rw[Tw];simp;omega
  have Ve:¬(decide (k<=0)||items.isEmpty)=true:=by rw[Tw];simp;omega
  have hmul:(items.size:Int)*k=((items.size*k.toNat:Nat):Int):=by rw[Int.natCast_mul,mP (by omega)]
  have hsl:(sizeLine:Int)<=(2^63-1)/8:=by decide
  have hc3:¬((items.size:Int)*k>(2^63-1)/8):=by rw[hmul];omega
  have hc4:¬sQ ((items.size:Int)*k)=true:=by unfold sQ;rw[hmul];simp only[gt_iff_lt,decide_eq_true_eq];omega
  wp_walk using dF hl
  refine kD (qQ0 Vp) ?_
  wp_walk using dF hl
  refine kD (qQ0 Xn) ?_
  wp_walk using dF hl
  refine kD (qQ0 Ve) ?_
  wp_walk using dF hl
  refine kD (qQ0 hc3) ?_
  wp_walk using dF hl
  refine kD (qQ0 hc4) ?_
  wp_walk using dF hl
  rw[Tx];refine kD (qQ0 ?_) ?_
  ·rw[bD,len_rep]
   have:items.size=its.length:=by rw[<-hI,bD]
   rw[Nat.mul_comm];omega
  wp_walk
  exact⟨_,rfl,h⟩
def Tz(K:ao):R2:=λx y H Q=>∃a k xs,x=.ref a/\y=.int k/\mQ K H a xs/\1<=k/\k<2^63/\xs≠[]/\xs.length*k.toNat<=sizeLine/\(k=1->Q (.ref a) H)/\(k≠1->∀p,H p=none->Q (.ref p) (upd H p (.tup (bp k.toNat xs).flatten)))
theorem Ml:qE X (binaryOp .Mult) (Tz X.K):=by
 intro pins s σ H x y v u Q I rx ry h;obtain⟨a,k,xs,rfl,rfl,ha,h1,h2,hx,hz,q1,q2⟩:=h;cases rx;obtain⟨t,rfl⟩:=ry;obtain⟨its,r1,p1,_⟩:=I.tuple ha;obtain⟨⟨cls,dd,data,sl⟩,ho,hc,n,hd⟩:=id p1;simp only at hc hd;subst hc hd;refine wpAny_binaryOp_repeat_ref (T:="tuple") (U:="int") (by decide) ⟨_,ho,rfl⟩ (λs'=>typeIs_int s' k t) ux F.fills_int_mul F.slot_int_rmul zX F.slot_int_index.lookup
  (lZ F.slot_int_rmul (typeIs_int s k t) F.entry_int_rmul (F.args_int_rmul_2 _ _) (wZ k t a its.toArray n dd sl) ⟨ho,rfl,⟨_,ho,rfl⟩,?_⟩)
 by_cases hk:k=1
 ·subst hk
  exact lZ pO ⟨_,ho,rfl⟩ F.entry_tuple_mul (F.args_tuple_mul_2 _ _) (ym a its.toArray n dd sl t) ⟨ho,.ref a,H,I,rfl,q1 rfl⟩
 ·refine lZ pO ⟨_,ho,rfl⟩ F.entry_tuple_mul (F.args_tuple_mul_2 _ _) (w8 a its n dd sl k t (by omega) h2 (λz=>hx (r1.vU.mp z)) (by rw[<-r1.length];exact hz)) ⟨ho,?_⟩
  refine⟨.ref s.heap.objs.size,_,I.laid (t':=s.toks) (o:=.tup (bp k.toNat xs).flatten) (λb ob q=>ay _ q) (aA _) ?_,rfl,q2 hk _ (I.hok.fresh (aA _))⟩
  exact⟨by rw[len_rep,Nat.mul_comm];exact hz,_,r1.rep k.toNat,AI _ _⟩
theorem Mm{n:Int}(h1:VE X a δ (.tuple ds))(h2:VE X b δ (.int n))(hn:1<=n)(Sg:n<=1000)(hz:ds.length<=100)(E6:ds≠[]):VE X (.BinOp a .Mult b pos) δ (.tuple (bp n.toNat ds).flatten):=by
 refine .of (EH Ml cX cX) λB0 B σ H0 H Q f q=>h1 B0 B σ H0 H _ f λv H1 dP g1 r1=>h2 B0 B σ H1 dP _ (f.grow g1) λu H2 h8 g2 r2=>?_
 cases r2;cases r1 with
 |tup hq rs=>
  rename_i ad xs
  have gg:=g1.trans g2;have hl:=rs.length;have h63:(1000:Int)<2^63:=by decide
  have Rp:=rs.mono g2.fA;have go:∀m,cu X.K H2 (bp m xs).flatten (bp m ds).flatten:=by
   intro m
   induction m with
   |zero=>exact .nil
   |succ m ih=>rw[dJ,fW,dJ,fW];exact Rp.append ih
  refine⟨_,n,_,rfl,rfl,g2.sub.mU (g2.fA.mU hq),hn,by omega,λz=>?_,?_,λe=>?_,λ_ p hp=>?_⟩
  ·rw[z]at hl
   exact E6 (lF hl.symm)
  ·rw[d_,hl]
   have:n.toNat<=1000:=by omega
   have:=iw hz this;omega
  ·refine q _ H2 h8 gg ?_
   have e2:(bp n.toNat ds).flatten=ds:=by rw[e];simp
   rw[e2];exact .tup (g2.fA.mU hq) Rp
  ·exact q _ _ _ (gg.trans (.laid g2.sub hp)) (.tup (mQ.of bB) ((go _).mono (dQ.laid g2.sub hp).fA))
end
def qm(as:List aI)(H H0:Hp):Hp:=λq=>if q∈as then H q else H0 q
theorem oH{H0: Hp}(h:q∈as):qm as H H0 q=H q:=qQ3 h
theorem w_{H0: Hp}(h:q∉as):qm as H H0 q=H0 q:=qQ2 h
abbrev OR:=Hp->Hp->List aI->Prop
def lG(R:OR):Prop:=∀H0 H Ha Hb as,R H0 H as->dC H0 Ha->(∀a∈as,Hb a=H a)->R Ha Hb as
structure OF(K:ao)(B0 B:Hp)(R:OR)(H0 H:Hp)(σ:St)(δ:List Slot):Prop where
 fr:gf K B0 B H0 H σ δ
 no:noOwn δ=true
 ex:∃as:List aI,(∀a∈as,H0 a=none/\B a=none/\H a≠none)/\R H0 H as
section
variable{K:ao}{B0 B H0 H di H' C0 C Ha Hb:Hp}{σ σ':St}{δ δ':List Slot}{R R':OR}
theorem dC.eq{H': Hp}(s:dC H H')(h:H a≠none):H' a=H a:=by
 cases e:H a with
 |none=>exact qQ7 e h
 |some o=>exact s a o e
theorem OF.go(m:lG R)(G:OF K B0 B R H0 H σ δ)(f':gf K H0 H Ha Hb σ' δ')(hn:noOwn δ'=true):OF K B0 B R Ha Hb σ' δ':=by
 obtain⟨as,h1,h2⟩:=G.ex;refine⟨f'.re hn (G.fr.ent.trans f'.ent),hn,as,λa ha=>?_,m _ _ _ _ _ h2 f'.ent.fA λa ha=>f'.ent.big.eq (h1 a ha).2.2⟩
 obtain⟨z1,z2,z3⟩:=h1 a ha;cases e:H a with
 |none=>exact qQ7 e z3
 |some o=>exact⟨f'.ent.still z1 e,z2,f'.ent.big.ne z3⟩
theorem OF.from(G:OF K B0 B R H0 H σ δ)(g:dQ C0 B H0 H):OF K C0 B R H0 H σ δ:=⟨G.fr.re G.no g,G.no,G.ex⟩
theorem OF.own(G:OF K B0 B R H0 H σ δ):gf K H0 H H0 H σ δ:=G.fr.re G.no (.refl G.fr.sub)
theorem OF.forget(m:lG R)(G:OF K B0 B R H0 H σ δ)(hf:KS δ δ')(hn:noOwn δ'=true):OF K B0 B R H0 H σ δ':=G.go m (G.own.forget hf.len hf.at) hn
theorem nW(sb:dC H0 H):dC H0 (qm as H H0):=λb u e=>by
 by_cases hb:b∈as
 ·rw[oH hb];exact sb b u e
 ·rw[w_ hb];exact e
theorem Ff(sb:dC H0 H):dC (qm as H H0) H:=λb u e=>by
 by_cases hb:b∈as
 ·rw[oH hb]at e;exact e
 ·rw[w_ hb]at e;exact sb b u e
theorem OF.look(G:OF K B0 B R H0 H σ δ){i:Nat}(hi:δ[i]?=some (.ref p))(hR:∀Ha Hb as,dC Ha Hb->R Ha Hb as->Rep K (qm as Hb Ha) (.ref p) d):∃C0,gf K C0 H C0 H σ (δ.set i (.val d)):=by
 obtain⟨as,h1,h2⟩:=G.ex;have sm:=nW (as:=as) G.fr.sub;have hs:σ[i]?=some (some (.ref p)):=G.fr.slot i _ hi;have f0:gf K (qm as H H0) H (qm as H H0) H σ δ:=by
  refine⟨.refl (Ff G.fr.sub),G.fr.len,λi sl e=>?_,G.fr.apart⟩
  have q:=G.fr.slot i sl e;cases sl with
  |un=>trivial
  |ref _=>exact q
  |val d=>obtain⟨v,g1,g2⟩:=q;exact⟨v,g1,g2.mono sm⟩
  |own ds=>exact qQ7 e (mB G.no i ds)
 have f1:=f0.mD (i:=i) (v:=.ref p) (sl:=.val d) ⟨_,rfl,hR H0 H as G.fr.sub h2⟩ rfl;have e:σ.set i (some (.ref p))=σ:=by
  apply fX;intro j;by_cases h:j=i
  ·subst h;rw[bu (aJ.mp hs).1,hs]
  ·rw[bf (bV h)]
 rw[e]at f1;exact⟨_,f1⟩
theorem OF.rep(G:OF K B0 B R H0 H σ δ)(hR:∀Ha Hb as,dC Ha Hb->R Ha Hb as->Rep K (qm as Hb Ha) (.ref p) d):∃Ha,dQ B0 B Ha H/\Rep K Ha (.ref p) d:=by
 obtain⟨as,h1,h2⟩:=G.ex;refine⟨qm as H H0,⟨G.fr.ent.big,G.fr.ent.fA.trans (nW G.fr.sub),Ff G.fr.sub,λb e=>?_⟩,hR H0 H as G.fr.sub h2⟩
 by_cases hb:b∈as
 ·exact .inr (h1 b hb).2.1
 ·rw[w_ hb]at e;exact G.fr.ent.new b e
end
section
variable{X:Cx}{B0 B H0 H di H' Ha Hb:Hp}{σ σ':St}{D:Ends}{st:fH}{rest body orelse:List fH}{δ δ':List Slot}{a p:aI}{e c tg iter:bP}{d dp:ai}{ds:List ai}{pos px yh:Pos}{x y:Str}{R:OR}
theorem mF(m:lG R)(G:OF X.K B0 B R H0 H σ δ)(h:VS X st δ (.nx δ'))(hn:noOwn δ'=true)(q:∀σ' di H',OF X.K B0 B R di H' σ' δ'->D.nx σ' H'):cS X st D σ H:=
 h H0 H σ H0 H D G.own λσ' Ha Hb sm f'=>q σ' Ha Hb (G.go m f' hn)
theorem DL(m:lG R)(G:OF X.K B0 B R H0 H σ δ)(i j:Nat)(hi:δ[i]?=some (.ref p))(hR:∀Ha Hb as,dC Ha Hb->R Ha Hb as->Rep X.K (qm as Hb Ha) (.ref p) dp)(h:VE X e (δ.set i (.val dp)) d)(hs:NW d=true)(hn:noOwn (δ.set j (.val d))=true)(q:∀σ' di H',OF X.K B0 B R di H' σ' (δ.set j (.val d))->D.nx σ' H')(hN:X.N.Nodup)
  (hj:X.N[j]?=some y:=by rfl)(hx:Loc X.env.scope y:=by first|exact aY rfl|exact b_ rfl)(zO:swapsWith e (some (.Name y px)) pos.line X.env=pure false:=by rfl)(hf:X.fn y=true\/X.env.scope.names.lookup y=some .local:=by first|exact .inl rfl|exact .inr rfl):
  cS X (.Assign [.Name y px] e pos) D σ H:=λpins s I=>by
 refine rQ (i:=j) hN hj hx cX zO hf pins s σ H D I ?_
 obtain⟨C0,f1⟩:=G.look hi hR;refine h C0 H σ C0 H _ f1 λv C1 H1 g1 r=>?_
 have G1:OF X.K B0 B R H0 H1 σ δ:=G.go m (G.own.grow (.far G.fr.sub g1.big)) G.no;exact q _ H0 H1 (G1.go m (G1.own.mD (v:=v) (sl:=.val d) ⟨_,rfl,r.W4 hs⟩ rfl) hn)
theorem TB{tgt:DB}(Rs:Nat->OR)(m:∀k,lG (Rs k))(G:OF X.K B0 B (Rs 0) H0 H σ δ)(hp:uN (model X.prog X.w) X.A X.env X.xe)(hc:X.calm=true)(hi:VI X tg iter δ ds)(hg:PG X tg (HC X.K tgt))
  (step:∀k d,ds[k]?=some d->∃δ',uq tgt d δ=some δ'/\noOwn δ'=true/\∀(D:Ends)C0 σ' di H',OF X.K C0 B (Rs k) di H' σ' δ'->(∀σ2 Ha Hb,OF X.K C0 B (Rs (k+1)) Ha Hb σ2 δ->D.nx σ2 Hb)->u9 X body D σ' H')
  (q:∀σ2 Ha Hb,OF X.K B0 B (Rs ds.length) Ha Hb σ2 δ->D.nx σ2 Hb)
  (hs:∀x,foldedSetIterable iter X.env x=pure x:=by intro _;rfl):cS X (.For tg iter body [] pos) D σ H:=λpins s I=>by
 obtain⟨wi,pi,qi⟩:=hi;refine wq hp hc pi hg j7 hs pins s σ H D I ?_
 refine qi H0 H σ H0 H _ G.own λJ H1 dP g it=>?_
 have G1:=G.go (m 0) (G.own.grow g) G.no;refine⟨λi mm σ' H'=>i<=ds.length/\mm=ds.length-i/\∃Ha,OF X.K H1 B (Rs i) Ha H' σ' δ,⟨ds.length,aV _,rfl,H1,G1.from ⟨G1.fr.ent.big,dC.refl _,G1.fr.sub,λ_ z=>.inl z⟩⟩,?_⟩
 rintro i mm σ' H' ⟨hi,rfl,Ha,Ga⟩
 obtain⟨i1,i2,i3⟩:=it Ha H' Ga.fr.ent.fA Ga.fr.sub i;by_cases kA:i<ds.length
 ·have hd:ds[i]?=some ds[i]:=by simp[kA]
  obtain⟨δ',e1,e2,e3⟩:=step i _ hd;refine .inr ⟨i1 kA,λσ'' uZ=>∃Hb,OF X.K H1 B (Rs (i+1)) Hb uZ σ'' δ,λσ'' uZ ⟨Hb,z⟩=>⟨ds.length-(i+1),by omega,kA,rfl,Hb,z⟩,λv H2 y=>?_⟩
  obtain⟨Hb,g2,rx⟩:=i3 v H2 _ hd y;refine my (Ga.own.grow g2) rx e1 λσ3 f3=>?_
  exact e3 _ H1 σ3 Hb H2 (Ga.go (m i) f3 e2) λσ2 Hc Hd z=>⟨Hc,z⟩
 ·have e:i=ds.length:=by omega
  subst e;refine .inl ⟨i2 (aA _),q σ' Ha H' (Ga.from ⟨Ga.fr.ent.big,G1.fr.ent.fA.trans Ga.fr.ent.fA,Ga.fr.sub,λb z=>?_⟩)⟩
  rcases Ga.fr.ent.new b z with z|z
  ·exact G1.fr.ent.new b z
  ·exact .inr z
theorem N3(G:OF X.K B0 B R H0 H σ δ)(i:Nat)(hi:δ[i]?=some (.ref p))(hR:∀Ha Hb as,dC Ha Hb->R Ha Hb as->Rep X.K (qm as Hb Ha) (.ref p) d)(q:∀v di H',dQ B0 B di H'->Rep X.K di v d->D.rt v H')
  (hN:X.N[i]?=some x:=by rfl)(hv:AW X.env.scope x:=by first|exact aY rfl|exact b_ (aY rfl)|exact b_ (b_ rfl))(hd:(x==("__debug__":Str))=false:=by decide)(nQ:(x==("__classdict__":Str))=false:=by decide):
  cS X (.Return (some (.Name x px)) pos) D σ H:=λpins s I=>zD (jN hN hv hd nQ) pins s σ H D I (by
 obtain⟨Ha,g,r⟩:=G.rep hR;exact⟨_,G.fr.slot i _ hi,q _ Ha H g r⟩)
def Jl(K:ao)(S:Type)(PR:aI->S->OR)(ok:S->ai->S->Prop):Sp:=λvs H Q _=>∃(H0:Hp)(p:aI)(v:V)(as:List aI)(s s':S)(d:ai),vs=[.ref p,v]/\dC H0 H/\Rep K H0 v d/\(∀a∈as,H0 a=none/\H a≠none)/\PR p s H0 H as/\ok s d s'/\
 ∀(di H':Hp)(as':List aI),dC H0 di->dC di H'->(∀a,di a≠none->H0 a≠none\/H a=none)->(∀a∈as',di a=none/\H' a≠none/\(a∈as\/H a=none))->(∀b o,H b=some o->b∉as->H' b=some o)->PR p s' di H' as'->Q .non H'
theorem TF{S:Type}{PR:aI->S->OR}{ok:S->ai->S->Prop}{k:Nat}{f:Str}{ps:List Str}{p0 p1 pc:Pos}{s s':S}(C:bM X.prog X.w X.K X.mg X.base k f ps (Jl X.K S PR ok))(hr:eE k X.A)(G:OF X.K B0 B (PR p s) H0 H σ δ)(m:lG (PR p s))(i:Nat)(hi:δ[i]?=some (.ref p))(h:VE X e δ d)(hok:ok s d s')
  (q:∀di H',OF X.K B0 B (PR p s') di H' σ δ->D.nx σ H')
  (hN:X.N[i]?=some x:=by rfl)(hv:AW X.env.scope x:=by first|exact aY rfl|exact b_ (aY rfl)|exact b_ (b_ rfl))(hd:(x==("__debug__":Str))=false:=by decide)(nQ:(x==("__classdict__":Str))=false:=by decide)
  (hg:Gl X f:=by rfl)(nB:(f==("__debug__":Str))=false:=by decide)(he:starEach [.Name x p0,e] X.env=(false,eval (.Name x p0) X.env)::starEach [e] X.env:=by rfl)(S0:starEach [e] X.env=(false,eval e X.env)::starEach [] X.env:=by rfl)(sW:(backTo pc (starEach [e] X.env)).any (·.1)=false:=by rfl)
  (zO:swapsWith (.Call (.Name f p1) [.Name x p0,e] [] pc) none pos.line X.env=pure false:=by rfl):
  cS X (.Expr (.Call (.Name f p1) [.Name x p0,e] [] pc) pos) D σ H:=λpins s0 I=>by
 obtain⟨fa,fd,F,hm,hk,hb⟩:=C;refine qD (zG F hr hg hm hk hb .nil EV (ej (jN hN hv hd nQ) (ej cX fK S0) he) nB he sW) zO pins s0 σ H D I ?_
 refine⟨.ref p,G.fr.slot i _ hi,?_⟩
 refine h H0 H σ H0 H _ G.own λv H1 dP g r=>?_
 have G1:=G.go m (G.own.grow g) G.no;obtain⟨as,h1,h2⟩:=G1.ex;refine⟨H1,p,v,as,s,s',d,rfl,G1.fr.sub,r,λa ha=>⟨(h1 a ha).1,(h1 a ha).2.2⟩,h2,hok,λdi H' as' a1 a2 a3 a4 a5 a6=>?_⟩
 have hB:∀b,B b≠none->b∉as:=λb hb z=>hb (h1 b z).2.1
 refine q di H' ⟨⟨⟨λb u e=>a5 b u (G1.fr.ent.big b u e) (hB b (by rw[e];simp)),G1.fr.ent.fA.trans a1,a2,λb z=>?_⟩,G1.fr.len,λj sl e=>?_,G1.fr.apart⟩,G.no,as',λa ha=>?_,a6⟩
 ·rcases a3 b z with z|z
  ·exact G1.fr.ent.new b z
  ·exact .inr (G1.fr.ent.big.free z)
 ·have qq:=G1.fr.slot j sl e
  cases sl with
  |un=>trivial
  |ref _=>exact qq
  |val d=>obtain⟨v,g1,g2⟩:=qq;exact⟨v,g1,g2.mono a1⟩
  |own ds=>exact qQ7 e (mB G.no j ds)
 ·obtain⟨z1,z2,z3⟩:=a4 a ha
  refine⟨z1,?_,z2⟩
  rcases z3 with z3|z3
  ·exact(h1 a z3).2.1
  ·exact G1.fr.ent.big.free z3
end
section
variable{X:Cx}{pins:List (aI×Obj)}{σ:St}{H:Hp}{s:aH}{a:aI}{kvs:List (Key×V)}{k:Key}{d:V}{u r:aB}{A:dg}{E:aB->aH->Prop}
theorem Jm(I:Inv X pins σ H s)(e:H a=some (.dK kvs))(ry:RelV (kV k) u)(rd:RelV d r)(hl:kvs.length<sizeLine)(h1:∀v w' s',g_ kvs k=some v->Inv X pins σ H s'->RelV v w'->Q w' s')
  (h2:∀s',g_ kvs k=none->Inv X pins σ (upd H a (.dK (putK kvs k d))) s'->Q r s'):wpAny (model X.prog X.w) A (call (.builtin "dict.setdefault") [.ref a,u,r]) Q E s:=by
 obtain⟨z,hd,vs,rel,dd⟩:=Ih I.hok e;have rv:=rel.val k;refine call_meetsIn vD dd.typeIs PySem.F.entry_dict_setdefault (PySem.F.args_dict_setdefault_3 _ _ _) (kt_meets_setdefault (eY X.prog X.w) a (pY ry) hd r) ⟨vs,dd,by rw[<-rel.length];exact z,λv hv=>?_,λhn h' Hz hs=>?_⟩
 ·rw[hv]at rv
  cases ev:g_ kvs k with
  |none=>rw[ev]at rv;exact rv.elim
  |some w=>rw[ev]at rv;exact h1 w v _ ev (I.tok _) rv
 ·have Qf:(putK kvs k d).length<=sizeLine:=by have:=k7 kvs k d;omega
  have he:∃q,h'.get? a=some q:=let⟨q,_,_,hq,_⟩:=Hz;⟨q,hq⟩;rw[hn]at rv;refine h2 _ ?_ (vV I (by rw[e];exact fG) hs he (zL Qf hd (rel.put k rd) Hz))
  cases ev:g_ kvs k with
  |none=>rfl
  |some w=>rw[ev]at rv;exact rv.elim
end
def TH(td ty tx:TE):TE:=λσ H Q=>td σ H λx H1=>∃a,x=.ref a/\WL H1 a/\ty σ H1 λy H2=>tx σ H2 λz H3=>∃kvs k,H3 a=some (.dK kvs)/\y=kV k/\kvs.length<sizeLine/\
 (∀v,g_ kvs k=some v->Q v H3)/\(g_ kvs k=none->Q z (upd H3 a (.dK (putK kvs k z))))
section
variable{X:Cx}{o e f:bP}{apos ot:Pos}{td ty tx:TE}
theorem Mp(ho:PE X o td)(he:PE X e ty)(hf:PE X f tx)(m:M2 X o "setdefault" apos e f ot):PE X (.Call (.Attribute o "setdefault" apos) [e,f] [] ot) (TH td ty tx):=by
 intro pins s σ H Q I h;refine wpAny_Call_method m.base m.few m.line yx vD PySem.F.type_dict_setdefault (f7 (ho pins s σ H _ I h) λu s1 ⟨x,H1,I1,rx,a,ex,d,q1⟩=>?_)
 subst ex;obtain rfl:u=cU a:=rx;obtain⟨t1,t2,_⟩:=Il I1 d;refine⟨t1,t2,?_⟩
 rw[m.trees];refine o8 rfl (qX (iE (f7 (he pins s1 σ H1 _ I1 q1) λiv s2 ⟨y,H2,I2,ry,q2⟩=>
  iE (f7 (hf pins s2 σ H2 _ I2 q2) λfv s3 ⟨z,H3,I3,rz,kvs,k,ea,ey,hl,q3,q4⟩=>nM ?_))))
 subst ey;exact Jm I3 ea ry rz hl (λv w' s' ev I4 ub=>⟨v,H3,I4,ub,q3 v ev⟩) λs' ev I4=>⟨z,_,I4,rz,q4 ev⟩
end
section
variable{X:Cx}{B0 B H0 H:Hp}{σ:St}{D:Ends}{st:fH}{rest body orelse:List fH}{δ δ':List Slot}{a p C dx:aI}{e c ek ev:bP}{d:ai}{pos px po ps pa pc:Pos}{x y fl:Str}{fs:List (Str×V)}{k:Nat}
theorem Jn(f:gf X.K B0 B H0 H σ δ)(h:VS X st δ (.nx δ'))(q:∀σ' Ha Hb,dC H0 Ha->gf X.K B0 B Ha Hb σ' δ'->D.nx σ' Hb):cS X st D σ H:=h B0 B σ H0 H D f q
theorem vb(f:gf X.K B0 B H0 H σ δ)(h:VT X c δ true)(q:∀Ha Hb,dQ H0 H Ha Hb->u9 X body D σ Hb):cS X (.If c body orelse pos) D σ H:=λpins s I=>
 yB nE j7 kG pins s σ H D I (h B0 B σ H0 H _ f λH1 dP g=>PB (q H1 dP g))
theorem jj(f:gf X.K B0 B H0 H σ δ)(h:VT X c δ false)(q:∀Ha Hb,dQ H0 H Ha Hb->u9 X orelse D σ Hb):cS X (.If c body orelse pos) D σ H:=λpins s I=>
 yB nE kG j7 pins s σ H D I (h B0 B σ H0 H _ f λH1 dP g=>Pz (q H1 dP g))
theorem Qp(i:Nat){fi:aI}{fd:fe}{ZG:List Str}{sp:Sp}{j:Nat}{p0 pk:Pos}(M:Mk X.K C fi)(F:fY X.prog X.w X.K X.mg X.base iP j fi fd ZG sp)(hr:eE (j+1) X.A)(hm:X.mg x=some (.ref C))(hb:Binds X.K fd ZG [])
  (q:∀p dx E,H p=none->H dx=none->dx≠p->sp [.ref p] (upd (upd H dx (.own p)) p (.ins C dx [])) (λv H2=>v=.non/\D.nx (σ.set i (some (.ref p))) H2) E)
  (hN:X.N.Nodup)(hi:X.N[i]?=some y:=by rfl)(hx:Loc X.env.scope y:=by first|exact aY rfl|exact b_ rfl)(hs:swapsWith (.Call (.Name x p0) [] [] pk) (some (.Name y px)) pos.line X.env=pure false:=by rfl)(hf:X.fn y=true\/X.env.scope.names.lookup y=some .local:=by first|exact .inl rfl|exact .inr rfl)
  (hg:Gl X x:=by rfl)(nB:(x==("__debug__":Str))=false:=by decide):cS X (.Assign [.Name y px] (.Call (.Name x p0) [] [] pk) pos) D σ H:=λpins s I=>by
 refine rQ (i:=i) hN hi hx (HZ M F hr hg hm hb .nil EV nB) hs hf pins s σ H D I ?_
 exact λp dx h1 h2 h3=>q p dx _ h1 h2 h3
theorem Jo(f:gf X.K B0 B H0 H σ δ)(hr:eE k X.A)(i:Nat)(hi:δ[i]?=some (.ref p))(ins:H p=some (.ins C dx fs))(cl:A_ X.K C)(na:jo X.K C fl)(lk:fs.lookup fl=some (.ref a))(hd:H a=some (.dK kvs))(hk:VE X ek δ (.str y))(hv:VE X ev δ d)(hl:kvs.length<sizeLine)
  (q:∀v Ha Hb,dQ H0 H Ha Hb->Rep X.K Ha v d->D.nx σ (upd Hb a (.dK (putK kvs (a7 y) v))))
  (hN:X.N[i]?=some x:=by rfl)(oI:AW X.env.scope x:=by first|exact aY rfl|exact b_ (aY rfl)|exact b_ (b_ rfl))(nB:(x==("__debug__":Str))=false:=by decide)(nQ:(x==("__classdict__":Str))=false:=by decide)
  (hb:attributeBase (.Name x px) fl X.env (eval (.Name x px) X.env)=eval (.Name x px) X.env:=by rfl)(hs:swapsWith ev (some (.Subscript (.Attribute (.Name x px) fl po) ek ps)) pos.line X.env=pure false:=by rfl):
  cS X (.Assign [.Subscript (.Attribute (.Name x px) fl po) ek ps] ev pos) D σ H:=λpins s I=>by
 refine tj (Gm hr) (wu (jN hN oI nB nQ) hb) cX cX hs pins s σ H D I ?_
 refine hv B0 B σ H0 H _ f λv H1 dP g1 r1=>?_
 refine⟨.ref p,f.slot i _ hi,p,C,dx,fs,.ref a,rfl,g1.big _ _ ins,cl,na,lk,?_⟩
 refine hk B0 B σ H1 dP _ (f.grow g1) λu H2 h8 g2 r2=>?_
 cases r2;exact⟨a,_,rfl,wH.k (k:=a7 y) (g2.big _ _ (g1.big _ _ hd)) hl,q v H2 h8 (g1.trans g2) (r1.mono g2.fA)⟩
theorem Qq(f:gf X.K B0 B H0 H σ δ)(hr:eE k X.A)(i:Nat){kvs:List (List Key×V)}{e1 e2:bP}{z1 z2:Str}{x1}{pt:Pos}(hi:δ[i]?=some (.ref p))(ins:H p=some (.ins C dx fs))(cl:A_ X.K C)(na:jo X.K C fl)(lk:fs.lookup fl=some (.ref a))(hd:H a=some (.dT kvs))(LY:VE X e1 δ (.str z1))(ZF:VE X e2 δ (.str z2))(hv:VE X ev δ d)(hl:kvs.length<sizeLine)
  (q:∀v t Ha Hb,dQ H0 H Ha Hb->Hb t=none->Rep X.K Ha v d->D.nx σ (upd (upd Hb t (.tup [.str z1,.str z2])) a (.dT (putK kvs (uv (z1,z2)) v))))
  (hN:X.N[i]?=some x:=by rfl)(oI:AW X.env.scope x:=by first|exact aY rfl|exact b_ (aY rfl)|exact b_ (b_ rfl))(nB:(x==("__debug__":Str))=false:=by decide)(nQ:(x==("__classdict__":Str))=false:=by decide)
  (hb:attributeBase (.Name x px) fl X.env (eval (.Name x px) X.env)=eval (.Name x px) X.env:=by rfl)(hs:swapsWith ev (some (.Subscript (.Attribute (.Name x px) fl po) (.Tuple [e1,e2] x1 pt) ps)) pos.line X.env=pure false:=by rfl)
  (Vq:starEach [e1,e2] X.env=(false,eval e1 X.env)::starEach [e2] X.env:=by rfl)(pV:starEach [e2] X.env=(false,eval e2 X.env)::starEach [] X.env:=by rfl):
  cS X (.Assign [.Subscript (.Attribute (.Name x px) fl po) (.Tuple [e1,e2] x1 pt) ps] ev pos) D σ H:=λpins s I=>by
 refine tj (Gm hr) (wu (jN hN oI nB nQ) hb) (zF (ej cX (ej cX fK pV) Vq)) cX hs pins s σ H D I ?_
 refine hv B0 B σ H0 H _ f λv H1 dP g1 r1=>?_
 refine⟨.ref p,f.slot i _ hi,p,C,dx,fs,.ref a,rfl,g1.big _ _ ins,cl,na,lk,?_⟩
 refine LY B0 B σ H1 dP _ (f.grow g1) λu H2 h8 g2 r2=>?_
 cases r2;refine ZF B0 B σ H2 h8 _ ((f.grow g1).grow g2) λu H3 wK g3 r3=>?_
 cases r3;have gg:=(g1.trans g2).trans g3;refine⟨by show 2<=sizeLine;rw[d_];decide,λt ht=>?_⟩
 have Rr:(upd wK t (.tup [.str z1,.str z2])) a=some (.dT kvs):=by rw[aN (bG (gg.big _ _ hd) ht)];exact gg.big _ _ hd
 exact⟨a,_,rfl,wH.t (k:=uv (z1,z2)) Rr bB hl,q v t H3 wK gg ht ((r1.mono g2.fA).mono g3.fA)⟩
theorem Br(f:gf X.K B0 B H0 H σ δ)(i:Nat){xs:List V}(hi:δ[i]?=some (.ref p))(ins:H p=some (.ins C dx fs))(cl:A_ X.K C)(na:jo X.K C fl)(lk:fs.lookup fl=some (.ref a))(hd:H a=some (.lst xs))(hv:VE X e δ d)(hl:xs.length<sizeLine)
  (q:∀v Ha Hb,dQ H0 H Ha Hb->Rep X.K Ha v d->D.nx σ (upd Hb a (.lst (xs ++ [v]))))
  (hN:X.N[i]?=some x:=by rfl)(oI:AW X.env.scope x:=by first|exact aY rfl|exact b_ (aY rfl)|exact b_ (b_ rfl))(nB:(x==("__debug__":Str))=false:=by decide)(nQ:(x==("__classdict__":Str))=false:=by decide)
  (hb:attributeBase (.Name x px) fl X.env (eval (.Name x px) X.env)=eval (.Name x px) X.env:=by rfl)(j0:attributeBase (.Attribute (.Name x px) fl po) "append" X.env (eval (.Attribute (.Name x px) fl po) X.env)=eval (.Attribute (.Name x px) fl po) X.env:=by rfl)
  (hs:starEach [e] X.env=(false,eval e X.env)::starEach [] X.env:=by rfl)
  (ou:((backTo pc (starEach [e] X.env)).all (λx=>!x.1)&&(backToKw pc (keywordEach [] X.env)).all (λx=>x.1.isSome)&&decide (([e]:List bP).length+([]:List fV).length+(if([]:List fV).isEmpty then 0 else 1)<30))=true:=by rfl)
  (hline:(pa.endLine==pc.line)=true:=by rfl)(iy:(backTo pc (starEach [] X.env)).any (·.1)=false:=by rfl)(zO:swapsWith (.Call (.Attribute (.Attribute (.Name x px) fl po) "append" pa) [e] [] pc) none pos.line X.env=pure false:=by rfl):
  cS X (.Expr (.Call (.Attribute (.Attribute (.Name x px) fl po) "append" pa) [e] [] pc) pos) D σ H:=λpins s I=>by
 refine qD (uX fM gR gS lV (wu (jN hN oI nB nQ) hb) (ej cX fK hs) j0 ou hline hs iy) zO pins s σ H D I ?_
 refine⟨.ref p,f.slot i _ hi,p,C,dx,fs,.ref a,rfl,ins,cl,na,lk,.inl ⟨rfl,_,jV.of hd⟩,?_⟩
 refine hv B0 B σ H0 H _ f λv H1 dP g1 r1=>?_
 exact⟨a,xs,v,rfl,rfl,g1.big _ _ hd,hl,q v H1 dP g1 r1⟩
theorem Jp(f:gf X.K B0 B H0 H σ δ)(i:Nat){pl Fg Rt:Pos}(hi:δ[i]?=some (.ref p))(ins:H p=some (.ins C dx fs))(cl:A_ X.K C)(na:jo X.K C fl)(lk:fs.lookup fl=some (.ref a))(hd:H a=some (.dK kvs))(hk:VE X ek δ (.str y))(hv:VE X e δ d)(hl:kvs.length<sizeLine)(Du:noOwn δ=true)(Xo:H0 a=none)
  (hc:∀v,g_ kvs (a7 y)=some v->∃c xs,v=.ref c/\H c=some (.lst xs)/\xs.length<sizeLine)
  (q1:∀c xs v t Ha Hb,g_ kvs (a7 y)=some (.ref c)->H c=some (.lst xs)->H t=none->dQ H0 H Ha Hb->Ha t=none->Rep X.K Ha v d->D.nx σ (upd Hb c (.lst (xs ++ [v]))))
  (q2:∀v c Ha Hb,g_ kvs (a7 y)=none->H c=none->dC H0 Ha->dC Ha Hb->(∀b,Ha b≠none->H0 b≠none\/H b=none)->(∀b o,H b=some o->b≠a->Hb b=some o)->Hb a=some (.dK (putK kvs (a7 y) (.ref c)))->Hb c=some (.lst [])->Ha c=none->Ha a=none->Rep X.K Ha v d->D.nx σ (upd Hb c (.lst [v])))
  (hN:X.N[i]?=some x:=by rfl)(oI:AW X.env.scope x:=by first|exact aY rfl|exact b_ (aY rfl)|exact b_ (b_ rfl))(nB:(x==("__debug__":Str))=false:=by decide)(nQ:(x==("__classdict__":Str))=false:=by decide)
  (hb:attributeBase (.Name x px) fl X.env (eval (.Name x px) X.env)=eval (.Name x px) X.env:=by rfl)(m:M2 X (.Attribute (.Name x px) fl po) "setdefault" Fg ek (.List [] pl) Rt:=by exact⟨rfl,rfl,rfl,rfl⟩)
  (j0:attributeBase (.Call (.Attribute (.Attribute (.Name x px) fl po) "setdefault" Fg) [ek,.List [] pl] [] Rt) "append" X.env (eval (.Call (.Attribute (.Attribute (.Name x px) fl po) "setdefault" Fg) [ek,.List [] pl] [] Rt) X.env)=eval (.Call (.Attribute (.Attribute (.Name x px) fl po) "setdefault" Fg) [ek,.List [] pl] [] Rt) X.env:=by rfl)
  (hs:starEach [e] X.env=(false,eval e X.env)::starEach [] X.env:=by rfl)
  (ou:((backTo pc (starEach [e] X.env)).all (λx=>!x.1)&&(backToKw pc (keywordEach [] X.env)).all (λx=>x.1.isSome)&&decide (([e]:List bP).length+([]:List fV).length+(if([]:List fV).isEmpty then 0 else 1)<30))=true:=by rfl)
  (hline:(pa.endLine==pc.line)=true:=by rfl)(iy:(backTo pc (starEach [] X.env)).any (·.1)=false:=by rfl)(zO:swapsWith (.Call (.Attribute (.Call (.Attribute (.Attribute (.Name x px) fl po) "setdefault" Fg) [ek,.List [] pl] [] Rt) "append" pa) [e] [] pc) none pos.line X.env=pure false:=by rfl):
  cS X (.Expr (.Call (.Attribute (.Call (.Attribute (.Attribute (.Name x px) fl po) "setdefault" Fg) [ek,.List [] pl] [] Rt) "append" pa) [e] [] pc) pos) D σ H:=λpins s I=>by
 refine qD (uX fM gR gS lV (Mp (wu (jN hN oI nB nQ) hb) cX (wy fK) m) (ej cX fK hs) j0 ou hline hs iy) zO pins s σ H D I ?_
 refine⟨.ref p,f.slot i _ hi,p,C,dx,fs,.ref a,rfl,ins,cl,na,lk,a,rfl,.inl ⟨kvs,.inl hd⟩,?_⟩
 refine hk B0 B σ H0 H _ f λu H1 dP g1 r1=>?_
 cases r1;refine⟨by show 0<=sizeLine;exact aV _,λt ht=>?_⟩
 have Xp:a≠t:=bG (g1.big _ _ hd) ht;have gl:dQ H0 H H1 (upd dP t (.lst [])):=g1.trans (.loose g1.sub ht);refine⟨kvs,a7 y,by rw[aN Xp];exact g1.big _ _ hd,rfl,hl,λv Bs=>?_,λhn=>?_⟩
 ·obtain⟨c,xs,rfl,AX,KZ⟩:=hc v Bs
  have ZD:c≠t:=bG (g1.big _ _ AX) ht;refine⟨.inl ⟨rfl,_,jV.of (by rw[aN ZD];exact g1.big _ _ AX)⟩,?_⟩
  refine hv B0 B σ H1 _ _ (f.grow gl) λv H2 h8 g2 r2=>?_
  have gg:=gl.trans g2;refine⟨c,xs,v,rfl,rfl,gg.big _ _ AX,KZ,q1 c xs v t H2 h8 Bs AX (g1.big.free ht) gg ?_ r2⟩
  exact g2.still (g1.sub.free ht) bB
 ·have ZH:t≠a:=bV Xp
  have ga:(upd dP t (.lst [])) a=some (.dK kvs):=by rw[aN Xp];exact g1.big _ _ hd
  refine⟨.inl ⟨rfl,_,jV.of (by rw[aN ZH];exact bB)⟩,?_⟩
  have ZI:H1 a=none:=g1.still Xo hd;have ZJ:H1 t=none:=g1.sub.free ht
  generalize hM:upd (upd dP t (.lst [])) a (.dK (putK kvs (a7 y) (.ref t)))=Hm
  have m0:∀b o,H b=some o->b≠a->Hm b=some o:=λb o e hb=>by
   rw[<-hM,aN hb,aN (bG (g1.big _ _ e) ht)];exact g1.big _ _ e
  have m1:Hm a=some (.dK (putK kvs (a7 y) (.ref t))):=by rw[<-hM];exact bB
  have m2:Hm t=some (.lst []):=by rw[<-hM,aN ZH];exact bB
  have sm:dC H1 Hm:=λb u e=>by
   rw[<-hM,aN (bG e ZI),aN (bG e ZJ)];exact g1.sub b u e
  have fm:gf X.K H1 Hm H1 Hm σ δ:=by
   have f1:=f.grow g1;refine⟨.refl sm,f1.len,λj sl e=>?_,f1.apart⟩
   have qq:=f1.slot j sl e;cases sl with
   |un=>trivial
   |ref _=>exact qq
   |val d=>exact qq
   |own ds=>exact qQ7 e (mB Du j ds)
  refine hv H1 Hm σ H1 Hm _ fm λv H2 h8 g2 r2=>?_
  refine⟨t,[],v,rfl,rfl,g2.big _ _ m2,by show 0<sizeLine;rw[d_];decide,?_⟩
  refine q2 v t H2 h8 hn (g1.big.free ht) (g1.fA.trans g2.fA) g2.sub (λb z=>?_) (λb o e hb=>g2.big _ _ (m0 b o e hb)) (g2.big _ _ m1) (g2.big _ _ m2) (g2.still ZJ m2) (g2.still ZI m1) r2
  rcases g2.new b z with z|z
  ·exact g1.new b z
  ·refine .inr ?_
   cases e:H b with
   |none=>rfl
   |some o=>
    exfalso
    by_cases hb:b=a
    ·subst hb;rw[m1]at z;cases z
    ·rw[m0 b o e hb]at z;cases z
end
section
variable{X:Cx}{a b e:bP}{δ:List Slot}{d:ai}{ds:List ai}{pos:Pos}{k:Nat}
end
end L2
namespace PySem
variable{tk:Tok}
theorem zY:typeLookup (.type "list") "keys"=pure none:=by rw[sE,lU];kernel_rfl
theorem vH:typeLookup (.type "list") "__getattr__"=pure none:=by rw[sE,lU];kernel_rfl
section
variable{prog:bC}{w:bY}{A:dg}{E:aB->aH->Prop}{h:cR}{g:Array qW}{d:Drawn}{t:Nat}{os:OsState}{a:aI}{items:Array aB}{n:Nat}{sl}
theorem vI{Q:Fin->aH->Prop}(hx:h.get? a=some { cls:=.type "list",dict:=none,data:=.seq items n,slots:=sl })(hh:A.handled=none)
  (hq:∀h' x4 e,pP h h' e (.ref a) "keys"->E (.ref e) ⟨h',g,d,x4,os⟩):
  wpAny (model prog w) A (pD.«object.__getattribute__» ⟨[.ref a,.str "keys" tk],[]⟩) Q E ⟨h,g,d,t,os⟩:=by
 have hT:(⟨h,g,d,t,os⟩:aH).TypeIs (.ref a) "list":=⟨_,hx,rfl⟩;have f4:=zY
 repeat (any_goals (first|assumption|with_reducible refine wpAny_raiseAttrError hh (λh' x4 e k=>hq h' x4 e k) (by symm)|wp_step))
theorem xg{R:rM->aH->Prop}(hx:h.get? a=some { cls:=.type "list",dict:=none,data:=.seq items n,slots:=sl })(hh:A.handled=none)
  (hq:∀h' x4 e,pP h h' e (.ref a) "keys"->R (.error (.ref e)) ⟨h',g,d,x4,os⟩):
  codeAny (model prog w) A (.call (.builtin "list.__getattribute__") ⟨[.ref a,.str "keys" tk],[]⟩) R ⟨h,g,d,t,os⟩:=
 codeAny_call_builtin jZ.plain F.entry_list_ga (jZ.check _ _ _ _ _ _ _ _ (show(⟨h,g,d,t,os⟩:aH).TypeIs (.ref a) "list" from⟨_,hx,rfl⟩) (F.args_list_getattribute_2 _ _) (vI hx hh hq))
theorem zZ{Q:aB->aH->Prop}(hx:h.get? a=some { cls:=.type "list",dict:=none,data:=.seq items n,slots:=sl })(hh:A.handled=none)
  (hq:∀h' x4 e,pP h h' e (.ref a) "keys"->E (.ref e) ⟨h',g,d,x4,os⟩):
  wpAny (model prog w) A (getAttrBy (.ref a) (.str "keys" tk) false) Q E ⟨h,g,d,t,os⟩:=by
 have hT:(⟨h,g,d,t,os⟩:aH).TypeIs (.ref a) "list":=⟨_,hx,rfl⟩;have f2:=jZ.lookup;have f3:=jZ.bind (.ref a);have f4:=vH;have f5:=sub_AttributeError
 repeat (any_goals (first|assumption|wp_step))
 refine xg hx hh (λh' x4 e k=>?_)
 have hTe:(⟨h',g,d,x4,os⟩:aH).TypeIs (.ref e) "AttributeError":=by
  obtain⟨_,_,he⟩:=k.there;exact⟨_,he,rfl⟩
 repeat (any_goals (first|assumption|wp_step))
 exact hq _ _ _ k
theorem xh{Q:Option aB->aH->Prop}(hx:h.get? a=some { cls:=.type "list",dict:=none,data:=.seq items n,slots:=sl })(hh:A.handled=none)
  (hq:∀h' x4 e,pP h h' e (.ref a) "keys"->Q none ⟨h',g,d,x4,os⟩):
  wpAny (model prog w) A (getAttr? (.ref a) "keys") Q E ⟨h,g,d,t,os⟩:=by
 unfold getAttr? getAttrBy?;refine ax (wpAny_mkText (ax (vN (zZ hx hh (λh' x4 e k=>?_)))))
 have hTe:(⟨h',g,d,x4,os⟩:aH).TypeIs (.ref e) "AttributeError":=by
  obtain⟨_,_,he⟩:=k.there;exact⟨_,he,rfl⟩
 have f5:=sub_AttributeError;have hQ:=hq h' x4 e k
 repeat (any_goals (first|assumption|wp_step))
end
end PySem
namespace PySem.F
theorem j_:entryFor table "dict.update.loop"=some pD.«dict.update.loop»:=entryFor_of_tree (by kernel_rfl)
theorem gi:plainId "dict.update.loop"=true:=by symm
end PySem.F
namespace L2
open PySem PySem.Spec PyProof.Rows
variable{H:Hp}{d:ai}
section
variable{prog:bC}{w:bY}{A:dg}{R:rM->aH->Prop}{I:aI}{fp wr:List aI}{G:Array qW->Array qW->Prop}{n:Nat}{P:Nat->aB->Prop}{St:Nat->aH->Prop}
theorem Gy(W:WalksS prog w A.in1 I fp wr G n P St)(S:aI)(Ip:S∉fp)(T:Nat->cR->Prop)(keep:∀i h h',T i h->(∀b o,b∉wr->h.get? b=some o->h'.get? b=some o)->T i h')
  (add:∀i v (s:aH),i<n->P i v->T i s.heap->∃a x y,v=.ref a/\s.heap.IsTuple a #[x,y]/\∀(Q:Unit->aH->Prop)(E:aB->aH->Prop),(∀h' tk,s.toks<=tk->gY S s.heap h'->T (i+1) h'->Q () { s with heap:=h',toks:=tk })->wpAny (model prog w) A.in1 (dictSet S x y) Q E s):
  ∀(k i:Nat)(j:Int)(u:Tok)(s:aH),n-i=k->i<=n->St i s->T i s.heap->(∀s',Moved (S::wr) G s s'->T n s'.heap->R (.ok (.ret .none)) s')->
   codeAny (model prog w) A (.builtin "dict.update.loop" ⟨[.ref S,.ref I,.int j u,.none],[]⟩) R s:=by
 have hSw:S∉wr:=λh=>Ip (W.sub _ h)
 have Bg:∀b∈wr,b∈S::wr:=λb hb=>aR _ hb
 intro k
 induction k with
 |zero=>
  intro i j u s hk hi HQ hS hR;have SR:i=n:=by omega
  subst SR;refine kB F.j_ ?_
  rw[jd F.gi _];show wpAny _ A.in1 (pyNext (.ref I) >>= _) _ _ s;refine ax (W.done s _ _ HQ λs' hm=>?_)
  show wpAny _ A.in1 (pD.Dict.addKeywords S [] >>= _) _ _ s';refine ax (a9 ?_)
  exact a9 (hR s' (hm.mono Bg) (keep _ _ _ hS λb o hb e=>hm.heap b o hb e))
 |succ k ih=>
  intro i j u s hk hi HQ hS hR;have kA:i<n:=by omega
  refine kB F.j_ ?_
  rw[jd F.gi _];show wpAny _ A.in1 (pyNext (.ref I) >>= _) _ _ s;refine ax (W.item i s _ _ kA HQ λv s' hP PK hm=>?_)
  have F6:T i s'.heap:=keep _ _ _ hS λb o hb e=>hm.heap b o hb e
  obtain⟨a,x,y,rfl,⟨o,ho,hc,m,hd⟩,q⟩:=add i v s' kA hP F6;refine ax (mO ?_)
  refine ax (wpAny_tryCatch ?_)
  unfold pD.Dict.pairItems;refine ax (x8 (T:="tuple") ⟨_,ho,hc⟩ ?_)
  refine ax (f9 ho hd ?_)
  refine a9 ?_
  show wpAny _ A.in1 (holding [x,y] (dictSet S x y)) _ _ s';refine mO (q _ _ λh' tk Rj PL hT=>?_)
  refine a9 ⟨pK F.gi _,ih (i+1) _ _ _ (by omega) kA (W.frame _ s' _ _ PK Rj λb hb o e=>?_) hT λLh PN PQ=>?_⟩
  ·rw[PL.2 b (λh:b=S=>Ip (by rw[<-h];exact hb))];exact e
  ·refine hR Lh (Moved.trans W.gtrans ((hm.mono Bg).then_heap Rj λb o hb e=>?_) PN) PQ
   rw[PL.2 b (λh:b=S=>hb (by rw[h];exact aO))];exact e
end
section
variable{prog:bC}{w:bY}{A:dg}{E:aB->aH->Prop}{s:aH}
theorem yn{l:aI}{items:Array aB}{Q:aB->aH->Prop}(hh:A.handled=none)(hx:PlainL s.heap l items)(T:Nat->cR->Prop)
  (t0:∀h',h'.get? s.heap.objs.size=some { cls:=.type "dict",data:=.dict #[] }->(∀b o,s.heap.get? b=some o->h'.get? b=some o)->T 0 h')
  (keep:∀i h h' c,s.heap.objs.size<c->T i h->(∀b o,b≠c->h.get? b=some o->h'.get? b=some o)->T i h')
  (add:∀i v (s':aH),i<items.size->items[i]?=some v->T i s'.heap->∃a x y,v=.ref a/\s'.heap.IsTuple a #[x,y]/\∀(Q:Unit->aH->Prop)(E:aB->aH->Prop),(∀h' tk,s'.toks<=tk->gY s.heap.objs.size s'.heap h'->T (i+1) h'->Q () { s' with heap:=h',toks:=tk })->wpAny (model prog w) A.in1.in1 (dictSet s.heap.objs.size x y) Q E s')
  (h:∀(h':cR)(tk:Nat),T items.size h'->(∀b o,b<s.heap.objs.size->s.heap.get? b=some o->h'.get? b=some o)->Q (.ref s.heap.objs.size) { s with heap:=h',toks:=tk }):
  wpAny (model prog w) A (call (.type "dict") [.ref l]) Q E s:=by
 refine callType_codes (Q₁:=λobj s₁=>obj=.ref s.heap.objs.size/\s₁={ s with heap:=s.heap.push { cls:=.type "dict",data:=.dict #[] } }) F.kt_called_dict (F.kt_typeCall_dict_1 _) F.entry_dict_init (kt_code_dict_new _ ⟨rfl,rfl⟩) ?_
 rintro obj s₁ ⟨rfl,rfl⟩
 obtain⟨⟨Xh,N2,Ts,Ji⟩,m,ho,hc,Vr,hd⟩:=hx;simp only at hc Vr hd;subst hc Vr hd;have hS:(s.heap.push { cls:=.type "dict",data:=.dict #[] }).get? s.heap.objs.size=some { cls:=.type "dict",data:=.dict #[] }:=a8 _ rfl;have hT:aH.TypeIs { s with heap:=s.heap.push { cls:=.type "dict",data:=.dict #[] } } (.ref s.heap.objs.size) "dict":=⟨_,hS,rfl⟩
 have CJ:=ay (o:={ cls:=.type "dict",data:=.dict #[] }) ho;refine⟨hT,F.args_dict_init_2 _ _,?_⟩
 unfold pD.«dict.__init__»;refine ax ?_
 unfold pD.Dict.selfAndRest;refine ax (wpAny_notOrdered_dict hT ?_)
 show wpAny _ _ (pure (s.heap.objs.size,[cU l])) _ _ _;refine a9 ?_
 show wpAny _ _ (vE "dict.__init__" s.heap.objs.size (.ref l) [] .none) _ _ _;unfold vE;refine ax (x8 (T:="list") ⟨_,CJ,rfl⟩ ?_)
 rw[qQ3 (by decide)]
 refine ax (xh CJ (by simp[hh]) λh1 tk1 e ne=>?_)
 simp only[Option.isNone_none,if_true];refine ax (C6 ?_)
 have KW:h1.IsList l items:=⟨_,ne.keeps _ _ CJ,rfl,m,rfl⟩;refine ax (ly (s:={ s with heap:=h1,toks:=tk1 }) KW ?_)
 have Rq:h1.get? s.heap.objs.size=some { cls:=.type "dict",data:=.dict #[] }:=ne.keeps _ _ hS;have Ru:s.heap.objs.size<h1.objs.size:=aT Rq;have Tt:l<s.heap.objs.size:=aT ho;have Qn:l≠h1.objs.size:=aU (vA Tt Ru);have Ip:s.heap.objs.size∉[h1.objs.size,l]:=by
  simp only[av,aW,aX,or_false,not_or];exact⟨aU Ru,eL Tt⟩
 refine a9 ⟨pK F.gi _,?_⟩
 refine Gy ((Walks.list (by simp[hh]) h1.objs.size l Qn items).toS) s.heap.objs.size Ip T (λi h h' t k=>keep i h h' h1.objs.size Ru t λb o hb e=>k b o (by rwa [aW]) e) (λi v s' hi hv t=>add i v s' hi hv t) (items.size-0) 0 _ _ _ (by omega) (aV _)
  ⟨⟨_,a8 _ rfl,rfl,rfl⟩,(KW.push _)⟩ ?hS0 ?hR
 case hS0=>
  exact t0 _ (ay _ Rq) λb o e=>ay _ (ne.keeps _ _ (ay _ e))
 case hR=>
  intro s' hm F6;obtain⟨h',g',d',x4,Lg⟩:=s';have eg:g'=s.gens:=hm.gens;have ed:d'=s.drawn:=hm.drawn;have eo:Lg=s.os:=hm.os;subst eg;subst ed;subst eo;refine⟨rfl,h h' x4 F6 λb o hb e=>?_⟩
  have Xj:b≠s.heap.objs.size:=aU hb;have Xk:b≠h1.objs.size:=aU (vA hb Ru);exact hm.heap b o (by simp only[av,aW,aX,or_false,not_or];exact⟨Xj,Xk⟩) (ay _ (ne.keeps _ _ (ay _ e)))
end
section
variable{X:Cx}
end
section
variable{ε:Type}{X:Cx}{sc:kz}{own N:List Str}{cap:List Nat}{cl:List (Str×aI)}{tg elt iter:bP}{ifs:List bP}{δ:List Slot}{ds:List ai}{pos:Pos}{tgt:DB}{Er:Hp->V->ε->Prop}
end
section
variable{X:Cx}{a b c:bP}{δ:List Slot}{d:ai}{pos p:Pos}{k:Nat}{z1 z2:Str}
end
inductive sL:ai->Prop
 |non:sL .none
 |bl (b:Bool):sL (.bool b)
 |int (i:Int):sL (.int i)
 |str (x:Str):sL (.str x)
 |lst {ds:List ai}:(∀d∈ds,sL d)->sL (.list ds)
 |tup {ds:List ai}:(∀d∈ds,sL d)->sL (.tuple ds)
def tJ(H:Hp)(p:aI):Hp:=λq=>if q=p then none else H q
theorem kT{p q:aI}(h:q≠p):tJ H p q=H q:=qQ2 h
theorem Fh{p:aI}:tJ H p p=none:=qQ3 rfl
section
variable{K:ao}{H:Hp}{p:aI}{kvs:List (Key×V)}
theorem Rep.cut(hp:H p=some (.dK kvs)){v:V}(r:Rep K H v d):sL d->Rep K (tJ H p) v d:=by
 have ne:∀{a:aI}{o:HO},H a=some o->(∀k,o≠.dK k)->a≠p:=λe h z=>by
  subst z;rw[hp]at e;cases e;exact h _ rfl
 refine Rep.rec (motive_1:=λv d _=>sL d->Rep K (tJ H p) v d) (motive_2:=λxs ds _=>(∀d∈ds,sL d)->cu K (tJ H p) xs ds) ?_ ?_ ?_ ?_ ?_ ?_ ?_ ?_ ?_ ?_ ?_ ?_ r
 ·exact λ_=>.non
 ·exact λb _=>.bl b
 ·exact λi _=>.int i
 ·exact λx _=>.str x
 ·intro a xs ds h _ t n
  cases n with
  |lst n=>
   refine .lst ?_ (t n)
   rcases h with(h|⟨o,h⟩)|h
   ·exact .inl (.inl (by rw[kT (ne h (by intro k z;cases z))];exact h))
   ·exact .inl (.inr ⟨o,by rw[kT (ne h (by intro k z;cases z))];exact h⟩)
   ·exact .inr h
 ·intro a xs ds h _ t n
  cases n with
  |tup n=>
   refine .tup ?_ (t n)
   rcases h with(h|⟨o,h⟩)|h
   ·exact .inl (.inl (by rw[kT (ne h (by intro k z;cases z))];exact h))
   ·exact .inl (.inr ⟨o,by rw[kT (ne h (by intro k z;cases z))];exact h⟩)
   ·exact .inr h
 ·intro a kvs ds _ _ _ _ n;cases n
 ·intro a kvs ds _ _ _ _ n;cases n
 ·intro a C dx fs ds _ _ _ _ _ _ n;cases n
 ·intro a o kvs ds _ _ _ _ n;cases n
 ·exact λ_=>.nil
 ·intro x d xs ds _ _ a t n
  exact .cons (a (n d aO)) (t λd hd=>n d (aR _ hd))
theorem cu.cutD(hp:H p=some (.dK kvs)):∀{ds:List ai}{xs:List V},cu K H xs ds->(∀d∈ds,sL d)->cu K (tJ H p) xs ds
 | [],_,r,_=>by cases r;exact .nil
 |d::ds,_,r,n=>by cases r with|cons a t=>exact .cons (a.cut hp (n d aO)) (cu.cutD hp t λd hd=>n d (aR _ hd))
end
def mD(kv:List (Str×ai))(y:Str)(d:ai):List (Str×ai):=kv.map λq=>if q.1=y then(q.1,d)else q
theorem Fi{K:ao}{y:Str}{v:V}(r:Rep K H v d):∀{kv:List (Str×ai)}{kvs:List (Key×V)},(kv.map λp=>(aQ p.1,p.2)).map (·.1)=kvs.map (λp=>lJ p.1)->cu K H (kvs.map (·.2)) ((kv.map λp=>(aQ p.1,p.2)).map (·.2))->
  ((mD kv y d).map λp=>(aQ p.1,p.2)).map (·.1)=(kvs.map λq=>if q.1=a7 y then(q.1,v)else q).map (λp=>lJ p.1)/\cu K H ((kvs.map λq=>if q.1=a7 y then(q.1,v)else q).map (·.2)) (((mD kv y d).map λp=>(aQ p.1,p.2)).map (·.2))
 | [],[],_,_=>⟨rfl,.nil⟩
 | [],_::_,e,_=>by simp at e
 |_::_,[],e,_=>by simp at e
 |q::kv,z::kvs,e,t=>by
  simp only[aD,List.cons.injEq]at e;obtain⟨e1,e2⟩:=e;simp only[aD]at t;cases t with
  |cons a t=>
   obtain⟨g1,g2⟩:=Fi r (kv:=kv) (kvs:=kvs) e2 t;have ek:z.1=a7 q.1:=by
    obtain⟨k,u⟩:=z;cases k with
    |inl i=>cases e1
    |inr x=>cases e1;rfl
   unfold mD at g1 g2 ⊢;simp only[aD,ek,a7.injEq];by_cases h:q.1=y
   ·simp only[h,if_true]
    exact⟨by rw[g1];rfl,.cons r g2⟩
   ·simp only[h,if_false,ek]
    exact⟨by rw[g1];rfl,.cons a g2⟩
section
variable{X:Cx}{B0 B H0 H:Hp}{σ:St}{D:Ends}{δ:List Slot}{ev:bP}{d:ai}{pos px ps pk:Pos}{x y:Str}{k:Nat}{jk}
theorem Jq{st:List fH}(h:pF X st δ (.rt d))(f:gf X.K B0 B H0 H σ δ)(ok:∀v di H',dQ B0 B di H'->Rep X.K di v d->D.rt v H'):u9 X st D σ H:=h B0 B σ H0 H D f ok
def Kept(δ δ2:List Slot)(i:Nat)(d2:ai):Prop:=∀j sl,δ2[j]?=some sl->sl=.un\/(j=i/\sl=.val d2)\/(δ[j]?=some sl/\∃d,sl=.val d/\sL d)
theorem Qr{δ2:List Slot}(f:gf X.K B0 B H0 H σ δ)(hr:eE k X.A)(nb:∀b kvs,B0 b≠some (.dK kvs))(i:Nat){kv:List (Str×ai)}(hi:δ[i]?=some (.val (gq kv)))(hlen:δ2.length=δ.length)(hδ:Kept δ δ2 i (gq (mD kv y d)))(Xq:∀q∈kv,sL q.2)(hy:y∈kv.map (·.1))(hv:VE X ev δ d)(hd:sL d)(hl:kv.length<sizeLine)
  (q:∀di H',gf X.K B0 B di H' σ δ2->D.nx σ H')
  (hN:X.N[i]?=some x:=by rfl)(oI:AW X.env.scope x:=by first|exact aY rfl|exact b_ (aY rfl)|exact b_ (b_ rfl))(nB:(x==("__debug__":Str))=false:=by decide)(nQ:(x==("__classdict__":Str))=false:=by decide)
  (hs:swapsWith ev (some (.Subscript (.Name x px) (.Constant (.str y) jk pk) ps)) pos.line X.env=pure false:=by rfl):
  cS X (.Assign [.Subscript (.Name x px) (.Constant (.str y) jk pk) ps] ev pos) D σ H:=λpins s I=>by
 refine tj (Gm hr) (jN hN oI nB nQ) (ty:=cE X (.Constant (.str y) jk pk)) cX cX hs pins s σ H D I ?_
 refine hv B0 B σ H0 H _ f λv H1 dP g1 r1=>?_
 obtain⟨u,hu,ru⟩:=(f.grow g1).val hi;refine⟨u,hu,?_⟩
 refine(aM (X:=X) (δ:=δ)) B0 B σ H1 dP _ (f.grow g1) λt H2 h8 g2 r2=>?_
 cases r2;have f2:=(f.grow g1).grow g2;have Qg:=ru.mono g2.fA;have KY:=r1.mono g2.fA;obtain⟨a,kvs,rfl,ha,NS,Mq⟩:=Qg.k9;have hk:(kv.map λp=>(aQ p.1,p.2)).map (·.1)=kvs.map (λp=>lJ p.1):=by
  have e:=qQ6 (oY lJ) NS;rw[aL,aL]at e;rw[aL];exact e.symm
 have ZK:cu X.K H2 (kvs.map (·.2)) ((kv.map λp=>(aQ p.1,p.2)).map (·.2)):=by
  rw[aL];exact Mq
 ·have TJ:kvs.length=kv.length:=by
   have:=qQ6 gw hk;simp only[aj]at this;exact this.symm
  have TK:B a=none:=by
   rcases f2.ent.new a (by rw[ha];simp)with z|z
   ·cases e:B0 a with
    |none=>exact qQ7 e z
    |some o=>
     have:=f2.ent.fA _ _ e;rw[ha]at this;cases this;exact qQ7 e (nb a kvs)
   ·exact z
  have Qs:B0 a=none:=by
   cases e:B0 a with
   |none=>rfl
   |some o=>
    have:=f2.ent.fA _ _ e;rw[ha]at this;cases this;exact qQ7 e (nb a kvs)
  refine⟨a,_,rfl,wH.k (k:=a7 y) (f2.sub _ _ ha) (by omega),?_⟩
  have Xr:(kvs.any λz=>decide (z.1=(a7 y:Key)))=true:=by
   rw[jx];obtain⟨w,hw,rfl⟩:=aE.mp hy;have hm:aQ w.1∈kvs.map (λp=>lJ p.1):=by
    rw[<-hk,aL];exact aE.mpr ⟨w,hw,rfl⟩
   obtain⟨z,hz,ez⟩:=aE.mp hm;refine⟨z,hz,qQ1 ?_⟩
   obtain⟨k,u⟩:=z;cases k with
   |inl i=>cases ez
   |inr x=>cases ez;rfl
  have Qt:putK kvs (a7 y) v=kvs.map λz=>if z.1=a7 y then(z.1,v)else z:=by
   unfold putK;rw[qQ3 Xr]
  rw[Qt]
  generalize Gz:(kvs.map λz=>if z.1=(a7 y:Key) then(z.1,v)else z)=Jr
  have Qu:cu X.K (tJ H2 a) (kvs.map (·.2)) ((kv.map λp=>(aQ p.1,p.2)).map (·.2)):=ZK.cutD ha λd hd=>by
   simp only[aL,aE,Function.comp]at hd;obtain⟨w,hw,rfl⟩:=hd;exact Xq w hw
  obtain⟨p1,p2⟩:=Fi (y:=y) (KY.cut ha hd) hk Qu;rw[Gz]at p1 p2;have TL:dC (tJ H2 a) (upd (tJ H2 a) a (.dK Jr)):=λb o e=>by
   rw[aN (λz=>by subst z;rw[Fh]at e;cases e)];exact e
  refine q (upd (tJ H2 a) a (.dK Jr)) _ ⟨⟨?_,?_,?_,?_⟩,by rw[hlen];exact f2.len,λj sl e=>?_,λj l ds es p Qv e1 e2 e3=>?_⟩
  ·intro b o e
   rw[aN (bG e TK)];exact f2.ent.big _ _ e
  ·intro b o e
   have hb:=bG e Qs;rw[aN hb,kT hb];exact f2.ent.fA _ _ e
  ·intro b o e
   by_cases hb:b=a
   ·subst hb;rw[bB]at e ⊢;exact e
   ·rw[aN hb]at e ⊢;rw[kT hb]at e;exact f2.sub _ _ e
  ·intro b e
   by_cases hb:b=a
   ·subst hb;exact .inr TK
   ·rw[aN hb,kT hb]at e;exact f2.ent.new b e
  ·rcases hδ j sl e with rfl|⟨rfl,rfl⟩|⟨e',dd,rfl,hn⟩
   ·trivial
   ·exact⟨.ref a,hu,.dct bB p1 (p2.mono TL)⟩
   ·obtain⟨vv,h1,h2⟩:=f2.slot j _ e'
    exact⟨vv,h1,(h2.cut ha hn).mono TL⟩
  ·exfalso
   rcases hδ j _ e1 with z|⟨_,z⟩|⟨_,dd,z,_⟩<;>cases z
end
end L2
namespace L2
open PySem
section
variable{M:Model}{A:dg}{E:aB->aH->Prop}{s:aH}
end
section
variable{prog:bC}{w:bY}{A:dg}{E:aB->aH->Prop}{R:rM->aH->Prop}{h:cR}{g:Array qW}{d:Drawn}{t:Nat}{os:OsState}
variable{nm q:Str}{C N:aI}{bs bm bmB:List aB}{Xs:Bool}{sn:List Str}{sub:List aB}{ab:Bool}{col:Option Bool}{dd:Option aI}{k0 k1 k2 k3 k5:Option aB}{B newId Qw:String}
end
end L2
namespace L2
open PySem PySem.Spec PyProof.Rows
section
variable{prog:bC}{w:bY}{A:dg}{E:aB->aH->Prop}{R:rM->aH->Prop}{h:cR}{g:Array qW}{d:Drawn}{t:Nat}{os:OsState}
variable{nm q:Str}{C N e t0:aI}{bs bm bmB:List aB}{Xs:Bool}{sn:List Str}{sub:List aB}{ab:Bool}{col:Option Bool}{dd dx:Option aI}{k0 k1 k2 k3 k5:Option aB}{B newId Qw:String}{sl:Array (Option aB)}
end
section
variable{prog:bC}{w:bY}{A:dg}{E:aB->aH->Prop}{s:aH}{K:ao}{C e t0 dx:aI}{sl:Array (Option aB)}{name:Str}{v:aB}{mA:Str->Option aB}
end
section
variable{X:Cx}{pins:List (aI×Obj)}{σ:St}{H:Hp}{s:aH}{C e dx:aI}{f:Str}{y:V}{u:aB}{fs:List (Str×V)}{A:dg}{E:aB->aH->Prop}
end
section
variable{X:Cx}{o value a1 a2:bP}{f x y:Str}{pos pos' p p2 ap p3 p4:Pos}{j4:Nat}{ta tv:TE}{C M dx:aI}{i:Nat}
end
section
variable{X:Cx}{CX:Hw}{k:Nat}{f C:aI}{fd:fe}{ps:List Str}{sp:Sp}{E:XK}
end
section
variable{H:Hp}{ex:List aI}{e T b:aI}{o1 o2:HO}
end
section
variable{P:bC}{w:bY}{fs ex:List aI}{H0 H:Hp}{h0 h h':cR}{L e T:aI}{oe:Obj}{o1 o2:HO}
end
section
variable{P:bC}{w:bY}{K:ao}{mg:Str->Option aB}{base:cR}{N:List Str}{qual:Str}{scope:kz}{f:aI}{cd:aB}{A:dg}{outer:List Env}{s0:aH}{H0:Hp}{E:XK}
variable{pins:List (aI×Obj)}{σ:St}{H:Hp}{s:aH}
end
section
variable{X:Cx}{B0 B H0 H:Hp}{σ:St}{D:Ends}{δ:List Slot}{a1 a2 tg iter:bP}{p:Int}{wd x y:Str}{np ot pos:Pos}{k:Nat}{fI C:aI}{fd:fe}{body:List fH}{ds:List ai}
end
section
variable{M:Model}{A:dg}{E:aB->aH->Prop}{s:aH}
end
section
variable{X:Cx}{pins:List (aI×Obj)}{σ:St}{H:Hp}{s:aH}{C M e dx T:aI}{E:aB->aH->Prop}
end
section
variable{X:Cx}{B0 B H0 H:Hp}{σ:St}{D:Ends}{δ:List Slot}{pins:List (aI×Obj)}{s:aH}
end
section
variable{X:Cx}{CX:Hw}{k:Nat}{f:aI}{fd:fe}{ps:List Str}{sp:Sp}{E:XK}{Ex:aB->aH->Prop}
end
section
variable{X:Cx}{B0 B H0 H:Hp}{σ:St}{D:Ends}{δ:List Slot}{C M fa:aI}{fd:fe}{ps:List Str}{ds:List ai}{R:List ai->Int->Str->Prop}{k jn jc:Nat}{p:Int}{wd y g xM n xc:Str}{a:bP}{as:List bP}{p1 p2 p3 p4 p5 p6 p7 p8 hp pos:Pos}
end
end L2
namespace L2
open PySem PySem.Spec PyProof.Rows PySem.W
section
variable{prog:bC}{w:bY}{A:dg}{E:aB->aH->Prop}{s:aH}{K:ao}{x C:aI}{ox:Obj}{od:Option Obj}{name:Str}
end
end L2
namespace L2
open PySem PySem.Spec PyProof.Rows
variable{a:aI}{b:Bool}{kv:List (Str×ai)}{d:ai}{K:ao}{y:Str}
section
variable{X:Cx}{pins:List (aI×Obj)}{σ:St}{H H':Hp}{s:aH}{e C:aI}{p:Int}{wd f x:Str}
end
section
variable{X:Cx}{δ:List Slot}{pos px:Pos}{a b e:bP}{x:Str}{d:ai}{ds:List ai}{k:Int}{j:Nat}
end
section
variable{X:Cx}{sc:kz}{own N:List Str}{cap:List Nat}{cl:List (Str×aI)}{tg elt iter:bP}{ifs:List bP}{δ:List Slot}{ds rs:List ai}{pos px yh:Pos}{tgt:DB}{x:Str}
end
section
variable{X:Cx}{δ:List Slot}{pos px p:Pos}{a e:bP}{x:Str}{d:ai}
theorem Qx:mw K (λxs H Q=>(∃i,xs=[.int i]/\Q (.int i) H)\/∃k,xs=[.bl k]/\Q (.int (if k then 1 else 0)) H) [.bool b] (.int (if b then 1 else 0)):=λvs H0 H Q s r k=>by
 obtain⟨v,rfl,rv⟩:=r.one;cases rv;exact .inr ⟨b,rfl,k _ _ _ (.refl s) (.int _)⟩
theorem Mr(h:VE X a δ (.bool b))(hm:X.mg "int"=none)(hg:Gl X "int":=by rfl)(hs:starEach [a] X.env=(false,eval a X.env)::starEach [] X.env:=by rfl):VE X (.Call (.Name "int" p) [a] [] pos) δ (.int (if b then 1 else 0)):=jg FV Qx (aq h aZ hs) hm rfl hg (he:=hs)
end
def tK(kv:List (Str×ai))(y:Str)(d:ai):List (Str×ai):=if(kv.any λq=>decide (q.1=y))=true then mD kv y d else kv ++ [(y,d)]
def DR(K:ao)(a:aI)(kv:List (Str×ai)):OR:=λH0 H as=>as=[a]/\∃kvs:List (Key×V),H a=some (.dK kvs)/\kvs.map (·.1)=kv.map (λp=>(a7 p.1:Key))/\cu K H0 (kvs.map (·.2)) (kv.map (·.2))
theorem DR.mono:lG (DR K a kv):=λH0 H Ha Hb as ⟨e,kvs,h1,h2,h3⟩ sm hb=>⟨e,kvs,by rw[hb a (by rw[e];simp)];exact h1,h2,h3.mono sm⟩
theorem DR.rep(Ha Hb:Hp)(as:List aI)(s:dC Ha Hb)(h:DR K a kv Ha Hb as):Rep K (qm as Hb Ha) (.ref a) (gq kv):=by
 obtain⟨e,kvs,h1,h2,h3⟩:=h;refine .dct (kvs:=kvs) (by rw[oH (by rw[e];simp)];exact h1) ?_ ?_
 ·have e2:=qQ6 (oY lJ) h2
  rw[aL,aL]at e2;rw[aL];exact e2.symm
 ·rw[aL]
  exact h3.mono (nW s)
theorem Fj:∀{kv:List (Str×ai)}{kvs:List (Key×V)},kvs.map (·.1)=kv.map (λp=>(a7 p.1:Key))->(kvs.any λz=>decide (z.1=(a7 y:Key)))=kv.any λq=>decide (q.1=y)
 | [],[],_=>rfl
 | [],_::_,e=>by simp at e
 |_::_,[],e=>by simp at e
 |q::kv,z::kvs,e=>by
  rw[aD,aD]at e
  injection e with e1 e2
  rw[gx,gx,Fj e2,e1]
  congr 1
  by_cases h:q.1=y
  ·rw[qQ1 h,qQ1 (by rw[h])]
  ·rw[qQ0 h,qQ0 λz=>h (kZ z)]
theorem Js{H:Hp}{v:V}(r:Rep K H v d):∀{kv:List (Str×ai)}{kvs:List (Key×V)},kvs.map (·.1)=kv.map (λp=>(a7 p.1:Key))->cu K H (kvs.map (·.2)) (kv.map (·.2))->
  (kvs.map λq=>if q.1=a7 y then(q.1,v)else q).map (·.1)=(mD kv y d).map (λp=>(a7 p.1:Key))/\cu K H ((kvs.map λq=>if q.1=a7 y then(q.1,v)else q).map (·.2)) ((mD kv y d).map (·.2))
 | [],[],_,_=>⟨rfl,.nil⟩
 | [],_::_,e,_=>by simp at e
 |_::_,[],e,_=>by simp at e
 |q::kv,z::kvs,e,t=>by
  rw[aD,aD]at e t
  injection e with e1 e2
  cases t with
  |cons a t=>
   obtain⟨g1,g2⟩:=Js r e2 t;unfold mD at g1 g2 ⊢;rw[aD,aD,aD,aD,aD,aD];by_cases h:q.1=y
   ·have hz:z.1=(a7 y:Key):=by rw[e1,h]
    rw[qQ3 h,qQ3 hz,g1];exact⟨by rw[e1],.cons r g2⟩
   ·have hz:¬z.1=(a7 y:Key):=λz'=>h (kZ (e1.symm.trans z'))
    rw[qQ2 h,qQ2 hz,g1];exact⟨by rw[e1],.cons a g2⟩
theorem Fk{H:Hp}{v:V}(r:Rep K H v d){kvs:List (Key×V)}(h1:kvs.map (·.1)=kv.map (λp=>(a7 p.1:Key)))(h2:cu K H (kvs.map (·.2)) (kv.map (·.2))):
  (putK kvs (a7 y) v).map (·.1)=(tK kv y d).map (λp=>(a7 p.1:Key))/\cu K H ((putK kvs (a7 y) v).map (·.2)) ((tK kv y d).map (·.2)):=by
 unfold putK tK;rw[Fj h1]
 split
 ·exact Js r h1 h2
 ·rw[bx,bx,bx,bx,h1]
  exact⟨rfl,h2.append (.cons r .nil)⟩
section
variable{K:ao}{B0 B H0 H:Hp}{σ:St}{δ:List Slot}{R:OR}{d:ai}{p:aI}
end
section
variable{X:Cx}{B0 B H0 H:Hp}{σ:St}{D:Ends}{δ:List Slot}{a:aI}{ek ev:bP}{d:ai}{pos px pd ps:Pos}{x y:Str}{kv:List (Str×ai)}{k:Nat}
theorem Qy(f:gf X.K B0 B H0 H σ δ)(i:Nat)(hN:X.N.Nodup)(hn:∀p,noOwn (δ.set i (.ref p))=true)(q:∀p σ' H',OF X.K B0 B (DR X.K p []) H0 H' σ' (δ.set i (.ref p))->D.nx σ' H')
  (hi:X.N[i]?=some x:=by rfl)(hx:Loc X.env.scope x:=by first|exact aY rfl|exact b_ rfl)(hs:swapsWith (.Dict [] [] pd) (some (.Name x px)) pos.line X.env=pure false:=by rfl)(hf:X.fn x=true\/X.env.scope.names.lookup x=some .local:=by first|exact .inl rfl|exact .inr rfl):
  cS X (.Assign [.Name x px] (.Dict [] [] pd) pos) D σ H:=λpins s I=>by
 refine rQ (i:=i) hN hi hx pZ hs hf pins s σ H D I λp hp=>?_
 refine q p _ _ ⟨(f.grow (.loose f.sub hp)).mD (v:=.ref p) (sl:=.ref p) rfl rfl,hn p,[p],λb hb=>?_,rfl,[],bB,rfl,.nil⟩
 rw[aW.mp hb];exact⟨f.sub.free hp,f.ent.big.free hp,by rw[bB];simp⟩
theorem Qz(G:OF X.K B0 B (DR X.K a kv) H0 H σ δ)(hr:eE k X.A)(i:Nat)(hi:δ[i]?=some (.ref a))(hk:VE X ek δ (.str y))(hv:VE X ev δ d)(hl:kv.length<sizeLine)(q:∀di H',OF X.K B0 B (DR X.K a (tK kv y d)) di H' σ δ->D.nx σ H')
  (hN:X.N[i]?=some x:=by rfl)(oI:AW X.env.scope x:=by first|exact aY rfl|exact b_ (aY rfl)|exact b_ (b_ rfl))(nB:(x==("__debug__":Str))=false:=by decide)(nQ:(x==("__classdict__":Str))=false:=by decide)
  (hs:swapsWith ev (some (.Subscript (.Name x px) ek ps)) pos.line X.env=pure false:=by rfl):
  cS X (.Assign [.Subscript (.Name x px) ek ps] ev pos) D σ H:=λpins s I=>by
 refine tj (Gm hr) (jN hN oI nB nQ) cX cX hs pins s σ H D I ?_
 refine hv H0 H σ H0 H _ G.own λv H1 dP g1 r1=>?_
 have G1:=G.go DR.mono (G.own.grow g1) G.no;refine⟨.ref a,G1.fr.slot i _ hi,hk H1 dP σ H1 dP _ G1.own λu H2 h8 g2 r2=>?_⟩
 cases r2;have G2:=G1.go DR.mono (G1.own.grow g2) G1.no;obtain⟨as,h1,e,kvs,ha,LY,Bs⟩:=G2.ex;subst e;obtain⟨p1,p2⟩:=Fk (y:=y) (r1.mono g2.fA) LY Bs;obtain⟨z1,z2,z3⟩:=h1 a (by simp)
 have hlen:kvs.length=kv.length:=by have:=qQ6 gw LY;simpa using this
 refine⟨a,_,rfl,wH.k (k:=a7 y) ha (by omega),q H2 _ ⟨G2.fr.touch z1 z2 (mB G2.no),G2.no,[a],λb hb=>?_,rfl,_,bB,p1,p2⟩⟩
 rw[aW.mp hb];exact⟨z1,z2,by rw[bB];simp⟩
end
section
variable{X:Cx}{a b:bP}{δ:List Slot}{pos oE p p2:Pos}
end
end L2
namespace PySem
open Sem (wp)
section
variable{prog:bC}{w:bY}{A:dg}{E:aB->aH->Prop}{s:aH}{r:aI}{a b c:Int}{t u v:Tok}{n:Nat}
end
section
variable{prog:bC}{w:bY}{A:dg}{E:aB->aH->Prop}{s:aH}{r:aI}{a b c:Int}{t u v:Tok}{n:Nat}
end
end PySem
namespace L2
open PySem PySem.Spec PyProof.Rows
variable{a r:aI}{items:Array aB}{H:Hp}{kvs:List (Key×V)}{kv l:List (Str×ai)}{elts:List bP}{tp:Pos}{F:ai->Option Str}{K:ao}{tgt:DB}{Q:aB->aH->Prop}{w:bY}
section
variable{X:Cx}{a b:bP}{δ:List Slot}{pos oE p p2:Pos}
end
section
variable{X:Cx}{B0 B H0 H:Hp}{σ:St}{D:Ends}{body:List fH}{tg iter:bP}{ds:List ai}{pos:Pos}
theorem Jt(Rs:Nat->OR)(δs:Nat->List Slot)(m:∀k,lG (Rs k))(G:OF X.K B0 B (Rs 0) H0 H σ (δs 0))(hp:uN (model X.prog X.w) X.A X.env X.xe)(hc:X.calm=true)(hi:VI X tg iter (δs 0) ds)(hg:PG X tg (HC X.K tgt))
  (step:∀k d,ds[k]?=some d->∃δ',uq tgt d (δs k)=some δ'/\noOwn δ'=true/\∀(D:Ends)C0 σ' di H',OF X.K C0 B (Rs k) di H' σ' δ'->(∀σ2 Ha Hb,OF X.K C0 B (Rs (k+1)) Ha Hb σ2 (δs (k+1))->D.nx σ2 Hb)->u9 X body D σ' H')
  (q:∀σ2 Ha Hb,OF X.K B0 B (Rs ds.length) Ha Hb σ2 (δs ds.length)->D.nx σ2 Hb)
  (hs:∀x,foldedSetIterable iter X.env x=pure x:=by intro _;rfl):cS X (.For tg iter body [] pos) D σ H:=λpins s I=>by
 obtain⟨wi,pi,qi⟩:=hi;refine wq hp hc pi hg j7 hs pins s σ H D I ?_
 refine qi H0 H σ H0 H _ G.own λJ H1 dP g it=>?_
 have G1:=G.go (m 0) (G.own.grow g) G.no;refine⟨λi mm σ' H'=>i<=ds.length/\mm=ds.length-i/\∃Ha,OF X.K H1 B (Rs i) Ha H' σ' (δs i),⟨ds.length,aV _,rfl,H1,G1.from ⟨G1.fr.ent.big,dC.refl _,G1.fr.sub,λ_ z=>.inl z⟩⟩,?_⟩
 rintro i mm σ' H' ⟨hi,rfl,Ha,Ga⟩
 obtain⟨i1,i2,i3⟩:=it Ha H' Ga.fr.ent.fA Ga.fr.sub i;by_cases kA:i<ds.length
 ·have hd:ds[i]?=some ds[i]:=by simp[kA]
  obtain⟨δ',e1,e2,e3⟩:=step i _ hd;refine .inr ⟨i1 kA,λσ'' uZ=>∃Hb,OF X.K H1 B (Rs (i+1)) Hb uZ σ'' (δs (i+1)),λσ'' uZ ⟨Hb,z⟩=>⟨ds.length-(i+1),by omega,kA,rfl,Hb,z⟩,λv H2 y=>?_⟩
  obtain⟨Hb,g2,rx⟩:=i3 v H2 _ hd y;refine my (Ga.own.grow g2) rx e1 λσ3 f3=>?_
  exact e3 _ H1 σ3 Hb H2 (Ga.go (m i) f3 e2) λσ2 Hc Hd z=>⟨Hc,z⟩
 ·have e:i=ds.length:=by omega
  subst e;refine .inl ⟨i2 (aA _),q σ' Ha H' (Ga.from ⟨Ga.fr.ent.big,G1.fr.ent.fA.trans Ga.fr.ent.fA,Ga.fr.sub,λb z=>?_⟩)⟩
  rcases Ga.fr.ent.new b z with z|z
  ·exact G1.fr.ent.new b z
  ·exact .inr z
end
def ka(kvs:List (Key×V))(l:List (Key×V)):List (Key×V):=l.foldl (λkvs q=>putK kvs q.1 q.2) kvs
theorem qo:∀(l kvs:List (Key×V)),(ka kvs l).length<=kvs.length+l.length
 | [],kvs=>aA _
 |q::l,kvs=>by
  have h1:=qo l (putK kvs q.1 q.2);have h2:=k7 kvs q.1 q.2
  show(ka (putK kvs q.1 q.2) l).length<=kvs.length+(l.length+1)
  omega
theorem z8(kvs l:List (Key×V))(q:Key×V):ka kvs (l ++ [q])=putK (ka kvs l) q.1 q.2:=by
 unfold ka;rw[eA];rfl
theorem qp:∀(l kvs:List (Key×V)),((kvs++l).map (·.1)).Nodup->ka kvs l=kvs++l
 | [],kvs,_=>(du _).symm
 |q::l,kvs,h=>by
  have hn:(kvs.any λz=>decide (z.1=q.1))=false:=by
   rw[uO];intro z hz e;have e:=qQ4 e;rw[bx,aD,fk]at h;exact h.2.2 z.1 (aE.mpr ⟨z,hz,rfl⟩) q.1 aO e
  have hp:putK kvs q.1 q.2=kvs ++ [q]:=by unfold putK;rw[hn,qQ2 cq]
  show ka (putK kvs q.1 q.2) l=_;rw[hp,qp l (kvs ++ [q]) (by rw[eu];exact h),eu]
  rfl
section
variable{X:Cx}
def Ju(K:ao):List V->Hp->VK->Prop:=λxs H Q=>∃(p:aI)(qs:List (aI×Key×V)),xs=[.ref p]/\jV K H p (qs.map λq=>.ref q.1)/\
 (∀q∈qs,mQ K H q.1 [kV q.2.1,q.2.2])/\∀l,H l=none->Q (.ref l) (upd H l (.dK (ka [] (qs.map (·.2)))))
theorem nX(hc:X.calm=true):jD X (.type "dict") (Ju X.K):=by
 intro pins s σ H xs us Q I r h;obtain⟨p,qs,rfl,hp,hqs,q⟩:=h;obtain⟨u,rfl,rx⟩:=vals1 r;cases rx;obtain⟨its,rv,pl,hz⟩:=I.list hp;have Xl:=rv.length;simp only[aj]at Xl hz;have hsz:its.toArray.size=qs.length:=by simp only[bD];omega
 refine yn (I.ok.hd hc) pl (λi h=>(∀b o,s.heap.get? b=some o->h.get? b=some o)/\∃vs,KV (ka [] ((qs.take i).map (·.2))) vs/\h.DictOf (eY X.prog X.w) s.heap.objs.size vs)
  (λh' e k=>⟨k,[],.nil,?_⟩) (λi h h' c hc ⟨k1,vs,kv,dd⟩ k=>?_) (λi v s' hi hv ⟨k1,vs,kv,dd⟩=>?_) (λh' tk ⟨k1,vs,kv,dd⟩ _=>?_)
 ·exact⟨_,#[],0,e,⟨rfl,rfl,rfl⟩,rfl,(by intro _ h;exact nomatch h),.nil,mW⟩
 ·obtain⟨o,es,ep,ho,rest⟩:=dd
  exact⟨λb o e=>k b o (aU (vA (aT e) hc)) (k1 b o e),vs,kv,o,es,ep,k _ _ (aU hc) ho,rest⟩
 ·rw[hsz]at hi
  have HW:its[i]?=some v:=by simpa using hv
  have Vs:qs[i]?=some qs[i]:=au hi
  generalize qs[i]=q0 at Vs
  obtain⟨u0,ZL,ru0⟩:=rv.get (i:=i) (x:=.ref q0.1) (by rw[aF,Vs];rfl)
  rw[HW]at ZL;cases ZL;cases ru0;obtain⟨it2,KY,pl2,_⟩:=I.tuple (hqs q0 (bh Vs));obtain⟨u1,u2,rfl,r1,r2⟩:∃u1 u2,it2=[u1,u2]/\RelV (kV q0.2.1) u1/\RelV q0.2.2 u2:=by
   cases KY with|cons a t=>cases t with|cons b t2=>cases t2;exact⟨_,_,rfl,a,b⟩
  obtain⟨o2,Rk,TN⟩:=pl2;refine⟨q0.1,u1,u2,rfl,⟨o2,k1 _ _ Rk,TN⟩,λQ' E' q'=>?_⟩
  have Xm:qs.take (i+1)=qs.take i ++ [q0]:=by rw[cV,Vs];rfl
  have KZ:vs.length<=sizeLine:=by
   have e1:=kv.length;have e2:=qo ((qs.take i).map (·.2)) []
   simp only[cp,aj,dz,pN]at e2;omega
  refine wpAny_dictSet_pairs (pY r1) dd (λh' Hz sb=>q' h' _ (eM _ _) sb ⟨λb o e=>?_,_,?_,Hz⟩) KZ
  ·rw[sb.2 b (aU (aT e))]
   exact k1 b o e
  ·rw[Xm,bx,aD,eJ,z8]
   exact kv.put q0.2.1 r2
 ·rw[hsz,jw]at kv
  have hlen:=qo (qs.map (·.2)) []
  simp only[cp,aj,pN]at hlen;exact⟨.ref s.heap.objs.size,_,I.laid (o:=.dK (ka [] (qs.map (·.2)))) k1 (aA _) (zL (by omega) (beq_eq_false_iff_ne.mpr (bV (aU I.big))) kv dd),rfl,q _ (I.hok.fresh (aA _))⟩
def pairD(q:Str×ai):ai:=.tuple [.str q.1,q.2]
theorem Bt:∀{l:List (Str×ai)}{xs:List V},cu K H xs (l.map pairD)->∃qs:List (aI×Key×V),xs=qs.map (λq=>.ref q.1)/\(∀q∈qs,mQ K H q.1 [kV q.2.1,q.2.2])/\qs.map (·.2.1)=l.map (λp=>(a7 p.1:Key))/\cu K H (qs.map (·.2.2)) (l.map (·.2))
 | [],_,.nil=>⟨[],rfl,(by intro _ h;cases h),rfl,.nil⟩
 |q::l,_,.cons a r=>by
  obtain⟨qs,e1,e2,e3,e4⟩:=Bt r;cases a with
  |tup hq rs=>
   cases rs with
   |cons b rs=>
    cases b;cases rs with
    |cons c rs=>
     cases rs;refine⟨(_,.inr q.1,_)::qs,by rw[e1];rfl,λz hz=>?_,by rw[aD,aD,e3],.cons c e4⟩
     rcases av.mp hz with rfl|hz
     ·exact hq
     ·exact e2 z hz
theorem Ms(hn:(l.map (·.1)).Nodup):mw K (Ju K) [.list (l.map pairD)] (gq l):=λvs H0 H Q s r k=>by
 obtain⟨v,rfl,rv⟩:=r.one;cases rv with
 |lst hq rs=>
  obtain⟨qs,e1,e2,e3,e4⟩:=Bt rs;subst e1;have hnn:((qs.map (·.2)).map (·.1)).Nodup:=by
   rw[aL]
   show(qs.map (·.2.1)).Nodup
   rw[e3,show(l.map λp=>(a7 p.1:Key))=(l.map (·.1)).map (a7:Str->Key) by rw[aL];rfl]
   exact yy _ (λa b Jh z=>Jh (kZ z)) hn
  refine⟨_,qs,rfl,s.seq hq,λq Dr=>s.mU (e2 q Dr),λp hp=>?_⟩
  rw[qp _ [] (by rw[iJ];exact hnn),iJ]
  have g:=dQ.laid s (o:=.dK (qs.map (·.2))) hp
  refine k (.ref p) _ _ g (.dct (kvs:=qs.map (·.2)) bB ?_ ?_)
  ·have e:=qQ6 (oY lJ) e3
   simp only[aL]at e ⊢;exact e.symm
  ·simp only[aL]
   exact e4.mono g.fA
end
section
variable{X:Cx}{a:bP}{δ:List Slot}{pos p:Pos}
theorem Bu(h:VE X a δ (.list (l.map pairD)))(hn:(l.map (·.1)).Nodup)(hc:X.calm=true)(hm:X.mg "dict"=none)(hg:Gl X "dict":=by rfl)(hs:starEach [a] X.env=(false,eval a X.env)::starEach [] X.env:=by rfl):VE X (.Call (.Name "dict" p) [a] [] pos) δ (gq l):=jg (nX hc) (Ms hn) (aq h aZ hs) hm rfl hg (he:=hs)
end
section
variable{K:ao}{H:Hp}{v:V}
end
section
variable{X:Cx}{pins:List (aI×Obj)}{σ:St}{H:Hp}{s:aH}{a:aI}{ws:List (Key×V)}
end
section
variable{X:Cx}{e:bP}{δ δ':List Slot}{es:List ai}{kvs:List (Str×ai)}
end
section
variable{X:Cx}{pins:List (aI×Obj)}{σ:St}{H:Hp}{s:aH}{a it:aI}{kvs:List (Key×V)}{o:Obj}{es:Array uP}{ep:Nat}
end
section
variable{X:Cx}{tg a b:bP}{δ:List Slot}{d:ai}{kvs:List (Str×ai)}{pos p:Pos}{k:Nat}{x:Str}
end
section
variable{X:Cx}{pins:List (aI×Obj)}{σ:St}{H:Hp}{s:aH}{A:dg}
end
abbrev UR:=Hp->V->Hp->Hp->Prop
section
variable{X:Cx}{st:fH}{rest body orelse:List fH}{δ δ':List Slot}{o:Out}{a b c e:bP}{d:ai}{ds:List ai}{pos px:Pos}{x:Str}{w:Str}
def VU(X:Cx)(e:bP)(δ:List Slot)(U:UR):Prop:=∀B0 B σ H0 H Q,gf X.K B0 B H0 H σ δ->(∀v di H',dQ H0 H di H'->U H v di H'->Q v H')->cE X e σ H Q
def uT(K:ao)(w:Str)(ds:List ai):UR:=λB v H0 H=>∃t p xs,v=.ref t/\B t=none/\H0 t=none/\B p=none/\H0 p=none/\H t=some (.tup [.str w,.ref p])/\H p=some (.lst xs)/\cu K H0 xs ds
theorem Mt{x1}(h1:VE X a δ (.str w))(h2:VO X b δ ds)(hs:starEach [a,b] X.env=(false,eval a X.env)::starEach [b] X.env:=by rfl)(pV:starEach [b] X.env=(false,eval b X.env)::starEach [] X.env:=by rfl):VU X (.Tuple [a,b] x1 pos) δ (uT X.K w ds):=λB0 B σ H0 H Q f q pins s I=>
 zF (ej cX (ej cX fK pV) hs) pins s σ H Q I (h1 B0 B σ H0 H _ f λv H1 dP g r=>h2 B0 B σ H1 dP _ (f.grow g) λp xs H2 h8 g2 a1 a2 a3 a4=>⟨by show 2<=sizeLine;rw[d_];decide,λt ht=>by
  cases r;have gg:=g.trans g2;have ntp:p≠t:=bG a3 ht;exact q _ H2 _ (gg.trans (.loose g2.sub ht)) ⟨t,p,xs,rfl,gg.big.free ht,g2.sub.free ht,g.big.free a1,a2,bB,by rw[aN ntp];exact a3,a4⟩⟩)
end
section
variable{X:Cx}{B0 B H0 H:Hp}{σ:St}{D:Ends}{δ δ2:List Slot}{t p:aI}{e c:bP}{d dp:ai}{ds:List ai}{pos px po pk pa pc:Pos}{x w:Str}{R:OR}{body:List fH}{k:Nat}
end
def oJ(H:Hp):Hp:=λq=>match H q with
 |some (.dK _)=>none
 |o=>o
theorem v3{o:HO}(h:H a=some o)(hn:∀k,o≠.dK k):oJ H a=some o:=by
 unfold oJ;rw[h];cases o<;>first|rfl|exact qQ7 rfl (hn _)
theorem Bv:dC (oJ H) H:=λb u e=>by
 unfold oJ at e;cases h:H b with
 |none=>rw[h]at e;cases e
 |some o=>rw[h]at e;cases o<;>first|exact e|cases e
theorem Jv{b:aI}:oJ H b≠some (.dK kvs):=λe=>by
 have h:=Bv b _ e;unfold oJ at e;rw[h]at e;cases e
section
variable{K:ao}{H:Hp}
theorem Rep.oJ{v:V}{d:ai}(r:Rep K H v d):sL d->Rep K (L2.oJ H) v d:=by
 refine Rep.rec (motive_1:=λv d _=>sL d->Rep K (L2.oJ H) v d) (motive_2:=λxs ds _=>(∀d∈ds,sL d)->cu K (L2.oJ H) xs ds) ?_ ?_ ?_ ?_ ?_ ?_ ?_ ?_ ?_ ?_ ?_ ?_ r
 ·exact λ_=>.non
 ·exact λb _=>.bl b
 ·exact λi _=>.int i
 ·exact λx _=>.str x
 ·intro a xs ds h _ t n
  cases n with
  |lst n=>
   refine .lst ?_ (t n)
   rcases h with(h|⟨o,h⟩)|h
   ·exact .inl (.inl (v3 h (by intro k z;cases z)))
   ·exact .inl (.inr ⟨o,v3 h (by intro k z;cases z)⟩)
   ·exact .inr h
 ·intro a xs ds h _ t n
  cases n with
  |tup n=>
   refine .tup ?_ (t n)
   rcases h with(h|⟨o,h⟩)|h
   ·exact .inl (.inl (v3 h (by intro k z;cases z)))
   ·exact .inl (.inr ⟨o,v3 h (by intro k z;cases z)⟩)
   ·exact .inr h
 ·intro a kvs ds _ _ _ _ n;cases n
 ·intro a kvs ds _ _ _ _ n;cases n
 ·intro a C dx fs ds _ _ _ _ _ _ n;cases n
 ·intro a o kvs ds _ _ _ _ n;cases n
 ·exact λ_=>.nil
 ·intro x d xs ds _ _ a t n
  exact .cons (a (n d aO)) (t λd hd=>n d (aR _ hd))
theorem cu.oJ:∀{ds:List ai}{xs:List V},cu K H xs ds->(∀d∈ds,sL d)->cu K (L2.oJ H) xs ds
 | [],_,r,_=>by cases r;exact .nil
 |d::ds,_,r,n=>by cases r with|cons a t=>exact .cons (a.oJ (n d aO)) (cu.oJ t λd hd=>n d (aR _ hd))
theorem Fm(h1:H a=some (.dK kvs))(h2:kvs.map (·.1)=kv.map (λp=>(a7 p.1:Key)))(h3:cu K H (kvs.map (·.2)) (kv.map (·.2))):Rep K H (.ref a) (gq kv):=by
 refine .dct (kvs:=kvs) h1 ?_ ?_
 ·have e2:=qQ6 (oY lJ) h2
  rw[aL,aL]at e2;rw[aL];exact e2.symm
 ·rw[aL]
  exact h3
end
section
variable{P:bC}{w:bY}{K:ao}{mg:Str->Option aB}{base:cR}{x qual:Str}{st:fH}{f:aI}{fd:fe}{N:List Str}{k:Nat}{a1 a2:Str}
end
section
variable{X:Cx}{B0 B H0 H:Hp}{σ:St}{D:Ends}{δ δ2:List Slot}{e b:bP}{d:ai}{ds:List ai}{pos px:Pos}{x:Str}{k:Nat}
theorem z_(h:D.nx σ H):u9 X [] D σ H:=λpins s I=>EF pins s σ H D I h
end
theorem QB{κ:Key}{v:V}(r:Rep K H v (lJ κ)):v=kV κ:=by
 cases κ<;>cases r<;>rfl
section
variable{X:Cx}{B0 B H0 H:Hp}{σ:St}{D:Ends}{δ:List Slot}{a c:aI}{e ek ev:bP}{d:ai}{ds:List ai}{pos px po ps pa pc pk py:Pos}{x y z:Str}{k:Nat}{kvs zbW:List (Key×V)}{κ:Key}{xs:List V}{j}
theorem QC(f:gf X.K B0 B H0 H σ δ)(hr:eE k X.A)(i:Nat)(hi:δ[i]?=some (.ref a))(hd:H a=some (.dK kvs))(hk:VE X ek δ (lJ κ))(hy:g_ kvs κ=some (.ref c))(hc:H c=some (.lst xs))(hv:VE X e δ d)(hl:xs.length<sizeLine)
  (q:∀v Ha Hb,dQ H0 H Ha Hb->Rep X.K Ha v d->D.nx σ (upd Hb c (.lst (xs ++ [v]))))
  (hN:X.N[i]?=some x:=by rfl)(oI:AW X.env.scope x:=by first|exact aY rfl|exact b_ (aY rfl)|exact b_ (b_ rfl))(nB:(x==("__debug__":Str))=false:=by decide)(nQ:(x==("__classdict__":Str))=false:=by decide)
  (hsl:F5 ek:=by intro _ _;rfl)(j0:attributeBase (.Subscript (.Name x px) ek po) "append" X.env (eval (.Subscript (.Name x px) ek po) X.env)=eval (.Subscript (.Name x px) ek po) X.env:=by rfl)
  (hs:starEach [e] X.env=(false,eval e X.env)::starEach [] X.env:=by rfl)
  (ou:((backTo pc (starEach [e] X.env)).all (λx=>!x.1)&&(backToKw pc (keywordEach [] X.env)).all (λx=>x.1.isSome)&&decide (([e]:List bP).length+([]:List fV).length+(if([]:List fV).isEmpty then 0 else 1)<30))=true:=by rfl)
  (hline:(pa.endLine==pc.line)=true:=by rfl)(iy:(backTo pc (starEach [] X.env)).any (·.1)=false:=by rfl)(zO:swapsWith (.Call (.Attribute (.Subscript (.Name x px) ek po) "append" pa) [e] [] pc) none pos.line X.env=pure false:=by rfl):
  cS X (.Expr (.Call (.Attribute (.Subscript (.Name x px) ek po) "append" pa) [e] [] pc) pos) D σ H:=λpins s I=>by
 refine qD (uX fM gR gS lV (EX (Gm hr) (jN hN oI nB nQ) cX hsl) (ej cX fK hs) j0 ou hline hs iy) zO pins s σ H D I ?_
 refine⟨.ref a,f.slot i _ hi,hk B0 B σ H0 H _ f λu H1 dP g1 r1=>?_⟩
 obtain rfl:=QB r1;refine⟨a,.ref c,rfl,by rw[<-hy];exact nS.k (g1.big _ _ hd),.inl ⟨rfl,_,jV.of (g1.big _ _ hc)⟩,?_⟩
 refine hv B0 B σ H1 dP _ (f.grow g1) λv H2 h8 g2 r2=>?_
 exact⟨c,xs,v,rfl,rfl,g2.big _ _ (g1.big _ _ hc),hl,q v H2 h8 (g1.trans g2) r2⟩
end
section
variable{X:Cx}{B0 B H0 H:Hp}{σ:St}{D:Ends}{δ:List Slot}{body orelse:List fH}{tg iter c e:bP}{ds:List ai}{d:ai}{pos:Pos}{R:OR}
theorem QD(Rs:Nat->OR)(δs:Nat->List Slot)(m:∀k,lG (Rs k))(G:OF X.K B0 B (Rs 0) H0 H σ (δs 0))(hp:uN (model X.prog X.w) X.A X.env X.xe)(hc:X.calm=true)(hi:VI X tg iter (δs 0) ds)(hg:PG X tg (HC X.K tgt))(M:Nat)(hM:M<ds.length)
  (step:∀k d,k<M->ds[k]?=some d->∃δ',uq tgt d (δs k)=some δ'/\noOwn δ'=true/\∀(D:Ends)C0 σ' di H',OF X.K C0 B (Rs k) di H' σ' δ'->(∀σ2 Ha Hb,OF X.K C0 B (Rs (k+1)) Ha Hb σ2 (δs (k+1))->D.nx σ2 Hb)->u9 X body D σ' H')
  (last:∀d,ds[M]?=some d->∃δ',uq tgt d (δs M)=some δ'/\noOwn δ'=true/\∀(D':Ends)σ' Ha Hb,(∀v H',D.rt v H'->D'.rt v H')->OF X.K B0 B (Rs M) Ha Hb σ' δ'->u9 X body D' σ' Hb)
  (hs:∀x,foldedSetIterable iter X.env x=pure x:=by intro _;rfl):cS X (.For tg iter body [] pos) D σ H:=λpins s I=>by
 obtain⟨wi,pi,qi⟩:=hi;refine wq hp hc pi hg j7 hs pins s σ H D I ?_
 refine qi H0 H σ H0 H _ G.own λJ H1 dP g it=>?_
 have G1:=G.go (m 0) (G.own.grow g) G.no;refine⟨λi mm σ' H'=>i<=M/\mm=M+1-i/\∃Ha,OF X.K H1 B (Rs i) Ha H' σ' (δs i),⟨M+1,aV _,rfl,H1,G1.from ⟨G1.fr.ent.big,dC.refl _,G1.fr.sub,λ_ z=>.inl z⟩⟩,?_⟩
 rintro i mm σ' H' ⟨hi,rfl,Ha,Ga⟩
 obtain⟨i1,i2,i3⟩:=it Ha H' Ga.fr.ent.fA Ga.fr.sub i;have hl:i<ds.length:=by omega
 have hd:ds[i]?=some ds[i]:=by simp[hl]
 by_cases kA:i<M
 ·obtain⟨δ',e1,e2,e3⟩:=step i _ kA hd
  refine .inr ⟨i1 hl,λσ'' uZ=>∃Hb,OF X.K H1 B (Rs (i+1)) Hb uZ σ'' (δs (i+1)),λσ'' uZ ⟨Hb,z⟩=>⟨M+1-(i+1),by omega,kA,rfl,Hb,z⟩,λv H2 y=>?_⟩
  obtain⟨Hb,g2,rx⟩:=i3 v H2 _ hd y;refine my (Ga.own.grow g2) rx e1 λσ3 f3=>?_
  exact e3 _ H1 σ3 Hb H2 (Ga.go (m i) f3 e2) λσ2 Hc Hd z=>⟨Hc,z⟩
 ·have e:i=M:=by omega
  subst e;obtain⟨δ',e1,e2,e3⟩:=last _ hd;refine .inr ⟨i1 hl,λ_ _=>False,λ_ _ z=>z.elim,λv H2 y=>?_⟩
  obtain⟨Hb,g2,rx⟩:=i3 v H2 _ hd y;refine my (Ga.own.grow g2) rx e1 λσ3 f3=>?_
  have G3:=Ga.go (m i) f3 e2;refine e3 _ σ3 Hb H2 (λ_ _ z=>z) (G3.from ⟨G3.fr.ent.big,G1.fr.ent.fA.trans G3.fr.ent.fA,G3.fr.sub,λb z=>?_⟩)
  rcases G3.fr.ent.new b z with z|z
  ·exact G1.fr.ent.new b z
  ·exact .inr z
theorem N4(m:lG R)(G:OF X.K B0 B R H0 H σ δ)(h:VT X c δ true)(q:∀Ha Hb,OF X.K B0 B R Ha Hb σ δ->u9 X body D σ Hb):cS X (.If c body orelse pos) D σ H:=
 vb G.own h λHa Hb g=>q Ha Hb (G.go m (G.own.grow g) G.no)
theorem N5(m:lG R)(G:OF X.K B0 B R H0 H σ δ)(h:VT X c δ false)(q:∀Ha Hb,OF X.K B0 B R Ha Hb σ δ->u9 X orelse D σ Hb):cS X (.If c body orelse pos) D σ H:=
 jj G.own h λHa Hb g=>q Ha Hb (G.go m (G.own.grow g) G.no)
theorem Jw(G:OF X.K B0 B R H0 H σ δ)(h:VE X e δ d)(q:∀v di H',dQ B0 B di H'->Rep X.K di v d->D.rt v H'):cS X (.Return (some e) pos) D σ H:=
 cy h B0 B σ H0 H D G.fr q
end
section
variable{X:Cx}{δ δ2:List Slot}{body rest:List fH}{tg iter c:bP}{ds:List ai}{o:Out}{pos p1 p2:Pos}
def TQ(X:Cx)(body:List fH)(δ δ2:List Slot):Prop:=∀B0 B σ H0 H (D:Ends),gf X.K B0 B H0 H σ δ->(∀σ' Ha Hb,dC H0 Ha->gf X.K B0 B Ha Hb σ' δ2->D.nx σ' Hb)->(∀σ' Ha Hb,dC H0 Ha->gf X.K B0 B Ha Hb σ' δ2->D.ct σ' Hb)->u9 X body D σ H
theorem QF(h:pF X body δ (.nx δ2)):TQ X body δ δ2:=λB0 B σ H0 H D f q1 _=>h B0 B σ H0 H D f q1
theorem Jx(h:VT X c δ true)(hf:KS δ δ2):TQ X (.If c [.Continue p1] [] p2::rest) δ δ2:=λB0 B σ H0 H D f _ q2=>
 c0 (vb f h λHa Hb g=>λpins s I=>vT A7 pins s σ Hb _ I (q2 σ Ha Hb g.fA ((f.grow g).forget hf.len hf.at)))
theorem Jy(h:VT X c δ false)(hr:pF X rest δ (.nx δ2)):TQ X (.If c [.Continue p1] [] p2::rest) δ δ2:=QF (aP (bW h bL) hr)
theorem Fn(hp:uN (model X.prog X.w) X.A X.env X.xe)(hc:X.calm=true)(hi:VI X tg iter δ ds)(hg:PG X tg (HC X.K tgt))(δs:Nat->List Slot)(m:Nat)(h0:δs 0=δ)(hm:m<=ds.length)
  (step:∀k d,k<m->ds[k]?=some d->∃δ',uq tgt d (δs k)=some δ'/\TQ X body δ' (δs (k+1)))
  (fin:(m=ds.length/\o=.nx (δs m))\/∃d δ',ds[m]?=some d/\uq tgt d (δs m)=some δ'/\E3 o=true/\pF X body δ' o)
  (hs:∀x,foldedSetIterable iter X.env x=pure x:=by intro _;rfl):VS X (.For tg iter body [] pos) δ o:=λB0 B σ H0 H D f ok pins s I=>by
 obtain⟨wi,pi,qi⟩:=hi;refine wq hp hc pi hg j7 hs pins s σ H D I ?_
 refine qi B0 B σ H0 H _ f λJ H1 dP g it=>?_
 refine⟨λi mm σ' H'=>i<=m/\mm=m+1-i/\∃Ha,dC H1 Ha/\gf X.K B0 B Ha H' σ' (δs i),⟨m+1,aV _,rfl,H1,dC.refl _,by rw[h0];exact f.grow g⟩,?_⟩
 rintro i mm σ' H' ⟨hi,rfl,Ha,sm,fa⟩
 obtain⟨i1,i2,i3⟩:=it Ha H' sm fa.sub i;by_cases kA:i<m
 ·refine .inr ⟨i1 (by omega),λσ'' uZ=>∃Hb,dC H1 Hb/\gf X.K B0 B Hb uZ σ'' (δs (i+1)),λσ'' uZ ⟨Hb,z1,z2⟩=>⟨m+1-(i+1),by omega,kA,rfl,Hb,z1,z2⟩,λv H2 y=>?_⟩
  have hd:ds[i]?=some (ds[i]'(by omega)):=by simp
  obtain⟨Hb,g2,rx⟩:=i3 v H2 _ hd y;obtain⟨δ',e1,e2⟩:=step i _ kA hd;refine my (fa.grow g2) rx e1 λσ3 f3=>?_
  exact e2 B0 B σ3 Hb H2 _ f3 (λσ4 Hc H4 s4 f4=>⟨Hc,(sm.trans g2.fA).trans s4,f4⟩) (λσ4 Hc H4 s4 f4=>⟨Hc,(sm.trans g2.fA).trans s4,f4⟩)
 ·have e:i=m:=by omega
  subst e;rcases fin with⟨e1,e2⟩|⟨d,δ',hd,e1,hr,e2⟩
  ·subst e2
   exact .inl ⟨i2 (by omega),ok σ' Ha H' (g.fA.trans sm) fa⟩
  ·have P5:i<ds.length:=(aJ.mp hd).1
   refine .inr ⟨i1 P5,λ_ _=>False,λ_ _ z=>z.elim,λv H2 y=>?_⟩
   obtain⟨Hb,g2,rx⟩:=i3 v H2 _ hd y;refine my (fa.grow g2) rx e1 λσ3 f3=>?_
   exact e2 B0 B σ3 Hb H2 _ f3 (nV.ret (D:=D) (by rfl) hr ok)
end
def Mu(B Hs Hb:Hp)(qs:List (aI×Str×aI)):Prop:=(qs.map (·.2.2)).Nodup/\∀q∈qs,B q.2.2=none/\Hs q.2.2=none/\Hb q.1=some (.tup [.str q.2.1,.ref q.2.2])/\Hb q.2.2=some (.lst [])
section
variable{X:Cx}{sc:kz}{own N:List Str}{cap:List Nat}{cl:List (Str×aI)}{tg elt iter:bP}{ifs:List bP}{δ:List Slot}{ds:List ai}{pos:Pos}{tgt:DB}
def Jz(X:Cx)(sc:kz)(own:List Str)(cap:List Nat)(N:List Str)(cl:List (Str×aI))(tgt:DB)(elt:bP)(ifs:List bP)(δ:List Slot)(F:ai->Option Str)(d:ai):Prop:=
 ∃δ',uq tgt d (k8 own cap δ)=some δ'/\(∀f s3 H3,IG (fL X sc N cl f s3 H3) ifs δ' (F d).isSome)/\∀r,F d=some r->∀f s3 H3,VU (fL X sc N cl f s3 H3) elt δ' (uT X.K r [])
theorem Aa(ht:wN own.length tgt=true)(hz:ds.length<=sizeLine)(step:∀d∈ds,Jz X sc own cap N cl tgt elt ifs δ F d){J:It}{B0 B H0: Hp}{σ:St}{Q:VK}(f:gf X.K B0 B H0 H σ δ)(it:W1 X.K J H0 ds)
  (q:∀p qs di H',dQ H0 H di H'->H p=none->di p=none->H' p=some (.lst (qs.map λz:aI×Str×aI=>.ref z.1))->Mu H di H' qs->qs.map (·.2.1)=ds.filterMap F->Q (.ref p) H'):
  qI J (HC X.K tgt) (S' X sc N cl ifs) (teC X sc N cl elt) (kJ own cap σ) H Q:=by
 intro D hD;have Ta:B D=none:=f.ent.big.free hD;refine⟨λi m ys σ' H'=>i<=ds.length/\m=ds.length-i/\ys.length<=i/\∃Ha,∃qs:List (aI×Str×aI),dQ H0 H Ha H'/\gf X.K B0 B Ha H' σ' (k8 own cap δ)/\Ha D=none/\H' D=some (.lst ys)/\ys=qs.map (λz=>.ref z.1)/\Mu H Ha H' qs/\(∀z∈qs,z.1≠D/\z.2.2≠D)/\qs.map (·.2.1)=(ds.take i).filterMap F,
  ⟨ds.length,aV _,rfl,aA _,H0,[],.loose f.sub hD,(f.comp own cap).touch (f.sub.free hD) Ta m9,f.sub.free hD,bB,rfl,⟨mW,λz hz=>nomatch hz⟩,(λz hz=>nomatch hz),by simp⟩,?_⟩
 rintro i m ys σ' H' ⟨hi,rfl,hy,Ha,qs,g,fa,Tb,HB,Xt,⟨nd,ow⟩,nD,rs⟩
 obtain⟨i1,i2,i3⟩:=it Ha H' g.fA g.sub i;by_cases kA:i<ds.length
 ·refine .inr ⟨i1 kA,λx H2 y=>?_⟩
  have hd:ds[i]?=some ds[i]:=by simp[kA]
  obtain⟨Hb,g2,rx⟩:=i3 x H2 ds[i] hd y;obtain⟨δ',e1,e2,e3⟩:=step ds[i] (dN kA);obtain⟨k1,k2⟩:=comp_back ht e1;have keep:∀{Hx Hy:Hp},dQ Ha H' Hx Hy->Mu H Hx Hy qs:=λ{Hx Hy}gg=>⟨nd,λz hz=>by
   obtain⟨o1,o2,o3,o4⟩:=ow z hz;exact⟨o1,gg.still o2 o4,gg.big _ _ o3,gg.big _ _ o4⟩⟩
  have Tc:∀{Hx Hy:Hp},dQ Ha H' Hx Hy->Hx D=none:=λ{Hx Hy}gg=>gg.still Tb HB
  have tk:(ds.take (i+1)).filterMap F=(ds.take i).filterMap F++(F ds[i]).toList:=by
   rw[cV,hd,k6];cases eF:F ds[i]<;>simp[jI,eF]
  refine my (fa.grow g2) rx e1 λσ3 f3=>?_
  intro fp s3 H3;refine e2 fp s3 H3 B0 B σ3 Hb H2 _ f3 λHc H4 g4=>?_
  have E2:=g2.trans g4;cases eF:F ds[i] with
  |none=>
   rw[show(none:Option Str).isSome=false from rfl,qQ2 cq]
   refine⟨ds.length-(i+1),by omega,kA,rfl,by omega,Hc,qs,g.trans E2,(f3.grow g4).forget k1.symm k2,Tc E2,E2.big _ _ HB,Xt,keep E2,nD,?_⟩
   rw[tk,eF];simpa using rs
  |some r=>
   rw[show(some r:Option Str).isSome=true from rfl,qQ3 rfl]
   intro W3 s3' wK;refine e3 r eF W3 s3' wK B0 B σ3 Hc H4 _ (f3.grow g4) λw Hd H5 g5 u=>?_
   obtain⟨t,c,xs,rfl,u1,u2,u3,u4,u5,u6,u7⟩:=u;cases u7;have L4:=E2.trans g5;have P4:Hd D=none:=Tc L4;have ZM:H4 D=some (.lst ys):=E2.big _ _ HB;have tD:t≠D:=λz=>by rw[z,ZM]at u1;cases u1
   have cD:c≠D:=λz=>by rw[z,ZM]at u3;cases u3
   obtain⟨_,kp⟩:=keep L4;refine⟨L4.big _ _ HB,by omega,ds.length-(i+1),by omega,kA,rfl,by simp;omega,Hd,qs ++ [(t,r,c)],?_,((f3.grow g4).grow g5 |>.forget k1.symm k2).touch P4 Ta m9,P4,bB,by rw[Xt,bx];rfl,⟨?_,λz hz=>?_⟩,λz hz=>?_,?_⟩
   ·have gg:=g.trans L4
    exact⟨λb u e=>by rw[aN (bG e hD)];exact gg.big b u e,gg.fA,λb u e=>by rw[aN (bG e P4)];exact gg.sub b u e,gg.new⟩
   ·rw[bx,fk]
    refine⟨nd,by simp,λa ha b hb e=>?_⟩
    obtain⟨z,hz,rfl⟩:=aE.mp ha;rw[jW,aW]at hb;rw[hb]at e;have:=E2.big _ _ (ow z hz).2.2.2;rw[e,u3]at this;cases this
   ·rcases cx.mp hz with hz|hz
    ·obtain⟨o1,o2,o3,o4⟩:=kp z hz
     obtain⟨n1,n2⟩:=nD z hz;exact⟨o1,o2,by rw[aN n1];exact o3,by rw[aN n2];exact o4⟩
    ·rw[aW.mp hz]
     exact⟨(g.trans E2).big.free u3,u4,by rw[aN tD];exact u5,by rw[aN cD];exact u6⟩
   ·rcases cx.mp hz with hz|hz
    ·exact nD z hz
    ·rw[aW.mp hz];exact⟨tD,cD⟩
   ·rw[tk,eF,bx,rs];rfl
 ·have e:i=ds.length:=by omega
  subst e;rw[jw]at rs;exact .inl ⟨i2 (aA _),q D qs Ha H' g hD Tb (by rw[<-Xt];exact HB) ⟨nd,ow⟩ rs⟩
def ZN(X:Cx)(e:bP)(δ:List Slot)(rs:List Str):Prop:=∀B0 B σ H0 H Q,gf X.K B0 B H0 H σ δ->
 (∀p qs di H',dQ H0 H di H'->H p=none->di p=none->H' p=some (.lst (qs.map λz:aI×Str×aI=>.ref z.1))->Mu H di H' qs->qs.map (·.2.1)=rs->Q (.ref p) H')->cE X e σ H Q
theorem JA(hc:X.calm=true)(CS:kI X sc own cap N cl)(hi:VI X tg iter δ ds)(hg:∀f s3 H3,PG (fL X sc N cl f s3 H3) tg (HC X.K tgt))(ht:wN own.length tgt=true)(hz:ds.length<=sizeLine)
  (step:∀d∈ds,Jz X sc own cap N cl tgt elt ifs δ F d)(hs:∀x,foldedSetIterable iter X.env x=pure x:=by intro _;rfl):ZN X (.ListComp elt [⟨tg,iter,ifs,0⟩] sc pos) δ (ds.filterMap F):=by
 obtain⟨wi,pi,qi⟩:=hi;intro B0 B σ H0 H Q f q pins s I;refine EZ (tc:=S' X sc N cl ifs) (te:=teC X sc N cl elt) hc CS pi hg (λf s3 H3 pins s σ H Q I h=>h f s3 H3 pins s I) (λf s3 H3 pins s σ H Q I h=>h f s3 H3 pins s I) hs pins s σ H Q I ?_
 refine qi B0 B σ H0 H _ f λJ H1 dP g it=>?_
 exact Aa ht hz step (f.grow g) it λp qs Ha Hb g2 a1 a2 a3 ⟨b1,b2⟩ a5=>q p qs Ha Hb (g.trans g2) (g.big.free a1) a2 a3 ⟨b1,λz hz=>⟨g.big.free (b2 z hz).1,(b2 z hz).2⟩⟩ a5
end
def LR(K:ao)(d:aI)(ds:List ai):OR:=λH0 H as=>as=[d]/\∃xs,H d=some (.lst xs)/\cu K H0 xs ds
theorem LR.mono{d:aI}{ds:List ai}:lG (LR K d ds):=λH0 H Ha Hb as ⟨e,xs,h1,h2⟩ sm hb=>⟨e,xs,by rw[hb d (by rw[e];simp)];exact h1,h2.mono sm⟩
def CL(kl:List (Str×List ai))(cs:List aI):List (Key×V):=(kl.zip cs).map λz=>(a7 z.1.1,.ref z.2)
def LsW(K:ao)(H0 H:Hp)(kl:List (Str×List ai))(cs:List aI):Prop:=cs.length=kl.length/\∀(i:Nat)c q,cs[i]?=some c->kl[i]?=some q->∃xs,H c=some (.lst xs)/\cu K H0 xs q.2
def tL(K:ao)(d a:aI)(day:List ai)(kl:List (Str×List ai)):OR:=λH0 H as=>∃cs xs,as=d::a::cs/\(d::a::cs).Nodup/\H d=some (.lst xs)/\cu K H0 xs day/\H a=some (.dK (CL kl cs))/\LsW K H0 H kl cs
section
variable{K:ao}{d a:aI}{day:List ai}{kl:List (Str×List ai)}
theorem tL.mono:lG (tL K d a day kl):=by
 rintro H0 H Ha Hb as ⟨cs,xs,rfl,nd,h1,h2,h3,h4,h5⟩ sm hb
 refine⟨cs,xs,rfl,nd,by rw[hb d (by simp)];exact h1,h2.mono sm,by rw[hb a (by simp)];exact h3,h4,λi c q e1 e2=>?_⟩
 obtain⟨ys,y1,y2⟩:=h5 i c q e1 e2;exact⟨ys,by rw[hb c (by simp[bh e1])];exact y1,y2.mono sm⟩
theorem tL.Xu(Ha Hb:Hp)(as:List aI)(s:dC Ha Hb)(h:tL K d a day kl Ha Hb as):Rep K (qm as Hb Ha) (.ref d) (.list day):=by
 obtain⟨cs,xs,rfl,nd,h1,h2,h3,h4,h5⟩:=h;exact .lst (jV.of (by rw[oH (by simp)];exact h1)) (h2.mono (nW s))
theorem Bw:∀{kl:List (Str×List ai)}{cs:List aI},cs.length=kl.length->(CL kl cs).map (·.1)=kl.map λq=>(a7 q.1:Key)
 | [],[],_=>rfl
 | [],_::_,e=>by cases e
 |_::_,[],e=>by cases e
 |q::h,c::cs,e=>by
  have:=Bw (kl:=h) (cs:=cs) (by simpa using e)
  unfold CL at this ⊢;rw[eG,aD,aD,this];rfl
theorem Bx:∀{kl:List (Str×List ai)}{cs:List aI},cs.length=kl.length->(CL kl cs).map (·.2)=cs.map V.ref
 | [],[],_=>rfl
 | [],_::_,e=>by cases e
 |_::_,[],e=>by cases e
 |q::h,c::cs,e=>by
  have:=Bx (kl:=h) (cs:=cs) (by simpa using e)
  unfold CL at this ⊢;rw[eG,aD,aD,this];rfl
theorem Fo:∀{kl:List (Str×List ai)}{cs:List aI}{j:Nat}{q:Str×List ai}{c:aI},(kl.map (·.1)).Nodup->kl[j]?=some q->cs[j]?=some c->g_ (CL kl cs) (a7 q.1)=some (.ref c)
 | [],_,_,_,_,_,h,_=>by simp at h
 |_::_,[],_,_,_,_,_,h=>by simp at h
 |p::kl,b::cs,0,q,c,_,h1,h2=>by
  cases h1;cases h2;exact ml rfl
 |p::kl,b::cs,j+1,q,c,nd,h1,h2=>by
  rw[aD,dw]at nd;have ZO:kl[j]?=some q:=by simpa using h1
  have h2':cs[j]?=some c:=by simpa using h2
  have ne:¬(a7 p.1:Key)=a7 q.1:=λz=>nd.1 (by rw[kZ z];exact aE.mpr ⟨q,bh ZO,rfl⟩)
  have e:CL (p::kl) (b::cs)=(a7 p.1,V.ref b)::CL kl cs:=rfl;rw[e,j5 ne];exact Fo nd.2 ZO h2'
theorem JB:∀(qs:List (aI×Str×aI)),(qs.map λz:aI×Str×aI=>((z.1,a7 z.2.1,V.ref z.2.2):aI×Key×V)).map (·.2)=CL ((qs.map (·.2.1)).map λr=>(r,([]:List ai))) (qs.map (·.2.2))
 | []=>rfl
 |q::qs=>by
  have:=JB qs;unfold CL at this ⊢;simp only[aD,eG]at this ⊢;rw[this]
theorem set_same{α β:Type}{f:α->β}{l:List α}{j:Nat}{x y:α}(h:l[j]?=some x)(e:f y=f x):(l.map f).set j (f y)=l.map f:=by
 refine fX λn=>?_
 by_cases hn:n=j
 ·subst hn
  rw[bu (by rw[aj];exact(aJ.mp h).1),aF,h,e];rfl
 ·rw[bf (bV hn)]
theorem Bz:∀{kl Xv:List (Str×List ai)}{cs:List aI},Xv.map (·.1)=kl.map (·.1)->CL Xv cs=CL kl cs
 | [],[],_,_=>rfl
 | [],_::_,_,e=>by cases e
 |_::_,[],_,e=>by cases e
 |q::h,q'::h',cs,e=>by
  obtain⟨e1,e2⟩:=iC e;cases cs with
  |nil=>rfl
  |cons c cs=>
   show(a7 q'.1,V.ref c)::CL h' cs=(a7 q.1,V.ref c)::CL h cs
   rw[show q'.1=q.1 from e1,Bz e2]
theorem yV{α:Type}{g:α->ai}:∀{l:List α}{cs:List aI},cs.length=l.length->(∀(i:Nat)c q,cs[i]?=some c->l[i]?=some q->Rep K H (.ref c) (g q))->cu K H (cs.map V.ref) (l.map g)
 | [],[],_,_=>.nil
 | [],_::_,h,_=>by cases h
 |_::_,[],h,_=>by cases h
 |q::l,c::cs,h,k=>.cons (k 0 c q rfl rfl) (yV (by simpa using h) λi c' q' e1 e2=>k (i+1) c' q' (by simpa using e1) (by simpa using e2))
theorem tL.TR(Ha Hb:Hp)(as:List aI)(s:dC Ha Hb)(h:tL K d a day kl Ha Hb as):Rep K (qm as Hb Ha) (.ref a) (gq (kl.map λq=>(q.1,lu q.2))):=by
 obtain⟨cs,xs,rfl,nd,h1,h2,h3,h4,h5⟩:=h;refine Fm (kvs:=CL kl cs) (by rw[oH (by simp)];exact h3) (by rw[Bw h4,aL];rfl) ?_
 rw[Bx h4,aL];refine yV h4 λi c q e1 e2=>?_
 obtain⟨ys,y1,y2⟩:=h5 i c q e1 e2;exact .lst (jV.of (by rw[oH (by simp[bh e1])];exact y1)) (y2.mono (nW s))
end
section
variable{X:Cx}{B0 B H0 H:Hp}{σ:St}{D:Ends}{δ:List Slot}{a d:aI}{e ek:bP}{dv:ai}{day:List ai}{kl:List (Str×List ai)}{pos px po pa pc pd p0:Pos}{x y:Str}{k j:Nat}{rs:List Str}{ds:List ai}
theorem QG(f:gf X.K B0 B H0 H σ δ)(i:Nat)(hN:X.N.Nodup)(hn:∀p,noOwn (δ.set i (.ref p))=true)(q:∀p σ' H',OF X.K B0 B (LR X.K p []) H0 H' σ' (δ.set i (.ref p))->D.nx σ' H')
  (hi:X.N[i]?=some x:=by rfl)(hx:Loc X.env.scope x:=by first|exact aY rfl|exact b_ rfl)(hs:swapsWith (.List [] pd) (some (.Name x px)) pos.line X.env=pure false:=by rfl)(hf:X.fn x=true\/X.env.scope.names.lookup x=some .local:=by first|exact .inl rfl|exact .inr rfl):
  cS X (.Assign [.Name x px] (.List [] pd) pos) D σ H:=λpins s I=>by
 refine rQ (i:=i) hN hi hx (wy fK) hs hf pins s σ H D I ⟨aV _,λp hp=>?_⟩
 refine q p _ _ ⟨(f.grow (.loose f.sub hp)).mD (v:=.ref p) (sl:=.ref p) rfl rfl,hn p,[p],λb hb=>?_,rfl,[],bB,.nil⟩
 rw[aW.mp hb];exact⟨f.sub.free hp,f.ent.big.free hp,by rw[bB];simp⟩
theorem Mv(G:OF X.K B0 B (LR X.K d day) H0 H σ δ)(i:Nat)(h:ZN X e δ rs)(TV:rs.Nodup)(hc:X.calm=true)(hm:X.mg "dict"=none)(hN:X.N.Nodup)(hn:∀p,noOwn (δ.set i (.ref p))=true)(q:∀p σ' di H',OF X.K B0 B (tL X.K d p day (rs.map λr=>(r,[]))) di H' σ' (δ.set i (.ref p))->D.nx σ' H')
  (hg:Gl X "dict":=by rfl)(ZP:starEach [e] X.env=(false,eval e X.env)::starEach [] X.env:=by rfl)(sW:(backTo pc (starEach [] X.env)).any (·.1)=false:=by rfl)
  (hi:X.N[i]?=some x:=by rfl)(hx:Loc X.env.scope x:=by first|exact aY rfl|exact b_ rfl)(hs:swapsWith (.Call (.Name "dict" p0) [e] [] pc) (some (.Name x px)) pos.line X.env=pure false:=by rfl)(hf:X.fn x=true\/X.env.scope.names.lookup x=some .local:=by first|exact .inl rfl|exact .inr rfl):
  cS X (.Assign [.Name x px] (.Call (.Name "dict" p0) [e] [] pc) pos) D σ H:=λpins s I=>by
 refine rQ (i:=i) hN hi hx (qG (nX hc) hg hm rfl (ej cX fK ZP) (by decide) (by decide) ZP sW) hs hf pins s σ H D I ?_
 refine h H0 H σ H0 H _ G.own λp qs H1 dP g hp hp1 Xw ow Xx=>?_
 have G1:=G.go LR.mono (G.own.grow g) G.no;refine⟨p,qs.map λz=>(z.1,a7 z.2.1,.ref z.2.2),rfl,jV.of (by rw[Xw,aL];rfl),λz hz=>?_,λl hl=>?_⟩
 ·obtain⟨z0,Vm,rfl⟩:=aE.mp hz
  exact mQ.of (ow.2 z0 Vm).2.2.1
 ·have TX:((qs.map λz:aI×Str×aI=>((z.1,a7 z.2.1,V.ref z.2.2):aI×Key×V)).map (·.2)).map (·.1)=rs.map λr=>(a7 r:Key):=by
   rw[<-Xx];simp only[aL];rfl
  have Qt:ka [] ((qs.map λz:aI×Str×aI=>((z.1,a7 z.2.1,V.ref z.2.2):aI×Key×V)).map (·.2))=CL (rs.map λr=>(r,([]:List ai))) (qs.map (·.2.2)):=by
   rw[qp _ _ (by rw[iJ,TX];exact List.pairwise_map.mpr (TV.imp λh z=>h (kZ z))),iJ,<-Xx]
   exact JB qs
  rw[Qt];obtain⟨as0,o0,e0,_⟩:=G.ex;subst e0;obtain⟨as1,o1,e1,xs,hx1,hx2⟩:=G1.ex;subst e1;obtain⟨d1,d2,d3⟩:=o1 d (by simp)
  have hd0:=(o0 d (by simp)).2.2
  have dl:d≠l:=λz=>d3 (by rw[z];exact hl)
  have KJ:∀c∈qs.map (·.2.2),H c=none/\H1 c=none/\dP c=some (.lst []):=λc hc=>by
   obtain⟨z,hz,rfl⟩:=aE.mp hc;obtain⟨w1,w2,_,w4⟩:=ow.2 z hz;exact⟨w1,w2,w4⟩
  have lc:∀c∈qs.map (·.2.2),c≠l:=λc hc z=>by have:=(KJ c hc).2.2;rw[z,hl]at this;cases this
  refine q l _ H1 _ ⟨(G1.fr.grow (.loose G1.fr.sub hl)).mD (v:=.ref l) (sl:=.ref l) rfl rfl,hn l,d::l::qs.map (·.2.2),λb hb=>?_,qs.map (·.2.2),xs,rfl,?_,by rw[aN dl];exact hx1,hx2,bB,?_,λn c z e1 e2=>?_⟩
  ·rcases av.mp hb with rfl|hb
   ·exact⟨d1,d2,by rw[aN dl];exact d3⟩
   rcases av.mp hb with rfl|hb
   ·exact⟨G1.fr.sub.free hl,G1.fr.ent.big.free hl,by rw[bB];simp⟩
   ·obtain⟨w1,w2,w3⟩:=KJ b hb
    exact⟨w2,G.fr.ent.big.free w1,by rw[aN (lc b hb),w3];simp⟩
  ·refine dw.mpr ⟨λz=>?_,dw.mpr ⟨λz=>lc l z rfl,ow.1⟩⟩
   rcases av.mp z with z|z
   ·exact dl z
   ·exact hd0 (KJ d z).1
  ·rw[aj,aj,<-Xx,aj]
  ·have hc:=bh e1
   refine⟨[],by rw[aN (lc c hc)];exact(KJ c hc).2.2,?_⟩
   obtain⟨r,_,rfl⟩:=aE.mp (bh e2);exact .nil
theorem Mw(G:OF X.K B0 B (tL X.K d a day kl) H0 H σ δ)(hr:eE k X.A)(i:Nat)(hi:δ[i]?=some (.ref a))(hk:VE X ek δ (.str y))(TV:(kl.map (·.1)).Nodup)(hj:kl[j]?=some (y,ds))(hv:VE X e δ dv)(hl:ds.length<sizeLine)
  (q:∀di H',OF X.K B0 B (tL X.K d a day (kl.set j (y,ds ++ [dv]))) di H' σ δ->D.nx σ H')
  (hN:X.N[i]?=some x:=by rfl)(oI:AW X.env.scope x:=by first|exact aY rfl|exact b_ (aY rfl)|exact b_ (b_ rfl))(nB:(x==("__debug__":Str))=false:=by decide)(nQ:(x==("__classdict__":Str))=false:=by decide)
  (hsl:F5 ek:=by intro _ _;rfl)(j0:attributeBase (.Subscript (.Name x px) ek po) "append" X.env (eval (.Subscript (.Name x px) ek po) X.env)=eval (.Subscript (.Name x px) ek po) X.env:=by rfl)
  (hs:starEach [e] X.env=(false,eval e X.env)::starEach [] X.env:=by rfl)
  (ou:((backTo pc (starEach [e] X.env)).all (λx=>!x.1)&&(backToKw pc (keywordEach [] X.env)).all (λx=>x.1.isSome)&&decide (([e]:List bP).length+([]:List fV).length+(if([]:List fV).isEmpty then 0 else 1)<30))=true:=by rfl)
  (hline:(pa.endLine==pc.line)=true:=by rfl)(iy:(backTo pc (starEach [] X.env)).any (·.1)=false:=by rfl)(zO:swapsWith (.Call (.Attribute (.Subscript (.Name x px) ek po) "append" pa) [e] [] pc) none pos.line X.env=pure false:=by rfl):
  cS X (.Expr (.Call (.Attribute (.Subscript (.Name x px) ek po) "append" pa) [e] [] pc) pos) D σ H:=by
 obtain⟨as,ho,cs,xs,rfl,nd,h1,h2,h3,h4,h5⟩:=G.ex;have Qv:j<kl.length:=(aJ.mp hj).1;have Rv:cs[j]?=some cs[j]:=au (by omega)
 generalize cs[j]=c at Rv
 obtain⟨ys,y1,y2⟩:=h5 j c _ Rv hj;have Xy:c∈cs:=bh Rv;have hyl:=y2.length;refine QC (κ:=a7 y) G.own hr i hi h3 hk (Fo TV hj Rv) y1 hv (by have:ys.length=ds.length:=hyl;omega) (λv Ha Hb g r=>?_) hN oI nB nQ hsl j0 hs ou hline iy zO
 have G1:=G.go tL.mono (G.own.grow g) G.no;have JC:∀b∈d::a::cs,Ha b=none/\B b=none/\Hb b≠none:=λb hb=>by
  obtain⟨w1,w2,w3⟩:=ho b hb;cases e:H b with
  |none=>exact qQ7 e w3
  |some o=>exact⟨g.still w1 e,w2,by rw[g.big _ _ e];simp⟩
 have TY:=nd;rw[dw,dw]at TY;obtain⟨n1,n2,n3⟩:=TY;have dc:d≠c:=λz=>n1 (by rw[z];exact aR _ Xy)
 have ac:a≠c:=λz=>n2 (by rw[z];exact Xy)
 obtain⟨c1,c2,c3⟩:=JC c (by simp[Xy])
 refine q Ha _ ⟨G1.fr.touch c1 c2 (mB G1.no),G1.no,d::a::cs,λb hb=>?_,cs,xs,rfl,nd,by rw[aN dc];exact g.big _ _ h1,h2.mono g.fA,by rw[aN ac,g.big _ _ h3,<-Bz (kl:=kl) (Xv:=kl.set j (y,ds ++ [dv])) (by rw[List.map_set];exact set_same hj rfl)],by rw[List.length_set];exact h4,λn c' z e1 e2=>?_⟩
 ·obtain⟨w1,w2,w3⟩:=JC b hb
  refine⟨w1,w2,?_⟩
  by_cases QH:b=c
  ·rw[QH,bB];simp
  ·rw[aN QH];exact w3
 ·by_cases hn:n=j
  ·subst hn
   rw[Rv]at e1;cases e1;rw[bu Qv]at e2;cases e2;exact⟨ys ++ [v],bB,(y2.mono g.fA).append (.cons r .nil)⟩
  ·rw[bf (bV hn)]at e2
   obtain⟨zs,z1,z2⟩:=h5 n c' z e1 e2;have E6:c'≠c:=λw=>by
    subst w;obtain⟨T1,T2⟩:=aJ.mp e1;obtain⟨T3,T4⟩:=aJ.mp Rv;rcases uf hn with kA|kA
    ·exact cZ.mp n3 n j T1 T3 kA (by rw[T2,T4])
    ·exact cZ.mp n3 j n T3 T1 kA (by rw[T2,T4])
   exact⟨zs,by rw[aN E6];exact g.big _ _ z1,z2.mono g.fA⟩
theorem JD(G:OF X.K B0 B (tL X.K d a day kl) H0 H σ δ)(i:Nat)(hi:δ[i]?=some (.ref d))(hv:VE X e δ dv)(hl:day.length<sizeLine)
  (q:∀di H',OF X.K B0 B (tL X.K d a (day ++ [dv]) kl) di H' σ δ->D.nx σ H')
  (hN:X.N[i]?=some x:=by rfl)(oI:AW X.env.scope x:=by first|exact aY rfl|exact b_ (aY rfl)|exact b_ (b_ rfl))(nB:(x==("__debug__":Str))=false:=by decide)(nQ:(x==("__classdict__":Str))=false:=by decide)
  (j0:attributeBase (.Name x px) "append" X.env (eval (.Name x px) X.env)=eval (.Name x px) X.env:=by rfl)
  (hs:starEach [e] X.env=(false,eval e X.env)::starEach [] X.env:=by rfl)
  (ou:((backTo pc (starEach [e] X.env)).all (λx=>!x.1)&&(backToKw pc (keywordEach [] X.env)).all (λx=>x.1.isSome)&&decide (([e]:List bP).length+([]:List fV).length+(if([]:List fV).isEmpty then 0 else 1)<30))=true:=by rfl)
  (hline:(pa.endLine==pc.line)=true:=by rfl)(iy:(backTo pc (starEach [] X.env)).any (·.1)=false:=by rfl)(zO:swapsWith (.Call (.Attribute (.Name x px) "append" pa) [e] [] pc) none pos.line X.env=pure false:=by rfl):
  cS X (.Expr (.Call (.Attribute (.Name x px) "append" pa) [e] [] pc) pos) D σ H:=λpins s I=>by
 refine qD (uX fM gR gS lV (jN hN oI nB nQ) (ej cX fK hs) j0 ou hline hs iy) zO pins s σ H D I ?_
 obtain⟨as,ho,cs,xs,rfl,nd,h1,h2,h3,h4,h5⟩:=G.ex;refine⟨.ref d,G.fr.slot i _ hi,.inl ⟨rfl,_,jV.of h1⟩,?_⟩
 refine hv H0 H σ H0 H _ G.own λv Ha Hb g r=>?_
 have KZ:=h2.length;refine⟨d,xs,v,rfl,rfl,g.big _ _ h1,by omega,?_⟩
 have G1:=G.go tL.mono (G.own.grow g) G.no;have JC:∀b∈d::a::cs,Ha b=none/\B b=none/\Hb b≠none:=λb hb=>by
  obtain⟨w1,w2,w3⟩:=ho b hb;cases e:H b with
  |none=>exact qQ7 e w3
  |some o=>exact⟨g.still w1 e,w2,by rw[g.big _ _ e];simp⟩
 have TY:=nd;rw[dw]at TY;have ne:∀b∈a::cs,b≠d:=λb hb z=>TY.1 (by rw[<-z];exact hb)
 obtain⟨c1,c2,c3⟩:=JC d (by simp)
 refine q Ha _ ⟨G1.fr.touch c1 c2 (mB G1.no),G1.no,d::a::cs,λb hb=>?_,cs,xs ++ [v],rfl,nd,bB,(h2.mono g.fA).append (.cons r .nil),by rw[aN (ne a (by simp))];exact g.big _ _ h3,h4,λn c z e1 e2=>?_⟩
 ·obtain⟨w1,w2,w3⟩:=JC b hb
  refine⟨w1,w2,?_⟩
  by_cases QH:b=d
  ·rw[QH,bB];simp
  ·rw[aN QH];exact w3
 ·obtain⟨zs,z1,z2⟩:=h5 n c z e1 e2
  exact⟨zs,by rw[aN (ne c (by simp[bh e1]))];exact g.big _ _ z1,z2.mono g.fA⟩
variable{c:bP}{dp:ai}{R:OR}{p:aI}{body orelse:List fH}{kb:Bool}
theorem T5(m:lG R)(G:OF X.K B0 B R H0 H σ δ)(i:Nat)(hi:δ[i]?=some (.ref p))(hR:∀Ha Hb as,dC Ha Hb->R Ha Hb as->Rep X.K (qm as Hb Ha) (.ref p) dp)(h:VT X c (δ.set i (.val dp)) kb)(qT:kb=true->∀H',OF X.K B0 B R H0 H' σ δ->u9 X body D σ H')(qF:kb=false->∀H',OF X.K B0 B R H0 H' σ δ->u9 X orelse D σ H'):
  cS X (.If c body orelse pos) D σ H:=λpins s I=>by
 obtain⟨C0,f1⟩:=G.look hi hR;cases kb with
 |true=>
  refine yB nE j7 kG pins s σ H D I ?_
  exact h C0 H σ C0 H _ f1 λC1 H1 g1=>PB (qT rfl H1 (G.go m (G.own.grow (.far G.fr.sub g1.big)) G.no))
 |false=>
  refine yB nE kG j7 pins s σ H D I ?_
  exact h C0 H σ C0 H _ f1 λC1 H1 g1=>Pz (qF rfl H1 (G.go m (G.own.grow (.far G.fr.sub g1.big)) G.no))
end
section
variable{X:Cx}{B0 B H0 H:Hp}{σ:St}{D:Ends}{δ:List Slot}{ev:bP}{d:ai}{pos px ps pk:Pos}{x y:Str}{k:Nat}{jk}
theorem Mx{δ2:List Slot}(f:gf X.K B0 B H0 H σ δ)(hr:eE k X.A)(nb:∀b kvs,B0 b≠some (.dK kvs))(i:Nat)(hi:δ[i]?=some (.val (gq kv)))(hlen:δ2.length=δ.length)(hδ:Kept δ δ2 i (gq (tK kv y d)))(Xq:∀q∈kv,sL q.2)(hv:VE X ev δ d)(hd:sL d)(hl:kv.length<sizeLine)
  (q:∀di H',gf X.K B0 B di H' σ δ2->D.nx σ H')
  (hN:X.N[i]?=some x:=by rfl)(oI:AW X.env.scope x:=by first|exact aY rfl|exact b_ (aY rfl)|exact b_ (b_ rfl))(nB:(x==("__debug__":Str))=false:=by decide)(nQ:(x==("__classdict__":Str))=false:=by decide)
  (hs:swapsWith ev (some (.Subscript (.Name x px) (.Constant (.str y) jk pk) ps)) pos.line X.env=pure false:=by rfl):
  cS X (.Assign [.Subscript (.Name x px) (.Constant (.str y) jk pk) ps] ev pos) D σ H:=λpins s I=>by
 refine tj (Gm hr) (jN hN oI nB nQ) (ty:=cE X (.Constant (.str y) jk pk)) cX cX hs pins s σ H D I ?_
 refine hv B0 B σ H0 H _ f λv H1 dP g1 r1=>?_
 obtain⟨u,hu,ru⟩:=(f.grow g1).val hi;refine⟨u,hu,?_⟩
 refine(aM (X:=X) (δ:=δ)) B0 B σ H1 dP _ (f.grow g1) λt H2 h8 g2 r2=>?_
 cases r2;have f2:=(f.grow g1).grow g2;have Qg:=ru.mono g2.fA;have KY:=r1.mono g2.fA;obtain⟨a,kvs,rfl,ha,NS,Mq⟩:=Qg.k9;have hk:(kv.map λp=>(aQ p.1,p.2)).map (·.1)=kvs.map (λp=>lJ p.1):=by
  have e:=qQ6 (oY lJ) NS;rw[aL,aL]at e;rw[aL];exact e.symm
 have ZK:cu X.K H2 (kvs.map (·.2)) ((kv.map λp=>(aQ p.1,p.2)).map (·.2)):=by
  rw[aL];exact Mq
 ·have TJ:kvs.length=kv.length:=by
   have:=qQ6 gw hk;simp only[aj]at this;exact this.symm
  have TK:B a=none:=by
   rcases f2.ent.new a (by rw[ha];simp)with z|z
   ·cases e:B0 a with
    |none=>exact qQ7 e z
    |some o=>
     have:=f2.ent.fA _ _ e;rw[ha]at this;cases this;exact qQ7 e (nb a kvs)
   ·exact z
  have Qs:B0 a=none:=by
   cases e:B0 a with
   |none=>rfl
   |some o=>
    have:=f2.ent.fA _ _ e;rw[ha]at this;cases this;exact qQ7 e (nb a kvs)
  refine⟨a,_,rfl,wH.k (k:=a7 y) (f2.sub _ _ ha) (by omega),?_⟩
  generalize Gz:putK kvs (a7 y) v=Jr
  have Qu:cu X.K (tJ H2 a) (kvs.map (·.2)) (kv.map (·.2)):=Mq.cutD ha λd hd=>by
   obtain⟨w,hw,rfl⟩:=aE.mp hd;exact Xq w hw
  obtain⟨p1,p2⟩:=Fk (y:=y) (KY.cut ha hd) NS Qu;rw[Gz]at p1 p2;have TL:dC (tJ H2 a) (upd (tJ H2 a) a (.dK Jr)):=λb o e=>by
   rw[aN (λz=>by subst z;rw[Fh]at e;cases e)];exact e
  refine q (upd (tJ H2 a) a (.dK Jr)) _ ⟨⟨?_,?_,?_,?_⟩,by rw[hlen];exact f2.len,λj sl e=>?_,λj l ds es p Qv e1 e2 e3=>?_⟩
  ·intro b o e
   rw[aN (bG e TK)];exact f2.ent.big _ _ e
  ·intro b o e
   have hb:=bG e Qs;rw[aN hb,kT hb];exact f2.ent.fA _ _ e
  ·intro b o e
   by_cases hb:b=a
   ·subst hb;rw[bB]at e ⊢;exact e
   ·rw[aN hb]at e ⊢;rw[kT hb]at e;exact f2.sub _ _ e
  ·intro b e
   by_cases hb:b=a
   ·subst hb;exact .inr TK
   ·rw[aN hb,kT hb]at e;exact f2.ent.new b e
  ·rcases hδ j sl e with rfl|⟨rfl,rfl⟩|⟨e',dd,rfl,hn⟩
   ·trivial
   ·exact⟨.ref a,hu,Fm bB p1 (p2.mono TL)⟩
   ·obtain⟨vv,h1,h2⟩:=f2.slot j _ e'
    exact⟨vv,h1,(h2.cut ha hn).mono TL⟩
  ·exfalso
   rcases hδ j _ e1 with z|⟨_,z⟩|⟨_,dd,z,_⟩<;>cases z
end
section
variable{P:bC}{w:bY}{K:ao}{mg:Str->Option aB}{base:cR}{x qual:Str}{st:fH}{f:aI}{fd:fe}{N ps:List Str}{k:Nat}
theorem GA{H0 di H': Hp}(sm:dC H0 H)(g:dQ (oJ H0) H di H'):∃U,dQ H0 H U H'/\dC di U:=by
 refine⟨λb=>match di b with|some o=>some o|none=>H0 b,⟨g.big,λb o e=>?_,λb o e=>?_,λb e=>?_⟩,λb o e=>by show(match di b with|some o=>some o|none=>H0 b)=_;rw[e]⟩
 ·show(match di b with|some o=>some o|none=>H0 b)=_
  cases e':di b with
  |none=>exact e
  |some o'=>
   have h1:=g.sub b o' e';rw[g.big b o (sm b o e)]at h1;exact h1.symm
 ·have e:(match di b with|some o=>some o|none=>H0 b)=some o:=e
  cases e':di b with
  |none=>rw[e']at e;exact g.big b o (sm b o e)
  |some o'=>rw[e']at e;rw[<-e];exact g.sub b _ e'
 ·have e:(match di b with|some o=>some o|none=>H0 b)≠none:=e
  cases e':di b with
  |none=>rw[e']at e;exact .inl e
  |some o'=>
   rcases g.new b (by rw[e'];simp)with z|z
   ·refine .inl λy=>z ?_
    unfold oJ;rw[y]
   ·exact .inr z
theorem T6{R:List ai->ai->Prop}(F:mR K x qual st f fd)(S:cY N ps (a_ st))(hl:∀ds d,R ds d->ds.length=ps.length)(Du:∀ds d,R ds d->∀z∈ds,sL z)
  (hb:∀ds d,R ds d->∀eZ A outer s H E,eE k (A.deeper (envOfC qual (a_ st) s.heap.objs.size f eZ))->∀B0 B σ H0 Hh (D:Ends),(∀b kvs,B0 b≠some (.dK kvs))->gf K B0 B H0 Hh σ (qe N ds)->nV K B0 B H0 D (.rt d)->u9 (jq iP P w K mg base N qual (a_ st) f eZ A outer s H E).rP (dq st) D σ Hh):fY P w K mg base iP (k+1) f fd ps (ig K R):=by
 refine F.ok S (λvs H Q E h=>?_) (λeZ A outer s H vs Q E hr h=>?_)
 ·obtain⟨H0,ds,d,_,r,hp,_⟩:=h
  rw[r.length,hl ds d hp]
 ·obtain⟨H0,ds,d,sm,r,hp,q⟩:=h
  refine⟨_,j7,hb ds d hp eZ A outer s H E hr (oJ H0) H _ (oJ H0) H _ (λb kvs=>Jv) (.start (Bv.trans sm) (r.oJ (Du ds d hp))) λv di H' g rv=>?_⟩
  obtain⟨U,gu,su⟩:=GA sm g;exact q v U H' gu (rv.mono su)
end
theorem BD:∀{xs:List V}{us:List aB},dS xs us->dS xs.reverse us.reverse
 |_,_,.nil=>.nil
 |_,_,.cons a t=>by
  rw[iV,iV];exact(BD t).append (.cons a .nil)
theorem xi:∀{xs:List V}{ds:List ai},cu K H xs ds->cu K H xs.reverse ds.reverse
 |_,_,.nil=>.nil
 |_,_,.cons a t=>by
  rw[iV,iV];exact(xi t).append (.cons a .nil)
section
variable{X:Cx}{e a:bP}{te:TE}{δ:List Slot}{ds:List ai}{pos p2 pu pk:Pos}{j}
theorem QI(he:PE X e te):PE X (.Subscript e (.Slice none none (some (.UnaryOp .USub (.Constant (.int 1) j pk) pu)) p2) pos) (λσ H Q=>te σ H λx H1=>∃a xs,x=.ref a/\jV X.K H1 a xs/\∀p,H1 p=none->Q (.ref p) (upd H1 p (.lst xs.reverse))):=by
 intro pins s σ H Q I h;refine CV (f7 (he pins s σ H _ I h) λv s1 ⟨x,H1,I1,r1,q1⟩=>?_)
 obtain⟨a,xs,rfl,hx,q⟩:=q1;cases r1;refine wpAny_Slice ?_
 rw[evalPart_none];refine a9 ?_
 refine a9 ?_
 rw[evalPart_some];refine f7 ((NP (X:=X) HS HL) pins s1 σ H1 (λv H'=>v=.int (-1)/\H'=H1) I1 ⟨1,rfl,rfl,rfl⟩) λvk s3 ⟨k,H3,I3,rk,hk,hH⟩=>?_
 subst hk hH;obtain⟨t,rfl⟩:=rk;have I4:Inv X pins σ H3 { s3 with heap:=s3.heap.push { cls:=.type "slice",data:=.fields #[.none,.none,.int (-1) t] } }:=I3.kept (t':=s3.toks) λb ob q=>ay _ q
 obtain⟨its,r,ht,hz⟩:=I4.list hx;have hlen:=r.length;refine tail_any (ops:=[.ref a,.ref s3.heap.objs.size]) (T:="list") ht.isList.typeIs yb.lookup ?_ (by with_unfolding_all rfl)
 refine wpAny_getItem_list_slice ht.isList (xT ..) .none .none (.int (-1) t) (by decide) ?_ (by rw[bD]<;>omega)
 rw[PySem.W.krv_pick];refine⟨.ref _,_,I4.laid (t':=s3.toks) (o:=.lst xs.reverse) (λb ob q=>ay _ q) (aA _) ?_,rfl,q _ (I4.hok.fresh (aA _))⟩
 exact⟨by rw[ie];exact hz,_,0,BD r,a8 _ rfl⟩
theorem QJ(h:VE X a δ (.list ds)):VO X (.Subscript a (.Slice none none (some (.UnaryOp .USub (.Constant (.int 1) j pk) pu)) p2) pos) δ ds.reverse:=
 .of (QI cX) λB0 B σ H0 H Q f q=>h B0 B σ H0 H _ f λv H1 dP g r=>by
  cases r with
  |lst hq rs=>exact⟨_,_,rfl,g.sub.seq hq,λp hp=>q p _ H1 _ (g.trans (.loose g.sub hp)) (g.big.free hp) (g.sub.free hp) bB (xi rs)⟩
end
theorem T7{prog:bC}{A:dg}(hh:A.handled=none)(it l:aI)(E6:l≠it)(items:Array aB):
  Draws prog w A it [it,l] items.size (λi v=>items[i]?=some v) (λi h=>pq .tup h it l i/\nH .tup h l items) where
 live:=λ_ _ st=>let⟨o,ho,_⟩:=st.1.get;⟨o,ho⟩
 frame:=λ_ _ _ st hk=>⟨st.1.at λo e=>hk it (by simp) o e,st.2.at λo e=>hk l (by simp) o e⟩
 item:=λi s Q E hi st hQ=>by
  refine next_item (k:=.tup) st.1 st.2 (x:=items[i]) (by simp[hi]) λh' Xz ZQ=>?_
  exact hQ _ h' s.toks (by simp[hi]) ⟨Xz,st.2.at λo e=>ZQ.extBut l o E6 e⟩ ZQ
 done:=λs Q E st hE=>next_end (k:=.tup) hh st.1 st.2 (by simp) hE
open AutoSeq1 (wpAny_loadPart')
theorem GB(l:aI)(items:Array aB)(n:Nat)(dct:Option aI)(sl:Array (Option aB)):
  Meets (pD.«enumerate.__new__» ⟨[.type "enumerate",.ref l],[]⟩) (λ_ R s=>s.heap.get? l=some { cls:=.type "tuple",dict:=dct,data:=.seq items n,slots:=sl }/\
   R (.ok (.ret (.ref (s.heap.push { cls:=.type "tuple_iterator",data:=.fields #[.ref l,.int 0 0] }).objs.size)))
    { s with heap:=(s.heap.push { cls:=.type "tuple_iterator",data:=.fields #[.ref l,.int 0 0] }).push { cls:=.type "enumerate",data:=.fields #[.none,.bool false,.ref s.heap.objs.size,rawInt 0,.none,.none] } }):=
 .of_wp λprog w A R s h=>by
  obtain⟨hp,g,d,tk,os⟩:=s;obtain⟨hl,h⟩:=h;have Bg:=sub_enumerate;have hT:cR.IsTuple (CD ⟨hp,g,d,tk,os⟩) l items:=⟨_,hl,rfl,n,rfl⟩
  wp_walk using dF hl
  refine wpAny_stack_any λst=>a9 ?_
  split
  ·rename_i c _ _ _ _ _
   cases(c==jf "enumerate")
   ·wp_walk using dF hl,iS hT
    exact⟨_,rfl,h⟩
   ·wp_walk using dF hl,iS hT
    exact⟨_,rfl,h⟩
  ·wp_walk using dF hl,iS hT
   exact⟨_,rfl,h⟩
section
variable{prog:bC}{w:bY}{A:dg}{E:aB->aH->Prop}{s:aH}
theorem DM{l:aI}(hT:s.heap.IsTuple l items)
  (h:∀h',IsEnum h' (s.heap.objs.size+1) s.heap.objs.size 0 .none->pq .tup h' s.heap.objs.size l 0->(∀b o,s.heap.get? b=some o->h'.get? b=some o)->Q (.ref (s.heap.objs.size+1)) { s with heap:=h' }):
  wpAny (model prog w) A (call (.type "enumerate") [.ref l]) Q E s:=by
 obtain⟨⟨c,dct,dt,sl⟩,hl,hc,n,hd⟩:=hT
 replace hc:c=.type "tuple":=hc
 replace hd:dt=.seq items n:=hd
 subst hc hd;refine callType_new F.called_enumerate (by decide) (F.typeCall_enumerate_1 _) (F.newCall_enumerate_1 _) (λobj=>F.args_object_init_2 obj _) F.entry_enumerate_new (GB l items n dct sl) ⟨hl,?_⟩
 have hz:(s.heap.push { cls:=.type "tuple_iterator",data:=.fields #[.ref l,.int 0 0] }).objs.size=s.heap.objs.size+1:=fh ..;show _/\_;rw[hz];have he:IsEnum ((s.heap.push { cls:=.type "tuple_iterator",data:=.fields #[.ref l,.int 0 0] }).push { cls:=.type "enumerate",data:=.fields #[.none,.bool false,.ref s.heap.objs.size,rawInt 0,.none,.none] }) (s.heap.objs.size+1) s.heap.objs.size 0 .none:=by
  have:=a8 (s.heap.push { cls:=.type "tuple_iterator",data:=.fields #[.ref l,.int 0 0] }) (o:={ cls:=.type "enumerate",data:=.fields #[.none,.bool false,.ref s.heap.objs.size,rawInt 0,.none,.none] }) rfl;rw[hz]at this;exact this
 exact⟨⟨_,he,rfl⟩,h _ he (⟨_,ay _ (a8 _ rfl),rfl,rfl⟩:cR.IsTupleIter _ _ _ _) λb o x=>ay _ (ay _ x)⟩
end
def T8(K:ao)(a:aI):It:=
 ⟨λi H=>∃xs x,mQ K H a xs/\xs[i]?=some x,λi H v H'=>∃t x,v=.ref t/\H t=none/\H'=upd H t (.tup [.int i,x])/\∀xs,mQ K H a xs->xs[i]?=some x,λi H=>∃xs,mQ K H a xs/\xs.length<=i⟩
theorem DN{P:bC}{k}(a e it:aI)(KQ:e≠it)(hai:a≠it)(hae:a≠e):Turn P w K (.Tuple elts k tp) (T8 K a) [e,it] e (λi h=>(∃old,IsEnum h e it (i:Nat) old)/\pq .tup h it a i) where
 mem:=by simp
 obj:=λi h st b hb=>by
  obtain⟨⟨old,he⟩,h1⟩:=st;rcases av.mp hb with z|z
  ·subst z
   exact⟨_,he,λv z=>by cases z⟩
  ·have z':b=it:=by simpa using z
   subst z';exact h1.get
 keep:=λi h h' st kp=>⟨let⟨old,he⟩:=st.1;⟨old,kp e (by simp) _ he⟩,st.2.at λo q=>kp it (by simp) o q⟩
 item:=by
  intro X hP hw hK hc i pins s σ H E I hf st hg;subst hP hw hK;obtain⟨⟨old,he⟩,hit⟩:=st;obtain⟨xs,x,hq,hx⟩:=hg;obtain⟨its,rv,p,hz⟩:=I.sq (k:=.tup) hq;obtain⟨u,hu,ru⟩:=rv.get hx;have kA:i<its.toArray.size:=by
   rcases Nat.lt_or_ge i its.toArray.size with z|z
   ·exact z
   ·rw[df (by simpa using z)]at hu;cases hu
  refine wpAny_pyNext_enum_itemD (T7 (A:=X.A.in1) (I.ok.hd hc) it a hai its.toArray) he ⟨hit,p⟩ kA KQ (by simp only[av,aX,or_false,not_or];exact⟨KQ,hae.symm⟩) λy h1 tk hy KG st1 WV hz1 LY=>?_
  have ey:y=u:=by
   have:its.toArray[i]?=some u:=by simpa using hu
   exact cQ (hy.symm.trans this)
  subst ey;refine⟨.ref s.heap.objs.size,rfl,CY KG λh2 S0 pV=>?_⟩
  have elt:e<s.heap.objs.size:=aT he;have WW:it<s.heap.objs.size:=by obtain⟨o,ho,_⟩:=hit.get;exact aT ho
  have k2:∀b o,b∉[e,it]->s.heap.get? b=some o->h2.get? b=some o:=λb o hb q=>by
   have n1:b≠e:=λz=>hb (by simp[z])
   have n2:b≠it:=λz=>hb (by simp[z])
   exact(pV.2 b n1).trans (LY b o n1 n2 q)
  have I2:Inv X pins σ H { s with heap:=h2,toks:=tk+1 }:=I.qH k2 hf
  have PX:h2.get? s.heap.objs.size=some { cls:=.type "tuple",data:=.seq #[.int i tk,y] }:=(pV.2 _ (eL elt)).trans WV;have fT:rR X pins H s.heap.objs.size:=I.uh (aA _) I.fresh;have I3:Inv X pins σ (upd H s.heap.objs.size (.tup [.int i,x])) { s with heap:=h2,toks:=tk+1 }:=
   I2.track fT ⟨by show 2<=sizeLine;rw[d_];decide,[.int i tk,y],.cons ⟨_,rfl⟩ (.cons ru .nil),⟨_,PX,rfl,_,rfl⟩⟩
  refine⟨.ref s.heap.objs.size,_,I3,rfl,⟨_,x,rfl,I.fresh,rfl,λys hy=>by rw[I.ug hy hq];exact hx⟩,⟨⟨_,by simpa using S0⟩,st1.1.at λo q=>(pV.2 it KQ.symm).trans q⟩,λb hb=>?_⟩
  rcases av.mp hb with z|z
  ·subst z
   rw[aN (aU elt)];exact(hf b hb).1
  ·have z':b=it:=by simpa using z
   subst z';rw[aN (aU WW)];exact(hf b hb).1
 done:=by
  intro X hP hw hK hc i pins s σ H E I hf st hg;subst hP hw hK;obtain⟨⟨old,he⟩,hit⟩:=st;obtain⟨xs,hq,hx⟩:=hg;obtain⟨its,rv,p,hz⟩:=I.sq (k:=.tup) hq;have hl:=rv.length;have hT:s.TypeIs (.ref e) "enumerate":=⟨_,he,rfl⟩;unfold pyNext;refine ax (vN (gv (name:=jz "__next__") hT F.slot_enumerate_next (jU F.slot_enumerate_next hT F.entry_enumerate_next ?_ (F.args_enumerate_next_1 _))))
  show wpAny _ _ (field (.ref e) 2 >>= _) _ _ _;refine ax (eW he rfl (x:=.ref it) rfl ?_)
  refine ax (next_end (k:=.tup) (I.ok.hd hc) hit p (by simp;omega) λh' x eb ⟨o,ho,AX⟩=>?_)
  refine ax (zv (T:="StopIteration") (b:=true) ⟨o,ho,AX⟩ isSubtype_stop ?_)
  exact a9 ⟨rfl,I.qH (ch:=[e,it]) (t':=s.toks) (λb o hb q=>eb b o (λz=>hb (by simp[z])) q) hf⟩
 self:=λ_ _ _ _ _ st h=>let⟨⟨_,he⟩,_⟩:=st;pC he h
def QK(K:ao)(ta:TA):TI:=λσ H R=>ta σ H λvs H1=>∃a,vs=[.ref a]/\(∃xs,mQ K H1 a xs)/\R (T8 K a) H1
theorem JF{X:Cx}{a:bP}{ta:TA}{p pos: Pos}{k}(hg:Gl X "enumerate")(hm:X.mg "enumerate"=none)(ha:PA X [a] ta)(hs:starEach [a] X.env=[(false,eval a X.env)]:=by rfl):
  PI X (.Tuple elts k tp) (.Call (.Name "enumerate" p) [a] [] pos) (QK X.K ta):=by
 intro pins s σ H R I h;refine Call_ (oo I hg hm boot_enumerate (dZ (f7 (ha pos pins s σ H _ I h) λus s1 ⟨vs,H1,I1,r1,q1⟩=>?_) hs rfl))
 obtain⟨l,e,⟨xs,hq⟩,q⟩:=q1;subst e;obtain⟨u,rfl,rx⟩:=vals1 r1;cases rx;obtain⟨its,rv,pl,hz⟩:=I1.sq (k:=.tup) hq;obtain⟨o,ho⟩:=pl.get;have kA:=aT ho;refine DM (show s1.heap.IsTuple l its.toArray from pl) λh' he hit hk=>pC he ?_
 have I2:Inv X pins σ H1 { s1 with heap:=h' }:=I1.kept (t':=s1.toks) hk
 refine⟨_,[s1.heap.objs.size+1,s1.heap.objs.size],_,_,H1,rfl,I2,DN l _ _ (Nat.succ_ne_self _) (aU kA) (aU (je kA)),⟨⟨_,he⟩,hit⟩,λb hb=>?_,q⟩
 rcases av.mp hb with z|z
 ·subst z
  exact I1.uh (jm _) (I1.hok.fresh (jm _))
 ·have z':b=s1.heap.objs.size:=by simpa using z
  subst z';exact I1.uh (aA _) I1.fresh
section
variable{X:Cx}{a:bP}{δ:List Slot}{ds:List ai}{pos:Pos}
theorem JG{p: Pos}{k}(h:VE X a δ (.tuple ds))(hm:X.mg "enumerate"=none)(hg:Gl X "enumerate":=by rfl)(hs:starEach [a] X.env=[(false,eval a X.env)]:=by rfl):VI X (.Tuple elts k tp) (.Call (.Name "enumerate" p) [a] [] pos) δ (j9 ds):=
 ⟨_,JF hg hm (ej cX fK hs) hs,λB0 B σ H0 H R f q=>h B0 B σ H0 H _ f λv H1 dP g r=>by
  cases r with
  |tup hq r=>
   refine⟨_,rfl,⟨_,g.sub.mU hq⟩,q _ H1 dP g λHa Hb s1 s2 i=>?_⟩
   have hl:=r.length;have hS:=(s1.trans s2).mU hq;refine⟨λhi=>?_,λhi=>⟨_,hS,by rw[e9]at hi;omega⟩,λx uZ d hd ⟨t,y,e1,e2,e3,e4⟩=>?_⟩
   ·rw[e9]at hi
    obtain⟨x,hx,_⟩:=r.get (i:=i) (d:=ds[i]) (by simp[hi])
    exact⟨_,x,hS,hx⟩
   ·obtain⟨z,hz,rfl⟩:=kK hd
    subst e1;subst e3;refine⟨upd Ha t (.tup [.int i,y]),.laid s2 e2,.tup (mQ.of bB) (.cons (.int _) (.cons ?_ .nil))⟩
    exact((r.mono s1).at hz (e4 _ hS)).mono (dQ.laid s2 e2).fA⟩
end
theorem Ab:typeLookup (.type "list_reverseiterator") "__len__"=pure none:=by rw[sE,lU];kernel_rfl
theorem yo:typeLookup (.type "list_reverseiterator") "__length_hint__"=pure (some (.builtin "list_reverseiterator.__length_hint__")):=by rw[sE,lU];kernel_rfl
section
variable{prog:bC}{w:bY}{A:dg}{E:aB->aH->Prop}{s:aH}
theorem JH{Q:Bool->aH->Prop}(hT:s.TypeIs (.ref r) "list_reverseiterator")(h:Q false s):wpAny (model prog w) A (sS (.ref r)) Q E s:=by
 unfold sS;refine ax (A1 hT Ab ?_)
 show wpAny _ A (specialOf (cU r) (jz "__length_hint__") >>= _) _ _ _;refine ax (A1 hT yo ?_)
 generalize ZR:("list_reverseiterator.__length_hint__":String)=id0
 wp_delta
 rw[show splitId id0=some ("list_reverseiterator","__length_hint__")from by subst ZR;symm]
 subst ZR;refine ax (zv (T:="list_reverseiterator") (b:=true) hT (by rw[isSubtype_type];kernel_rfl) ?_)
 refine sF (λJh=>qQ7 Jh (by decide)) (λ_=>?_)
 refine sF (λ_=>?_) (λJh=>qQ7 (by symm) Jh)
 refine sF (λJh=>qQ7 Jh (by symm)) (λ_=>?_)
 exact a9 h
theorem My{R:rM->aH->Prop}{l S: aI}(hh:A.handled=none)(hit:s.heap.IsRevIter r l ((items.size:Int)-1))(hl:s.heap.IsList l items)(XA:l≠r)(ZS:S≠r)(Ru:S≠l)(res:aB)(c₀:Nat)(hS:s.heap.get? S=some { cls:=.type "list",data:=.seq #[] c₀ })
  (hR:∀h' tk Ac c',(∀b o,b≠S->b≠r->s.heap.get? b=some o->h'.get? b=some o)->h'.get? S=some { cls:=.type "list",dict:=none,data:=.seq Ac c',slots:=#[] }->ItemsOf (λi v=>items[items.size-1-i]?=some v) Ac items.size->R (.ok (.ret res)) { s with heap:=h',toks:=tk })(hn:items.size<=sizeLine):
  wpAny (model prog w) A.in1 (ix (.ref S) (.ref r) res)
   (λfin s'=>match fin with | .done f=>R (.ok f) s' | .again c'=>c'.quiet=true/\codeAny (model prog w) A c' R s') (λe s'=>R (.error e) s') s:=by
 have Ip:S∉[r,l]:=by simp only[av,aX,or_false,not_or];exact⟨ZS,Ru⟩
 have W:=Walks.listRev (prog:=prog) (w:=w) (A:=A.in1) hh r l XA items;have st:items.size>=0/\s.heap.IsRevIter r l ((items.size:Int)-1-((0:Nat):Int))/\s.heap.IsList l items:=⟨aV _,by rw[Int.natCast_zero,C8];exact hit,hl⟩
 unfold ix;refine ax (x8 hit.typeIs ?_)
 have h1:uQ (.ref S) (.ref r)=false:=by simp[uQ,ZS]
 have h2:(jf "list_reverseiterator"==jf "list")=false:=by decide
 have h3:(jf "list_reverseiterator"==jf "tuple")=false:=by decide
 simp only[h1,h2,h3,Bool.or_false,Bool.false_eq_true,if_false];refine ax (wpAny_pyIter_revIter hit ?_)
 refine ax (mO (JH hit.typeIs ?_))
 refine sF (λJh=>qQ7 Jh (by symm)) (λ_=>a9 ⟨pK F.plain_extend_loop _,?_⟩)
 refine codeAny_extend_loopS W.toS hn S Ip res items.size 0 _ #[] c₀ rfl (aV _) st hS (ItemsOf.nil _) λs' Ac c' hm F6 QL=>?_
 rw[Moved.eq_with hm];refine hR s'.heap s'.toks Ac c' (λb o hb hr e=>hm.heap b o (λwJ=>?_) e) F6 QL
 rcases av.mp wJ with e'|wJ
 ·exact hb e'
 ·exact hr (aW.mp wJ)
theorem Ad{l: aI}(hh:A.handled=none)(hit:s.heap.IsRevIter r l ((items.size:Int)-1))(hl:s.heap.IsList l items)(XA:l≠r)(hn:items.size<=sizeLine)
  (hQ:∀h' tk Ac c',(∀b o,b≠r->s.heap.get? b=some o->h'.get? b=some o)->h'.get? s.heap.objs.size=some { cls:=.type "list",dict:=none,data:=.seq Ac c',slots:=#[] }->ItemsOf (λi v=>items[items.size-1-i]?=some v) Ac items.size->Q (.ref s.heap.objs.size) { s with heap:=h',toks:=tk }):
  wpAny (model prog w) A (call (.type "list") [.ref r]) Q E s:=by
 refine callType_codes (Q₁:=λobj s₁=>obj=.ref s.heap.objs.size/\s₁={ s with heap:=s.heap.push { cls:=.type "list",data:=.seq #[] } }) F.called_list (F.typeCall_list_1 _) F.entry_list_init
  (code_list_new _ ⟨rfl,rfl⟩) λobj s₁ h₁=>?_
 obtain⟨rfl,rfl⟩:=h₁;have hS:(s.heap.push { cls:=.type "list",data:=.seq #[] }).get? s.heap.objs.size=some { cls:=.type "list",data:=.seq #[] }:=a8 _ rfl;obtain⟨o1,e1,_⟩:=id hit;obtain⟨o2,e2,_⟩:=id hl;have lr:=eL (aT e1);have ll:=eL (aT e2);refine⟨⟨_,hS,rfl⟩,F.args_list_init_2 _ _,?_⟩
 show wpAny _ _ (do let old <-vQ (.ref s.heap.objs.size);pD.List.listUpdate (.ref s.heap.objs.size) (λ_=>#[]);letGo old.toList.reverse;ix (.ref s.heap.objs.size) (.ref r) .none) _ _ _
 refine ax ?_
 unfold vQ;refine ax (f9 hS rfl (a9 ?_))
 show wpAny _ _ (updateSeq s.heap.objs.size (λ_=>#[]) >>= λ_=>letGo (#[]:Array aB).toList.reverse >>= λ_=>ix (.ref s.heap.objs.size) (.ref r) .none) _ _ _
 refine ax (wpAny_updateSeq hS rfl ?_)
 have Tr:=C5 (zp (λ_=>(#[]:Array aB))) hS rfl
 have XB:∀b o,b≠s.heap.objs.size->s.heap.get? b=some o->((s.heap.push { cls:=.type "list",data:=.seq #[] }).update s.heap.objs.size (zp (λ_=>(#[]:Array aB)))).get? b=some o:=
  λb o hb e=>(Cz _ _ (bV hb)).trans (ay _ e)
 refine ax (AU ?_)
 refine My (A:=A.in1) hh (hit.at λo e=>XB _ _ (bV lr) e) (hl.at λo e=>XB _ _ (bV ll) e) XA lr ll .none _ Tr (λh' tk Ac c' hk F6 QL=>?_) hn
 exact⟨rfl,hQ h' tk Ac c' (λb o hb e=>hk b o (aU (aT e)) hb (XB b o (aU (aT e)) e)) F6 QL⟩
end
def XC(K:ao)(t:TA):TE:=λσ H Q=>t σ H λvs H1=>∃l xs,vs=[.ref l]/\jV K H1 l xs/\∀p,H1 p=none->Q (.ref p) (upd H1 p (.lst xs.reverse))
section
variable{X:Cx}{a:bP}{δ:List Slot}{ds:List ai}{pos oE p p2:Pos}
theorem boot_reversed:bootBuiltins "reversed"=some (.type "reversed"):=rfl
theorem DP{ta:TA}(hc:X.calm=true)(m1:X.mg "list"=none)(m2:X.mg "reversed"=none)(ha:PA X [a] ta)(hg:Gl X "list":=by rfl)(P6:Gl X "reversed":=by rfl)
  (hs:starEach [a] X.env=[(false,eval a X.env)]:=by rfl)(pV:starEach [.Call (.Name "reversed" p2) [a] [] oE] X.env=(false,eval (.Call (.Name "reversed" p2) [a] [] oE) X.env)::starEach [] X.env:=by rfl)(sW:(backTo oE (starEach [] X.env)).any (·.1)=false:=by rfl)(Jj:(backTo pos (starEach [] X.env)).any (·.1)=false:=by rfl):
  PE X (.Call (.Name "list" p) [.Call (.Name "reversed" p2) [a] [] oE] [] pos) (XC X.K ta):=by
 intro pins s σ H Q I h;refine iT (oo I hg m1 (by rfl) ?_ (by decide) (by decide))
 refine dZ ?_ pV Jj
 rw[pV];show wpAny _ _ (spliced ((false,eval (.Call (.Name "reversed" p2) [a] [] oE) X.env)::backTo pos (starEach [] X.env))) _ _ s;refine iE (iT (oo I P6 m2 boot_reversed ?_ (by decide) (by decide)))
 refine dZ (f7 (ha oE pins s σ H _ I h) λus s1 ⟨vs,H1,I1,r1,q1⟩=>?_) hs sW
 obtain⟨l,xs,rfl,hq,q⟩:=q1;obtain⟨u,rfl,rx⟩:=vals1 r1;cases rx;obtain⟨its,rv,pl,hz⟩:=I1.list hq;have hl:=pl.isList;obtain⟨o,ho,_⟩:=id hl;have kA:=aT ho;refine call_reversed_list hl (nM ?_)
 have hln:=rv.length;have hsz:its.toArray.size=its.length:=by simp
 refine Ad (r:=s1.heap.objs.size) (l:=l) (items:=its.toArray) (I.ok.hd hc) ⟨_,a8 _ rfl,rfl,rfl⟩ (hl.at λo e=>ay _ e) (aU kA) (by rw[hsz,<-hln];exact hz) λh' tk acc c k e it=>?_
 have ek:acc.toList=its.reverse:=by
  refine fX λj=>?_
  have Vt:acc.toList.length=its.length:=by simpa using it.1
  by_cases hj:j<its.length
  ·have h1:acc.toList[j]?=some (acc.toList[j]'(by omega)):=au (by omega)
   have h2:=it.2 j _ (by rw[<-CB];exact h1)
   rw[h1,List.getElem?_reverse hj]
   simpa using h2.symm
  ·rw[df (by omega),df (by rw[ie];omega)]
 have rr:dS xs.reverse acc.toList:=by
  rw[ek];exact rv.reverse
 have hk:∀b o,s1.heap.get? b=some o->h'.get? b=some o:=λb o e=>k b o (aU (aT e)) (ay _ e)
 have hle:s1.heap.objs.size<=(s1.heap.push (revObj l ((its.toArray.size:Int)-1))).objs.size:=by rw[fh];exact jm _
 exact⟨.ref _,_,I1.laid hk hle (show hZ X.prog X.w _ h' _ (.lst _) from⟨by rw[ie];exact hz,acc.toList,c,rr,by simpa using e⟩),rfl,q _ (I1.hok.fresh hle)⟩
theorem DQ(h:VE X a δ (.list ds))(hc:X.calm=true)(m1:X.mg "list"=none)(m2:X.mg "reversed"=none)(hg:Gl X "list":=by rfl)(P6:Gl X "reversed":=by rfl)
  (hs:starEach [a] X.env=[(false,eval a X.env)]:=by rfl)(pV:starEach [.Call (.Name "reversed" p2) [a] [] oE] X.env=(false,eval (.Call (.Name "reversed" p2) [a] [] oE) X.env)::starEach [] X.env:=by rfl)(sW:(backTo oE (starEach [] X.env)).any (·.1)=false:=by rfl)(Jj:(backTo pos (starEach [] X.env)).any (·.1)=false:=by rfl):
  VO X (.Call (.Name "list" p) [.Call (.Name "reversed" p2) [a] [] oE] [] pos) δ ds.reverse:=
 .of (DP hc m1 m2 (ej cX fK hs) hg P6 hs pV sW Jj) λB0 B σ H0 H Q f q=>h B0 B σ H0 H _ f λv H1 dP g r=>by
  cases r with
  |lst hq rs=>exact⟨_,_,rfl,g.sub.seq hq,λp hp=>q p _ H1 _ (g.trans (.loose g.sub hp)) (g.big.free hp) (g.sub.free hp) bB (xi rs)⟩
end
end L2
namespace L2
open PySem PySem.Spec PyProof.Rows
def BF(X:Cx)(st:List fH)(δ:List Slot)(o:Out):Prop:=∀B0 B σ H0 H D,(∀b kvs,B0 b≠some (HO.dK kvs))->gf X.K B0 B H0 H σ δ->nV X.K B0 B H0 D o->u9 X st D σ H
section
variable{X:Cx}{st:fH}{rest:List fH}{δ δ':List Slot}{o:Out}{ds:List ai}
theorem gA(h1:VS X st δ (.nx δ'))(h2:BF X rest δ' o):BF X (st::rest) δ o:=λB0 B σ H0 H D nb f ok pins s I=>
 jC F9 j7 pins s σ H D I (h1 B0 B σ H0 H _ f λσ' Ha Hb sm f'=>h2 B0 B σ' Ha Hb D nb f' (ok.mono sm))
theorem mG(i:Nat)(hi:δ[i]?=some (.own ds))(h:BF X rest (δ.set i (.val (.list ds))) o):BF X rest δ o:=λB0 B σ H0 H D nb f ok=>by
 obtain⟨p,xs,h1,h2,h3,h4,h5⟩:=f.slot i _ hi;obtain⟨f',sm⟩:=f.freeze hi h1 h2;exact h B0 B σ _ H D nb f' (ok.mono sm)
theorem JK(h:∀B0 B σ H0 H D,(∀b kvs,B0 b≠some (HO.dK kvs))->gf X.K B0 B H0 H σ δ->nV X.K B0 B H0 D o->u9 X rest D σ H):BF X rest δ o:=h
theorem BF.run(h:BF X rest δ o){B0 B H0 H:Hp}{σ:St}{D:Ends}(nb:∀b kvs,B0 b≠some (HO.dK kvs))(f:gf X.K B0 B H0 H σ δ)(ok:nV X.K B0 B H0 D o):u9 X rest D σ H:=h B0 B σ H0 H D nb f ok
end
end L2
namespace Mg
open L2 PySem PyProof.Rows
def top(i:Nat):fH:=PySem.Challenge.pw_mergeline_k61_pace_fault.main.body.getD i (.Pass ⟨0,0,0,0⟩)
theorem small{n:Nat}(h:n<=1000000):n<=sizeLine:=bZ h (by rw[d_];decide)
theorem ja{n:Nat}(h:n<=1000000):n<sizeLine:=Nat.lt_of_le_of_lt h (by rw[d_];decide)
def lH(x:Str):Prop:=cG (.str x)=true
theorem bO(a b:Str):dm (.str a) (.str b)=decide (a=b):=by
 rw[dm,fw];simp
theorem kU(a b:Int):dm (.int a) (.int b)=decide (a=b):=by
 rw[dm,fw];simp
end Mg
namespace L2
open PySem PySem.Spec PyProof.Rows
section
variable{X:Cx}{a b c e:bP}{δ:List Slot}{d d1 d2 d3:ai}{pos:Pos}{k:Nat}
theorem BG{op op':CT}{r r':R2}{k1 k2:Bool}(ho:qE X (compareOp op) r)(CJ:qE X (compareOp op') r')(ZT:yL X.K r d1 d2 (.bool k1))(od2:yL X.K r' d2 d3 (.bool k2))(h1:VE X a δ d1)(h2:VE X b δ d2)(h3:k1=true->VE X c δ d3)
  (hm:lastMarks [op,op'] [b,c]=false:=by with_unfolding_all rfl):VE X (.Compare a [op,op'] [b,c] pos) δ (.bool (k1&&k2)):=by
 cases k1 with
 |true=>
  refine .of (A9 ho CJ cX cX cX hm) λB0 B σ H0 H Q f q=>h1 B0 B σ H0 H _ f λv H1 dP g1 r1=>h2 B0 B σ H1 dP _ (f.grow g1) λu H2 h8 g2 r2=>ZT v u H2 h8 _ g2.sub (r1.mono g2.fA) r2 λz H3 wK g3 r3=>?_
  cases r3;refine⟨true,rfl,?_⟩
  rw[qQ3 rfl];exact h3 rfl B0 B σ H3 wK _ (((f.grow g1).grow g2).grow g3) λx H4 W_ g4 r4=>od2 u x H4 W_ _ g4.sub ((r2.mono g3.fA).mono g4.fA) r4 λy H5 H5' g5 r5=>q y H5 H5' ((((g1.trans g2).trans g3).trans g4).trans g5) r5
 |false=>
  refine .of (A9 ho CJ cX cX wQ hm) λB0 B σ H0 H Q f q=>h1 B0 B σ H0 H _ f λv H1 dP g1 r1=>h2 B0 B σ H1 dP _ (f.grow g1) λu H2 h8 g2 r2=>ZT v u H2 h8 _ g2.sub (r1.mono g2.fA) r2 λz H3 wK g3 r3=>?_
  cases r3;refine⟨false,rfl,?_⟩
  rw[qQ2 cq];exact q _ H3 wK ((g1.trans g2).trans g3) (.bl false)
theorem JL{x:Str}{s:Str}{t:Tok}(hm:X.mg x=some (.str s t))(hg:Gl X x:=by rfl)(hd:(x==("__debug__":Str))=false:=by decide):VE X (.Name x pos) δ (.str s):=.of (vS hg hm (v:=.str s) ⟨t,rfl⟩ hd) λ_ _ _ _ _ _ f k=>k _ _ _ (.refl f.sub) (.str s)
theorem Fp{x:Str}{i:Int}{t:Tok}(hm:X.mg x=some (.int i t))(hg:Gl X x:=by rfl)(hd:(x==("__debug__":Str))=false:=by decide):VE X (.Name x pos) δ (.int i):=.of (vS hg hm (v:=.int i) ⟨t,rfl⟩ hd) λ_ _ _ _ _ _ f k=>k _ _ _ (.refl f.sub) (.int i)
end
end L2
namespace Mg
open L2 PySem PyProof.Rows
seal L2.VE L2.VS L2.pF L2.VT L2.VO L2.IG
variable{fd:fe}{ds:List ai}{c:Nat}{d:ai}{x:Str}
structure Nw(mg:Str->Option aB):Prop where
 len:mg "len"=none
 all:mg "all"=none
 Rn:mg "enumerate"=none
 let_:∃t,mg "LETTERS"=some (.str "abcdefghijklmnopqrstuvwxyz" t)
 fig:∃t,mg "FIGURES"=some (.str "0123456789" t)
 lna:∃t,mg "LONGEST_NAME"=some (.int 8 t)
 lnu:∃t,mg "LONGEST_NUMBER"=some (.int 6 t)
def one(c:Nat):Str:=⟨#[c]⟩
def nI(signs:Str)(longest:Int)(w:Str):Bool:=(decide (1<=(w.length:Int))&&decide ((w.length:Int)<=longest))&&w.cps.toList.all λc=>zV (one c) signs
def N6(signs:Str):ai->Option ai
 | .str x=>some (.bool (zV x signs))
 |_=>none
theorem GC(signs w:Str):(oF w).filterMap (N6 signs)=(w.cps.toList.map λc=>zV (one c) signs).map .bool:=by
 unfold oF;rw[bQ,aL];exact filterMap_some λc _=>rfl
def isName(w:Str):Bool:=nI "abcdefghijklmnopqrstuvwxyz" 8 w
def isNumber(w:Str):Bool:=nI "0123456789" 6 w&&(decide (w="0") || !decide ((w.cps.toList.head?.map one).getD ft="0"))
def wordsOf(row:Str):List Str:=(ck row " ").filter λw=>decide (w≠"")
def rowsOf(text:Str):List (Nat×List Str):=(ck text "\n").zipIdx.filterMap λp=>if(wordsOf p.1).isEmpty then none else some (p.2,wordsOf p.1)
theorem lL(x:Str):lH x↔∀c∈x.cps.toList,c<0x110000:=by
 show(x.cps.all λc=>decide (c<0x110000))=true↔_
 rw[<-Array.all_toList,eK];exact⟨λh c hc=>qQ4 (h c hc),λh c hc=>qQ1 (h c hc)⟩
theorem QM(h:lH x)(hc:c∈x.cps.toList):lH (one c):=by
 rw[lL]at h ⊢;intro z hz;have:z=c:=by simpa[one]using hz
 rw[this];exact h c hc
def uy(x:Str):Prop:=x.length<=100000/\lH x
section
variable{P:bC}{w:bY}{K:ao}{mg:Str->Option aB}{base:cR}{f:aI}{k:Nat}
abbrev T9:List Str:=["signs","longest","word"]
theorem T_:cY T9 T9 (a_ (top 12)):=⟨rfl,rfl,rfl,by symm,rfl,by symm,by symm⟩
def XD(ds:List ai)(d:ai):Prop:=∃(signs:Str)(longest:Int)(x:Str),ds=[.str signs,.int longest,.str x]/\x.length<=100000/\d=.bool (nI signs longest x)
theorem XE(F:mR K "is_made_of" "is_made_of" (top 12) f fd)(n:Nw mg):fY P w K mg base iP 1 f fd T9 (ig K XD):=
 kN F T_ (λ_ _ h=>by obtain⟨_,_,_,rfl,_⟩:=h;rfl) λ_ _ h=>by
  obtain⟨signs,longest,x,rfl,hx,rfl⟩:=h;intro eZ A outer s H E hr;have nc:(["sign","signs"]:List Str).Nodup:=by symm
  have hl:(oF x).length<=100000:=by unfold oF;rw[aj,cM];exact hx
  refine bJ (cy (VE.to (mE (BG A8 A8 (zP 1 x.length) (zP x.length longest) aK (E_ (ae 2 rfl) (small (by omega)) n.len) (λ_=>ae 1 rfl)) (λ_=>iZ (h_ (qf rfl) Bl (aq (VO.ve (VO.to (eO (own:=["sign"]) (cap:=[0]) (N:=["sign","signs"]) (tgt:=.one 0) (F:=N6 signs) (ds:=oF x) rfl ⟨rfl,by symm,by symm,rfl,rfl,?_⟩ (P9 (ae 2 rfl)) (λf s3 H3=>bE (i:=0) nc rfl (aY rfl)) rfl
   (small (by omega)) (λd hd=>?_)) (GC signs x))) aZ) n.all rfl))) ?_))
  ·intro j hj
   rcases av.mp hj with rfl|hj
   ·exact⟨(by show(0:Nat)<3;decide),aY rfl,rfl⟩
   ·cases hj
  ·obtain⟨c,_,rfl⟩:=aE.mp hd
   exact⟨_,rfl,λf s3 H3=>eN,λr hC f s3 H3=>by cases hC;exact P' (ae 0 rfl) (ae 1 rfl)⟩
  ·unfold nI o5
   rw[CF];rfl
theorem Ua:cY ["word"] ["word"] (a_ (top 13)):=⟨rfl,rfl,rfl,by symm,rfl,by symm,by symm⟩
theorem Ub:cY ["word"] ["word"] (a_ (top 14)):=⟨rfl,rfl,rfl,by symm,rfl,by symm,by symm⟩
def Uc(ds:List ai)(d:ai):Prop:=∃x:Str,ds=[.str x]/\x.length<=100000/\d=.bool (isName x)
def Vu(ds:List ai)(d:ai):Prop:=∃x:Str,ds=[.str x]/\uy x/\d=.bool (isNumber x)
theorem XF(F:mR K "is_name" "is_name" (top 13) f fd)(n:Nw mg)(C:bM P w K mg base 1 "is_made_of" T9 (ig K XD)):fY P w K mg base iP 2 f fd ["word"] (ig K Uc):=
 kN F Ua (λ_ _ h=>by obtain⟨_,rfl,_⟩:=h;rfl) λ_ _ h=>by
  obtain⟨x,rfl,hx,rfl⟩:=h;intro eZ A outer s H E hr;obtain⟨t1,m1⟩:=n.let_;obtain⟨t2,m2⟩:=n.lna;exact bJ (cy (bT C hr (aq (JL m1) (aq (Fp m2) (aq (ae 0 rfl) aZ))) ⟨_,8,x,rfl,hx,rfl⟩))
theorem XG(F:mR K "is_number" "is_number" (top 14) f fd)(n:Nw mg)(C:bM P w K mg base 1 "is_made_of" T9 (ig K XD)):fY P w K mg base iP 2 f fd ["word"] (ig K Vu):=
 kN F Ub (λ_ _ h=>by obtain⟨_,rfl,_⟩:=h;rfl) λ_ _ h=>by
  obtain⟨x,rfl,⟨hx,ZU⟩,rfl⟩:=h;intro eZ A outer s H E hr;obtain⟨t1,m1⟩:=n.fig;obtain⟨t2,m2⟩:=n.lnu;have o0:Lay 20 (.str "0"):=bw (by symm)
  cases em:nI "0123456789" 6 x with
  |false=>
   refine bJ (cy (VE.to (mE (k1:=false) (k2:=false) (VE.to (bT C hr (aq (JL m1) (aq (Fp m2) (aq (ae 0 rfl) aZ))) ⟨_,6,x,rfl,hx,rfl⟩) (by rw[em])) (λz=>by cases z)) ?_))
   unfold isNumber;rw[em];rfl
  |true=>
   obtain⟨c,hc⟩:∃c,x.cps.toList.head?=some c:=by
    cases e:x.cps.toList with
    |cons c l=>exact⟨c,rfl⟩
    |nil=>
     exfalso
     have:x.length=0:=by
      have:=qQ6 gw e;rw[cM]at this;exact this
     unfold nI at em;rw[this]at em;cases em
   have h0:pj x.cps.toList 0=some c:=by
    cases e:x.cps.toList with
    |nil=>rw[e]at hc;cases hc
    |cons a l=>rw[e]at hc;cases hc;exact bK (j:=0) rfl
   have okc:lH (one c):=by
    have hm:c∈x.cps.toList:=by
     cases e:x.cps.toList with
     |nil=>rw[e]at hc;cases hc
     |cons a l=>rw[e]at hc;cases hc;exact aO
    exact QM ZU hm
   refine bJ (cy (VE.to (mE (k1:=true) (VE.to (bT C hr (aq (JL m1) (aq (Fp m2) (aq (ae 0 rfl) aZ))) ⟨_,6,x,rfl,hx,rfl⟩) (by rw[em])) (λ_=>iZ (rA (oZ hr (bw ZU) o0 (ae 0 rfl) aM) (λ_=>iZ (IU hr (bw okc) o0 (zU (ae 0 rfl) aK (small (by omega)) h0) aM))))) ?_))
   unfold isNumber;rw[em,bO,bO,hc];rfl
end
theorem BH{y p:Str}:∀{zs:List Str},p∈zs->c∈p.cps.toList->c∈(cL y zs).cps.toList
 | [],h,_=>by cases h
 | [x],h,hc=>by
  rw[aW]at h;subst h;exact hc
 |x::x2::zs,h,hc=>by
  show c∈(x++y++cL y (x2::zs)).cps.toList;have e:(x++y++cL y (x2::zs)).cps.toList=(x.cps.toList++y.cps.toList)++(cL y (x2::zs)).cps.toList:=by
   show(x.cps++y.cps++(cL y (x2::zs)).cps).toList=_
   simp
  rw[e];rcases av.mp h with rfl|h
  ·exact gX _ (gX _ hc)
  ·exact cJ _ (BH h hc)
theorem BI{y p: Str}(h:uy x)(hp:p∈ck x y):uy p:=by
 refine⟨bZ (part_short hp) h.1,(lL p).mpr λc hc=>(lL x).mp h.2 c ?_⟩
 have:=BH (y:=y) hp hc;rw[mh]at this;exact this
def Fq:ai->Option ai
 | .str w=>if decide (w≠"")=true then some (.str w)else none
 |_=>none
theorem GF(l:List Str):(l.map aQ).filterMap Fq=(l.filter λw:Str=>decide (w≠"")).map aQ:=by
 induction l with
 |nil=>rfl
 |cons w l ih=>
  rw[aD,il];by_cases h:decide (w≠"")=true
  ·rw[qQ3 h,cA (f:=Fq) (b:=.str w) (by show(if _ then _ else _)=_;rw[qQ3 h]),ih];rfl
  ·rw[qQ2 h,dH (f:=Fq) (by show(if _ then _ else _)=_;rw[qQ2 h]),ih]
def xj(p:Nat×List Str):ai:=.tuple [.int p.1,.list (p.2.map .str)]
def oK(text:Str)(i:Nat):List (Nat×List Str):=((ck text "\n").zipIdx.take i).filterMap λp=>if(wordsOf p.1).isEmpty then none else some (p.2,wordsOf p.1)
theorem vd{text row:Str}{i:Nat}(h:(ck text "\n")[i]?=some row):oK text (i+1)=oK text i++(if(wordsOf row).isEmpty then []else [(i,wordsOf row)]):=by
 unfold oK;rw[cV,Ew,h];simp only[fU,sG,k6,pN]
 congr 1
 cases e:(wordsOf row).isEmpty
 ·rw[cA (b:=(i,wordsOf row)) (by simp only[e];rfl)];rfl
 ·rw[dH (by simp only[e];rfl)];rfl
theorem DS(text:Str):oK text (ck text "\n").length=rowsOf text:=by
 unfold oK rowsOf;rw[fj (by simp)]
theorem DT(text:Str)(i:Nat):(oK text i).length<=i:=by
 unfold oK;exact bZ (hG _ _) (by rw[dz];omega)
theorem vf{y: Str}(h:x.length<=100000):(ck x y).length<=100002:=by
 have e1:=AK x y 0 x.length (x.length+1);unfold ck
 split
 ·show 1<=100002;omega
 ·split
  ·show 1<=100002;omega
  ·rw[vB];omega
section
variable{P:bC}{w:bY}{K:ao}{mg:Str->Option aB}{base:cR}{f:aI}{k:Nat}
theorem Ud:cY ["row"] ["row"] (a_ (top 15)):=⟨rfl,rfl,rfl,by symm,rfl,by symm,by symm⟩
def ZV(ds es:List ai):Prop:=∃x:Str,ds=[.str x]/\uy x/\es=(wordsOf x).map .str
theorem XH(F:mR K "words_of" "words_of" (top 15) f fd):fY P w K mg base iP 1 f fd ["row"] (II K ZV):=
 L6 F Ud (λ_ _ h=>by obtain⟨_,rfl,_⟩:=h;rfl) λ_ _ h=>by
  obtain⟨x,rfl,ok,rfl⟩:=h;intro eZ A outer s H E hr;have nc:(["word"]:List Str).Nodup:=by symm
  have hx:=ok.1;refine bJ (vX (VO.to (eO (own:=["word"]) (cap:=[]) (N:=["word"]) (cl:=[]) (tgt:=.one 0) (F:=Fq) (ds:=(ck x " ").map aQ) rfl ⟨rfl,by symm,by symm,rfl,rfl,by simp⟩ (fE (VO.ve (qg (ae 0 rfl) aM rfl (small (by omega))))) (λf s3 H3=>bE (i:=0) nc rfl (aY rfl)) rfl
   (small (by rw[aj];have:=vf (y:=" ") hx;omega)) (λd hd=>?_)) (GF _)))
  obtain⟨p,hp,rfl⟩:=aE.mp hd;have N7:=BI ok hp;refine⟨_,rfl,λf s3 H3=>?_,λr hC f s3 H3=>?_⟩
  ·refine tG (VT.to (mq (k:=0) hr (bw N7.2) (bw (x:="") (by symm)) (ae 0 rfl) aM) ?_)
   rw[bO]
   show(!decide (p=""))=(if decide (p≠"")=true then some (aQ p)else none).isSome
   by_cases h:p=""
   ·subst h;rfl
   ·rw[qQ3 (by simpa using h),qQ0 h];rfl
  ·have QN:(if decide (p≠"")=true then some (aQ p)else none)=some r:=hC
   split at QN
   ·cases QN;exact ae 0 rfl
   ·cases QN
abbrev ZW:List Str:=["text","rows","number","row","words"]
theorem N8:cY ZW ["text"] (a_ (top 16)):=⟨rfl,rfl,rfl,by symm,rfl,by symm,by symm⟩
def ZX(ds es:List ai):Prop:=∃x:Str,ds=[.str x]/\uy x/\es=(rowsOf x).map xj
theorem XI(F:mR K "rows_of" "rows_of" (top 16) f fd)(n:Nw mg)(C:bM P w K mg base 1 "words_of" ["row"] (II K ZV)):fY P w K mg base iP 2 f fd ["text"] (II K ZX):=
 L6 F N8 (λ_ _ h=>by obtain⟨_,rfl,_⟩:=h;rfl) λ_ _ h=>by
  obtain⟨x,rfl,ok,rfl⟩:=h;intro eZ A outer s H E hr;have nd:ZW.Nodup:=N8.nd;have hx:=ok.1;have hc:=vf (y:="\n") hx;refine aP (m_ 1 (iH aZ) nd) ?_
  refine aP (qd (tgt:=.tup [2,3]) (o:=.nx [.val (.str x),.own ((oK x (ck x "\n").length).map xj),.un,.un,.un]) dI rfl (qK (ds:=(ck x "\n").map aQ) (VO.ve (qg (ae 0 rfl) aM rfl (small (by omega)))) n.Rn)
   (fQ rfl (bH (bE (i:=2) nd rfl (aY rfl)) (bH (bE (i:=3) nd rfl (aY rfl)) eU))) (λi=>[.val (.str x),.own ((oK x i).map xj),.un,.un,.un]) (ck x "\n").length rfl (by rw[e9];simp) (λi d hi hd=>?_) (.inl ⟨by rw[e9];simp,rfl⟩)) ?_
  ·obtain⟨y,hy,rfl⟩:=kK hd
   obtain⟨row,Mz⟩:∃row,(ck x "\n")[i]?=some row:=⟨(ck x "\n")[i],by simp[hi]⟩
   rw[aF,Mz]at hy;cases hy;have Rw:=BI ok (bh Mz);have hle:=DT x i;refine⟨_,rfl,?_⟩
   refine aP (cO 4 (VO.ve (qM C hr (aq (ae 3 rfl) aZ) ⟨row,rfl,Rw,rfl⟩)) nd) ?_
   cases ew:(wordsOf row).isEmpty with
   |true=>
    refine lK (bJ (bW (VT.to (nF (ae 4 rfl) rfl) (by cases e:wordsOf row with|nil=>rfl|cons _ _=>rw[e]at ew;cases ew)) bL)) ⟨.inr rfl,.inr ?_,.inl rfl,.inl rfl,.inl rfl,trivial⟩
    rw[vd Mz,ew,qQ3 rfl,du]
   |false=>
    refine lK (bJ (eR (VT.to (nF (ae 4 rfl) rfl) (by cases e:wordsOf row with|nil=>rw[e]at ew;cases ew|cons _ _=>rfl)) (bJ (qL 1 rfl (d:=xj (i,wordsOf row)) (gy (aq (ae 2 rfl) (aq (ae 4 rfl) aZ))) (ja (by rw[aj];omega)))))) ⟨.inr rfl,.inr ?_,.inl rfl,.inl rfl,.inl rfl,trivial⟩
    rw[vd Mz,ew,qQ2 cq,bx];rfl
  ·rw[DS]
   exact bJ (L5 1 rfl)
end
def jb(ns:List Int):ai:=.list (ns.map .int)
def cz(c k:Int):Int:=((c%2147483629+k*k*7919+11)*48271%2147483647)*((c%2147483629+k*k*7919+11)*48271%2147483647)%1999999973
theorem Fs(c k:Int):0<=cz c k:=bA _ (by decide)
theorem MA(c k:Int):cz c k<1999999973:=bj _ (by decide)
abbrev ABC:Str:="abcdefghijklmnopqrstuvwxyz"
theorem BJ:(ABC:Str).cps.toList=(bS 26).map (97 + ·):=by symm
def BK(i:Int):Str:=one (97+i.toNat)
theorem DU{i:Int}(h0:0<=i)(h1:i<26):pj (ABC:Str).cps.toList i=some (97+i.toNat):=by
 obtain⟨n,rfl⟩:=ku h0;refine bK (j:=n) ?_
 have hn:n<26:=by omega
 rw[BJ,aF,cg hn];rfl
def c7(x:Str):Prop:=1<=x.cps.toList.length/\x.cps.toList.length<=8/\∀c∈x.cps.toList,97<=c/\c<123
theorem MB(h:97<=c/\c<123):c∈(ABC:Str).cps.toList:=by
 rw[BJ];exact aE.mpr ⟨c-97,cw.mpr (by omega),by omega⟩
theorem c7.is(h:c7 x):isName x=true:=by
 obtain⟨h1,h2,h3⟩:=h;rw[cM]at h1 h2;have e:x.length=x.cps.size:=rfl;unfold isName nI;rw[qQ1 (by omega),qQ1 (by omega),lB,lB,eK]
 intro c hc;show zV (one c) ABC=true;have:zV (one c) ABC=decide (c∈(ABC:Str).cps.toList):=sU ..;rw[this];exact qQ1 (MB (h3 c hc))
theorem c7.ok(h:c7 x):uy x:=by
 obtain⟨h1,h2,h3⟩:=h;rw[cM]at h1 h2;refine⟨by show x.cps.size<=_;omega,(lL x).mpr λc hc=>?_⟩
 have:=h3 c hc;omega
theorem BL(x:Str):∀n,(iQ x n).cps.toList=(bp n x.cps.toList).flatten
 |0=>rfl
 |n+1=>by
  have e:(iQ x (n+1)).cps.toList=x.cps.toList++(iQ x n).cps.toList:=by
   show(x.cps++(iQ x n).cps).toList=_
   simp
  rw[e,BL x n];rfl
theorem Ae(c n:Nat):(iQ (one c) n).cps.toList=bp n c:=by
 rw[BL]
 induction n with
 |zero=>rfl
 |succ n ih=>
  rw[dJ,fW,ih];rfl
def nameA(m:Int)(many k:Nat):Str:=iQ (BK (m/3%26)) (many-k)
def stemOf(m:Int):Str:=iQ (BK (m/4992%26)) (1+m/78%8).toNat
def rB(m:Int)(k:Nat):Str:=lA (stemOf m) none (some (m/624%(1+m/78%8)))++BK ((m/3+5*k)%26)++lA (stemOf m) (some (m/624%(1+m/78%8)+1)) none
def namesOf(cell:Int)(many:Nat):List Str:=if cz cell 3%3=0/\many<9 then(bS many).map (nameA (cz cell 3) many) else(bS many).map (rB (cz cell 3))
theorem cP(cell:Int)(many:Nat):(namesOf cell many).length=many:=by unfold namesOf;split<;>simp
theorem uz(m:Int):(stemOf m).cps.toList=bp (1+m/78%8).toNat (97+(m/4992%26).toNat):=Ae _ _
theorem JM(m:Int){many k:Nat}(h:k<many)(h9:many<9):c7 (nameA m many k):=by
 have e:(nameA m many k).cps.toList=bp (many-k) (97+(m/3%26).toNat):=Ae _ _;refine⟨by rw[e,c9];omega,by rw[e,c9];omega,λc hc=>?_⟩
 rw[e]at hc;have:=(jX.mp hc).2;omega
theorem JN(m:Int)(k:Nat):c7 (rB m k):=by
 have hs:=uz m;have hl:(stemOf m).cps.toList.length=(1+m/78%8).toNat:=by rw[hs,c9]
 have b1:0<=m/78%8:=bA _ (by decide)
 have b2:m/78%8<8:=bj _ (by decide)
 have p1:0<=m/624%(1+m/78%8):=bA _ (by omega)
 have p2:m/624%(1+m/78%8)<1+m/78%8:=bj _ (by omega)
 have e1:lA (stemOf m) none (some (m/624%(1+m/78%8)))=_:=A2 (x:=stemOf m) ⟨p1,by rw[hl];omega⟩
 have e2:lA (stemOf m) (some (m/624%(1+m/78%8)+1)) none=_:=zx (x:=stemOf m) ⟨by omega,by rw[hl];omega⟩
 have e:(rB m k).cps.toList=(stemOf m).cps.toList.take (m/624%(1+m/78%8)).toNat ++ [97+((m/3+5*k)%26).toNat]++(stemOf m).cps.toList.drop (m/624%(1+m/78%8)+1).toNat:=by
  unfold rB;rw[e1,e2]
  show((_++_++_:Array Nat)).toList=_
  simp only[EA,kC,C8,BK,one];rw[fj (l:=List.drop _ _) (by rw[eI];omega)]
 have l1:(rB m k).cps.toList.length=(1+m/78%8).toNat:=by
  rw[e,bq,bq,dz,eI,hl];simp only[eT];omega
 refine⟨by rw[l1];omega,by rw[l1];omega,λc hc=>?_⟩
 rw[e,hs]at hc;have q1:0<=(m/3+5*k)%26:=bA _ (by decide)
 have q2:(m/3+5*k)%26<26:=bj _ (by decide)
 have r1:0<=m/4992%26:=bA _ (by decide)
 have r2:m/4992%26<26:=bj _ (by decide)
 rcases cx.mp hc with hc|hc
 ·rcases cx.mp hc with hc|hc
  ·have:=(jX.mp (rh hc)).2
   omega
  ·have:=aW.mp hc
   omega
 ·have:=(jX.mp (ri hc)).2
  omega
theorem rZ{cell:Int}{many:Nat}(h:x∈namesOf cell many):c7 x:=by
 unfold namesOf at h
 split at h
 ·rename_i hh
  obtain⟨k,hk,rfl⟩:=aE.mp h;exact JM _ (cw.mp hk) hh.2
 ·obtain⟨k,hk,rfl⟩:=aE.mp h
  exact JN _ _
abbrev Ng(mg:Str->Option aB):Prop:=Nm mg
section
variable{P:bC}{w:bY}{K:ao}{mg:Str->Option aB}{base:cR}{f:aI}{k:Nat}
def BM(ds:List ai)(d:ai):Prop:=∃(ns:List Int)(k:Nat),ds=[jb ns,.int k]/\d=.int (ns.getD k 0)
theorem MC:cY ["_law_script","_law_k"] ["_law_script","_law_k"] (a_ (top 39)):=⟨rfl,rfl,rfl,by symm,rfl,by symm,by symm⟩
theorem QO(m1:mg "len"=none)(h:BM ds d):Bj P w K mg base ["_law_script","_law_k"] "_law_cell_at" (top 39) f k ds (.rt d):=by
 obtain⟨ns,n,rfl,rfl⟩:=h;intro eZ A outer s H E hr;by_cases hn:n<ns.length
 ·refine dU (eR (VT.to (Bh (ae 1 rfl) (nG (ae 0 rfl) m1)) (by simp only[aj];exact qQ1 (by omega))) (bJ (cy (gK (ae 0 rfl) (ae 1 rfl) (bK ?_))))) rfl
  rw[aF,aG,au hn];rfl
 ·refine aP (bW (VT.to (Bh (ae 1 rfl) (nG (ae 0 rfl) m1)) (by simp only[aj];exact qQ0 (by omega))) bL) ?_
  have e:ns.getD n 0=0:=by rw[aG,df (by omega)];rfl
  rw[e];exact bJ (cy aK)
theorem QP(F:mR K "_law_cell_at" "_law_cell_at" (top 39) f fd)(m1:mg "len"=none):fY P w K mg base iP 1 f fd ["_law_script","_law_k"] (ig K BM):=kN F MC (λ_ _ h=>by obtain⟨_,_,rfl,_⟩:=h;rfl) λ_ _ h=>QO m1 h
def xk(ds:List ai)(d:ai):Prop:=∃(c k:Int),ds=[.int c,.int k]/\0<=k/\k<=1000/\d=.int (cz c k)
abbrev QQ:List Str:=["_law_cell","_law_k","_law_m"]
theorem JQ:cY QQ ["_law_cell","_law_k"] (a_ (top 40)):=⟨rfl,rfl,rfl,by symm,rfl,by symm,by symm⟩
theorem Ue(h:xk ds d):Bj P w K mg base QQ "_law_mix" (top 40) f k ds (.rt d):=by
 obtain⟨c,n,rfl,h0,h1,rfl⟩:=h;intro eZ A outer s H E hr;have nd:QQ.Nodup:=JQ.nd;have q1:0<=(c%2147483629+n*n*7919+11)*48271%2147483647:=bA _ (by decide)
 have q2:(c%2147483629+n*n*7919+11)*48271%2147483647<2147483647:=bj _ (by decide)
 refine aP (cO 2 (eV (mn (fy (fy (eV (ae 0 rfl) aK (by decide)) (mn (mn (ae 1 rfl) (ae 1 rfl) (.inl ⟨by omega,by omega⟩)) aK (.inr ⟨by decide,by decide⟩))) aK) aK (.inr ⟨by decide,by decide⟩)) aK (by decide)) nd) ?_
 exact bJ (cy (eV (mn (ae 2 rfl) (ae 2 rfl) (.inl ⟨by omega,by omega⟩)) aK (by decide)))
theorem Ug(F:mR K "_law_mix" "_law_mix" (top 40) f fd):fY P w K mg base iP 1 f fd ["_law_cell","_law_k"] (ig K xk):=kN F JQ (λ_ _ h=>by obtain⟨_,_,rfl,_⟩:=h;rfl) λ_ _ h=>Ue h
abbrev ZY:List Str:=["_law_cell","_law_many","_law_letters","_law_m","_law_size","_law_place","_law_stem"]
theorem N9:cY ZY ["_law_cell","_law_many"] (a_ (top 41)):=⟨rfl,rfl,rfl,by symm,rfl,by symm,by symm⟩
def XJ(ds es:List ai):Prop:=∃(c:Int)(many:Nat),ds=[.int c,.int many]/\many<=60/\es=(namesOf c many).map .str
def FA(m:Int)(many:Nat):ai->Option ai
 | .int k=>some (.str (nameA m many k.toNat))
 |_=>none
def FB(m:Int):ai->Option ai
 | .int k=>some (.str (rB m k.toNat))
 |_=>none
theorem QR(m:Int)(many:Nat):(gG many).filterMap (FA m many)=((bS many).map (nameA m many)).map .str:=by
 unfold gG;rw[bQ,aL];exact filterMap_some λk _=>by show some _=some _;rw[eS];rfl
theorem QS(m:Int)(many:Nat):(gG many).filterMap (FB m)=((bS many).map (rB m)).map .str:=by
 unfold gG;rw[bQ,aL];exact filterMap_some λk _=>by show some _=some _;rw[eS];rfl
theorem uA:(ABC:Str).length<=sizeLine:=small (by symm)
theorem XM(F:mR K "_law_names" "_law_names" (top 41) f fd)(n:Ng mg)(C:bM P w K mg base 1 "_law_mix" ["_law_cell","_law_k"] (ig K xk)):fY P w K mg base iP 2 f fd ["_law_cell","_law_many"] (II K XJ):=
 L6 F N9 (λ_ _ h=>by obtain⟨_,_,rfl,_⟩:=h;rfl) λ_ _ h=>by
  obtain⟨c,many,rfl,hm,rfl⟩:=h;intro eZ A outer s H E hr;have nd:ZY.Nodup:=N9.nd;have nk:(["_law_k","_law_many","_law_letters","_law_m"]:List Str).Nodup:=by symm
  have lo:=Fs c 3;refine aP (cO 2 aM nd) ?_
  refine aP (cO 3 (d:=.int (cz c 3)) (bT C hr (aq (ae 0 rfl) (aq aK aZ)) ⟨c,3,rfl,by decide,by decide,rfl⟩) nd) ?_
  by_cases hh:cz c 3%3=0/\many<9
  ·have e:namesOf c many=(bS many).map (nameA (cz c 3) many):=by unfold namesOf;rw[qQ3 hh]
   rw[e];refine dU (eR (VT.to (rW (bN (k:=1) (hr.mono (by omega)) (eP 20 _) (eP 20 _) (eV (ae 3 rfl) aK (by decide)) aK) (λ_=>Bh (ae 1 rfl) aK)) ?_) (bJ (vX (VO.to (eO (own:=["_law_k"]) (cap:=[1,2,3]) (N:=["_law_k","_law_many","_law_letters","_law_m"]) (tgt:=.one 0) (F:=FA (cz c 3) many) (ds:=gG many) rfl ⟨rfl,by symm,by symm,rfl,rfl,?_⟩ (nU (n:=(many:Int)) (ae 1 rfl) n.rng (by omega) (by omega)) (λf s3 H3=>bE (i:=0) nk rfl (aY rfl)) rfl
    (small (by rw[jF];omega)) (λd hd=>?_)) (QR _ _))))) rfl
   ·rw[kU,qQ1 hh.1,qQ1 (by omega)];rfl
   ·intro j hj
    rcases av.mp hj with rfl|hj
    ·exact⟨(by show(1:Nat)<7;decide),aY rfl,rfl⟩
    ·rcases av.mp hj with rfl|hj
     ·exact⟨(by show(2:Nat)<7;decide),aY rfl,rfl⟩
     ·rcases av.mp hj with rfl|hj
      ·exact⟨(by show(3:Nat)<7;decide),aY rfl,rfl⟩
      ·cases hj
   ·obtain⟨i,hi,rfl⟩:=aE.mp hd
    have hi:=cw.mp hi;refine⟨_,rfl,λf s3 H3=>eN,λr hC f s3 H3=>?_⟩
    cases hC;refine VE.to (E9 (zU (ae 2 rfl) (eV (j8 (ae 3 rfl) aK ⟨by decide,by decide⟩) aK (by decide)) uA (DU (bA _ (by decide)) (bj _ (by decide)))) (uo (ae 1 rfl) (ae 0 rfl)) (by omega) (by omega) (by show 1<=1000;decide)) ?_
    unfold nameA;have e:((many:Int)-(i:Int)).toNat=many-((i:Nat):Int).toNat:=by omega
    rw[e];rfl
  ·have e:namesOf c many=(bS many).map (rB (cz c 3)):=by unfold namesOf;rw[qQ2 hh]
   rw[e];have nk2:(["_law_k","_law_letters","_law_m","_law_place","_law_stem"]:List Str).Nodup:=by symm
   have b1:0<=cz c 3/78%8:=bA _ (by decide)
   have b2:cz c 3/78%8<8:=bj _ (by decide)
   have p1:0<=cz c 3/624%(1+cz c 3/78%8):=bA _ (by omega)
   have p2:cz c 3/624%(1+cz c 3/78%8)<1+cz c 3/78%8:=bj _ (by omega)
   have sl:(stemOf (cz c 3)).length<=8:=by
    show(stemOf (cz c 3)).cps.size<=8
    rw[<-cM,uz,c9];omega
   refine aP (bW (VT.to (rW (bN (k:=1) (hr.mono (by omega)) (eP 20 _) (eP 20 _) (eV (ae 3 rfl) aK (by decide)) aK) (λ_=>Bh (ae 1 rfl) aK)) ?_) bL) ?_
   ·rw[kU]
    by_cases h0:cz c 3%3=0
    ·rw[qQ1 h0,lB]
     exact qQ0 λz=>hh ⟨h0,by omega⟩
    ·rw[qQ0 h0];rfl
   refine aP (cO 4 (fy aK (eV (j8 (ae 3 rfl) aK ⟨by decide,by decide⟩) aK (by decide))) nd) ?_
   refine aP (cO 5 (eV (j8 (ae 3 rfl) aK ⟨by decide,by decide⟩) (ae 4 rfl) (by omega)) nd) ?_
   refine aP (cO 6 (d:=.str (stemOf (cz c 3))) (E9 (zU (ae 2 rfl) (eV (j8 (ae 3 rfl) aK ⟨by decide,by decide⟩) aK (by decide)) uA (DU (bA _ (by decide)) (bj _ (by decide)))) (ae 4 rfl) (by omega) (by omega) (by show 1<=1000;decide)) nd) ?_
   refine bJ (vX (VO.to (eO (own:=["_law_k"]) (cap:=[2,3,5,6]) (N:=["_law_k","_law_letters","_law_m","_law_place","_law_stem"]) (tgt:=.one 0) (F:=FB (cz c 3)) (ds:=gG many) rfl ⟨rfl,by symm,by symm,rfl,rfl,?_⟩ (nU (n:=(many:Int)) (ae 1 rfl) n.rng (by omega) (by omega)) (λf s3 H3=>bE (i:=0) nk2 rfl (aY rfl)) rfl
    (small (by rw[jF];omega)) (λd hd=>?_)) (QS _ _)))
   ·intro j hj
    rcases av.mp hj with rfl|hj
    ·exact⟨(by show(2:Nat)<7;decide),aY rfl,rfl⟩
    ·rcases av.mp hj with rfl|hj
     ·exact⟨(by show(3:Nat)<7;decide),aY rfl,rfl⟩
     ·rcases av.mp hj with rfl|hj
      ·exact⟨(by show(5:Nat)<7;decide),aY rfl,rfl⟩
      ·rcases av.mp hj with rfl|hj
       ·exact⟨(by show(6:Nat)<7;decide),aY rfl,rfl⟩
       ·cases hj
   ·obtain⟨i,hi,rfl⟩:=aE.mp hd
    have hi:=cw.mp hi;refine⟨_,rfl,λf s3 H3=>eN,λr hC f s3 H3=>?_⟩
    cases hC;have l1:=C7 (stemOf (cz c 3)) none (some (cz c 3/624%(1+cz c 3/78%8)));have l2:=C7 (stemOf (cz c 3)) (some (cz c 3/624%(1+cz c 3/78%8)+1)) none;have l3:(BK ((cz c 3/3+5*(i:Int))%26)).length=1:=rfl;refine VE.to (hU (hU (yT (ae 4 rfl) (small (by omega)) .no (.yes (ae 3 rfl))) (zU (ae 1 rfl) (eV (fy (j8 (ae 2 rfl) aK ⟨by decide,by decide⟩) (mn aK (ae 0 rfl) (.inl ⟨by decide,by decide⟩))) aK (by decide)) uA (DU (bA _ (by decide)) (bj _ (by decide)))) (small ?_)) (yT (ae 4 rfl) (small (by omega)) (.yes (fy (ae 3 rfl) aK)) .no) (small ?_)) ?_
    ·show _+(BK ((cz c 3/3+5*(i:Int))%26)).length<=_
     omega
    ·rw[cj]
     show _+(BK ((cz c 3/3+5*(i:Int))%26)).length+_<=_;omega
    ·rfl
end
inductive Rl where
 |meet
 |gather (most age:Int)
 |many (most:Int)
 |rank (bound:Option Int)
 |turns (shares:List Int)
 |eldest
def nJ:Option Int->ai
 |none=>.none
 |some i=>.int i
def qN:Rl->Str
 | .meet=>"meet"
 | .gather _ _=>"gather"
 | .many _=>"many"
 | .rank _=>"rank"
 | .turns _=>"turns"
 | .eldest=>"eldest"
def uB:Rl->List ai
 | .meet=>[]
 | .gather m a=>[.int m,.int a]
 | .many m=>[.int m]
 | .rank b=>[nJ b]
 | .turns s=>[.tuple (s.map .int)]
 | .eldest=>[]
def AY(r:Rl):ai:=.tuple (.str (qN r)::uB r)
def r9:Rl->Nat->Int
 | .many m,_=>m
 | .gather m _,_=>m
 | .meet,n=>n
 |_,_=>1
section
variable{P:bC}{w:bY}{K:ao}{mg:Str->Option aB}{base:cR}{f:aI}{k:Nat}
def ZZ(ds:List ai)(d:ai):Prop:=∃(r:Rl)(many:Nat),ds=[AY r,.int many]/\d=.int (r9 r many)
end
structure Dk where
 name:Str
 to:Str
 rule:Rl
 places:List Str
def oM(l:List Str):ai:=.list (l.map .str)
def k_(d:Dk):ai:=.tuple [.str d.name,.str d.to,AY d.rule,.tuple (d.places.map .str)]
section
variable{P:bC}{w:bY}{K:ao}{mg:Str->Option aB}{base:cR}{f:aI}{k:Nat}
end
def dW(ns:List Int):Int:=ns.getD 0 0
def cH(ns:List Int):Int:=ns.getD 1 0
def g0(p:Str×Option Int):ai:=.tuple [.str p.1,nJ p.2]
def BO(p:Str×Int):ai:=.tuple [.str p.1,.int p.2]
def vg(p:Str×Str×Int):ai:=.tuple [.str p.1,.str p.2.1,.int p.2.2]
def yW(p:Str×Int×Int):ai:=.tuple [.str p.1,.int p.2.1,.int p.2.2]
structure Pl where
 kinds:List (Str×Option Int)
 gates:List Str
 lines:List (Str×Int)
 desks:List Dk
 times:List (Str×Str×Int)
 hours:List (Str×Int×Int)
 paces:List (Str×Str×Int×Int)
def iK(p:Str×Str×Int×Int):ai:=.tuple [.str p.1,.str p.2.1,.int p.2.2.1,.int p.2.2.2]
def gL(p:Pl):List (Str×ai):=[("kinds",.list (p.kinds.map g0)),("gates",oM p.gates),("lines",.list (p.lines.map BO)),("desks",.list (p.desks.map k_)),("times",.list (p.times.map vg)),("hours",.list (p.hours.map yW)),("paces",.list (p.paces.map iK))]
def dY(p:Pl):ai:=gq (gL p)
section
variable{P:bC}{w:bY}{K:ao}{mg:Str->Option aB}{base:cR}{f:aI}{k:Nat}
end
theorem Af{α β:Type}(g:α->β)(l:List α)(lo hi:Option Int):L2.cutD (l.map g) lo hi=(L2.cutD l lo hi).map g:=by
 unfold L2.cutD;rw[aj,sV,lC]
theorem jG{α:Type}(l:List α)(n:Nat):L2.cutD l (some (n:Int)) none=l.drop n:=by
 unfold L2.cutD;rw[HT.mZ,HT.Bb];by_cases h:n<=l.length
 ·rw[qC h,fj (by rw[eI];omega)]
 ·rw[Nat.min_eq_right (by omega),pE (aA _),pE (by omega)];simp
section
variable{P:bC}{w:bY}{K:ao}{mg:Str->Option aB}{base:cR}{f:aI}{k:Nat}
end
end Mg
namespace Mg
open L2 PySem PyProof.Rows
variable{n:Int}{c:Nat}{x:Str}
theorem xl(p:Pl):fZ (gL p) "kinds"=some (.list (p.kinds.map g0)):=dR rfl
theorem tM(p:Pl):fZ (gL p) "gates"=some (oM p.gates):=(bU (show ¬(("kinds":Str)="gates") by symm)).trans (dR rfl)
theorem JR(p:Pl):fZ (gL p) "lines"=some (.list (p.lines.map BO)):=(bU (show ¬(("kinds":Str)="lines") by symm)).trans ((bU (show ¬(("gates":Str)="lines") by symm)).trans (dR rfl))
theorem JT(p:Pl):fZ (gL p) "desks"=some (.list (p.desks.map k_)):=(bU (show ¬(("kinds":Str)="desks") by symm)).trans ((bU (show ¬(("gates":Str)="desks") by symm)).trans ((bU (show ¬(("lines":Str)="desks") by symm)).trans (dR rfl)))
theorem JV(p:Pl):fZ (gL p) "times"=some (.list (p.times.map vg)):=(bU (show ¬(("kinds":Str)="times") by symm)).trans ((bU (show ¬(("gates":Str)="times") by symm)).trans ((bU (show ¬(("lines":Str)="times") by symm)).trans ((bU (show ¬(("desks":Str)="times") by symm)).trans (dR rfl))))
theorem JW(p:Pl):fZ (gL p) "hours"=some (.list (p.hours.map yW)):=(bU (show ¬(("kinds":Str)="hours") by symm)).trans ((bU (show ¬(("gates":Str)="hours") by symm)).trans ((bU (show ¬(("lines":Str)="hours") by symm)).trans ((bU (show ¬(("desks":Str)="hours") by symm)).trans ((bU (show ¬(("times":Str)="hours") by symm)).trans (dR rfl)))))
theorem tN(p:Pl):fZ (gL p) "paces"=some (.list (p.paces.map iK)):=(bU (show ¬(("kinds":Str)="paces") by symm)).trans ((bU (show ¬(("gates":Str)="paces") by symm)).trans ((bU (show ¬(("lines":Str)="paces") by symm)).trans ((bU (show ¬(("desks":Str)="paces") by symm)).trans ((bU (show ¬(("times":Str)="paces") by symm)).trans ((bU (show ¬(("hours":Str)="paces") by symm)).trans (dR rfl))))))
def pickOf{α:Type}(l:List α)(d:α)(j:Int):α:=l.getD (j%l.length).toNat d
theorem Ft{α:Type}{l:List α}{d:α}{F:α->ai}(h:1<=l.length)(j:Int):pj (l.map F) (j%(l.length:Int))=some (F (pickOf l d j))/\pickOf l d j∈l:=by
 unfold pickOf;have a1:0<=j%(l.length:Int):=bA _ (by omega)
 have a2:j%(l.length:Int)<l.length:=bj _ (by omega)
 generalize j%(l.length:Int)=i at *
 obtain⟨n,rfl⟩:=ku a1;have hn:n<l.length:=by omega
 have e:l.getD ((n:Int)).toNat d=l[n]:=by rw[eS,aG,au hn];rfl
 rw[e];exact⟨bK (by rw[aF,au hn];rfl),dN hn⟩
structure Ka(K:ao):Prop where
 ss:dX K (.type "str") (.type "str")=some true
 is:dX K (.type "int") (.type "str")=some false
 ts:dX K (.type "tuple") (.type "str")=some false
 ls:dX K (.type "list") (.type "str")=some false
 ii:dX K (.type "int") (.type "int")=some true
 ti:dX K (.type "tuple") (.type "int")=some false
 li:dX K (.type "list") (.type "int")=some false
 ib:dX K (.type "int") (.type "bool")=some false
 tt:dX K (.type "tuple") (.type "tuple")=some true
 tl:dX K (.type "tuple") (.type "list")=some false
 lt:dX K (.type "list") (.type "tuple")=some false
 ll:dX K (.type "list") (.type "list")=some true
def Uh:ai->Bool
 | .none=>true
 |_=>false
theorem nY{K:ao}{d:ai}:yL K (λx y H Q=>y=.non/\Q (.bl (decide (x=.non))) H) d .none (.bool (Uh d)):=λv u H0 H Q s r1 r2 k=>by
 cases r2;refine⟨rfl,k _ _ _ (.refl s) ?_⟩
 cases r1<;>exact .bl _
theorem JX(a b:Bool):dm (.bool a) (.bool b)=(a==b):=by cases a<;>cases b<;>rfl
theorem BP(n:Nat)(b:Bool):Lay n (.bool b):=⟨rfl,aV _⟩
structure Na(mg:Str->Option aB):Prop extends Nm mg where
 str:mg "str"=none
 all:mg "all"=none
def XO:ai->Option ai:=λ_=>some (.bool true)
theorem Fu:∀l:List ai,l.filterMap XO=(bp l.length true).map .bool
 | []=>rfl
 |d::l=>by rw[cA (f:=XO) (b:=.bool true) rfl,Fu l];rfl
theorem GH(n:Nat):o5 (bp n true)=true:=by
 unfold o5;rw[eK];intro b hb;exact(jX.mp hb).2
def yX(c:Nat):List (List Nat)->List Nat
 | []=>[]
 | [x]=>x
 |x::y::r=>x++c::yX c (y::r)
theorem BQ:∀{a b r s:List Nat},c∉a->c∉b->a++c::r=b++c::s->a=b/\r=s
 | [],[],r,s,_,_,h=>⟨rfl,(iC h).2⟩
 | [],y::b,r,s,_,hb,h=>qQ7 (iC h).1 (λz=>hb (by rw[z];exact aO))
 |x::a,[],r,s,ha,_,h=>qQ7 (iC h).1 (λz=>ha (by rw[<-z];exact aO))
 |x::a,y::b,r,s,ha,hb,h=>by
  obtain⟨h1,h2⟩:=iC h;obtain⟨h3,h4⟩:=BQ (λz=>ha (aR _ z)) (λz=>hb (aR _ z)) h2
  exact⟨by rw[h1,h3],h4⟩
theorem yZ{c:Nat}:∀{ps qs:List (List Nat)},ps≠[]->qs≠[]->(∀p∈ps,c∉p)->(∀p∈qs,c∉p)->yX c ps=yX c qs->ps=qs
 | [],_,h,_,_,_,_=>qQ7 rfl h
 |_,[],_,h,_,_,_=>qQ7 rfl h
 | [x],[y],_,_,_,_,h=>by have h:x=y:=h;rw[h]
 | [x],y::y2::qs,_,_,hp,_,h=>by
  have h:x=y++c::yX c (y2::qs):=h;exact qQ7 (by rw[h];exact cJ _ aO) (hp x aO)
 |x::x2::ps,[y],_,_,_,hq,h=>by
  have h:x++c::yX c (x2::ps)=y:=h;exact qQ7 (by rw[<-h];exact cJ _ aO) (hq y aO)
 |x::x2::ps,y::y2::qs,_,_,hp,hq,h=>by
  obtain⟨h1,h2⟩:=BQ (hp x aO) (hq y aO) h;have:=yZ (ps:=x2::ps) (qs:=y2::qs) (by simp) (by simp) (λp z=>hp p (aR _ z)) (λp z=>hq p (aR _ z)) h2
  rw[h1,this]
theorem add_list(x y:Str):(x++y).cps.toList=x.cps.toList++y.cps.toList:=by
 show(x.cps++y.cps).toList=_
 simp
theorem str_inj{y: Str}(h:x.cps.toList=y.cps.toList):x=y:=Str.ext' (Array.toList_inj.mp h)
theorem join_list(c:Nat):∀ps:List Str,(cL (one c) ps).cps.toList=yX c (ps.map λp=>p.cps.toList)
 | []=>rfl
 | [x]=>rfl
 |x::y::r=>by
  show(x++one c++cL (one c) (y::r)).cps.toList=_
  rw[add_list,add_list,join_list c (y::r)];show x.cps.toList ++ [c]++_=x.cps.toList++c::_;simp
theorem tP(x y:Str):ck x y≠[]:=by
 intro h;unfold ck at h
 split at h
 ·cases h
 ·split at h
  ·cases h
  ·have:=qQ6 gw h
   rw[vB]at this;simp at this
theorem sf{ps:List Str}(h:ps≠[])(hf:∀p∈ps,c∉p.cps.toList):ck (cL (one c) ps) (one c)=ps:=by
 have h1:=mh (cL (one c) ps) (one c);have h2:=mj (cL (one c) ps) c;have h3:=tP (cL (one c) ps) (one c)
 generalize hq:ck (cL (one c) ps) (one c)=qs at *
 have h2:∀p∈qs,c∉p.cps.toList:=by rw[<-hq];exact mj (cL (one c) ps) c
 have e:=qQ6 (λs:Str=>s.cps.toList) h1
 simp only[join_list]at e;have:=yZ (c:=c) (ps:=qs.map λp=>p.cps.toList) (qs:=ps.map λp=>p.cps.toList) (by simpa using h3) (by simpa using h)
  (λp hp=>by obtain⟨q,hq,rfl⟩:=aE.mp hp;exact h2 q hq) (λp hp=>by obtain⟨q,hq,rfl⟩:=aE.mp hp;exact hf q hq) e
 have inj:∀{l m:List Str},(l.map λp=>p.cps.toList)=(m.map λp=>p.cps.toList)->l=m:=by
  intro l
  induction l with
  |nil=>intro m hm;cases m with|nil=>rfl|cons _ _=>cases hm
  |cons x l ih=>
   intro m hm;cases m with
   |nil=>cases hm
   |cons y m=>
    obtain⟨a1,a2⟩:=iC hm;rw[str_inj a1,ih a2]
 exact inj this
theorem BR(c:Nat):∀{ps qs:List Str},ps≠[]->qs≠[]->cL (one c) (ps++qs)=cL (one c) ps++one c++cL (one c) qs
 | [],_,h,_=>qQ7 rfl h
 | [x],q::qs,_,_=>rfl
 | [x],[],_,h=>qQ7 rfl h
 |x::y::r,qs,_,h=>by
  show x++one c++cL (one c) ((y::r)++qs)=_;rw[BR c (ps:=y::r) (by simp) h]
  apply str_inj;show _=(x++one c++cL (one c) (y::r)++one c++cL (one c) qs).cps.toList;simp only[add_list,eu]
theorem GJ(c:Nat)(x y:Str):ck (x++one c++y) (one c)=ck x (one c)++ck y (one c):=by
 have e:x++one c++y=cL (one c) (ck x (one c)++ck y (one c)):=by
  rw[BR c (tP _ _) (tP _ _),mh,mh]
 rw[e];refine sf (by simp[tP]) λp hp=>?_
 rcases cx.mp hp with hp|hp
 ·exact mj x c p hp
 ·exact mj y c p hp
theorem xm(h:c∉x.cps.toList):ck x (one c)=[x]:=by
 have:=sf (c:=c) (ps:=[x]) (by simp) (λp hp=>by rw[aW.mp hp];exact h)
 exact this
theorem uC:(" ":Str)=one 32:=by symm
theorem QT:("\n":Str)=one 10:=by symm
theorem kO(x y:Str):wordsOf (x++" "++y)=wordsOf x++wordsOf y:=by
 unfold wordsOf;rw[uC,GJ,List.filter_append]
theorem xn:wordsOf ""=[]:=by
 unfold wordsOf;rw[uC,xm (by symm)]
 rfl
theorem uD{w:Str}(h:w≠"")(hb:32∉w.cps.toList):wordsOf w=[w]:=by
 unfold wordsOf;rw[uC,xm hb,il,qQ3 (by simpa using h)]
 rfl
theorem GK(x y z:Str):x++y++z=x++(y++z):=by
 apply str_inj;simp only[add_list,eu]
theorem GL(x:Str):x++""=x:=by
 apply str_inj;rw[add_list];show x.cps.toList ++ []=_;simp
theorem empty_app(x:Str):""++x=x:=by
 apply str_inj;rw[add_list];rfl
theorem xo(x:Str)(n:Nat):iQ x (n+1)=x++iQ x n:=by
 apply str_inj;rw[add_list]
 show(x.cps++(iQ x n).cps).toList=_
 simp
theorem DV(n:Nat)(y:Str):wordsOf (iQ " " n++y)=wordsOf y:=by
 induction n with
 |zero=>rw[show iQ " " 0="" from rfl,empty_app]
 |succ n ih=>
  have e:iQ " " (n+1)++y=""++" "++(iQ " " n++y):=by rw[xo,empty_app,GK]
  rw[e,kO,xn,ih];rfl
theorem GN(n:Nat)(x y:Str):wordsOf (x++iQ " " (n+1)++y)=wordsOf x++wordsOf y:=by
 have e:x++iQ " " (n+1)++y=x++" "++(iQ " " n++y):=by rw[xo];apply str_inj;simp only[add_list,eu]
 rw[e,kO,DV]
theorem xq(n:Nat):∀{ws:List Str},(∀w∈ws,w≠""/\32∉w.cps.toList)->wordsOf (cL (iQ " " (n+1)) ws)=ws
 | [],_=>xn
 | [w],h=>uD (h w aO).1 (h w aO).2
 |w::v::ws,h=>by
  show wordsOf (w++iQ " " (n+1)++cL (iQ " " (n+1)) (v::ws))=_;rw[GN,uD (h w aO).1 (h w aO).2,xq n (λu hu=>h u (aR _ hu))]
  rfl
theorem la{ws:List Str}(h:∀w∈ws,w≠""/\32∉w.cps.toList):wordsOf (cL " " ws)=ws:=by
 have e:iQ " " (0+1)=" ":=by rw[xo,show iQ " " 0="" from rfl,GL]
 have:=xq 0 h;rw[e]at this;exact this
theorem GO{rows:List Str}(h0:rows≠[])(h:∀r∈rows,10∉r.cps.toList):rowsOf (cL "\n" rows)=rows.zipIdx.filterMap λp=>if(wordsOf p.1).isEmpty then none else some (p.2,wordsOf p.1):=by
 unfold rowsOf;rw[QT,sf h0 h]
def cI(n:Int):Str:=jz (toString n)
theorem Ag{m:Nat}(h:¬m<10):g8 10 m=g8 10 (m/10) ++ [Nat.digitChar (m%10)]:=by
 have hm:m%10<10:=Nat.mod_lt m (by decide)
 have t:g8 10 (m/10)++g8 10 (m%10)=g8 10 (10*(m/10)+m%10):=Nat.toDigits_append_toDigits (by decide) (by omega) hm
 rw[Nat.div_add_mod]at t;rw[<-t,kx hm]
theorem Fv:∀(k m:Nat),1<=k->m<10^k->(g8 10 m).length<=k
 |0,_,h,_=>by omega
 |k+1,m,_,h=>by
  by_cases hm:m<10
  ·rw[kx hm];simp
  ·rw[Ag hm,bq]
   have hk:1<=k:=by
    rcases Nat.eq_zero_or_pos k with rfl|hk
    ·exact qQ7 h (by simpa using hm)
    ·exact hk
   have h10:m/10<10^k:=by rw[Nat.div_lt_iff_lt_mul (by decide)];rw[Nat.pow_succ]at h;exact h
   have:=Fv k (m/10) hk h10;simp only[eT];omega
theorem MD(m:Nat):1<=(g8 10 m).length:=by
 by_cases hm:m<10
 ·rw[kx hm];simp
 ·rw[Ag hm,bq];simp
theorem JY(m:Nat)(h:0<m):∃c,(g8 10 m).head?=some c/\c≠'0':=by
 induction m using Nat.strongRecOn with
 |_ m ih=>
  by_cases hm:m<10
  ·rw[kx hm]
   refine⟨_,rfl,?_⟩
   have:∀d:Nat,d<10->0<d->Nat.digitChar d≠'0':=by decide
   exact this m hm h
  ·obtain⟨c,h1,h2⟩:=ih (m/10) (by omega) (by omega)
   refine⟨c,?_,h2⟩
   rw[Ag hm,List.head?_append,h1]
   rfl
theorem uE(h0:0<=n):(cI n).cps.toList=(g8 10 n.toNat).map Char.toNat:=by
 obtain⟨m,rfl⟩:=ku h0;exact PySem.W.KIN.signs_num m
theorem kP(h0:0<=n)(hc:c∈(cI n).cps.toList):48<=c/\c<=57:=by
 rw[uE h0]at hc;obtain⟨ch,Hv,e⟩:=aE.mp hc;have r:=digit_range (Nat.isDigit_of_mem_toDigits (by decide) (by decide) Hv)
 rw[<-e];exact r
theorem v5(h0:0<=n)(h1:n<1000000):1<=(cI n).length/\(cI n).length<=6:=by
 have e:(cI n).length=(g8 10 n.toNat).length:=by
  show(cI n).cps.size=_
  rw[<-cM,uE h0,aj]
 rw[e];exact⟨MD _,Fv 6 _ (by decide) (by omega)⟩
theorem BU:("0123456789":Str).cps.toList=(bS 10).map (48 + ·):=by symm
theorem lE(h0:0<=n)(h1:n<1000000):uy (cI n):=by
 refine⟨by have:=v5 h0 h1;omega,(lL _).mpr λc hc=>?_⟩
 have:=kP h0 hc;omega
theorem xr(h0:0<=n)(h1:n<1000000):isNumber (cI n)=true:=by
 obtain⟨l1,l2⟩:=v5 h0 h1;have em:nI "0123456789" 6 (cI n)=true:=by
  unfold nI;rw[qQ1 (by omega),qQ1 (by omega),lB,lB,eK]
  intro c hc;have hd:=kP h0 hc;have:zV (one c) "0123456789"=decide (c∈("0123456789":Str).cps.toList):=sU ..;rw[this,BU];exact qQ1 (aE.mpr ⟨c-48,cw.mpr (by omega),by omega⟩)
 unfold isNumber;rw[em,lB];by_cases hn:n=0
 ·subst hn
  rw[qQ1 (show cI 0="0" by symm)]
  rfl
 ·obtain⟨c,c1,c2⟩:=JY n.toNat (by omega)
  have hh:(cI n).cps.toList.head?=some c.toNat:=by
   rw[uE h0,List.head?_map,c1]
   rfl
  rw[hh];have:one c.toNat≠"0":=by
   intro z;have z2:(one c.toNat).cps.toList=("0":Str).cps.toList:=by rw[z]
   have z3:[c.toNat]=[48]:=z2;have z4:c.toNat=48:=by simpa using z3
   exact c2 (Char.toNat_inj.mp z4)
  show(_ || !decide (one c.toNat="0"))=true
  rw[qQ0 this];simp
theorem num_reads(h0:0<=n)(h1:n<1000000):intText? (cI n)=some n:=PySem.W.KIN.num_reads h0 (by omega)
theorem kf(h0:0<=n)(h1:n<1000000):cI n≠""/\32∉(cI n).cps.toList/\10∉(cI n).cps.toList:=by
 refine⟨λz=>?_,λz=>?_,λz=>?_⟩
 ·have:=(v5 h0 h1).1
  rw[z]at this;exact qQ7 this (by decide)
 ·have:=kP h0 z;omega
 ·have:=kP h0 z;omega
theorem fP(h:c7 x):x≠""/\32∉x.cps.toList/\10∉x.cps.toList:=by
 refine⟨λz=>?_,λz=>?_,λz=>?_⟩
 ·have:=h.1
  rw[z]at this;exact qQ7 this (by decide)
 ·have:=h.2.2 _ z;omega
 ·have:=h.2.2 _ z;omega
end Mg
namespace Mg
open L2 PySem PyProof.Rows
seal L2.VE L2.VS L2.pF L2.VT L2.VO L2.IG
variable{fd:fe}
def cC(i:Int):Prop:=0<=i/\i<1000000
theorem cC.log{i:Int}(h:cC i):i.natAbs.log2<1920:=by
 have:i.natAbs<2^20:=by have:=h.1;have:=h.2;omega
 have h2:i.natAbs.log2<=20:=by
  rcases Nat.eq_zero_or_pos i.natAbs with e|e
  ·rw[e];decide
  ·exact pG ((Nat.log2_lt (by omega)).mpr this)
 omega
def GP:ai->Prop
 | .none=>True
 | .int i=>cC i
 | .str x=>x=""\/c7 x
 |_=>False
def er:ai->Str
 | .str x=>if x="" then "-" else x
 | .int i=>cI i
 |_=>"-"
section
variable{P:bC}{w:bY}{K:ao}{mg:Str->Option aB}{base:cR}{f:aI}{k:Nat}
theorem Ui:cY ["_law_thing"] ["_law_thing"] (a_ (top 42)):=⟨rfl,rfl,rfl,by symm,rfl,by symm,by symm⟩
def XQ(ds:List ai)(d:ai):Prop:=∃x,ds=[x]/\GP x/\d=.str (er x)
theorem XR(F:mR K "_law_dash" "_law_dash" (top 42) f fd)(n:Na mg):fY P w K mg base iP 1 f fd ["_law_thing"] (ig K XQ):=
 kN F Ui (λ_ _ h=>by obtain⟨_,rfl,_⟩:=h;rfl) λ_ _ h=>by
  obtain⟨x,rfl,ho,rfl⟩:=h;intro eZ A outer s H E hr;have l0:Lay 20 (.str ""):=bw (by symm)
  cases x with
  |none=>exact dU (eR (VT.to (iY (k2:=true) (gT kH nY (ae 0 rfl) gF (gb _)) (λz=>by cases z)) rfl) (bJ (cy aM))) rfl
  |int i=>
   refine aP (bW (VT.to (iY (gT kH nY (ae 0 rfl) gF (gb _)) (λ_=>bN hr (eP 20 _) l0 (ae 0 rfl) aM)) rfl) bL) ?_
   exact bJ (cy (ng (ae 0 rfl) (cC.log ho) n.str))
  |str z=>
   have oz:lH z:=by
    rcases ho with rfl|ho
    ·show cG (.str ("":Str))=true;symm
    ·exact ho.ok.2
   by_cases hz:z=""
   ·refine dU (eR (VT.to (iY (gT kH nY (ae 0 rfl) gF (gb _)) (λ_=>bN hr (bw oz) l0 (ae 0 rfl) aM)) ?_) (bJ (cy (VE.to aM ?_)))) rfl
    ·rw[bO,qQ1 hz];rfl
    ·show aQ "-"=.str (if z="" then "-" else z);rw[qQ3 hz]
   ·refine aP (bW (VT.to (iY (gT kH nY (ae 0 rfl) gF (gb _)) (λ_=>bN hr (bw oz) l0 (ae 0 rfl) aM)) ?_) bL) ?_
    ·rw[bO,qQ0 hz];rfl
    ·refine bJ (cy (VE.to (Mi (ae 0 rfl) n.str) ?_))
     show aQ z=.str (if z="" then "-" else z);rw[qQ2 hz]
  |_=>exact ho.elim
def Ah:Rl->Prop
 | .meet=>True
 | .gather m a=>cC m/\cC a
 | .many m=>cC m
 | .rank none=>True
 | .rank (some b)=>cC b
 | .turns s=>s.length<=60/\∀z∈s,cC z
 | .eldest=>True
def cF:Rl->List Str
 | .turns s=>"turns"::s.map cI
 |r=>qN r::(uB r).map er
def nZ(r:Rl):Str:=cL " " (cF r)
theorem Uj:cY ["_law_rule"] ["_law_rule"] (a_ (top 43)):=⟨rfl,rfl,rfl,by symm,rfl,by symm,by symm⟩
def Z0(ds:List ai)(d:ai):Prop:=∃r,ds=[AY r]/\Ah r/\d=.str (nZ r)
def Uk:ai->Option ai
 | .int i=>some (.str (cI i))
 |_=>none
theorem JZ(l:List Int):(l.map cW).filterMap Uk=(l.map cI).map .str:=by
 rw[bQ,aL];exact filterMap_some λk _=>rfl
def N_:ai->Option ai:=λd=>some (.str (er d))
theorem GQ(l:List ai):l.filterMap N_=(l.map er).map .str:=by
 rw[aL];exact filterMap_some λk _=>rfl
theorem fc{i:Int}(h:cC i):(cI i).length<=6:=(v5 h.1 h.2).2
theorem n_:∀{l:List Str}{b:Nat},(∀x∈l,x.length<=b)->(l.map (·.length)).sum<=l.length*b
 | [],_,_=>by simp
 |x::l,b,h=>by
  have h1:=h x aO;have h2:=n_ λy hy=>h y (aR _ hy)
  rw[aD,om,bF,Nat.add_mul];omega
theorem jP{d:ai}(h:GP d):(er d).length<=8:=by
 cases d with
 |none=>decide
 |int i=>exact bZ (fc h) (by decide)
 |str x=>
  show(if x="" then("-":Str)else x).length<=8
  split
  ·decide
  ·rename_i hx
   rcases h with h|h
   ·exact qQ7 h hx
   ·have:=h.2.1
    rw[cM]at this;exact this
 |_=>exact h.elim
theorem xt{r:Rl}(ht:∀s,r≠.turns s)(h:Ah r):∀d∈uB r,GP d:=by
 intro d hd;cases r with
 |meet=>cases hd
 |eldest=>cases hd
 |gather m a=>
  rcases av.mp hd with rfl|hd
  ·exact h.1
  ·rw[aW.mp hd];exact h.2
 |many m=>rw[aW.mp hd];exact h
 |rank b=>rw[aW.mp hd];cases b with|none=>trivial|some b=>exact h
 |turns s=>exact qQ7 rfl (ht s)
theorem XS(F:mR K "_law_rule_text" "_law_rule_text" (top 43) f fd)(n:Na mg)(C:bM P w K mg base 1 "_law_dash" ["_law_thing"] (ig K XQ)):fY P w K mg base iP 2 f fd ["_law_rule"] (ig K Z0):=
 kN F Uj (λ_ _ h=>by obtain⟨_,rfl,_⟩:=h;rfl) λ_ _ h=>by
  obtain⟨r,rfl,ho,rfl⟩:=h;intro eZ A outer s H E hr;have oR:lH (qN r):=by cases r<;>dsimp only[qN,lH]<;>symm
  have lT:Lay 20 (.str "turns"):=bw (by symm)
  have h0:pj (aQ (qN r)::uB r) 0=some (.str (qN r)):=bK (j:=0) rfl;by_cases ht:∃sh,r=.turns sh
  ·obtain⟨sh,rfl⟩:=ht
   have nc:(["_law_share"]:List Str).Nodup:=by symm
   refine dU (eR (VT.to (bN (k:=1) hr (bw oR) lT (b9 (ae 0 rfl) aK h0) aM) (by rw[bO];exact qQ1 rfl)) (bJ (cy (oG (zs:=cF (.turns sh)) aM (VE.to (VO.ve (rX (d1:=[.str "turns"]) (d2:=(sh.map cI).map .str) (VO.ve (iH (aq aM aZ))) (VO.ve (VO.to (eO (own:=["_law_share"]) (cap:=[]) (N:=["_law_share"]) (cl:=[]) (tgt:=.one 0) (F:=Uk) (ds:=sh.map .int) rfl ⟨rfl,by symm,by symm,rfl,rfl,by simp⟩ (wL (b9 (d:=.tuple (sh.map .int)) (ae 0 rfl) aK (bK (j:=1) rfl))) (λf s3 H3=>bE (i:=0) nc rfl (aY rfl)) rfl
    (small (by rw[aj];have:=ho.1;omega)) (λd hd=>?_)) (JZ _))) (small (by simp only[aj,bF,cp];have:=ho.1;omega)))) rfl) ?_)))) rfl
   ·obtain⟨z,hz,rfl⟩:=aE.mp hd
    refine⟨_,rfl,λf s3 H3=>eN,λr hC f s3 H3=>?_⟩
    cases hC;exact ng (ae 0 rfl) (cC.log (ho.2 z hz)) n.str
   ·have h1:=n_ (l:=cF (.turns sh)) (b:=6) λx hx=>by
     rcases av.mp hx with rfl|hx
     ·decide
     ·obtain⟨z,hz,rfl⟩:=aE.mp hx
      exact fc (ho.2 z hz)
    have h2:(cF (.turns sh)).length=sh.length+1:=by simp[cF]
    have h3:=ho.1;have h4:(" ":Str).length=1:=by decide
    rw[h4];omega
  ·have Ai:∀sh,r≠.turns sh:=λsh z=>ht ⟨sh,z⟩
   have hw:qN r≠"turns":=by
    cases r with
    |turns sh=>exact qQ7 rfl (Ai sh)
    |_=>dsimp only[qN];symm
   have J0:cF r=qN r::(uB r).map er:=by
    cases r with
    |turns sh=>exact qQ7 rfl (Ai sh)
    |_=>rfl
   have hl:(uB r).length<=2:=by cases r<;>simp[uB]
   have Px:(qN r).length<=8:=by cases r<;>dsimp only[qN]<;>symm
   have hok:=xt Ai ho;unfold nZ;rw[J0];unfold AY
   generalize uB r=ra at *
   generalize qN r=ub at *
   have nc:(["_law_one"]:List Str).Nodup:=by symm
   have DW:L2.cutD (aQ ub::ra) (some 1) none=ra:=(jG (aQ ub::ra) 1).trans rfl;refine aP (bW (VT.to (bN (k:=1) hr (bw oR) lT (b9 (ae 0 rfl) aK h0) aM) (by rw[bO];exact qQ0 hw)) bL) ?_
   refine bJ (cy (oG (zs:=ub::ra.map er) aM (VE.to (VO.ve (rX (d1:=[.str ub]) (d2:=(ra.map er).map .str) (VO.ve (iH (aq (b9 (ae 0 rfl) aK h0) aZ))) (VO.ve (VO.to (eO (own:=["_law_one"]) (cap:=[]) (N:=["_law_one"]) (cl:=[]) (tgt:=.one 0) (F:=N_) (ds:=ra) rfl ⟨rfl,by symm,by symm,rfl,rfl,by simp⟩ (wL (VE.to (qJ (ds:=.str ub::ra) (ae 0 rfl) (.yes aK) .no ?_) (by rw[DW]))) (λf s3 H3=>bE (i:=0) nc rfl (aY rfl)) rfl
    (small (by omega)) (λd hd=>?_)) (GQ _))) (small (by simp only[aj,bF,cp];omega)))) rfl) ?_))
   ·intro z
    have:=z.1;rw[show(1:Int)=((1:Nat):Int)from rfl,HT.mZ,bF]at this
    omega
   ·refine⟨_,rfl,λf s3 H3=>eN,λr hC f s3 H3=>?_⟩
    cases hC;exact bT C hr (aq (ae 0 rfl) aZ) ⟨d,rfl,hok d hd,rfl⟩
   ·have h1:=n_ (l:=ub::ra.map er) (b:=8) λx hx=>by
     rcases av.mp hx with rfl|hx
     ·exact Px
     ·obtain⟨z,hz,rfl⟩:=aE.mp hx
      exact jP (hok z hz)
    have h2:(ub::ra.map er).length=ra.length+1:=by simp
    have h4:(" ":Str).length=1:=by decide
    rw[h4];omega
end
def oN(p:Str×Option Int):Str:="kind "++p.1++" "++er (nJ p.2)
def lM(g:Str):Str:="gate "++g
def lN(p:Str×Int):Str:="line "++p.1++" "++cI p.2
def mH(d:Dk):Str:="desk "++d.name++" to "++er (.str d.to)++" by "++nZ d.rule
def kW(d:Dk):Str:=mH d++" from "++cL " " d.places
def lO(p:Str×Str×Int):Str:=cL " " ["time",p.1,p.2.1,cI p.2.2]
def nh(p:Str×Int×Int):Str:=cL " " ["open",p.1,cI p.2.1,cI p.2.2]
def lP(p:Str×Str×Int×Int):Str:=cL " " ["pace",p.1,p.2.1,cI p.2.2.1,cI p.2.2.2]
structure lg(p:Pl):Prop where
 kn:p.kinds.length<=60
 gn:p.gates.length<=60
 ln:p.lines.length<=60
 dn:p.desks.length<=60
 tn:p.times.length<=600
 hn:p.hours.length<=600
 kinds:∀q∈p.kinds,c7 q.1/\GP (nJ q.2)
 gates:∀g∈p.gates,c7 g
 lines:∀q∈p.lines,c7 q.1/\cC q.2
 desks:∀d∈p.desks,c7 d.name/\(d.to=""\/c7 d.to)/\Ah d.rule/\d.places.length<=60/\∀x∈d.places,c7 x
 times:∀q∈p.times,c7 q.1/\c7 q.2.1/\cC q.2.2
 hours:∀q∈p.hours,c7 q.1/\cC q.2.1/\cC q.2.2
 an:p.paces.length<=60
 paces:∀q∈p.paces,c7 q.1/\c7 q.2.1/\cC q.2.2.1/\cC q.2.2.2
theorem c7.short{x:Str}(h:c7 x):x.length<=8:=by
 have:=h.2.1;rw[cM]at this;exact this
theorem fS{y:Str}(hy:y.length<=1):∀{l:List Str}{b:Nat},(∀x∈l,x.length<=b)->(cL y l).length<=l.length*(b+1)
 | [],_,_=>by show 0<=_;exact aV _
 | [x],b,h=>by
  have:=h x aO;show x.length<=1*(b+1);omega
 |x::z::l,b,h=>by
  have h1:=h x aO;have h2:=fS hy (l:=z::l) λu hu=>h u (aR _ hu)
  show(x++y++cL y (z::l)).length<=(z::l).length.succ*(b+1)
  rw[cj,cj,CW];omega
theorem mI{r:Rl}(h:Ah r):(nZ r).length<=700:=by
 have hl:(cF r).length<=61/\∀x∈cF r,x.length<=8:=by
  by_cases ht:∃sh,r=.turns sh
  ·obtain⟨sh,rfl⟩:=ht
   refine⟨by have:=h.1;simp[cF];omega,λx hx=>?_⟩
   rcases av.mp hx with rfl|hx
   ·decide
   ·obtain⟨z,hz,rfl⟩:=aE.mp hx
    exact bZ (fc (h.2 z hz)) (by decide)
  ·have Ai:∀sh,r≠.turns sh:=λsh z=>ht ⟨sh,z⟩
   have hok:=xt Ai h;have J0:cF r=qN r::(uB r).map er:=by
    cases r with
    |turns sh=>exact qQ7 rfl (Ai sh)
    |_=>rfl
   have hl:(uB r).length<=2:=by cases r<;>simp[uB]
   have Px:(qN r).length<=8:=by cases r<;>dsimp only[qN]<;>symm
   rw[J0];refine⟨by rw[bF,aj];omega,λx hx=>?_⟩
   rcases av.mp hx with rfl|hx
   ·exact Px
   ·obtain⟨z,hz,rfl⟩:=aE.mp hx
    exact jP (hok z hz)
 have:=fS (y:=" ") (by decide) hl.2
 unfold nZ;have h9:(cF r).length*(8+1)<=61*9:=iw hl.1 (aA _);omega
def Z1:ai->Option ai
 | .tuple [.str a,k]=>some (.str ("kind "++a++" "++er k))
 |_=>none
def Z2:ai->Option ai
 | .str a=>some (.str (lM a))
 |_=>none
def Z3:ai->Option ai
 | .tuple [.str a,.int i]=>some (.str (lN (a,i)))
 |_=>none
def Z4:ai->Option ai
 | .tuple [.str a,.str b,.int i]=>some (.str (lO (a,b,i)))
 |_=>none
def Z5:ai->Option ai
 | .tuple [.str a,.int i,.int j]=>some (.str (nh (a,i,j)))
 |_=>none
theorem MF(l:List (Str×Option Int)):(l.map g0).filterMap Z1=(l.map oN).map .str:=by
 rw[bQ,aL];exact filterMap_some λk _=>rfl
theorem MG(l:List Str):(l.map aQ).filterMap Z2=(l.map lM).map .str:=by
 rw[bQ,aL];exact filterMap_some λk _=>rfl
theorem MH(l:List (Str×Int)):(l.map BO).filterMap Z3=(l.map lN).map .str:=by
 rw[bQ,aL];exact filterMap_some λk _=>rfl
theorem MJ(l:List (Str×Str×Int)):(l.map vg).filterMap Z4=(l.map lO).map .str:=by
 rw[bQ,aL];exact filterMap_some λk _=>rfl
theorem MK(l:List (Str×Int×Int)):(l.map yW).filterMap Z5=(l.map nh).map .str:=by
 rw[bQ,aL];exact filterMap_some λk _=>rfl
def mJ(p:Pl):List Str:=p.kinds.map oN++p.gates.map lM++p.lines.map lN
def lI(p:Pl):List Str:=mJ p++p.desks.map kW++p.times.map lO++p.hours.map nh
def eQ(p:Pl):List Str:=lI p++p.paces.map lP
def oO(p:Pl):Str:=cL "\n" (eQ p)
section
variable{P:bC}{w:bY}{K:ao}{mg:Str->Option aB}{base:cR}{f:aI}{k:Nat}
abbrev Z6:List Str:=["_law_h","_law_rows","_law_name","_law_to","_law_rule","_law_places","_law_row","_law_gate","_law_kind","_law_burst","_law_gap"]
theorem Oa:cY Z6 ["_law_h"] (a_ (top 44)):=⟨rfl,rfl,rfl,by symm,rfl,by symm,by symm⟩
def Z7(ds:List ai)(d:ai):Prop:=∃p,ds=[dY p]/\lg p/\d=.str (oO p)
theorem XT(F:mR K "_law_plant_text" "_law_plant_text" (top 44) f fd)(n:Na mg)(C1:bM P w K mg base 1 "_law_dash" ["_law_thing"] (ig K XQ))(C2:bM P w K mg base 2 "_law_rule_text" ["_law_rule"] (ig K Z0)):fY P w K mg base iP 3 f fd ["_law_h"] (ig K Z7):=
 kN F Oa (λ_ _ h=>by obtain⟨_,rfl,_⟩:=h;rfl) λ_ _ h=>by
  obtain⟨p,rfl,ok,rfl⟩:=h;intro eZ A outer s H E hr;have nd:Z6.Nodup:=Oa.nd;have pw:eE 1 _:=hr.mono (by omega)
  have b1:=ok.kn;have b2:=ok.gn;have b3:=ok.ln;have b4:=ok.dn;have b5:=ok.tn;have b6:=ok.hn;have nk:(["_law_name","_law_keep"]:List Str).Nodup:=by symm
  refine aP (vY 1 (own:=["_law_name","_law_keep"]) (cap:=[]) (N:=["_law_name","_law_keep"]) (cl:=[]) (tgt:=.tup [0,1]) (F:=Z1) (ds:=p.kinds.map g0) rfl ⟨rfl,by symm,by symm,rfl,rfl,by simp⟩ (fE (fN pw (ae 0 rfl) aM (xl p))) (λf s3 H3=>fQ rfl (bH (bE (i:=0) nk rfl (aY rfl)) (bH (bE (i:=1) nk rfl (aY rfl)) eU))) rfl (small (by rw[aj];omega)) (λd hd=>?_) nd) ?_
  ·obtain⟨q,hq,rfl⟩:=aE.mp hd
   obtain⟨h1,h2⟩:=ok.kinds q hq;refine⟨_,rfl,λf s3 H3=>eN,λr hC f s3 H3=>?_⟩
   cases hC;have s1:=h1.short;have s2:=jP h2;have e1:("kind ":Str).length=5:=by decide
   have e2:(" ":Str).length=1:=by decide
   exact hU (hU (hU aM (ae 0 rfl) (small (by omega))) aM (small (by simp only[cj];omega))) (bT C1 pw (aq (ae 1 rfl) aZ) ⟨_,rfl,h2,rfl⟩) (small (by simp only[cj];omega))
  rw[MF];refine kM 1 rfl ?_
  have n1:(["_law_name"]:List Str).Nodup:=by symm
  refine aP (m_ 1 (ds:=(p.kinds.map oN++p.gates.map lM).map .str) (VO.to (rX (d2:=(p.gates.map lM).map .str) (ae 1 rfl) (VO.ve (VO.to (eO (own:=["_law_name"]) (cap:=[]) (N:=["_law_name"]) (cl:=[]) (tgt:=.one 0) (F:=Z2) (ds:=p.gates.map .str) rfl ⟨rfl,by symm,by symm,rfl,rfl,by simp⟩ (fE (fN pw (ae 0 rfl) aM (tM p))) (λf s3 H3=>bE (i:=0) n1 rfl (aY rfl)) rfl (small (by rw[aj];omega)) (λd hd=>?_)) (MG _))) (small (by simp only[aj];omega))) (by rw[bx])) nd) ?_
  ·obtain⟨q,hq,rfl⟩:=aE.mp hd
   have s1:=(ok.gates q hq).short;have e1:("gate ":Str).length=5:=by decide
   refine⟨_,rfl,λf s3 H3=>eN,λr hC f s3 H3=>?_⟩
   cases hC;exact hU aM (ae 0 rfl) (small (by omega))
  refine kM 1 rfl ?_
  have n2:(["_law_name","_law_room"]:List Str).Nodup:=by symm
  refine aP (m_ 1 (ds:=(mJ p).map .str) (VO.to (rX (d2:=(p.lines.map lN).map .str) (ae 1 rfl) (VO.ve (VO.to (eO (own:=["_law_name","_law_room"]) (cap:=[]) (N:=["_law_name","_law_room"]) (cl:=[]) (tgt:=.tup [0,1]) (F:=Z3) (ds:=p.lines.map BO) rfl ⟨rfl,by symm,by symm,rfl,rfl,by simp⟩ (fE (fN pw (ae 0 rfl) aM (JR p))) (λf s3 H3=>fQ rfl (bH (bE (i:=0) n2 rfl (aY rfl)) (bH (bE (i:=1) n2 rfl (aY rfl)) eU))) rfl (small (by rw[aj];omega)) (λd hd=>?_)) (MH _))) (small (by simp only[aj,bq];omega))) (by unfold mJ;rw[bx (l₂:=oY lN _)])) nd) ?_
  ·obtain⟨⟨qa,qi⟩,hq,rfl⟩:=aE.mp hd
   obtain⟨h1,h2⟩:c7 qa/\cC qi:=ok.lines (qa,qi) hq;have s1:=h1.short;have s2:=fc h2;have e1:("line ":Str).length=5:=by decide
   have e2:(" ":Str).length=1:=by decide
   refine⟨_,rfl,λf s3 H3=>eN,λr hC f s3 H3=>?_⟩
   cases hC;exact VE.to (hU (x:="line "++qa++" ") (y:=cI qi) (hU (x:="line "++qa) (hU (y:=qa) aM (ae 0 rfl) (small (by omega))) aM (small (by simp only[cj];omega))) (ng (ae 1 rfl) (cC.log h2) n.str) (small (by simp only[cj];omega))) rfl
  have r1:(mJ p).length=p.kinds.length+p.gates.length+p.lines.length:=by unfold mJ;simp only[bq,aj]
  refine aP (qd (tgt:=.tup [2,3,4,5]) (o:=.nx [.val (dY p),.own ((mJ p++(p.desks.take p.desks.length).map kW).map .str),.un,.un,.un,.un,.un,.un,.un,.un,.un]) dI rfl (fE (fN pw (ae 0 rfl) aM (JT p)))
   (fQ rfl (bH (bE (i:=2) nd rfl (by first|exact aY rfl|exact b_ rfl)) (bH (bE (i:=3) nd rfl (by first|exact aY rfl|exact b_ rfl)) (bH (bE (i:=4) nd rfl (by first|exact aY rfl|exact b_ rfl)) (bH (bE (i:=5) nd rfl (by first|exact aY rfl|exact b_ rfl)) eU))))) (λi=>[.val (dY p),.own ((mJ p++(p.desks.take i).map kW).map .str),.un,.un,.un,.un,.un,.un,.un,.un,.un]) p.desks.length (by show([.val (dY p),.own ((mJ p++(p.desks.take 0).map kW).map .str),.un,.un,.un,.un,.un,.un,.un,.un,.un]:List Slot)=_;rw[q_,eJ,du];rfl) (by rw[aj];exact aA _) (λi d hi hd=>?_) (.inl ⟨by rw[aj],rfl⟩)) ?_
  ·obtain⟨dk,Ul,rfl⟩:∃dk,p.desks[i]?=some dk/\d=k_ dk:=by
    rw[aF,au (by omega)]at hd
    cases hd;exact⟨_,au (by omega),rfl⟩
   obtain⟨h1,h2,h3,h4,h5⟩:=ok.desks dk (bh Ul);have Rx:GP (.str dk.to):=h2;have s1:=h1.short;have s2:=jP Rx;have s3:=mI h3;have s4:=fS (y:=" ") (by decide) (l:=dk.places) (b:=8) λx hx=>(h5 x hx).short
   have s5:dk.places.length*(8+1)<=60*9:=iw h4 (aA _);have s6:=n_ (l:=dk.places) (b:=8) λx hx=>(h5 x hx).short
   have e1:("desk ":Str).length=5:=by decide
   have e2:(" to ":Str).length=4:=by decide
   have e3:(" by ":Str).length=4:=by decide
   have e4:(" from ":Str).length=6:=by decide
   have e5:(" ":Str).length=1:=by decide
   have eh:(mH dk).length<=800:=by unfold mH;simp only[cj];omega
   refine⟨_,rfl,?_⟩
   refine aP (cO 6 (d:=.str (mH dk)) (hU (hU (hU (hU (hU aM (ae 2 rfl) (small (by omega))) aM (small (by simp only[cj];omega))) (bT C1 pw (aq (ae 3 rfl) aZ) ⟨_,rfl,Rx,rfl⟩) (small (by simp only[cj];omega))) aM (small (by simp only[cj];omega))) (bT C2 hr (aq (ae 4 rfl) aZ) ⟨_,rfl,h3,rfl⟩) (small (by simp only[cj];omega))) nd) ?_
   refine lK (bJ (qL 1 rfl (d:=.str (kW dk)) (hU (hU (ae 6 rfl) aM (small (by omega))) (oG (zs:=dk.places) aM (VO.ve (yO tf Mj (aq (ae 5 rfl) aZ) n.lst rfl)) (by rw[e5];omega)) (small (by simp only[cj];omega))) (ja (by simp only[aj,bq,dz];omega)))) ⟨.inr rfl,.inr ?_,.inl rfl,.inl rfl,.inl rfl,.inl rfl,.inl rfl,.inr rfl,.inr rfl,.inr rfl,.inr rfl,trivial⟩
   rw[cV,Ul];simp only[sG,bx,aD,eJ,eu]
  rw[jw];refine kM 1 rfl ?_
  have n3:(["_law_desk","_law_kind","_law_work"]:List Str).Nodup:=by symm
  refine aP (m_ 1 (ds:=(mJ p++p.desks.map kW++p.times.map lO).map .str) (VO.to (rX (d2:=(p.times.map lO).map .str) (ae 1 rfl) (VO.ve (VO.to (eO (own:=["_law_desk","_law_kind","_law_work"]) (cap:=[]) (N:=["_law_desk","_law_kind","_law_work"]) (cl:=[]) (tgt:=.tup [0,1,2]) (F:=Z4) (ds:=p.times.map vg) rfl ⟨rfl,by symm,by symm,rfl,rfl,by simp⟩ (fE (fN pw (ae 0 rfl) aM (JV p))) (λf s3 H3=>fQ rfl (bH (bE (i:=0) n3 rfl (aY rfl)) (bH (bE (i:=1) n3 rfl (aY rfl)) (bH (bE (i:=2) n3 rfl (aY rfl)) eU)))) rfl (small (by rw[aj];omega)) (λd hd=>?_)) (MJ _))) (small (by simp only[aj,bq];omega))) (by rw[bx (l₂:=oY lO _)])) nd) ?_
  ·obtain⟨⟨qa,qb,qi⟩,hq,rfl⟩:=aE.mp hd
   obtain⟨h1,h2,h3⟩:c7 qa/\c7 qb/\cC qi:=ok.times (qa,qb,qi) hq;have s1:=h1.short;have s2:=h2.short;have s3:=fc h3;have e1:("time":Str).length=4:=by decide
   have e2:(" ":Str).length=1:=by decide
   refine⟨_,rfl,λf s3 H3=>eN,λr hC f s3 H3=>?_⟩
   cases hC;exact oG (zs:=["time",qa,qb,cI qi]) aM (VO.ve (iH (aq aM (aq (ae 0 rfl) (aq (ae 1 rfl) (aq (ng (ae 2 rfl) (cC.log h3) n.str) aZ)))) (small (by show 4<=_;decide)))) (by rw[e2];simp only[aD,eJ,om,CG,bF,cp];omega)
  refine kM 1 rfl ?_
  have n4:(["_law_desk","_law_begin","_law_end"]:List Str).Nodup:=by symm
  refine aP (m_ 1 (ds:=(lI p).map .str) (VO.to (rX (d2:=(p.hours.map nh).map .str) (ae 1 rfl) (VO.ve (VO.to (eO (own:=["_law_desk","_law_begin","_law_end"]) (cap:=[]) (N:=["_law_desk","_law_begin","_law_end"]) (cl:=[]) (tgt:=.tup [0,1,2]) (F:=Z5) (ds:=p.hours.map yW) rfl ⟨rfl,by symm,by symm,rfl,rfl,by simp⟩ (fE (fN pw (ae 0 rfl) aM (JW p))) (λf s3 H3=>fQ rfl (bH (bE (i:=0) n4 rfl (aY rfl)) (bH (bE (i:=1) n4 rfl (aY rfl)) (bH (bE (i:=2) n4 rfl (aY rfl)) eU)))) rfl (small (by rw[aj];omega)) (λd hd=>?_)) (MK _))) (small (by simp only[aj,bq];omega))) (by unfold lI;rw[bx (l₂:=oY nh _)])) nd) ?_
  ·obtain⟨⟨qa,qb,qi⟩,hq,rfl⟩:=aE.mp hd
   obtain⟨h1,h2,h3⟩:c7 qa/\cC qb/\cC qi:=ok.hours (qa,qb,qi) hq;have s1:=h1.short;have s2:=fc h2;have s3:=fc h3;have e1:("open":Str).length=4:=by decide
   have e2:(" ":Str).length=1:=by decide
   refine⟨_,rfl,λf s3 H3=>eN,λr hC f s3 H3=>?_⟩
   cases hC;exact oG (zs:=["open",qa,cI qb,cI qi]) aM (VO.ve (iH (aq aM (aq (ae 0 rfl) (aq (ng (ae 1 rfl) (cC.log h2) n.str) (aq (ng (ae 2 rfl) (cC.log h3) n.str) aZ)))) (small (by show 4<=_;decide)))) (by rw[e2];simp only[aD,eJ,om,CG,bF,cp];omega)
  refine aP (qd (tgt:=.tup [7,8,9,10]) (o:=.nx [.val (dY p),.own ((lI p++(p.paces.take p.paces.length).map lP).map .str),.un,.un,.un,.un,.un,.un,.un,.un,.un]) dI rfl (fE (fN pw (ae 0 rfl) aM (tN p)))
   (fQ rfl (bH (bE (i:=7) nd rfl (by first|exact aY rfl|exact b_ rfl)) (bH (bE (i:=8) nd rfl (by first|exact aY rfl|exact b_ rfl)) (bH (bE (i:=9) nd rfl (by first|exact aY rfl|exact b_ rfl)) (bH (bE (i:=10) nd rfl (by first|exact aY rfl|exact b_ rfl)) eU))))) (λi=>[.val (dY p),.own ((lI p++(p.paces.take i).map lP).map .str),.un,.un,.un,.un,.un,.un,.un,.un,.un]) p.paces.length (by show([.val (dY p),.own ((lI p++(p.paces.take 0).map lP).map .str),.un,.un,.un,.un,.un,.un,.un,.un,.un]:List Slot)=_;rw[q_,eJ,du];rfl) (by rw[aj];exact aA _) (λi d hi hd=>?_) (.inl ⟨by rw[aj],rfl⟩)) ?_
  ·obtain⟨⟨qa,qb,qi,qj⟩,Ul,rfl⟩:∃dk,p.paces[i]?=some dk/\d=iK dk:=by
    rw[aF,au (by omega)]at hd
    cases hd;exact⟨_,au (by omega),rfl⟩
   obtain⟨h1,h2,h3,h4⟩:c7 qa/\c7 qb/\cC qi/\cC qj:=ok.paces (qa,qb,qi,qj) (bh Ul);have s1:=h1.short;have s2:=h2.short;have s3:=fc h3;have s4:=fc h4;have e1:("pace":Str).length=4:=by decide
   have e2:(" ":Str).length=1:=by decide
   have b7:=ok.an;have r6:(lI p).length<=1440:=by unfold lI;simp only[bq,aj];omega
   refine⟨_,rfl,?_⟩
   refine lK (bJ (qL 1 rfl (d:=.str (lP (qa,qb,qi,qj))) (oG (zs:=["pace",qa,qb,cI qi,cI qj]) aM (VO.ve (iH (aq aM (aq (ae 7 rfl) (aq (ae 8 rfl) (aq (ng (ae 9 rfl) (cC.log h3) n.str) (aq (ng (ae 10 rfl) (cC.log h4) n.str) aZ))))) (small (by show 5<=_;decide)))) (by rw[e2];simp only[aD,eJ,om,CG,bF,cp];omega)) (ja (by simp only[aj,bq,dz];omega)))) ⟨.inr rfl,.inr ?_,.inr rfl,.inr rfl,.inr rfl,.inr rfl,.inr rfl,.inl rfl,.inl rfl,.inl rfl,.inl rfl,trivial⟩
   rw[cV,Ul];simp only[sG,bx,aD,eJ,eu]
  rw[jw];rw[show lI p++p.paces.map lP=eQ p from rfl]
  refine kM 1 rfl ?_
  refine bJ (cy (oG (zs:=eQ p) aM (ae 1 rfl) ?_))
  have e5:("\n":Str).length=1:=by decide
  have e2:(" ":Str).length=1:=by decide
  have b7:=ok.an;have hl:(eQ p).length<=1500:=by unfold eQ lI;simp only[bq,aj];omega
  have hs:=n_ (l:=eQ p) (b:=2000) λx hx=>by
   unfold eQ lI mJ at hx;simp only[cx,aE]at hx;rcases hx with(((((⟨q,hq,rfl⟩|⟨q,hq,rfl⟩)|⟨q,hq,rfl⟩)|⟨dk,hq,rfl⟩)|⟨q,hq,rfl⟩)|⟨q,hq,rfl⟩)|⟨q,hq,rfl⟩
   ·obtain⟨h1,h2⟩:=ok.kinds q hq
    have s1:=h1.short;have s2:=jP h2;have e1:("kind ":Str).length=5:=by decide
    unfold oN;simp only[cj];omega
   ·have s1:=(ok.gates q hq).short
    have e1:("gate ":Str).length=5:=by decide
    unfold lM;simp only[cj];omega
   ·obtain⟨h1,h2⟩:=ok.lines q hq
    have s1:=h1.short;have s2:=fc h2;have e1:("line ":Str).length=5:=by decide
    unfold lN;simp only[cj];omega
   ·obtain⟨h1,h2,h3,h4,h5⟩:=ok.desks dk hq
    have Rx:GP (.str dk.to):=h2;have s1:=h1.short;have s2:=jP Rx;have s3:=mI h3;have s4:=fS (y:=" ") (by decide) (l:=dk.places) (b:=8) λx hx=>(h5 x hx).short
    have s5:dk.places.length*(8+1)<=60*9:=iw h4 (aA _);have e1:("desk ":Str).length=5:=by decide
    have e2:(" to ":Str).length=4:=by decide
    have e3:(" by ":Str).length=4:=by decide
    have e4:(" from ":Str).length=6:=by decide
    unfold kW mH;simp only[cj];omega
   ·obtain⟨h1,h2,h3⟩:=ok.times q hq
    have s1:=h1.short;have s2:=h2.short;have s3:=fc h3;have:=fS (y:=" ") (by decide) (l:=["time",q.1,q.2.1,cI q.2.2]) (b:=8) λx hx=>by
     simp only[av,aX,or_false]at hx;rcases hx with rfl|rfl|rfl|rfl
     ·decide
     ·exact s1
     ·exact s2
     ·omega
    unfold lO;exact bZ this (by simp only[bF,cp];omega)
   ·obtain⟨h1,h2,h3⟩:=ok.hours q hq
    have s1:=h1.short;have s2:=fc h2;have s3:=fc h3;have:=fS (y:=" ") (by decide) (l:=["open",q.1,cI q.2.1,cI q.2.2]) (b:=8) λx hx=>by
     simp only[av,aX,or_false]at hx;rcases hx with rfl|rfl|rfl|rfl
     ·decide
     ·exact s1
     ·omega
     ·omega
    unfold nh;exact bZ this (by simp only[bF,cp];omega)
   ·obtain⟨h1,h2,h3,h4⟩:=ok.paces q hq
    have s1:=h1.short;have s2:=h2.short;have s3:=fc h3;have s4:=fc h4;have:=fS (y:=" ") (by decide) (l:=["pace",q.1,q.2.1,cI q.2.2.1,cI q.2.2.2]) (b:=8) λx hx=>by
     simp only[av,aX,or_false]at hx;rcases hx with rfl|rfl|rfl|rfl|rfl
     ·decide
     ·exact s1
     ·exact s2
     ·omega
     ·omega
    unfold lP;exact bZ this (by simp only[bF,cp];omega)
  have hb:(eQ p).length*2000<=1500*2000:=iw hl (aA _);rw[e5];omega
end
end Mg
namespace Mg
open L2 PySem PyProof.Rows
theorem GR(a c:Int){b:Int}(hb:0<b)(hc:0<=c)(h:c+b<=1000000):cC (c+a%b):=by
 have a1:0<=a%b:=bA _ (by omega)
 have a2:a%b<b:=bj _ hb;exact⟨by omega,by omega⟩
theorem DX(a:Int){b:Int}(hb:0<b)(h:b<=1000000):cC (a%b):=by
 have:=GR a 0 hb (by omega) (by omega)
 rw[Int.zero_add]at this;exact this
theorem getD_mem{l:List Str}{k:Nat}(h:k<l.length):l.getD k ""∈l:=by
 rw[aG,au h];exact dN _
def gM(x:Str):Prop:=x≠""/\32∉x.cps.toList/\10∉x.cps.toList
theorem gM.one{x:Str}(h:gM x):wordsOf x=[x]:=uD h.1 h.2.1
theorem oP{l k:Str}(hl:l=k++" ")(hk:gM k)(x:Str):wordsOf (l++x)=k::wordsOf x:=by
 rw[hl,kO,hk.one];rfl
theorem sj{l k:Str}(hl:l=" "++k++" ")(hk:gM k)(x y:Str):wordsOf (x++l++y)=wordsOf x++k::wordsOf y:=by
 have e:x++l++y=x++" "++(k++" "++y):=by
  rw[hl];apply str_inj;simp only[add_list,eu]
 rw[e,kO,kO,hk.one];rfl
theorem qO{d:ai}(h:GP d):gM (er d):=by
 have e:gM "-":=by unfold gM;symm
 cases d with
 |none=>exact e
 |int i=>exact kf h.1 h.2
 |str x=>
  show gM (if x="" then "-" else x)
  split
  ·exact e
  ·rename_i hx
   rcases h with h|h
   ·exact qQ7 h hx
   ·exact fP h
 |_=>exact h.elim
theorem sk{r:Rl}(h:Ah r):∀w∈cF r,gM w:=by
 intro w hw;by_cases ht:∃sh,r=.turns sh
 ·obtain⟨sh,rfl⟩:=ht
  rcases av.mp hw with rfl|hw
  ·unfold gM;symm
  ·obtain⟨z,hz,rfl⟩:=aE.mp hw
   exact kf (h.2 z hz).1 (h.2 z hz).2
 ·have Ai:∀sh,r≠.turns sh:=λsh z=>ht ⟨sh,z⟩
  have hok:=xt Ai h;have J0:cF r=qN r::(uB r).map er:=by
   cases r with
   |turns sh=>exact qQ7 rfl (Ai sh)
   |_=>rfl
  rw[J0]at hw;rcases av.mp hw with rfl|hw
  ·cases r<;>dsimp only[qN,gM]<;>symm
  ·obtain⟨z,hz,rfl⟩:=aE.mp hw
   exact qO (hok z hz)
theorem DY{q:Str×Option Int}(h:c7 q.1/\GP (nJ q.2)):wordsOf (oN q)=[("kind":Str),q.1,er (nJ q.2)]:=by
 unfold oN;rw[kO,oP (k:="kind") (by symm) (by unfold gM;symm),(show gM q.1 from fP h.1).one,(qO h.2).one];rfl
theorem DZ{g:Str}(h:c7 g):wordsOf (lM g)=[("gate":Str),g]:=by
 unfold lM;rw[oP (k:="gate") (by symm) (by unfold gM;symm),(show gM g from fP h).one]
theorem D0{q:Str×Int}(h:c7 q.1/\cC q.2):wordsOf (lN q)=[("line":Str),q.1,cI q.2]:=by
 unfold lN;rw[kO,oP (k:="line") (by symm) (by unfold gM;symm),(show gM q.1 from fP h.1).one,(show gM (cI q.2)from kf h.2.1 h.2.2).one];rfl
theorem D1{d:Dk}(h:c7 d.name/\(d.to=""\/c7 d.to)/\Ah d.rule/\d.places.length<=60/\∀x∈d.places,c7 x):wordsOf (kW d)=[("desk":Str),d.name,"to",er (.str d.to),"by"]++cF d.rule ++ [("from":Str)]++d.places:=by
 obtain⟨h1,h2,h3,h4,h5⟩:=h;have Rx:GP (.str d.to):=h2;have hr:wordsOf (nZ d.rule)=cF d.rule:=la λw hw=>⟨(sk h3 w hw).1,(sk h3 w hw).2.1⟩
 have hp:wordsOf (cL " " d.places)=d.places:=la λw hw=>⟨(fP (h5 w hw)).1,(fP (h5 w hw)).2.1⟩
 unfold kW mH;rw[sj (k:="from") (by symm) (by unfold gM;symm),sj (k:="by") (by symm) (by unfold gM;symm),sj (k:="to") (by symm) (by unfold gM;symm),oP (k:="desk") (by symm) (by unfold gM;symm),(show gM d.name from fP h1).one,(qO Rx).one,hr,hp]
 simp
theorem D2{q:Str×Str×Int}(h:c7 q.1/\c7 q.2.1/\cC q.2.2):wordsOf (lO q)=[("time":Str),q.1,q.2.1,cI q.2.2]:=by
 refine la λw hw=>?_
 have:gM w:=by
  simp only[av,aX,or_false]at hw;rcases hw with rfl|rfl|rfl|rfl
  ·unfold gM;symm
  ·exact fP h.1
  ·exact fP h.2.1
  ·exact kf h.2.2.1 h.2.2.2
 exact⟨this.1,this.2.1⟩
theorem D3{q:Str×Int×Int}(h:c7 q.1/\cC q.2.1/\cC q.2.2):wordsOf (nh q)=[("open":Str),q.1,cI q.2.1,cI q.2.2]:=by
 refine la λw hw=>?_
 have:gM w:=by
  simp only[av,aX,or_false]at hw;rcases hw with rfl|rfl|rfl|rfl
  ·unfold gM;symm
  ·exact fP h.1
  ·exact kf h.2.1.1 h.2.1.2
  ·exact kf h.2.2.1 h.2.2.2
 exact⟨this.1,this.2.1⟩
theorem D4{q:Str×Str×Int×Int}(h:c7 q.1/\c7 q.2.1/\cC q.2.2.1/\cC q.2.2.2):wordsOf (lP q)=[("pace":Str),q.1,q.2.1,cI q.2.2.1,cI q.2.2.2]:=by
 refine la λw hw=>?_
 have:gM w:=by
  simp only[av,aX,or_false]at hw;rcases hw with rfl|rfl|rfl|rfl|rfl
  ·unfold gM;symm
  ·exact fP h.1
  ·exact fP h.2.1
  ·exact kf h.2.2.1.1 h.2.2.1.2
  ·exact kf h.2.2.2.1 h.2.2.2.2
 exact⟨this.1,this.2.1⟩
end Mg
namespace Mg
open L2 PySem PyProof.Rows
seal L2.VE L2.VS L2.pF L2.VT L2.VO L2.IG
variable{p:aI}{fd:fe}{H:Hp}{n:Int}{l:List Str}{d:ai}{K:ao}{r:Rl}{x:Str}
inductive Sh where
 |name|number|count|share|kQ|lj|kX
def Sh.tx:Sh->Str
 | .name=>"name"
 | .number=>"number"
 | .count=>"count"
 | .share=>"share"
 | .kQ=>"count or -"
 | .lj=>"name or -"
 | .kX=>"number or -"
def iL(x:Str):Bool:=isNumber x && !decide (x="0")
def kE:Sh->Str->Bool
 | .name,x=>isName x
 | .number,x=>isNumber x
 | .count,x=>iL x
 | .share,x=>iL x&&decide ((x.length:Int)=1)
 | .kQ,x=>decide (x="-")||iL x
 | .lj,x=>decide (x="-")||isName x
 | .kX,x=>decide (x="-")||isNumber x
def Aj(x:Str):Int:=(intText? x).getD 0
def gB:Sh->Str->ai
 | .name,x=>.str x
 | .lj,x=>.str (if x="-" then "" else x)
 |_,x=>if x="-" then .none else .int (Aj x)
def Sh.base:Sh->Bool
 | .name=>true
 | .number=>true
 | .count=>true
 |_=>false
theorem Sh.ok(s:Sh):lH s.tx:=by cases s<;>(show cG (.str _)=true)<;>symm
theorem xu(h:isNumber x=true):1<=x.length/\x.length<=6/\∀c∈x.cps.toList,48<=c/\c<=57:=by
 unfold isNumber at h;have h:=(gZ.mp h).1;unfold nI at h;obtain⟨h1,h2⟩:=gZ.mp h;obtain⟨h3,h4⟩:=gZ.mp h1;have h3:=qQ4 h3;have h4:=qQ4 h4;refine⟨by omega,by omega,λc hc=>?_⟩
 have:=eK.mp h2 c hc;have e:zV (one c) "0123456789"=decide (c∈("0123456789":Str).cps.toList):=sU ..;rw[e,BU]at this;obtain⟨i,hi,rfl⟩:=aE.mp (qQ4 this);have:=cw.mp hi;omega
theorem yp(h:isNumber x=true):intText? x=some (Aj x):=by
 obtain⟨h1,h2,h3⟩:=xu h;have hd:NumText.AllDigits x.cps.toList:=λc hc=>h3 c hc
 have hl:x.cps.toList.length=x.length:=cM;have e:=intText_digits hd (λz=>by rw[z]at hl;simp only[cp]at hl;omega) (by omega)
 unfold Aj;rw[e];rfl
theorem BV(h:cC n):Aj (cI n)=n:=by unfold Aj;rw[num_reads h.1 h.2];rfl
theorem oQ(h:iL x=true):isNumber x=true:=(gZ.mp h).1
theorem vh{s:Sh}(h:kE s x=true)(h1:s≠.name)(h2:s≠.lj)(hx:x≠"-"):isNumber x=true:=by
 cases s with
 |name=>exact qQ7 rfl h1
 |lj=>exact qQ7 rfl h2
 |number=>exact h
 |count=>exact oQ h
 |share=>exact oQ (gZ.mp h).1
 |kQ=>
  rcases Bool.or_eq_true_iff.mp h with h|h
  ·exact qQ7 (qQ4 h) hx
  ·exact oQ h
 |kX=>
  rcases Bool.or_eq_true_iff.mp h with h|h
  ·exact qQ7 (qQ4 h) hx
  ·exact h
section
variable{P:bC}{w:bY}{K:ao}{mg:Str->Option aB}{base:cR}{f:aI}{k:Nat}
abbrev HF:List Str:=["shape","word"]
theorem Ob:cY HF HF (a_ (top 23)):=⟨rfl,rfl,rfl,by symm,rfl,by symm,by symm⟩
def Ry(b:Bool)(ds:List ai)(d:ai):Prop:=∃(s:Sh)(x:Str),ds=[.str s.tx,.str x]/\uy x/\(b=true\/s.base=true)/\d=.bool (kE s x)
theorem aS(h:cG (.str x)=true:=by symm):Lay 20 (.str x):=bw h
theorem Um{fb:Bool}(n:Na mg)(C1:bM P w K mg base 2 "is_name" ["word"] (ig K Uc))(C2:bM P w K mg base 2 "is_number" ["word"] (ig K Vu))(k2:2<=k)(C3:fb=true->bM P w K mg base k "fits" HF (ig K (Ry false))){ds:List ai}(h:Ry fb ds d):Bj P w K mg base HF "fits" (top 23) f k ds (.rt d):=by
 obtain⟨s,x,rfl,ox,hb,rfl⟩:=h;intro eZ A outer sh H E hr;have Uo:eE 2 _:=hr.mono k2;have ls:=bw (n:=20) s.ok;have lx:=bw (n:=20) ox.2;cases s with
 |name=>exact dU (eR (VT.to (bN hr ls aS (ae 0 rfl) aM) (by rw[bO];exact qQ1 rfl)) (bJ (cy (bT C1 Uo (aq (ae 1 rfl) aZ) ⟨x,rfl,ox.1,rfl⟩)))) rfl
 |number=>
  refine aP (bW (VT.to (bN hr ls aS (ae 0 rfl) aM) (by rw[bO];symm)) bL) ?_
  exact dU (eR (VT.to (bN hr ls aS (ae 0 rfl) aM) (by rw[bO];exact qQ1 rfl)) (bJ (cy (bT C2 Uo (aq (ae 1 rfl) aZ) ⟨x,rfl,ox,rfl⟩)))) rfl
 |count=>
  refine aP (bW (VT.to (bN hr ls aS (ae 0 rfl) aM) (by rw[bO];symm)) bL) ?_
  refine aP (bW (VT.to (bN hr ls aS (ae 0 rfl) aM) (by rw[bO];symm)) bL) ?_
  exact dU (eR (VT.to (bN hr ls aS (ae 0 rfl) aM) (by rw[bO];exact qQ1 rfl)) (bJ (cy (VE.to (mE (bT C2 Uo (aq (ae 1 rfl) aZ) ⟨x,rfl,ox,rfl⟩) (λ_=>iZ (IU hr lx aS (ae 1 rfl) aM))) (by rw[bO];rfl))))) rfl
 |share=>
  have C3:=C3 (hb.resolve_right (by decide))
  refine aP (bW (VT.to (bN hr ls aS (ae 0 rfl) aM) (by rw[bO];symm)) bL) ?_
  refine aP (bW (VT.to (bN hr ls aS (ae 0 rfl) aM) (by rw[bO];symm)) bL) ?_
  refine aP (bW (VT.to (bN hr ls aS (ae 0 rfl) aM) (by rw[bO];symm)) bL) ?_
  exact dU (eR (VT.to (bN hr ls aS (ae 0 rfl) aM) (by rw[bO];exact qQ1 rfl)) (bJ (cy (VE.to (mE (bT C3 hr (aq aM (aq (ae 1 rfl) aZ)) ⟨.count,x,rfl,ox,.inr rfl,rfl⟩) (λ_=>iZ (oZ hr (eP 20 _) (eP 20 _) (E_ (ae 1 rfl) (small (by have:=ox.1;omega)) n.len) aK))) (by rw[kU];rfl))))) rfl
 |kQ=>
  have C3:=C3 (hb.resolve_right (by decide))
  refine aP (bW (VT.to (bN hr ls aS (ae 0 rfl) aM) (by rw[bO];symm)) bL) ?_
  refine aP (bW (VT.to (bN hr ls aS (ae 0 rfl) aM) (by rw[bO];symm)) bL) ?_
  refine aP (bW (VT.to (bN hr ls aS (ae 0 rfl) aM) (by rw[bO];symm)) bL) ?_
  refine aP (bW (VT.to (bN hr ls aS (ae 0 rfl) aM) (by rw[bO];symm)) bL) ?_
  have zH:(ck (Sh.kQ.tx) " ").map aQ=[.str "count",.str "or",.str "-"]:=by rw[show ck (Sh.kQ.tx) " "=[("count":Str),"or","-"]from by symm];rfl
  exact bJ (cy (VE.to (rA (oZ hr lx aS (ae 1 rfl) aM) (λ_=>iZ (bT C3 hr (aq (gK (VE.to (VO.ve (qg (ae 0 rfl) aM rfl (small (by decide)))) (by rw[zH])) aK (bK (j:=0) rfl)) (aq (ae 1 rfl) aZ)) ⟨.count,x,rfl,ox,.inr rfl,rfl⟩))) (by rw[bO];rfl)))
 |lj=>
  have C3:=C3 (hb.resolve_right (by decide))
  refine aP (bW (VT.to (bN hr ls aS (ae 0 rfl) aM) (by rw[bO];symm)) bL) ?_
  refine aP (bW (VT.to (bN hr ls aS (ae 0 rfl) aM) (by rw[bO];symm)) bL) ?_
  refine aP (bW (VT.to (bN hr ls aS (ae 0 rfl) aM) (by rw[bO];symm)) bL) ?_
  refine aP (bW (VT.to (bN hr ls aS (ae 0 rfl) aM) (by rw[bO];symm)) bL) ?_
  have zH:(ck (Sh.lj.tx) " ").map aQ=[.str "name",.str "or",.str "-"]:=by rw[show ck (Sh.lj.tx) " "=[("name":Str),"or","-"]from by symm];rfl
  exact bJ (cy (VE.to (rA (oZ hr lx aS (ae 1 rfl) aM) (λ_=>iZ (bT C3 hr (aq (gK (VE.to (VO.ve (qg (ae 0 rfl) aM rfl (small (by decide)))) (by rw[zH])) aK (bK (j:=0) rfl)) (aq (ae 1 rfl) aZ)) ⟨.name,x,rfl,ox,.inr rfl,rfl⟩))) (by rw[bO];rfl)))
 |kX=>
  have C3:=C3 (hb.resolve_right (by decide))
  refine aP (bW (VT.to (bN hr ls aS (ae 0 rfl) aM) (by rw[bO];symm)) bL) ?_
  refine aP (bW (VT.to (bN hr ls aS (ae 0 rfl) aM) (by rw[bO];symm)) bL) ?_
  refine aP (bW (VT.to (bN hr ls aS (ae 0 rfl) aM) (by rw[bO];symm)) bL) ?_
  refine aP (bW (VT.to (bN hr ls aS (ae 0 rfl) aM) (by rw[bO];symm)) bL) ?_
  have zH:(ck (Sh.kX.tx) " ").map aQ=[.str "number",.str "or",.str "-"]:=by rw[show ck (Sh.kX.tx) " "=[("number":Str),"or","-"]from by symm];rfl
  exact bJ (cy (VE.to (rA (oZ hr lx aS (ae 1 rfl) aM) (λ_=>iZ (bT C3 hr (aq (gK (VE.to (VO.ve (qg (ae 0 rfl) aM rfl (small (by decide)))) (by rw[zH])) aK (bK (j:=0) rfl)) (aq (ae 1 rfl) aZ)) ⟨.number,x,rfl,ox,.inr rfl,rfl⟩))) (by rw[bO];rfl)))
theorem Up(F:mR K "fits" "fits" (top 23) f fd)(n:Na mg)(C1:bM P w K mg base 2 "is_name" ["word"] (ig K Uc))(C2:bM P w K mg base 2 "is_number" ["word"] (ig K Vu)):fY P w K mg base iP 3 f fd HF (ig K (Ry false)):=
 kN F Ob (λ_ _ h=>by obtain⟨_,_,rfl,_⟩:=h;rfl) λ_ _ h=>Um n C1 C2 (aA _) (λz=>by cases z) h
theorem XU(F:mR K "fits" "fits" (top 23) f fd)(n:Na mg)(C1:bM P w K mg base 2 "is_name" ["word"] (ig K Uc))(C2:bM P w K mg base 2 "is_number" ["word"] (ig K Vu))(C3:bM P w K mg base 3 "fits" HF (ig K (Ry false))):fY P w K mg base iP 4 f fd HF (ig K (Ry true)):=
 kN F Ob (λ_ _ h=>by obtain⟨_,_,rfl,_⟩:=h;rfl) λ_ _ h=>Um n C1 C2 (by decide) (λ_=>C3) h
theorem Uq:cY HF HF (a_ (top 24)):=⟨rfl,rfl,rfl,by symm,rfl,by symm,by symm⟩
def Z8(ds:List ai)(d:ai):Prop:=∃(s:Sh)(x:Str),ds=[.str s.tx,.str x]/\uy x/\kE s x=true/\d=gB s x
theorem XW(F:mR K "value_of" "value_of" (top 24) f fd)(n:Na mg):fY P w K mg base iP 1 f fd HF (ig K Z8):=
 kN F Uq (λ_ _ h=>by obtain⟨_,_,rfl,_⟩:=h;rfl) λ_ _ h=>by
  obtain⟨s,x,rfl,ox,hf,rfl⟩:=h;intro eZ A outer sh H E hr;have ls:=bw (n:=20) s.ok;have lx:=bw (n:=20) ox.2;by_cases h1:s=.name
  ·subst h1
   exact dU (eR (VT.to (bN hr ls aS (ae 0 rfl) aM) (by rw[bO];exact qQ1 rfl)) (bJ (cy (ae 1 rfl)))) rfl
  ·have d1:s.tx≠"name":=by cases s<;>first|exact qQ7 rfl h1|(dsimp only[Sh.tx];symm)
   refine aP (bW (VT.to (bN hr ls aS (ae 0 rfl) aM) (by rw[bO];exact qQ0 d1)) bL) ?_
   by_cases h2:s=.lj
   ·subst h2
    refine dU (eR (VT.to (bN hr ls aS (ae 0 rfl) aM) (by rw[bO];exact qQ1 rfl)) (bJ (cy (zS (k:=decide (x="-")) (VT.to (bN hr lx aS (ae 1 rfl) aM) (by rw[bO])) (λz=>VE.to aM ?_) (λz=>VE.to (ae 1 rfl) ?_))))) rfl
    ·show aQ ""=.str (if x="-" then "" else x);rw[qQ3 (qQ4 z)]
    ·show aQ x=.str (if x="-" then "" else x);rw[qQ2 (qQ5 z)]
   ·have d2:s.tx≠"name or -":=by cases s<;>first|exact qQ7 rfl h2|exact qQ7 rfl h1|(dsimp only[Sh.tx];symm)
    have ev:gB s x=if x="-" then .none else .int (Aj x):=by cases s<;>first|exact qQ7 rfl h1|exact qQ7 rfl h2|rfl
    rw[ev];refine aP (bW (VT.to (bN hr ls aS (ae 0 rfl) aM) (by rw[bO];exact qQ0 d2)) bL) ?_
    refine bJ (cy (zS (k:=decide (x="-")) (VT.to (bN hr lx aS (ae 1 rfl) aM) (by rw[bO])) (λz=>VE.to gF (by rw[qQ3 (qQ4 z)])) (λz=>VE.to (L9 (ae 1 rfl) (yp (vh hf h1 h2 (qQ5 z))) (by have:=(xu (vh hf h1 h2 (qQ5 z))).2.1;omega) n.int) (by rw[qQ2 (qQ5 z)]))))
def BW(og:List Sh):ai:=.tuple (og.map λs=>.str s.tx)
def qt(og:List Sh)(ws:List Str):Bool:=decide (ws.length=og.length)&&(og.zip ws).all λp=>kE p.1 p.2
def ni(og:List Sh)(ws:List Str):List ai:=(og.zip ws).map λp=>gB p.1 p.2
def iM(og:List Sh)(ws:List Str):ai:=if qt og ws then .tuple (ni og ws)else .none
abbrev Rz:List Str:=["shapes","words"]
theorem Ur:cY Rz Rz (a_ (top 25)):=⟨rfl,rfl,rfl,by symm,rfl,by symm,by symm⟩
def Vv(ds:List ai)(d:ai):Prop:=∃(og:List Sh)(ws:List Str),ds=[BW og,oM ws]/\og.length<=1000/\ws.length<=100002/\(∀x∈ws,uy x)/\d=iM og ws
def BX(x:Str):Sh:=if x="name" then .name else if x="number" then .number else if x="count" then .count else if x="share" then .share else if x="count or -" then .kQ else if x="name or -" then .lj else .kX
theorem tQ(s:Sh):BX s.tx=s:=by
 cases s<;>rfl
def QV:ai->Option ai
 | .tuple [.str s,.str x]=>some (.bool (kE (BX s) x))
 |_=>none
def Us:ai->Option ai
 | .tuple [.str s,.str x]=>some (gB (BX s) x)
 |_=>none
theorem qu:∀(og:List Sh)(ws:List Str),qk (og.map λs=>aQ s.tx) (ws.map aQ)=(og.zip ws).map λp=>.tuple [.str p.1.tx,.str p.2]
 | [],_=>rfl
 |_::_,[]=>rfl
 |s::og,x::ws=>by
  have:=qu og ws;unfold qk at this ⊢;rw[aD,aD,eG,eG,aD,aD,this]
theorem BZ(og:List Sh)(ws:List Str):(qk (og.map λs=>aQ s.tx) (ws.map aQ)).filterMap QV=((og.zip ws).map λp=>kE p.1 p.2).map .bool:=by
 rw[qu,bQ,aL];exact filterMap_some λp _=>by show some (gP (kE (BX p.1.tx) p.2))=_;rw[tQ];rfl
theorem J1(og:List Sh)(ws:List Str):(qk (og.map λs=>aQ s.tx) (ws.map aQ)).filterMap Us=ni og ws:=by
 unfold ni;rw[qu,bQ];exact filterMap_some λp _=>by show some (gB (BX p.1.tx) p.2)=_;rw[tQ]
theorem XX(F:mR K "values_of" "values_of" (top 25) f fd)(n:Na mg)(mz:mg "zip"=none)(C1:bM P w K mg base 4 "fits" HF (ig K (Ry true)))(C2:bM P w K mg base 1 "value_of" HF (ig K Z8)):fY P w K mg base iP 5 f fd Rz (ig K Vv):=
 kN F Ur (λ_ _ h=>by obtain⟨_,_,rfl,_⟩:=h;rfl) λ_ _ h=>by
  obtain⟨og,ws,rfl,Vq,hw1,hok,rfl⟩:=h;intro eZ A outer sh H E hr;have pw:eE 1 _:=hr.mono (by omega)
  have nc:(["shape","word"]:List Str).Nodup:=by symm
  have hzl:(qk (og.map λs=>aQ s.tx) (ws.map aQ)).length<=1000:=by rw[qu,aj,xY];omega
  have hlen:∀b,decide (ws.length=og.length)=b->dm (.int ((ws.map aQ).length:Nat)) (.int ((og.map λs=>aQ s.tx).length:Nat))=b:=λb hb=>by
   rw[kU,aj,aj,<-hb,fw,decide_eq_true_iff,decide_eq_true_iff];omega
  have wJ:∀d∈qk (og.map λs=>aQ s.tx) (ws.map aQ),∃s x,d=.tuple [.str (Sh.tx s),.str x]/\(s,x)∈og.zip ws/\uy x:=λd hd=>by
   rw[qu]at hd;obtain⟨p,hp,rfl⟩:=aE.mp hd;exact⟨p.1,p.2,rfl,hp,hok _ (pH hp).2⟩
  by_cases hl:ws.length=og.length
  ·have pW:∀b,((og.zip ws).all λp=>kE p.1 p.2)=b->o5 ((og.zip ws).map λp=>kE p.1 p.2)=b:=λb hb=>by
    unfold o5;rw[CF];exact hb
   by_cases ha:((og.zip ws).all λp=>kE p.1 p.2)=true
   ·have ev:iM og ws=.tuple (ni og ws):=by unfold iM qt;rw[ha,qQ1 hl];rfl
    rw[ev];refine aP (bW (VT.to (iY (k1:=false) (k2:=false) (VT.to (mq hr (eP 20 _) (eP 20 _) (nG (ae 1 rfl) n.len) (oB (ae 0 rfl) n.len)) (by rw[hlen true (qQ1 hl)];rfl)) (λ_=>VT.to (zR (nF (h_ (qf rfl) Bl (aq (VO.ve (VO.to (eO (own:=["shape","word"]) (cap:=[]) (N:=["shape","word"]) (cl:=[]) (tgt:=.tup [0,1]) (F:=QV) rfl ⟨rfl,by symm,by symm,rfl,rfl,by simp⟩ (wV .tup .lst (ae 0 rfl) (ae 1 rfl) mz) (λf s3 H3=>fQ rfl (bH (bE (i:=0) nc rfl (aY rfl)) (bH (bE (i:=1) nc rfl (aY rfl)) eU))) rfl
     (small (by omega)) (λd hd=>?_)) (BZ og ws))) aZ) n.all rfl) (t:=true) (by show some _=some _;rw[pW true ha]))) rfl)) rfl) bL) ?_
    ·obtain⟨s,x,rfl,hp,ox⟩:=wJ d hd
     refine⟨_,rfl,λf s3 H3=>eN,λr hC f s3 H3=>?_⟩
     have hC:some (gP (kE (BX s.tx) x))=some r:=hC;rw[tQ]at hC;cases hC;exact bT C1 hr (aq (ae 0 rfl) (aq (ae 1 rfl) aZ)) ⟨s,x,rfl,ox,.inl rfl,rfl⟩
    refine bJ (cy (jg kS vW (aq (VO.ve (VO.to (eO (own:=["shape","word"]) (cap:=[]) (N:=["shape","word"]) (cl:=[]) (tgt:=.tup [0,1]) (F:=Us) rfl ⟨rfl,by symm,by symm,rfl,rfl,by simp⟩ (wV .tup .lst (ae 0 rfl) (ae 1 rfl) mz) (λf s3 H3=>fQ rfl (bH (bE (i:=0) nc rfl (aY rfl)) (bH (bE (i:=1) nc rfl (aY rfl)) eU))) rfl
     (small (by omega)) (λd hd=>?_)) (J1 og ws))) aZ) n.tup rfl))
    obtain⟨s,x,rfl,hp,ox⟩:=wJ d hd;refine⟨_,rfl,λf s3 H3=>eN,λr hC f s3 H3=>?_⟩
    have hC:some (gB (BX s.tx) x)=some r:=hC;rw[tQ]at hC;cases hC;exact bT C2 pw (aq (ae 0 rfl) (aq (ae 1 rfl) aZ)) ⟨s,x,rfl,ox,eK.mp ha (s,x) hp,rfl⟩
   ·have ha:=Bool.not_eq_true _▸ha
    have ev:iM og ws=.none:=by unfold iM qt;rw[ha,Bool.and_false];rfl
    rw[ev];refine dU (eR (VT.to (iY (k1:=false) (k2:=true) (VT.to (mq hr (eP 20 _) (eP 20 _) (nG (ae 1 rfl) n.len) (oB (ae 0 rfl) n.len)) (by rw[hlen true (qQ1 hl)];rfl)) (λ_=>VT.to (zR (nF (h_ (qf rfl) Bl (aq (VO.ve (VO.to (eO (own:=["shape","word"]) (cap:=[]) (N:=["shape","word"]) (cl:=[]) (tgt:=.tup [0,1]) (F:=QV) rfl ⟨rfl,by symm,by symm,rfl,rfl,by simp⟩ (wV .tup .lst (ae 0 rfl) (ae 1 rfl) mz) (λf s3 H3=>fQ rfl (bH (bE (i:=0) nc rfl (aY rfl)) (bH (bE (i:=1) nc rfl (aY rfl)) eU))) rfl
     (small (by omega)) (λd hd=>?_)) (BZ og ws))) aZ) n.all rfl) (t:=false) (by show some _=some _;rw[pW false ha]))) rfl)) rfl) (bJ (cy gF))) rfl
    obtain⟨s,x,rfl,hp,ox⟩:=wJ d hd;refine⟨_,rfl,λf s3 H3=>eN,λr hC f s3 H3=>?_⟩
    have hC:some (gP (kE (BX s.tx) x))=some r:=hC;rw[tQ]at hC;cases hC;exact bT C1 hr (aq (ae 0 rfl) (aq (ae 1 rfl) aZ)) ⟨s,x,rfl,ox,.inl rfl,rfl⟩
  ·have ev:iM og ws=.none:=by unfold iM qt;rw[qQ0 hl];rfl
   rw[ev];exact dU (eR (VT.to (iY (k1:=true) (k2:=true) (VT.to (mq hr (eP 20 _) (eP 20 _) (nG (ae 1 rfl) n.len) (oB (ae 0 rfl) n.len)) (by rw[hlen false (qQ0 hl)];rfl)) (λz=>by cases z)) rfl) (bJ (cy gF))) rfl
end
def sr:Rl->Nat->Prop
 | .meet,n=>2<=n
 | .gather m a,_=>1<=m/\cC m/\cC a
 | .many m,_=>1<=m/\cC m
 | .rank none,_=>True
 | .rank (some b),_=>cC b
 | .turns s,n=>s.length=n/\∀z∈s,1<=z/\z<=9
 | .eldest,_=>True
theorem QW(h:cC n)(hx:Aj x≠n):cI n≠x:=λz=>hx (by rw[<-z,BV h])
theorem J2(h:cC n):cI n≠"-":=λz=>by
 have hd:45∈(cI n).cps.toList:=by rw[z];symm
 have:=kP h.1 hd;omega
theorem jS(h:cC n)(h1:1<=n):iL (cI n)=true:=by
 unfold iL;rw[xr h.1 h.2,qQ0 (QW h (by rw[show Aj "0"=0 from by symm];omega))]
 rfl
theorem GU(h1:1<=n)(h9:n<=9):kE .share (cI n)=true:=by
 have hs:cC n:=⟨by omega,by omega⟩
 show(iL (cI n)&&decide (((cI n).length:Int)=1))=true
 rw[jS hs h1];rcases(by omega:n=1\/n=2\/n=3\/n=4\/n=5\/n=6\/n=7\/n=8\/n=9)with rfl|rfl|rfl|rfl|rfl|rfl|rfl|rfl|rfl<;>symm
theorem jK{s:Sh}(h:cC n)(h1:s≠.name)(h2:s≠.lj):gB s (cI n)=.int n:=by
 have e:gB s (cI n)=if cI n="-" then .none else .int (Aj (cI n)):=by cases s<;>first|exact qQ7 rfl h1|exact qQ7 rfl h2|rfl
 rw[e,qQ2 (J2 h),BV h]
theorem tR:∀s:List Int,(∀z∈s,1<=z/\z<=9)->qt (bp s.length .share) (s.map cI)=true/\ni (bp s.length .share) (s.map cI)=s.map .int
 | [],_=>⟨rfl,rfl⟩
 |z::s,h=>by
  obtain⟨i1,i2⟩:=tR s λx hx=>h x (aR _ hx)
  obtain⟨z1,z9⟩:=h z aO;unfold qt at i1 ⊢;unfold ni at i2 ⊢;obtain⟨j1,j2⟩:=gZ.mp i1;rw[bF,dJ,aD,eG,List.all_cons,aD,aD,i2];refine⟨?_,?_⟩
  ·rw[j2,show kE (Sh.share,cI z).1 (Sh.share,cI z).2=true from GU z1 z9]
   simp
  ·rw[show gB (Sh.share,cI z).1 (Sh.share,cI z).2=.int z from jK (s:=.share) ⟨by omega,by omega⟩ (by intro z;cases z) (by intro z;cases z)]
def qv:Rl->List Sh
 | .rank _=>[.kX]
 | .many _=>[.count]
 | .gather _ _=>[.count,.number]
 |_=>[]
theorem B1{n:Nat}(h:sr r n)(ht:∀s,r≠.turns s):qt (qv r) ((uB r).map er)=true/\ni (qv r) ((uB r).map er)=uB r:=by
 cases r with
 |meet=>exact⟨rfl,rfl⟩
 |eldest=>exact⟨rfl,rfl⟩
 |turns s=>exact qQ7 rfl (ht s)
 |many m=>
  obtain⟨h1,h2⟩:=h
  constructor
  ·show(true&&(iL (cI m)&&true))=true
   rw[jS h2 h1];rfl
  ·show [gB .count (cI m)]=[cW m]
   rw[jK h2 (by intro z;cases z) (by intro z;cases z)]
 |gather m a=>
  obtain⟨h1,h2,h3⟩:=h
  constructor
  ·show(true&&(iL (cI m)&&(isNumber (cI a)&&true)))=true
   rw[jS h2 h1,xr h3.1 h3.2];rfl
  ·show [gB .count (cI m),gB .number (cI a)]=[cW m,.int a]
   rw[jK h2 (by intro z;cases z) (by intro z;cases z),jK h3 (by intro z;cases z) (by intro z;cases z)]
 |rank b=>
  cases b with
  |none=>exact⟨by symm,rfl⟩
  |some b=>
   constructor
   ·show(true&&((decide (cI b="-")||isNumber (cI b))&&true))=true
    rw[xr h.1 h.2];simp
   ·show [gB .kX (cI b)]=[cW b]
    rw[jK h (by intro z;cases z) (by intro z;cases z)]
theorem sr.ok{n:Nat}(hn:n<=60)(h:sr r n):Ah r:=by
 cases r with
 |meet=>trivial
 |eldest=>trivial
 |gather m a=>exact h.2
 |many m=>exact h.2
 |rank b=>cases b with|none=>trivial|some b=>exact h
 |turns s=>exact⟨by have:=h.1;omega,λz hz=>by have:=h.2 z hz;exact⟨by omega,by omega⟩⟩
abbrev nq:List (Str×List Str):=[("kind",[("name":Str),"count or -"]),("gate",[("name":Str)]),("line",[("name":Str),"count"]),("time",[("name":Str),"name","count"]),("open",[("name":Str),"number","number"]),("pace",[("name":Str),"name","count","count"])]
abbrev tS:List (Str×List Str):=[("eldest",[]),("rank",[("number or -":Str)]),("many",[("count":Str)]),("gather",[("count":Str),"number"]),("meet",[])]
structure Np(mg:Str->Option aB)(pr:zq)(K:ao):Prop extends Na mg where
 zip:mg "zip"=none
 set:mg "set"=none
 any:mg "any"=none
 mp:∃t,mg "MOST_PLACES"=some (.int 6 t)
 fo:∃g,mg "FORMS"=some (.ref g)/\GD pr K g nq
 ru:∃g,mg "RULES"=some (.ref g)/\GD pr K g tS
theorem B2{α:Type}(x:α):∀n,(bp n [x]).flatten=bp n x
 |0=>rfl
 |n+1=>by rw[dJ,fW,B2 x n];rfl
theorem xx(x:ai)(l:List ai):L2.cutD (x::l) (some 1) none=l:=(jG (x::l) 1).trans rfl
section
variable{P:bC}{w:bY}{K:ao}{mg:Str->Option aB}{base:cR}{f:aI}{k:Nat}
abbrev Ut:List Str:=["words","many","shares","values"]
theorem J3:cY Ut ["words","many"] (a_ (top 28)):=⟨rfl,rfl,rfl,by symm,rfl,by symm,by symm⟩
def Uu(ds:List ai)(d:ai):Prop:=∃(r:Rl)(n:Nat),ds=[oM (cF r),.int n]/\1<=n/\n<=6/\sr r n/\d=AY r
theorem Uv(F:mR K "rule_of" "rule_of" (top 28) f fd)(n:Np mg w.params K)(C:bM P w K mg base 5 "values_of" Rz (ig K Vv)):fY P w K mg base iP 6 f fd ["words","many"] (ig K Uu):=
 kN F J3 (λ_ _ h=>by obtain⟨_,_,rfl,_⟩:=h;rfl) λ_ _ h=>by
  obtain⟨r,m,rfl,m1,m6,hg,rfl⟩:=h;intro eZ A outer s H E hr;have nd:Ut.Nodup:=J3.nd;have Rw:=hg.ok (by omega)
  by_cases ht:∃sh,r=.turns sh
  ·obtain⟨sh,rfl⟩:=ht
   obtain⟨hl,hz⟩:=hg;obtain⟨v1,v2⟩:=tR sh hz;have ev:iM (bp m .share) (sh.map cI)=.tuple (sh.map .int):=by unfold iM;rw[<-hl,v1,v2];rfl
   refine dU (eR (VT.to (bN hr aS aS (gK (ae 0 rfl) aK (bK (j:=0) rfl)) aM) (by rw[bO];exact qQ1 rfl)) (aP (cO 2 (d:=.tuple (sh.map .int)) (bT C hr (aq (VE.to (Mm (gy (aq aM aZ)) (ae 1 rfl) (by omega) (by omega) (by show 1<=100;decide) (by simp)) (k:=BW (bp m .share)) (by rw[B2];unfold BW;rw[List.map_replicate,eS];rfl)) (aq (VE.to (VO.ve (iF (ae 0 rfl) (.yes aK) .no)) (k:=oM (sh.map cI)) (by show lu (L2.cutD (_::_) _ _)=_;rw[xx];rfl)) aZ)) ⟨bp m .share,sh.map cI,rfl,by rw[c9];omega,by rw[aj];omega,λx hx=>?_,ev.symm⟩) nd) (bJ (cy (zS (k:=false) (VT.to (gT kH nY (ae 2 rfl) gF (gb _)) rfl) (λz=>by cases z) (λ_=>VE.to (gy (aq aM (aq (ae 2 rfl) aZ))) rfl)))))) rfl
   obtain⟨z,hz',rfl⟩:=aE.mp hx;have:=hz z hz';exact lE (by omega) (by omega)
  ·have Ai:∀sh,r≠.turns sh:=λsh z=>ht ⟨sh,z⟩
   obtain⟨v1,v2⟩:=B1 hg Ai;have J0:cF r=qN r::(uB r).map er:=by
    cases r with
    |turns sh=>exact qQ7 rfl (Ai sh)
    |_=>rfl
   have hw:qN r≠"turns":=by
    cases r with
    |turns sh=>exact qQ7 rfl (Ai sh)
    |_=>dsimp only[qN];symm
   have oR:lH (qN r):=by cases r<;>dsimp only[qN,lH]<;>symm
   have hk:i_ tS (qN r)=some ((qv r).map Sh.tx):=by
    cases r with
    |turns sh=>exact qQ7 rfl (Ai sh)
    |meet=>symm
    |eldest=>symm
    |rank b=>show i_ tS "rank"=some ([Sh.kX].map Sh.tx);symm
    |many m=>show i_ tS "many"=some ([Sh.count].map Sh.tx);symm
    |gather m a=>show i_ tS "gather"=some ([Sh.count,Sh.number].map Sh.tx);symm
   have hme:decide (qN r="meet")=true->¬(m:Int)<2:=by
    cases r with
    |meet=>intro _;have:2<=m:=hg;omega
    |turns sh=>exact qQ7 rfl (Ai sh)
    |eldest=>intro z;exact qQ7 z (by symm)
    |rank b=>intro z;exact qQ7 z (show ¬decide (("rank":Str)="meet")=true by symm)
    |many m=>intro z;exact qQ7 z (show ¬decide (("many":Str)="meet")=true by symm)
    |gather m a=>intro z;exact qQ7 z (show ¬decide (("gather":Str)="meet")=true by symm)
   have Vt:(uB r).length<=2:=by cases r<;>simp[uB]
   have hok:=xt Ai Rw;have hsl:(qv r).length<=2:=by cases r<;>simp[qv]
   have ev:iM (qv r) ((uB r).map er)=.tuple (uB r):=by unfold iM;rw[v1,v2];rfl
   rw[J0];unfold AY
   generalize hA:uB r=ra at *
   generalize hW:qN r=ub at *
   obtain⟨g1,q1,q2⟩:=n.ru;have a0:pj ((ub::ra.map er).map aQ) 0=some (.str ub):=bK (j:=0) rfl;refine aP (bW (VT.to (bN hr (bw oR) aS (gK (ae 0 rfl) aK a0) aM) (by rw[bO];exact qQ0 hw)) bL) ?_
   refine aP (bW (VT.to (iY (k1:=false) (k2:=decide (ub="meet")&&decide ((m:Int)<2)) (VT.to (yS q1 q2 (gK (ae 0 rfl) aK a0)) (by rw[hk];rfl)) (λ_=>rW (VT.to (bN hr (bw oR) aS (gK (ae 0 rfl) aK a0) aM) (by rw[bO])) (λ_=>Bh (ae 1 rfl) aK))) ?_) bL) ?_
   ·cases hd:decide (ub="meet") with
    |false=>rfl
    |true=>rw[qQ0 (hme hd)];rfl
   refine aP (cO 3 (d:=.tuple ra) (bT C hr (aq (VE.to (Fe q1 q2 (gK (ae 0 rfl) aK a0) hk) (k:=BW (qv r)) (by unfold BW;rw[aL];rfl)) (aq (VE.to (VO.ve (iF (ae 0 rfl) (.yes aK) .no)) (k:=oM (ra.map er)) (by show lu (L2.cutD (_::_) _ _)=_;rw[xx];rfl)) aZ)) ⟨qv r,ra.map er,rfl,by omega,by rw[aj];omega,λx hx=>?_,ev.symm⟩) nd) ?_
   ·obtain⟨z,hz,rfl⟩:=aE.mp hx
    have:=hok z hz;cases z with
    |none=>exact⟨by decide,by show cG (.str ("-":Str))=true;symm⟩
    |int i=>exact lE this.1 this.2
    |str x=>
     show uy (if x="" then "-" else x)
     split
     ·exact⟨by decide,by show cG (.str ("-":Str))=true;symm⟩
     ·rename_i hx
      exact(this.resolve_left hx).ok
    |_=>exact this.elim
   ·exact bJ (cy (zS (k:=false) (VT.to (gT kH nY (ae 3 rfl) gF (gb _)) rfl) (λz=>by cases z) (λ_=>VE.to (Fd (gy (aq (gK (ae 0 rfl) aK a0) aZ)) (ae 3 rfl) (by simp) (small (by simp only[bF,cp];omega))) rfl)))
theorem Uw:cY ["names"] ["names"] (a_ (top 29)):=⟨rfl,rfl,rfl,by symm,rfl,by symm,by symm⟩
def J4(l:List Str):Prop:=1<=l.length/\l.length<=6/\l.Nodup/\∀x∈l,c7 x
def Z9(ds:List ai)(d:ai):Prop:=∃l:List Str,ds=[.tuple (l.map .str)]/\J4 l/\d=.bool true
def Oc:ai->Option ai
 | .str x=>some (.bool (isName x))
 |_=>none
theorem GV(l:List Str):(l.map aQ).filterMap Oc=(l.map isName).map .bool:=by
 rw[bQ,aL];exact filterMap_some λk _=>rfl
theorem XY(F:mR K "are_places" "are_places" (top 29) f fd)(n:Np mg w.params K)(C:bM P w K mg base 2 "is_name" ["word"] (ig K Uc)):fY P w K mg base iP 3 f fd ["names"] (ig K Z9):=
 kN F Uw (λ_ _ h=>by obtain⟨_,rfl,_⟩:=h;rfl) λ_ _ h=>by
  obtain⟨l,rfl,⟨l1,l6,lnd,Z_⟩,rfl⟩:=h;intro eZ A outer s H E hr;obtain⟨t,m6⟩:=n.mp;have nc:(["name"]:List Str).Nodup:=by symm
  have hdd:dd [] l=l:=Bk (by simpa using lnd)
  have pW:o5 (l.map isName)=true:=by
   unfold o5;rw[CF,eK];intro x hx;exact(Z_ x hx).is
  refine bJ (cy (VE.to (mE (k1:=true) (VE.to (BG A8 A8 (zP 1 l.length) (zP l.length 6) aK (VE.to (oB (ae 0 rfl) n.len) (by rw[aj])) (λ_=>Fp m6)) (by rw[qQ1 (by omega),qQ1 (by omega)];rfl)) (λ_=>mE (k1:=true) (VE.to (h_ (qf rfl) Bl (aq (VO.ve (VO.to (eO (own:=["name"]) (cap:=[]) (N:=["name"]) (cl:=[]) (tgt:=.one 0) (F:=Oc) (ds:=l.map aQ) rfl ⟨rfl,by symm,by symm,rfl,rfl,by simp⟩ (wL (ae 0 rfl)) (λf s3 H3=>bE (i:=0) nc rfl (aY rfl)) rfl
   (small (by rw[aj];omega)) (λd hd=>?_)) (GV _))) aZ) n.all rfl) (by rw[pW])) (λ_=>iZ (oZ hr (eP 20 _) (eP 20 _) (Bq (ae 0 rfl) (by omega) rfl n.len n.set) (oB (ae 0 rfl) n.len))))) ?_))
  ·obtain⟨z,hz,rfl⟩:=aE.mp hd
   refine⟨_,rfl,λf s3 H3=>eN,λr hC f s3 H3=>?_⟩
   cases hC;exact bT C hr (aq (ae 0 rfl) aZ) ⟨z,rfl,(Z_ z hz).ok.1,rfl⟩
  ·rw[kU,hdd,aj,qQ1 rfl];rfl
end
inductive Ent where
 |kind (n:Str) (k:Option Int)
 |gate (n:Str)
 |line (n:Str) (r:Int)
 |desk (d:Dk)
 |time (d k:Str) (w:Int)
 |hour (d:Str) (a b:Int)
 |pace (g k:Str) (a b:Int)
variable{e:Ent}
def Ent.form:Ent->Str
 | .kind _ _=>"kind"
 | .gate _=>"gate"
 | .line _ _=>"line"
 | .desk _=>"desk"
 | .time _ _ _=>"time"
 | .hour _ _ _=>"open"
 | .pace _ _ _ _=>"pace"
def Ent.rest:Ent->List ai
 | .kind n k=>[.str n,nJ k]
 | .gate n=>[.str n]
 | .line n r=>[.str n,.int r]
 | .desk d=>[.str d.name,.str d.to,AY d.rule,.tuple (d.places.map .str)]
 | .time d k w=>[.str d,.str k,.int w]
 | .hour d a b=>[.str d,.int a,.int b]
 | .pace g k a b=>[.str g,.str k,.int a,.int b]
def D5(e:Ent):ai:=.tuple (.str e.form::e.rest)
def iN(d:Dk):List Str:=[("desk":Str),d.name,"to",er (.str d.to),"by"]++cF d.rule ++ [("from":Str)]++d.places
def D6:Ent->List Str
 | .kind n k=>[("kind":Str),n,er (nJ k)]
 | .gate n=>[("gate":Str),n]
 | .line n r=>[("line":Str),n,cI r]
 | .desk d=>iN d
 | .time d k w=>[("time":Str),d,k,cI w]
 | .hour d a b=>[("open":Str),d,cI a,cI b]
 | .pace g k a b=>[("pace":Str),g,k,cI a,cI b]
def D7(d:Dk):Prop:=c7 d.name/\(d.to=""\/c7 d.to)/\sr d.rule d.places.length/\J4 d.places
def rC:Ent->Prop
 | .kind n k=>c7 n/\∀i,k=some i->1<=i/\cC i
 | .gate n=>c7 n
 | .line n r=>c7 n/\1<=r/\cC r
 | .desk d=>D7 d
 | .time d k w=>c7 d/\c7 k/\1<=w/\cC w
 | .hour d a b=>c7 d/\cC a/\cC b/\a<b
 | .pace g k a b=>c7 g/\c7 k/\(1<=a/\cC a)/\1<=b/\cC b
theorem Ak(h:c7 x):x≠"-":=λz=>by
 have hd:45∈x.cps.toList:=by rw[z];symm
 have:=h.2.2 _ hd;omega
theorem GW(h:c7 x):er (.str x)=x:=by
 show(if x="" then("-":Str)else x)=x
 rw[qQ2 (fP h).1]
theorem tT(h:GP d):uy (er d):=by
 have h0:uy "-":=⟨by decide,by show cG (.str ("-":Str))=true;symm⟩
 cases d with
 |none=>exact h0
 |int i=>exact lE h.1 h.2
 |str x=>
  show uy (if x="" then "-" else x)
  split
  ·exact h0
  ·rename_i hx
   exact(h.resolve_left hx).ok
 |_=>exact h.elim
theorem B3(h:Ah r):∀x∈cF r,uy x:=by
 intro x hx;by_cases ht:∃sh,r=.turns sh
 ·obtain⟨sh,rfl⟩:=ht
  rcases av.mp hx with rfl|hx
  ·exact⟨by decide,by show cG (.str ("turns":Str))=true;symm⟩
  ·obtain⟨z,hz,rfl⟩:=aE.mp hx
   exact lE (h.2 z hz).1 (h.2 z hz).2
 ·have Ai:∀sh,r≠.turns sh:=λsh z=>ht ⟨sh,z⟩
  have J0:cF r=qN r::(uB r).map er:=by
   cases r with
   |turns sh=>exact qQ7 rfl (Ai sh)
   |_=>rfl
  rw[J0]at hx;rcases av.mp hx with rfl|hx
  ·cases r<;>(refine⟨?_,?_⟩<;>dsimp only[qN,lH]<;>symm)
  ·obtain⟨z,hz,rfl⟩:=aE.mp hx
   exact tT (xt Ai h z hz)
theorem J5{n:Nat}(hn:n<=6)(h:sr r n):1<=(cF r).length/\(cF r).length<=7:=by
 cases r with
 |turns s=>have:=h.1;simp[cF];omega
 |_=>simp[cF,uB]
theorem Al(h:Ah r):∀x∈(cF r).drop 1,x≠"from":=by
 have hd:∀d,GP d->(∀x,d≠.str x)->er d≠"from":=by
  intro d hd hs;cases d with
  |none=>symm
  |int i=>
   intro z;have:102∈(cI i).cps.toList:=by
    have z:cI i="from":=z;rw[z];symm
   have:=kP hd.1 this;omega
  |str x=>exact qQ7 rfl (hs x)
  |_=>exact hd.elim
 intro x hx;cases r with
 |turns s=>
  obtain⟨z,hz,rfl⟩:=aE.mp (show x∈s.map cI from hx)
  exact hd (.int z) (h.2 z hz) (by intro x z;cases z)
 |meet=>cases hx
 |eldest=>cases hx
 |gather m a=>
  simp only[cF,uB,aD,eJ,sH,kC,av,aX,or_false]at hx;rcases hx with rfl|rfl
  ·exact hd (.int m) h.1 (by intro x z;cases z)
  ·exact hd (.int a) h.2 (by intro x z;cases z)
 |many m=>
  simp only[cF,uB,aD,eJ,sH,kC,av,aX,or_false]at hx;rw[hx];exact hd (.int m) h (by intro x z;cases z)
 |rank b=>
  simp only[cF,uB,aD,eJ,sH,kC,av,aX,or_false]at hx;rw[hx];cases b with
  |none=>exact hd .none trivial (by intro x z;cases z)
  |some b=>exact hd (.int b) h (by intro x z;cases z)
section
variable{P:bC}{w:bY}{K:ao}{mg:Str->Option aB}{base:cR}{f:aI}{k:Nat}
abbrev Z':List Str:=["words","end","head","places","rule"]
theorem Od:cY Z' ["words"] (a_ (top 27)):=⟨rfl,rfl,rfl,by symm,rfl,by symm,by symm⟩
def Rde(ds:List ai)(d:ai):Prop:=∃q:Dk,ds=[oM (iN q)]/\D7 q/\d=D5 (.desk q)
theorem XZ{α:Type}(l:List α)(a b:Nat)(ha:a<=b)(hb:b<=l.length):L2.cutD l (some (a:Int)) (some (b:Int))=(l.drop a).take (b-a):=by
 unfold L2.cutD;rw[HT.mZ,HT.mZ,qC hb,qC (show a<=l.length by omega)]
theorem Am(h:∀x∈l,uy x):Lay 20 (oM l):=zT (n:=19) λd hd=>by
 obtain⟨x,hx,rfl⟩:=aE.mp hd;exact bw (h x hx).2
theorem mK(x:Str)(l:List Str):rm (.str x) (.list (l.map aQ))=decide (x∈l):=by
 show((l.map aQ).any λy=>dm y (.str x))=_
 rw[List.any_map]
 induction l with
 |nil=>rfl
 |cons y l ih=>
  rw[gx,ih]
  show(dm (.str y) (.str x)||decide (x∈l))=_
  rw[bO,fw];simp only[xW,decide_eq_true_eq,av]
  constructor
  ·rintro(h|h)
   ·exact .inl h.symm
   ·exact .inr h
  ·rintro(h|h)
   ·exact .inl h.symm
   ·exact .inr h
theorem X1(F:mR K "desk_entry" "desk_entry" (top 27) f fd)(n:Np mg w.params K)(C1:bM P w K mg base 5 "values_of" Rz (ig K Vv))(C2:bM P w K mg base 6 "rule_of" ["words","many"] (ig K Uu))(C3:bM P w K mg base 3 "are_places" ["names"] (ig K Z9)):fY P w K mg base iP 7 f fd ["words"] (ig K Rde):=
 kN F Od (λ_ _ h=>by obtain⟨_,rfl,_⟩:=h;rfl) λ_ _ h=>by
  obtain⟨q,rfl,⟨hn,hto,Vw,Vx⟩,rfl⟩:=h;intro eZ A outer s H E hr;have nd:Z'.Nodup:=Od.nd;have X2:=Vx;obtain⟨p1,p6,ML,pnm⟩:=X2;have Rw:=Vw.ok (by omega)
  obtain⟨r1,r7⟩:=J5 p6 Vw;have rok:=B3 Rw;have rnf:=Al Rw;have Ux:uy (er (.str q.to)):=tT (d:=.str q.to) hto;obtain⟨X3,rest,RA⟩:∃a l,cF q.rule=a::l:=by
   cases e:cF q.rule with
   |nil=>rw[e]at r1;simp at r1
   |cons a l=>exact⟨a,l,rfl⟩
  have Uy:uy "from":=⟨by decide,by show cG (.str ("from":Str))=true;symm⟩
  have hW:iN q=("desk":Str)::q.name::"to"::er (.str q.to)::"by"::X3::(rest++("from":Str)::q.places):=by
   unfold iN;rw[RA];simp
  have X4:∀x∈rest,uy x:=λx hx=>rok x (by rw[RA];exact aR _ hx)
  have X5:∀x∈rest,x≠"from":=λx hx=>rnf x (by rw[RA];exact hx)
  have zcn:rest.length<=6:=by rw[RA]at r7;simp at r7;omega
  have lit:∀x:Str,cG (.str x)=true->x.length<=100000->uy x:=λx h1 h2=>⟨h2,h1⟩
  have hok:∀x∈iN q,uy x:=by
   intro x hx;rw[hW]at hx;simp only[av,cx]at hx;rcases hx with rfl|rfl|rfl|rfl|rfl|rfl|hx|rfl|hx
   ·exact lit _ (by symm) (by decide)
   ·exact hn.ok
   ·exact lit _ (by symm) (by decide)
   ·exact Ux
   ·exact lit _ (by symm) (by decide)
   ·exact rok _ (by rw[RA];exact aO)
   ·exact X4 x hx
   ·exact Uy
   ·exact(pnm x hx).ok
  have hlay:=Am hok;have hlen:(iN q).length=7+rest.length+q.places.length:=by rw[hW];simp;omega
  have Uz:(iN q).drop 6=rest++("from":Str)::q.places:=by rw[hW];rfl
  have UA:L2.cutD ((iN q).map aQ) (some 6) none=(rest++("from":Str)::q.places).map aQ:=by rw[<-Uz,lC];exact jG _ 6
  have UB:Lay 20 (.list ((rest++("from":Str)::q.places).map aQ)):=Am λx hx=>by
   refine hok x ?_
   rw[<-Uz]at hx;exact ri hx
  have Oe:Lay 20 (.str "from"):=aS;have MN:∀(j:Nat)(x:Str),(iN q)[j]?=some x->pj ((iN q).map aQ) (j:Int)=some (.str x):=λj x h=>bK (by rw[aF,h];rfl)
  have g1:(iN q)[1]?=some q.name:=by rw[hW];rfl
  have g2:(iN q)[2]?=some ("to":Str):=by rw[hW];rfl
  have g3:(iN q)[3]?=some (er (.str q.to)):=by rw[hW];rfl
  have g4:(iN q)[4]?=some ("by":Str):=by rw[hW];rfl
  have Mb:(iN q)[6+rest.length]?=some ("from":Str):=by
   have:(iN q)[6+rest.length]?=((iN q).drop 6)[rest.length]?:=by rw[List.getElem?_drop]
   rw[this,Uz,cn (aA _),pQ];rfl
  have Du:∀j (h:j<(iN q).length),6<=j->j<6+rest.length->(iN q)[j]≠"from":=by
   intro j h j6 jr;have:(iN q)[j]?=((iN q).drop 6)[j-6]?:=by rw[List.getElem?_drop];congr 1;omega
   rw[Uz,bX (by omega),au h,au (by omega)]at this
   rw[cQ this];exact X5 _ (dN _)
  have MP:L2.cutD ((iN q).map aQ) (some ((6+rest.length:Nat)+1:Int)) none=q.places.map aQ:=by
   rw[show((6+rest.length:Nat)+1:Int)=((6+rest.length+1:Nat):Int)from by omega,jG,<-lC]
   congr 1
   rw[show 6+rest.length+1=6+(rest.length+1)from by omega,<-List.drop_drop,Uz,List.drop_append,pE (by omega),show rest.length+1-rest.length=1 from by omega]
   rfl
  have J6:L2.cutD ((iN q).map aQ) (some 5) (some ((6+rest.length:Nat):Int))=(cF q.rule).map aQ:=by
   rw[show(5:Int)=((5:Nat):Int)from rfl,XZ _ 5 (6+rest.length) (by omega) (by rw[aj];omega),<-lC,<-sV]
   congr 1
   rw[hW,RA]
   show((X3::(rest++("from":Str)::q.places))).take (6+rest.length-5)=X3::rest
   rw[show 6+rest.length-5=rest.length+1 from by omega,List.take_succ_cons,List.take_left' rfl]
  refine aP (bW (VT.to (Dz (k1:=false) (k2:=false) (k3:=false) (VT.to (IC hr rfl Oe UB aM (VE.to (VO.ve (iF (ae 0 rfl) (.yes aK) .no)) (by rw[UA]))) (by rw[mK,qQ1 (by simp)];rfl)) (λ_=>VT.to (mq hr aS aS (gK (ae 0 rfl) aK (MN 2 _ g2)) aM) (by rw[bO,qQ1 rfl];rfl)) (λ_ _=>VT.to (mq hr aS aS (gK (ae 0 rfl) aK (MN 4 _ g4)) aM) (by rw[bO,qQ1 rfl];rfl))) rfl) bL) ?_
  refine aP (cO 1 (d:=.int ((6+rest.length:Nat):Int)) (Gw (i:=6) (j:=6+rest.length) hr (ae 0 rfl) aM aK hlay Oe (by omega) ⟨by rw[aj];omega,?_⟩ (λj h j6 jr=>?_)) nd) ?_
  ·have:(iN q)[6+rest.length]'(by omega)="from":=by
    rw[au (by omega)]at Mb
    exact cQ Mb
   rw[List.getElem_map,bO,this];exact qQ1 rfl
  ·rw[aj]at h
   rw[List.getElem_map,bO];exact qQ0 (Du j h j6 jr)
  have X6:iM [.name,.lj] [q.name,er (.str q.to)]=.tuple [.str q.name,.str q.to]:=by
   have f2:kE .lj (er (.str q.to))=true/\gB .lj (er (.str q.to))=.str q.to:=by
    rcases hto with h|h
    ·rw[h];exact⟨by symm,rfl⟩
    ·rw[GW h]
     refine⟨?_,?_⟩
     ·show(decide (q.to="-")||isName q.to)=true
      rw[h.is,uR]
     ·show aQ (if q.to="-" then "" else q.to)=_
      rw[qQ2 (Ak h)]
   unfold iM qt ni
   show(if(true&&(isName q.name&&(kE .lj (er (.str q.to))&&true)))=true then dB [.str q.name,gB .lj (er (.str q.to))]else .none)=_
   rw[hn.is,f2.1,f2.2];rfl
  refine aP (cO 2 (d:=.tuple [.str q.name,.str q.to]) (bT C1 (hr.mono (by omega)) (aq (VE.to (gy (aq aM (aq aM aZ))) (k:=BW [.name,.lj]) rfl) (aq (VE.to (VO.ve (iH (aq (gK (ae 0 rfl) aK (MN 1 _ g1)) (aq (gK (ae 0 rfl) aK (MN 3 _ g3)) aZ)))) (k:=oM [q.name,er (.str q.to)]) rfl) aZ)) ⟨_,_,rfl,by show 2<=1000;decide,by show 2<=100002;decide,λx hx=>?_,X6.symm⟩) nd) ?_
  ·simp only[av,aX,or_false]at hx
   rcases hx with rfl|rfl
   ·exact hn.ok
   ·exact Ux
  refine aP (cO 3 (d:=.tuple (q.places.map .str)) (jg kS vW (aq (VE.to (VO.ve (iF (ae 0 rfl) (.yes (fy (ae 1 rfl) aK)) .no)) (by rw[MP])) aZ) n.tup rfl) nd) ?_
  refine aP (cO 4 (d:=AY q.rule) (bT C2 hr (aq (VE.to (VO.ve (iF (ae 0 rfl) (.yes aK) (.yes (ae 1 rfl)))) (k:=oM (cF q.rule)) (by rw[J6];rfl)) (aq (VE.to (oB (ae 3 rfl) n.len) (by rw[aj])) aZ)) ⟨q.rule,q.places.length,rfl,p1,p6,Vw,rfl⟩) nd) ?_
  refine aP (bW (VT.to (Dz (k1:=false) (k2:=false) (k3:=false) (VT.to (gT kH nY (ae 2 rfl) gF (gb _)) rfl) (λ_=>VT.to (gT kH nY (ae 4 rfl) gF (gb _)) rfl) (λ_ _=>VT.to (zR (nF (bT C3 (hr.mono (by omega)) (aq (ae 3 rfl) aZ) ⟨q.places,rfl,Vx,rfl⟩) rfl)) rfl)) rfl) bL) ?_
  exact bJ (cy (VE.to (gy (aq aM (aq (b9 (ae 2 rfl) aK (bK (j:=0) rfl)) (aq (b9 (ae 2 rfl) aK (bK (j:=1) rfl)) (aq (ae 4 rfl) (aq (ae 3 rfl) aZ)))))) rfl))
abbrev Neo:List Str:=["words","form","values"]
theorem Og:cY Neo ["words"] (a_ (top 26)):=⟨rfl,rfl,rfl,by symm,rfl,by symm,by symm⟩
def Reo(ds:List ai)(d:ai):Prop:=∃e:Ent,ds=[oM (D6 e)]/\rC e/\d=D5 e
def y0:Ent->List Sh
 | .kind _ _=>[.name,.kQ]
 | .gate _=>[.name]
 | .line _ _=>[.name,.count]
 | .desk _=>[]
 | .time _ _ _=>[.name,.name,.count]
 | .hour _ _ _=>[.name,.number,.number]
 | .pace _ _ _ _=>[.name,.name,.count,.count]
theorem D8(h:rC e)(hd:∀q,e≠.desk q):∃ws,D6 e=e.form::ws/\ws.length<=4/\(∀x∈ws,uy x)/\iM (y0 e) ws=.tuple e.rest/\i_ nq e.form=some ((y0 e).map Sh.tx)/\e.form≠"desk"/\lH e.form:=by
 cases e with
 |desk q=>exact qQ7 rfl (hd q)
 |kind n k=>
  obtain⟨hn,hk⟩:=h;have X7:uy (er (nJ k))/\kE .kQ (er (nJ k))=true/\gB .kQ (er (nJ k))=nJ k:=by
   cases k with
   |none=>exact⟨tT (d:=.none) trivial,by symm,rfl⟩
   |some i=>
    obtain⟨h1,h2⟩:=hk i rfl;refine⟨lE h2.1 h2.2,?_,jK h2 (by intro z;cases z) (by intro z;cases z)⟩
    show(decide (cI i="-")||iL (cI i))=true
    rw[jS h2 h1,uR]
  refine⟨[n,er (nJ k)],rfl,by show 2<=4;decide,λx hx=>?_,?_,(show i_ nq "kind"=some ([Sh.name,Sh.kQ].map Sh.tx) by symm),(show("kind":Str)≠"desk" by symm),(show cG (.str ("kind":Str))=true by symm)⟩
  ·simp only[av,aX,or_false]at hx
   rcases hx with rfl|rfl
   ·exact hn.ok
   ·exact X7.1
  ·show(if(true&&(isName n&&(kE .kQ (er (nJ k))&&true)))=true then dB [.str n,gB .kQ (er (nJ k))]else .none)=_
   rw[hn.is,X7.2.1,X7.2.2];rfl
 |gate n=>
  refine⟨[n],rfl,by show 1<=4;decide,λx hx=>?_,?_,(show i_ nq "gate"=some ([Sh.name].map Sh.tx) by symm),(show("gate":Str)≠"desk" by symm),(show cG (.str ("gate":Str))=true by symm)⟩
  ·rw[aW.mp hx];exact(show c7 n from h).ok
  ·show(if(true&&(isName n&&true))=true then dB [.str n]else .none)=_
   rw[(show c7 n from h).is];rfl
 |line n r=>
  obtain⟨hn,h1,h2⟩:=h;refine⟨[n,cI r],rfl,by show 2<=4;decide,λx hx=>?_,?_,(show i_ nq "line"=some ([Sh.name,Sh.count].map Sh.tx) by symm),(show("line":Str)≠"desk" by symm),(show cG (.str ("line":Str))=true by symm)⟩
  ·simp only[av,aX,or_false]at hx
   rcases hx with rfl|rfl
   ·exact hn.ok
   ·exact lE h2.1 h2.2
  ·show(if(true&&(isName n&&(iL (cI r)&&true)))=true then dB [.str n,gB .count (cI r)]else .none)=_
   rw[hn.is,jS h2 h1,jK h2 (by intro z;cases z) (by intro z;cases z)];rfl
 |time d k w=>
  obtain⟨hn,hk,h1,h2⟩:=h;refine⟨[d,k,cI w],rfl,by show 3<=4;decide,λx hx=>?_,?_,(show i_ nq "time"=some ([Sh.name,Sh.name,Sh.count].map Sh.tx) by symm),(show("time":Str)≠"desk" by symm),(show cG (.str ("time":Str))=true by symm)⟩
  ·simp only[av,aX,or_false]at hx
   rcases hx with rfl|rfl|rfl
   ·exact hn.ok
   ·exact hk.ok
   ·exact lE h2.1 h2.2
  ·show(if(true&&(isName d&&(isName k&&(iL (cI w)&&true))))=true then dB [.str d,.str k,gB .count (cI w)]else .none)=_
   rw[hn.is,hk.is,jS h2 h1,jK h2 (by intro z;cases z) (by intro z;cases z)];rfl
 |hour d a b=>
  obtain⟨hn,h1,h2,_⟩:=h;refine⟨[d,cI a,cI b],rfl,by show 3<=4;decide,λx hx=>?_,?_,(show i_ nq "open"=some ([Sh.name,Sh.number,Sh.number].map Sh.tx) by symm),(show("open":Str)≠"desk" by symm),(show cG (.str ("open":Str))=true by symm)⟩
  ·simp only[av,aX,or_false]at hx
   rcases hx with rfl|rfl|rfl
   ·exact hn.ok
   ·exact lE h1.1 h1.2
   ·exact lE h2.1 h2.2
  ·show(if(true&&(isName d&&(isNumber (cI a)&&(isNumber (cI b)&&true))))=true then dB [.str d,gB .number (cI a),gB .number (cI b)]else .none)=_
   rw[hn.is,xr h1.1 h1.2,xr h2.1 h2.2,jK h1 (by intro z;cases z) (by intro z;cases z),jK h2 (by intro z;cases z) (by intro z;cases z)];rfl
 |pace g k a b=>
  obtain⟨hn,hk,⟨h1,h2⟩,h3,h4⟩:=h;refine⟨[g,k,cI a,cI b],rfl,by show 4<=4;decide,λx hx=>?_,?_,(show i_ nq "pace"=some ([Sh.name,Sh.name,Sh.count,Sh.count].map Sh.tx) by symm),(show("pace":Str)≠"desk" by symm),(show cG (.str ("pace":Str))=true by symm)⟩
  ·simp only[av,aX,or_false]at hx
   rcases hx with rfl|rfl|rfl|rfl
   ·exact hn.ok
   ·exact hk.ok
   ·exact lE h2.1 h2.2
   ·exact lE h4.1 h4.2
  ·show(if(true&&(isName g&&(isName k&&(iL (cI a)&&(iL (cI b)&&true)))))=true then dB [.str g,.str k,gB .count (cI a),gB .count (cI b)]else .none)=_
   rw[hn.is,hk.is,jS h2 h1,jS h4 h3,jK h2 (by intro z;cases z) (by intro z;cases z),jK h4 (by intro z;cases z) (by intro z;cases z)];rfl
theorem X8(F:mR K "entry_of" "entry_of" (top 26) f fd)(n:Np mg w.params K)(C1:bM P w K mg base 5 "values_of" Rz (ig K Vv))(C2:bM P w K mg base 7 "desk_entry" ["words"] (ig K Rde)):fY P w K mg base iP 8 f fd ["words"] (ig K Reo):=
 kN F Og (λ_ _ h=>by obtain⟨_,rfl,_⟩:=h;rfl) λ_ _ h=>by
  obtain⟨e,rfl,ok,rfl⟩:=h;intro eZ A outer s H E hr;have nd:Neo.Nodup:=Og.nd;by_cases hd:∃q,e=.desk q
  ·obtain⟨q,rfl⟩:=hd
   refine aP (cO 1 (d:=.str "desk") (gK (ae 0 rfl) aK (bK (j:=0) rfl)) nd) ?_
   exact dU (eR (VT.to (bN hr aS aS (ae 1 rfl) aM) (by rw[bO];exact qQ1 rfl)) (bJ (cy (bT C2 hr (aq (ae 0 rfl) aZ) ⟨q,rfl,ok,rfl⟩)))) rfl
  ·have TV:∀q,e≠.desk q:=λq z=>hd ⟨q,z⟩
   obtain⟨ws,w1,w2,w3,w4,w5,w6,w7⟩:=D8 ok TV;obtain⟨g1,q1,q2⟩:=n.fo;rw[w1];have hsl:(y0 e).length<=4:=by cases e<;>simp[y0]
   refine aP (cO 1 (d:=.str e.form) (gK (ae 0 rfl) aK (bK (j:=0) rfl)) nd) ?_
   refine aP (bW (VT.to (bN hr (bw w7) aS (ae 1 rfl) aM) (by rw[bO];exact qQ0 w6)) bL) ?_
   refine aP (bW (VT.to (yS q1 q2 (ae 1 rfl)) (by rw[w5];rfl)) bL) ?_
   refine aP (cO 2 (d:=.tuple e.rest) (bT C1 (hr.mono (by omega)) (aq (VE.to (Fe q1 q2 (ae 1 rfl) w5) (k:=BW (y0 e)) (by unfold BW;rw[aL];rfl)) (aq (VE.to (VO.ve (iF (ae 0 rfl) (.yes aK) .no)) (k:=oM ws) (by show lu (L2.cutD (_::_) _ _)=_;rw[xx];rfl)) aZ)) ⟨y0 e,ws,rfl,by omega,by omega,w3,w4.symm⟩) nd) ?_
   have Vw:e.rest.length<=4:=by cases e<;>simp[Ent.rest]
   refine aP (bW ?_ bL) (bJ (cy (VE.to (Fd (gy (aq (ae 1 rfl) aZ)) (ae 2 rfl) (by simp) (small (by simp only[bF,cp];omega))) rfl)))
   cases e with
   |hour d a b=>
    exact VT.to (iY (k1:=false) (k2:=false) (VT.to (gT kH nY (ae 2 rfl) gF (gb _)) rfl) (λ_=>VT.to (rW (k1:=true) (k2:=false) (VT.to (bN hr (bw w7) aS (ae 1 rfl) aM) (by rw[bO];exact qQ1 rfl)) (λ_=>VT.to (NV (b9 (ae 2 rfl) aK (bK (j:=1) rfl)) (b9 (ae 2 rfl) aK (bK (j:=2) rfl))) (qQ0 (by have:=ok.2.2.2;omega)))) rfl)) rfl
   |_=>
    exact VT.to (iY (k1:=false) (k2:=false) (VT.to (gT kH nY (ae 2 rfl) gF (gb _)) rfl) (λ_=>VT.to (rW (k1:=false) (k2:=false) (VT.to (bN hr (bw w7) aS (ae 1 rfl) aM) (by rw[bO];dsimp only[Ent.form];exact qQ0 (by symm))) (λz=>by cases z)) rfl)) rfl
end
def pA:List (Str×List (Int×Int))->Str->Int×Int->List (Str×List (Int×Int))
 | [],n,z=>[(n,[z])]
 |q::l,n,z=>if q.1=n then(q.1,q.2 ++ [z])::l else q::pA l n z
def fz(l:List (Str×Int×Int)):List (Str×List (Int×Int)):=l.foldl (λacc q=>pA acc q.1 q.2) []
def pairD(z:Int×Int):ai:=.tuple [.int z.1,.int z.2]
def qP(p:Pl):List (Str×ai):=p.kinds.map λq=>(q.1,nJ q.2)
def nr(p:Pl):List (Str×ai):=p.lines.map λq=>(q.1,.int q.2)
def qQ(p:Pl):List ((Str×Str)×ai):=p.times.map λq=>((q.1,q.2.1),.int q.2.2)
def v7(p:Pl):List (Str×ai):=(fz p.hours).map λq=>(q.1,.list (q.2.map pairD))
def rD(q:Str×Str×Int×Int):ai:=.tuple [.str q.2.1,.int q.2.2.1,.int q.2.2.2]
def c6(p:Pl):List (Str×ai):=p.paces.map λq=>(q.1,rD q)
def oS(p:Pl):List (Str×ai):=[("kinds",gq (qP p)),("gates",oM p.gates),("lines",gq (nr p)),("desks",.list (p.desks.map k_)),("times",IX (qQ p)),("hours",gq (v7 p)),("paces",gq (c6 p))]
def iz(p:Pl):ai:=L_ (oS p)
theorem xA(p:Pl):fZ (oS p) "kinds"=some (gq (qP p)):=dR rfl
theorem B4(p:Pl):fZ (oS p) "gates"=some (oM p.gates):=(bU (show ¬(("kinds":Str)="gates") by symm)).trans (dR rfl)
theorem xB(p:Pl):fZ (oS p) "lines"=some (gq (nr p)):=(bU (show ¬(("kinds":Str)="lines") by symm)).trans ((bU (show ¬(("gates":Str)="lines") by symm)).trans (dR rfl))
theorem B5(p:Pl):fZ (oS p) "desks"=some (.list (p.desks.map k_)):=(bU (show ¬(("kinds":Str)="desks") by symm)).trans ((bU (show ¬(("gates":Str)="desks") by symm)).trans ((bU (show ¬(("lines":Str)="desks") by symm)).trans (dR rfl)))
theorem J7(p:Pl):fZ (oS p) "times"=some (IX (qQ p)):=(bU (show ¬(("kinds":Str)="times") by symm)).trans ((bU (show ¬(("gates":Str)="times") by symm)).trans ((bU (show ¬(("lines":Str)="times") by symm)).trans ((bU (show ¬(("desks":Str)="times") by symm)).trans (dR rfl))))
theorem tU(p:Pl):fZ (oS p) "paces"=some (gq (c6 p)):=(bU (show ¬(("kinds":Str)="paces") by symm)).trans ((bU (show ¬(("gates":Str)="paces") by symm)).trans ((bU (show ¬(("lines":Str)="paces") by symm)).trans ((bU (show ¬(("desks":Str)="paces") by symm)).trans ((bU (show ¬(("times":Str)="paces") by symm)).trans ((bU (show ¬(("hours":Str)="paces") by symm)).trans (dR rfl))))))
theorem oT(p:Pl):(c6 p).map (·.1)=p.paces.map (·.1):=by unfold c6;rw[aL];rfl
theorem gN{κ:Type}[DecidableEq κ]:∀(kvs:List (κ×ai))(x:κ),(fZ kvs x).isSome=decide (x∈kvs.map (·.1))
 | [],x=>by simp[fZ]
 |q::l,x=>by
  by_cases h:q.1=x
  ·rw[dR h,qQ1 (by simp[h])];rfl
  ·rw[bU h,gN l x,fw,decide_eq_true_iff,decide_eq_true_iff,aD,av]
   exact⟨.inr,λz=>z.resolve_left λe=>h e.symm⟩
theorem oU(p:Pl):(qP p).map (·.1)=p.kinds.map (·.1):=by unfold qP;rw[aL];rfl
theorem lQ(p:Pl):(nr p).map (·.1)=p.lines.map (·.1):=by unfold nr;rw[aL];rfl
theorem An(p:Pl):(qQ p).map (·.1)=p.times.map λq=>(q.1,q.2.1):=by unfold qQ;rw[aL];rfl
def oh(p:Pl)(x:Str):Prop:=x∈p.gates\/x∈p.lines.map (·.1)
instance (p : Pl) (x : Str) : Decidable (oh p x) := by unfold oh; infer_instance
def oV(p:Pl)(x:Str):Prop:=x∈p.desks.map (·.name)
instance (p : Pl) (x : Str) : Decidable (oV p x) := by unfold oV; infer_instance
def B6(p:Pl)(x:Str):Prop:=∃q∈p.desks,x∈q.places
def xC(p:Pl):Ent->Prop
 | .kind n _=>n∉p.kinds.map (·.1)
 | .gate n=>¬oh p n
 | .line n _=>¬oh p n
 | .desk d=>¬oV p d.name/\(∀x∈d.places,¬B6 p x)/\(∀x∈d.places,oh p x)/\(d.to=""\/∃r:Int,fZ (nr p) d.to=some (.int r)/\r9 d.rule d.places.length<=r)
 | .time d k _=>(d,k)∉p.times.map (λq=>(q.1,q.2.1))/\oV p d/\k∈p.kinds.map (·.1)
 | .hour d _ _=>oV p d
 | .pace g k _ _=>g∉p.paces.map (·.1)/\g∈p.gates/\k∈p.kinds.map (·.1)
section
variable{P:bC}{w:bY}{K:ao}{mg:Str->Option aB}{base:cR}{f:aI}{k:Nat}
abbrev K0:List Str:=["plant","name"]
abbrev Vy:List Str:=["plant","place"]
theorem UC:cY K0 K0 (a_ (top 34)):=⟨rfl,rfl,rfl,by symm,rfl,by symm,by symm⟩
theorem UD:cY K0 K0 (a_ (top 35)):=⟨rfl,rfl,rfl,by symm,rfl,by symm,by symm⟩
theorem UE:cY Vy Vy (a_ (top 36)):=⟨rfl,rfl,rfl,by symm,rfl,by symm,by symm⟩
def X9(ds:List ai)(d:ai):Prop:=∃(p:Pl)(x:Str),ds=[iz p,.str x]/\lg p/\lH x/\d=.bool (decide (oh p x))
def X_(ds:List ai)(d:ai):Prop:=∃(p:Pl)(x:Str),ds=[iz p,.str x]/\lg p/\lH x/\d=.bool (decide (oV p x))
def xD(p:Pl)(x:Str):List Dk:=p.desks.filter λq=>decide (x∈q.places)
def Rit(ds es:List ai):Prop:=∃(p:Pl)(x:Str),ds=[iz p,.str x]/\lg p/\lH x/\es=(xD p x).map k_
theorem D9{p:Pl}(h:¬B6 p x):xD p x=[]:=by
 unfold xD;rw[List.filter_eq_nil_iff];intro q hq z;exact h ⟨q,hq,qQ4 z⟩
theorem uF(h:∀x∈l,c7 x):Lay 20 (.list (l.map aQ)):=Am λx hx=>(h x hx).ok
theorem X'(F:mR K "is_place" "is_place" (top 34) f fd):fY P w K mg base iP 1 f fd K0 (ig K X9):=
 kN F UC (λ_ _ h=>by obtain⟨_,_,rfl,_⟩:=h;rfl) λ_ _ h=>by
  obtain⟨p,x,rfl,ok,ox,rfl⟩:=h;intro eZ A outer s H E hr;refine bJ (cy (VE.to (rA (NZ hr rfl (bw ox) (uF ok.gates) (ae 1 rfl) (jO (ae 0 rfl) (B4 p))) (λ_=>iZ (zW hr (ae 1 rfl) (jO (ae 0 rfl) (xB p))))) ?_))
  rw[mK,gN,lQ]
  congr 1
  rw[fw];simp only[xW,decide_eq_true_eq];exact Iff.rfl
def Fdn:ai->Option ai
 | .tuple (x::_)=>some x
 |_=>none
theorem MQ(l:List Dk):(l.map k_).filterMap Fdn=(l.map (·.name)).map .str:=by
 rw[bQ,aL];exact filterMap_some λk _=>rfl
theorem Ya(F:mR K "is_desk" "is_desk" (top 35) f fd):fY P w K mg base iP 1 f fd K0 (ig K X_):=
 kN F UD (λ_ _ h=>by obtain⟨_,_,rfl,_⟩:=h;rfl) λ_ _ h=>by
  obtain⟨p,x,rfl,ok,ox,rfl⟩:=h;intro eZ A outer s H E hr;have nc:(["desk"]:List Str).Nodup:=by symm
  have hn:=ok.dn;refine bJ (cy (VE.to (NZ hr rfl (bw ox) (uF (l:=p.desks.map (·.name)) λy hy=>?_) (ae 1 rfl) (VO.ve (VO.to (eO (own:=["desk"]) (cap:=[]) (N:=["desk"]) (cl:=[]) (tgt:=.one 0) (F:=Fdn) (ds:=p.desks.map k_) rfl ⟨rfl,by symm,by symm,rfl,rfl,by simp⟩ (fE (jO (ae 0 rfl) (B5 p))) (λf s3 H3=>bE (i:=0) nc rfl (aY rfl)) rfl
   (small (by rw[aj];omega)) (λd hd=>?_)) (MQ _)))) ?_))
  ·obtain⟨q,hq,rfl⟩:=aE.mp hy
   exact(ok.desks q hq).1
  ·obtain⟨z,hz,rfl⟩:=aE.mp hd
   refine⟨_,rfl,λf s3 H3=>eN,λr hC f s3 H3=>?_⟩
   cases hC;exact b9 (ae 0 rfl) aK (bK (j:=0) rfl)
  ·rw[mK];rfl
theorem vi(x:Str)(l:List Str):rm (.str x) (.tuple (l.map aQ))=decide (x∈l):=mK x l
def J8(x:Str):ai->Bool
 | .tuple [_,_,_,.tuple l]=>l.any λy=>dm y (.str x)
 |_=>false
def Fin(x:Str)(d:ai):Option ai:=if J8 x d=true then some d else none
theorem qw(x:Str)(q:Dk):J8 x (k_ q)=decide (x∈q.places):=vi x q.places
theorem MR(x:Str)(l:List Dk):(l.map k_).filterMap (Fin x)=(l.filter λq=>decide (x∈q.places)).map k_:=by
 induction l with
 |nil=>rfl
 |cons q l ih=>
  rw[aD,il];by_cases h:x∈q.places
  ·rw[cA (f:=Fin x) (b:=k_ q) (by unfold Fin;rw[qw,qQ3 (qQ1 h)]),ih,qQ3 (qQ1 h),aD]
  ·rw[dH (f:=Fin x) (by unfold Fin;rw[qw,qQ2 (by rw[qQ0 h];decide)]),ih,qQ2 (by rw[qQ0 h];decide)]
theorem Yb(F:mR K "takers_of" "takers_of" (top 36) f fd):fY P w K mg base iP 1 f fd Vy (II K Rit):=
 L6 F UE (λ_ _ h=>by obtain⟨_,_,rfl,_⟩:=h;rfl) λ_ _ h=>by
  obtain⟨p,x,rfl,ok,ox,rfl⟩:=h;intro eZ A outer s H E hr;have nc:(["desk","place"]:List Str).Nodup:=by symm
  have hn:=ok.dn;refine bJ (vX (VO.to (eO (own:=["desk"]) (cap:=[1]) (N:=["desk","place"]) (tgt:=.one 0) (F:=Fin x) (ds:=p.desks.map k_) rfl ⟨rfl,by symm,by symm,rfl,rfl,?_⟩ (fE (jO (ae 0 rfl) (B5 p))) (λf s3 H3=>bE (i:=0) nc rfl (aY rfl)) rfl
   (small (by rw[aj];omega)) (λd hd=>?_)) (MR x _)))
  ·intro j hj
   rcases av.mp hj with rfl|hj
   ·exact⟨(by show(1:Nat)<2;decide),aY rfl,rfl⟩
   ·cases hj
  ·obtain⟨z,hz,rfl⟩:=aE.mp hd
   refine⟨_,rfl,λf s3 H3=>?_,λr hC f s3 H3=>?_⟩
   ·refine tG (VT.to (S7 hr rfl (bw ox) (E4 (n:=19) λd hd=>by obtain⟨y,hy,rfl⟩:=aE.mp hd;exact bw ((ok.desks z hz).2.2.2.2 y hy).ok.2) (ae 1 rfl) (b9 (d:=.tuple (z.places.map .str)) (ae 0 rfl) aK (bK (j:=3) rfl))) ?_)
    unfold Fin;rw[qw,vi];by_cases h:x∈z.places
    ·rw[qQ1 h];rfl
    ·rw[qQ0 h];rfl
   ·unfold Fin at hC
    split at hC
    ·cases hC;exact ae 0 rfl
    ·cases hC
def UG:Rl->Bool
 | .many _=>true
 | .gather _ _=>true
 |_=>false
theorem UH:cY ["rule","many"] ["rule","many"] (a_ (top 6)):=⟨rfl,rfl,rfl,by symm,rfl,by symm,by symm⟩
theorem Yc(F:mR K "greatest_load" "greatest_load" (top 6) f fd):fY P w K mg base iP 1 f fd ["rule","many"] (ig K ZZ):=
 kN F UH (λ_ _ h=>by obtain⟨_,_,rfl,_⟩:=h;rfl) λ_ _ h=>by
  obtain⟨r,m,rfl,rfl⟩:=h;intro eZ A outer s H E hr;have oR:lH (qN r):=by cases r<;>dsimp only[qN,lH]<;>symm
  have h0:pj (aQ (qN r)::uB r) 0=some (.str (qN r)):=bK (j:=0) rfl;have KN:(decide (qN r="many")||decide (qN r="gather"))=UG r:=by
   cases r with
   |meet=>symm
   |eldest=>symm
   |many m=>exact(show(decide (("many":Str)="many")||decide (("many":Str)="gather"))=true by symm)
   |gather m a=>exact(show(decide (("gather":Str)="many")||decide (("gather":Str)="gather"))=true by symm)
   |rank b=>exact(show(decide (("rank":Str)="many")||decide (("rank":Str)="gather"))=false by symm)
   |turns l=>exact(show(decide (("turns":Str)="many")||decide (("turns":Str)="gather"))=false by symm)
  by_cases h1:UG r=true
  ·refine dU (eR (VT.to (iY (bN hr (bw oR) aS (b9 (ae 0 rfl) aK h0) aM) (λ_=>bN hr (bw oR) aS (b9 (ae 0 rfl) aK h0) aM)) (by rw[bO,bO,KN,h1])) (bJ (cy (b9 (ae 0 rfl) aK ?_)))) rfl
   cases r with
   |many m=>exact bK (j:=1) rfl
   |gather m a=>exact bK (j:=1) rfl
   |_=>cases h1
  ·have h1:=Bool.not_eq_true _▸h1
   refine aP (bW (VT.to (iY (bN hr (bw oR) aS (b9 (ae 0 rfl) aK h0) aM) (λ_=>bN hr (bw oR) aS (b9 (ae 0 rfl) aK h0) aM)) (by rw[bO,bO,KN,h1])) bL) ?_
   by_cases h2:qN r="meet"
   ·refine dU (eR (VT.to (bN hr (bw oR) aS (b9 (ae 0 rfl) aK h0) aM) (by rw[bO];exact qQ1 h2)) (bJ (cy (VE.to (ae 1 rfl) ?_)))) rfl
    cases r with
    |meet=>rfl
    |many m=>cases h1
    |gather m a=>cases h1
    |eldest=>exact qQ7 h2 (by symm)
    |rank b=>exact qQ7 h2 (show ¬(("rank":Str)="meet") by symm)
    |turns l=>exact qQ7 h2 (show ¬(("turns":Str)="meet") by symm)
   ·refine aP (bW (VT.to (bN hr (bw oR) aS (b9 (ae 0 rfl) aK h0) aM) (by rw[bO];exact qQ0 h2)) bL) ?_
    refine bJ (cy (VE.to aK ?_))
    cases r with
    |meet=>exact qQ7 rfl h2
    |many m=>cases h1
    |gather m a=>cases h1
    |_=>rfl
end
theorem cB(e:Ent):lH e.form:=by cases e<;>(dsimp only[Ent.form,lH];symm)
theorem qR(e:Ent):pj (aQ e.form::e.rest) 0=some (.str e.form):=bK (j:=0) rfl
def Ent.name:Ent->Str
 | .kind n _=>n
 | .gate n=>n
 | .line n _=>n
 | .desk d=>d.name
 | .time d _ _=>d
 | .hour d _ _=>d
 | .pace g _ _ _=>g
theorem Fw(e:Ent):pj (aQ e.form::e.rest) 1=some (.str e.name):=by cases e<;>exact bK (j:=1) rfl
theorem Fx(h:rC e):c7 e.name:=by
 cases e with
 |gate n=>exact h
 |_=>exact h.1
theorem eC{a b:Str}(h:a≠b):dm (.str a) (.str b)=false:=by rw[bO];exact qQ0 h
theorem iA(a:Str):dm (.str a) (.str a)=true:=by rw[bO];exact qQ1 rfl
section
variable{P:bC}{w:bY}{K:ao}{mg:Str->Option aB}{base:cR}{f:aI}{k:Nat}
abbrev B7:List Str:=["plant","entry"]
def RB(ds:List ai)(d:ai):Prop:=∃(p:Pl)(e:Ent),ds=[iz p,D5 e]/\lg p/\rC e/\xC p e/\d=.bool false
def D_:ai->Option ai:=λ_=>some (.bool false)
theorem xE:∀l:List ai,l.filterMap D_=(bp l.length false).map .bool
 | []=>rfl
 |d::l=>by rw[cA (f:=D_) (b:=.bool false) rfl,xE l];rfl
theorem GX(n:Nat):wY (bp n false)=false:=by
 unfold wY;rw[Bool.eq_false_iff];intro z;obtain⟨b,hb,h⟩:=jx.mp z;rw[(jX.mp hb).2]at h;cases h
abbrev Ntt:List Str:=["plant","entry","form","name"]
theorem Oh:cY Ntt B7 (a_ (top 31)):=⟨rfl,rfl,rfl,by symm,rfl,by symm,by symm⟩
theorem Yd(F:mR K "tells_twice" "tells_twice" (top 31) f fd)(n:Np mg w.params K)(C1:bM P w K mg base 1 "is_place" K0 (ig K X9))(C2:bM P w K mg base 1 "is_desk" K0 (ig K X_))(C3:bM P w K mg base 1 "takers_of" Vy (II K Rit)):fY P w K mg base iP 2 f fd B7 (ig K RB):=
 kN F Oh (λ_ _ h=>by obtain⟨_,_,rfl,_⟩:=h;rfl) λ_ _ h=>by
  obtain⟨p,e,rfl,ok,oe,oa,rfl⟩:=h;intro eZ A outer s H E hr;have nd:Ntt.Nodup:=Oh.nd;have QX:=(Fx oe).ok.2;have ofm:=cB e;refine aP (cO 2 (d:=.str e.form) (b9 (ae 1 rfl) aK (qR e)) nd) ?_
  refine aP (cO 3 (d:=.str e.name) (b9 (ae 1 rfl) aK (Fw e)) nd) ?_
  cases e with
  |kind m k=>
   refine dU (eR (VT.to (bN hr (bw (cB _)) aS (ae 2 rfl) aM) (iA _)) (bJ (cy (VE.to (zW hr (ae 3 rfl) (jO (ae 0 rfl) (xA p))) ?_)))) rfl
   rw[gN,oU];exact qQ6 gP (qQ0 oa)
  |gate m=>
   refine aP (bW (VT.to (bN hr (bw (cB _)) aS (ae 2 rfl) aM) (eC (show("gate":Str)≠"kind" by symm))) bL) ?_
   exact dU (eR (VT.to (iY (k1:=true) (k2:=true) (VT.to (bN hr (bw (cB _)) aS (ae 2 rfl) aM) (iA _)) (λz=>by cases z)) rfl) (bJ (cy (bT C1 hr (aq (ae 0 rfl) (aq (ae 3 rfl) aZ)) ⟨p,m,rfl,ok,QX,by rw[qQ0 oa]⟩)))) rfl
  |line m r=>
   refine aP (bW (VT.to (bN hr (bw (cB _)) aS (ae 2 rfl) aM) (eC (show("line":Str)≠"kind" by symm))) bL) ?_
   exact dU (eR (VT.to (iY (k1:=false) (k2:=true) (VT.to (bN hr (bw (cB _)) aS (ae 2 rfl) aM) (eC (show("line":Str)≠"gate" by symm))) (λ_=>VT.to (bN hr (bw (cB _)) aS (ae 2 rfl) aM) (iA _))) rfl) (bJ (cy (bT C1 hr (aq (ae 0 rfl) (aq (ae 3 rfl) aZ)) ⟨p,m,rfl,ok,QX,by rw[qQ0 oa]⟩)))) rfl
  |desk q=>
   refine aP (bW (VT.to (bN hr (bw (cB _)) aS (ae 2 rfl) aM) (eC (show("desk":Str)≠"kind" by symm))) bL) ?_
   refine aP (bW (VT.to (iY (k1:=false) (k2:=false) (VT.to (bN hr (bw (cB _)) aS (ae 2 rfl) aM) (eC (show("desk":Str)≠"gate" by symm))) (λ_=>VT.to (bN hr (bw (cB _)) aS (ae 2 rfl) aM) (eC (show("desk":Str)≠"line" by symm)))) rfl) bL) ?_
   have nc:(["place","plant"]:List Str).Nodup:=by symm
   obtain⟨a1,a2,a3,a4⟩:=oa;have l6:=oe.2.2.2.2.1;refine dU (eR (VT.to (bN hr (bw (cB _)) aS (ae 2 rfl) aM) (iA _)) (bJ (cy (VE.to (rA (bT C2 hr (aq (ae 0 rfl) (aq (ae 3 rfl) aZ)) ⟨p,q.name,rfl,ok,QX,rfl⟩) (λ_=>iZ (h_ (Jk rfl) Tv (aq (VO.ve (VO.to (eO (own:=["place"]) (cap:=[0]) (N:=["place","plant"]) (tgt:=.one 0) (F:=D_) (ds:=q.places.map .str) rfl ⟨rfl,by symm,by symm,rfl,rfl,?_⟩ (wL (b9 (d:=.tuple (q.places.map .str)) (ae 1 rfl) aK (bK (j:=4) rfl))) (λf s3 H3=>bE (i:=0) nc rfl (aY rfl)) rfl
    (small (by rw[aj];omega)) (λd hd=>?_)) (xE _))) aZ) n.any rfl))) ?_)))) rfl
   ·intro j hj
    rcases av.mp hj with rfl|hj
    ·exact⟨(by show(0:Nat)<4;decide),aY rfl,rfl⟩
    ·cases hj
   ·obtain⟨z,hz,rfl⟩:=aE.mp hd
    refine⟨_,rfl,λf s3 H3=>eN,λr hC f s3 H3=>?_⟩
    cases hC;exact VE.to (IU hr E5 E5 (VE.to (VO.ve (qM C3 hr (aq (ae 1 rfl) (aq (ae 0 rfl) aZ)) ⟨p,z,rfl,ok,(oe.2.2.2.2.2.2 z hz).ok.2,rfl⟩)) (by rw[D9 (a2 z hz)];rfl)) (VO.ve (iH (ds:=[]) aZ))) rfl
   ·rw[qQ0 a1,GX];rfl
  |time d k wk=>
   refine aP (bW (VT.to (bN hr (bw (cB _)) aS (ae 2 rfl) aM) (eC (show("time":Str)≠"kind" by symm))) bL) ?_
   refine aP (bW (VT.to (iY (k1:=false) (k2:=false) (VT.to (bN hr (bw (cB _)) aS (ae 2 rfl) aM) (eC (show("time":Str)≠"gate" by symm))) (λ_=>VT.to (bN hr (bw (cB _)) aS (ae 2 rfl) aM) (eC (show("time":Str)≠"line" by symm)))) rfl) bL) ?_
   refine aP (bW (VT.to (bN hr (bw (cB _)) aS (ae 2 rfl) aM) (eC (show("time":Str)≠"desk" by symm))) bL) ?_
   refine dU (eR (VT.to (bN hr (bw (cB _)) aS (ae 2 rfl) aM) (iA _)) (bJ (cy (VE.to (Ma hr (ae 3 rfl) (b9 (ae 1 rfl) aK (bK (j:=2) rfl)) (jO (ae 0 rfl) (J7 p))) ?_)))) rfl
   refine qQ6 gP ?_
   rw[gN,An];rw[Bool.eq_false_iff];intro z;exact oa.1 (@of_decide_eq_true _ (_) z)
  |hour d a b=>
   refine aP (bW (VT.to (bN hr (bw (cB _)) aS (ae 2 rfl) aM) (eC (show("open":Str)≠"kind" by symm))) bL) ?_
   refine aP (bW (VT.to (iY (k1:=false) (k2:=false) (VT.to (bN hr (bw (cB _)) aS (ae 2 rfl) aM) (eC (show("open":Str)≠"gate" by symm))) (λ_=>VT.to (bN hr (bw (cB _)) aS (ae 2 rfl) aM) (eC (show("open":Str)≠"line" by symm)))) rfl) bL) ?_
   refine aP (bW (VT.to (bN hr (bw (cB _)) aS (ae 2 rfl) aM) (eC (show("open":Str)≠"desk" by symm))) bL) ?_
   refine aP (bW (VT.to (bN hr (bw (cB _)) aS (ae 2 rfl) aM) (eC (show("open":Str)≠"time" by symm))) bL) ?_
   exact bJ (cy (VE.to (mE (k1:=false) (k2:=false) (VE.to (oZ hr (bw (cB _)) aS (ae 2 rfl) aM) (qQ6 gP (eC (show("open":Str)≠"pace" by symm)))) (λz=>by cases z)) rfl))
  |pace g k a b=>
   refine aP (bW (VT.to (bN hr (bw (cB _)) aS (ae 2 rfl) aM) (eC (show("pace":Str)≠"kind" by symm))) bL) ?_
   refine aP (bW (VT.to (iY (k1:=false) (k2:=false) (VT.to (bN hr (bw (cB _)) aS (ae 2 rfl) aM) (eC (show("pace":Str)≠"gate" by symm))) (λ_=>VT.to (bN hr (bw (cB _)) aS (ae 2 rfl) aM) (eC (show("pace":Str)≠"line" by symm)))) rfl) bL) ?_
   refine aP (bW (VT.to (bN hr (bw (cB _)) aS (ae 2 rfl) aM) (eC (show("pace":Str)≠"desk" by symm))) bL) ?_
   refine aP (bW (VT.to (bN hr (bw (cB _)) aS (ae 2 rfl) aM) (eC (show("pace":Str)≠"time" by symm))) bL) ?_
   refine bJ (cy (VE.to (mE (k1:=true) (k2:=false) (VE.to (oZ hr (bw (cB _)) aS (ae 2 rfl) aM) (qQ6 gP (iA _))) (λ_=>iZ (VE.to (zW hr (ae 3 rfl) (jO (ae 0 rfl) (tU p))) ?_))) rfl))
   rw[gN,oT];exact qQ6 gP (qQ0 oa.1)
abbrev Nln:List Str:=["plant","entry","form","into_line"]
theorem Oi:cY Nln B7 (a_ (top 32)):=⟨rfl,rfl,rfl,by symm,rfl,by symm,by symm⟩
theorem Ye(F:mR K "lacks_name" "lacks_name" (top 32) f fd)(n:Np mg w.params K)(C1:bM P w K mg base 1 "is_place" K0 (ig K X9))(C2:bM P w K mg base 1 "is_desk" K0 (ig K X_)):fY P w K mg base iP 2 f fd B7 (ig K RB):=
 kN F Oi (λ_ _ h=>by obtain⟨_,_,rfl,_⟩:=h;rfl) λ_ _ h=>by
  obtain⟨p,e,rfl,ok,oe,oa,rfl⟩:=h;intro eZ A outer s H E hr;have nd:Nln.Nodup:=Oi.nd;have QX:=(Fx oe).ok.2;refine aP (cO 2 (d:=.str e.form) (b9 (ae 1 rfl) aK (qR e)) nd) ?_
  cases e with
  |desk q=>
   obtain⟨a1,a2,a3,a4⟩:=oa;have nc:(["place","plant"]:List Str).Nodup:=by symm
   have Vz:lH q.to:=by
    rcases oe.2.1 with h|h
    ·rw[h];show cG (.str ("":Str))=true;symm
    ·exact h.ok.2
   have l6:=oe.2.2.2.2.1;refine dU (eR (VT.to (bN hr (bw (cB _)) aS (ae 2 rfl) aM) (iA _)) (aP (cO 3 (d:=.bool true) (VE.to (rA (oZ hr (bw Vz) aS (b9 (ae 1 rfl) aK (bK (j:=2) rfl)) aM) (λ_=>iZ (zW hr (b9 (ae 1 rfl) aK (bK (j:=2) rfl)) (jO (ae 0 rfl) (xB p))))) ?_) nd) (bJ (cy (VE.to (rA (k1:=false) (k2:=false) (VE.to (vZ (ae 3 rfl)) rfl) (λ_=>iZ (VE.to (vZ (h_ (qf rfl) Bl (aq (VO.ve (VO.to (eO (own:=["place"]) (cap:=[0]) (N:=["place","plant"]) (tgt:=.one 0) (F:=XO) (ds:=q.places.map .str) rfl ⟨rfl,by symm,by symm,rfl,rfl,?_⟩ (wL (b9 (d:=.tuple (q.places.map .str)) (ae 1 rfl) aK (bK (j:=4) rfl))) (λf s3 H3=>bE (i:=0) nc rfl (aY rfl)) rfl
    (small (by rw[aj];omega)) (λd hd=>?_)) (Fu _))) aZ) n.all rfl)) (by rw[GH];rfl)))) rfl))))) rfl
   ·rw[bO,gN,lQ]
    congr 1
    rcases a4 with h|⟨r,h,_⟩
    ·rw[qQ1 h];rfl
    ·have:(fZ (nr p) q.to).isSome=true:=by rw[h];rfl
     rw[gN,lQ]at this;rw[this,uR]
   ·intro j hj
    rcases av.mp hj with rfl|hj
    ·exact⟨(by show(0:Nat)<4;decide),aY rfl,rfl⟩
    ·cases hj
   ·obtain⟨z,hz,rfl⟩:=aE.mp hd
    refine⟨_,rfl,λf s3 H3=>eN,λr hC f s3 H3=>?_⟩
    cases hC;exact bT C1 hr (aq (ae 1 rfl) (aq (ae 0 rfl) aZ)) ⟨p,z,rfl,ok,(oe.2.2.2.2.2.2 z hz).ok.2,by rw[qQ1 (a3 z hz)]⟩
  |time d k wk=>
   refine aP (bW (VT.to (bN hr (bw (cB _)) aS (ae 2 rfl) aM) (eC (show("time":Str)≠"desk" by symm))) bL) ?_
   refine dU (eR (VT.to (bN hr (bw (cB _)) aS (ae 2 rfl) aM) (iA _)) (bJ (cy (VE.to (rA (k1:=false) (VE.to (vZ (bT C2 hr (aq (ae 0 rfl) (aq (b9 (ae 1 rfl) aK (bK (j:=1) rfl)) aZ)) ⟨p,d,rfl,ok,QX,rfl⟩)) (by rw[qQ1 oa.2.1];rfl)) (λ_=>iZ (yR hr (b9 (ae 1 rfl) aK (bK (j:=2) rfl)) (jO (ae 0 rfl) (xA p))))) ?_)))) rfl
   rw[gN,oU,qQ1 oa.2.2];rfl
  |hour d a b=>
   refine aP (bW (VT.to (bN hr (bw (cB _)) aS (ae 2 rfl) aM) (eC (show("open":Str)≠"desk" by symm))) bL) ?_
   refine aP (bW (VT.to (bN hr (bw (cB _)) aS (ae 2 rfl) aM) (eC (show("open":Str)≠"time" by symm))) bL) ?_
   exact dU (eR (VT.to (bN hr (bw (cB _)) aS (ae 2 rfl) aM) (iA _)) (bJ (cy (VE.to (vZ (bT C2 hr (aq (ae 0 rfl) (aq (b9 (ae 1 rfl) aK (bK (j:=1) rfl)) aZ)) ⟨p,d,rfl,ok,QX,rfl⟩)) (by rw[qQ1 (show oV p d from oa)];rfl))))) rfl
  |pace g k a b=>
   refine aP (bW (VT.to (bN hr (bw (cB _)) aS (ae 2 rfl) aM) (eC (show("pace":Str)≠"desk" by symm))) bL) ?_
   refine aP (bW (VT.to (bN hr (bw (cB _)) aS (ae 2 rfl) aM) (eC (show("pace":Str)≠"time" by symm))) bL) ?_
   refine aP (bW (VT.to (bN hr (bw (cB _)) aS (ae 2 rfl) aM) (eC (show("pace":Str)≠"open" by symm))) bL) ?_
   have hg:lH g:=QX;have hz:=oe.2.1.ok.2;refine bJ (cy (VE.to (mE (k1:=true) (k2:=false) (VE.to (oZ hr (bw (cB _)) aS (ae 2 rfl) aM) (qQ6 gP (iA _))) (λ_=>iZ (VE.to (rA (k1:=false) (k2:=false) (VE.to (IQ hr rfl (bw hg) (uF ok.gates) (b9 (ae 1 rfl) aK (bK (j:=1) rfl)) (jO (ae 0 rfl) (B4 p))) ?_) (λ_=>iZ (VE.to (yR hr (b9 (ae 1 rfl) aK (bK (j:=2) rfl)) (jO (ae 0 rfl) (xA p))) ?_))) rfl))) rfl))
   ·rw[mK,qQ1 oa.2.1];rfl
   ·rw[gN,oU,qQ1 oa.2.2];rfl
  |_=>
   refine aP (bW (VT.to (bN hr (bw (cB _)) aS (ae 2 rfl) aM) (by rw[bO];dsimp only[Ent.form];exact qQ0 (by symm))) bL) ?_
   refine aP (bW (VT.to (bN hr (bw (cB _)) aS (ae 2 rfl) aM) (by rw[bO];dsimp only[Ent.form];exact qQ0 (by symm))) bL) ?_
   refine aP (bW (VT.to (bN hr (bw (cB _)) aS (ae 2 rfl) aM) (by rw[bO];dsimp only[Ent.form];exact qQ0 (by symm))) bL) ?_
   exact bJ (cy (VE.to (mE (k1:=false) (k2:=false) (VE.to (oZ hr (bw (cB _)) aS (ae 2 rfl) aM) (by rw[bO];dsimp only[Ent.form];exact qQ6 gP (qQ0 (by symm)))) (λz=>by cases z)) rfl))
theorem QY:cY B7 B7 (a_ (top 33)):=⟨rfl,rfl,rfl,by symm,rfl,by symm,by symm⟩
theorem UI(F:mR K "lacks_room" "lacks_room" (top 33) f fd)(n:Np mg w.params K)(C1:bM P w K mg base 1 "greatest_load" ["rule","many"] (ig K ZZ)):fY P w K mg base iP 2 f fd B7 (ig K RB):=
 kN F QY (λ_ _ h=>by obtain⟨_,_,rfl,_⟩:=h;rfl) λ_ _ h=>by
  obtain⟨p,e,rfl,ok,oe,oa,rfl⟩:=h;intro eZ A outer s H E hr;by_cases hd:∃q,e=.desk q
  ·obtain⟨q,rfl⟩:=hd
   obtain⟨a1,a2,a3,a4⟩:=oa;have Vz:lH q.to:=by
    rcases oe.2.1 with h|h
    ·rw[h];show cG (.str ("":Str))=true;symm
    ·exact h.ok.2
   by_cases ht:q.to=""
   ·exact dU (eR (VT.to (iY (k1:=false) (k2:=true) (VT.to (mq hr (bw (cB _)) aS (b9 (ae 1 rfl) aK (qR _)) aM) (qQ6 (λb=>!b) (iA _))) (λ_=>VT.to (bN hr (bw Vz) aS (b9 (ae 1 rfl) aK (bK (j:=2) rfl)) aM) (by rw[bO];exact qQ1 ht))) rfl) (bJ (cy Iw))) rfl
   ·obtain⟨r,h1,h2⟩:=a4.resolve_left ht
    refine aP (bW (VT.to (iY (k1:=false) (k2:=false) (VT.to (mq hr (bw (cB _)) aS (b9 (ae 1 rfl) aK (qR _)) aM) (qQ6 (λb=>!b) (iA _))) (λ_=>VT.to (bN hr (bw Vz) aS (b9 (ae 1 rfl) aK (bK (j:=2) rfl)) aM) (by rw[bO];exact qQ0 ht))) rfl) bL) ?_
    exact bJ (cy (VE.to (S5 (bT C1 hr (aq (b9 (d:=AY q.rule) (ae 1 rfl) aK (bK (j:=3) rfl)) (aq (VE.to (oB (ds:=q.places.map .str) (b9 (ae 1 rfl) aK (bK (j:=4) rfl)) n.len) (by rw[aj])) aZ)) ⟨q.rule,q.places.length,rfl,rfl⟩) (fN hr (jO (ae 0 rfl) (xB p)) (b9 (ae 1 rfl) aK (bK (j:=2) rfl)) h1)) (qQ6 gP (qQ0 (by omega)))))
  ·have hf:e.form≠"desk":=by
    cases e with
    |desk q=>exact qQ7 ⟨q,rfl⟩ hd
    |_=>dsimp only[Ent.form];symm
   exact dU (eR (VT.to (iY (k1:=true) (k2:=true) (VT.to (mq hr (bw (cB e)) aS (b9 (ae 1 rfl) aK (qR _)) aM) (by rw[bO,qQ0 hf];rfl)) (λz=>by cases z)) rfl) (bJ (cy Iw))) rfl
theorem UJ:cY B7 B7 (a_ (top 30)):=⟨rfl,rfl,rfl,by symm,rfl,by symm,by symm⟩
def Rfo(ds:List ai)(d:ai):Prop:=∃(p:Pl)(e:Ent),ds=[iz p,D5 e]/\lg p/\rC e/\xC p e/\d=.str ""
theorem Yf(F:mR K "fault_of" "fault_of" (top 30) f fd)(C1:bM P w K mg base 2 "tells_twice" B7 (ig K RB))(C2:bM P w K mg base 2 "lacks_name" B7 (ig K RB))(C3:bM P w K mg base 2 "lacks_room" B7 (ig K RB)):fY P w K mg base iP 3 f fd B7 (ig K Rfo):=
 kN F UJ (λ_ _ h=>by obtain⟨_,_,rfl,_⟩:=h;rfl) λ_ _ h=>by
  obtain⟨p,e,rfl,ok,oe,oa,rfl⟩:=h;intro eZ A outer s H E hr;refine aP (bW (VT.to (gT kH nY (ae 1 rfl) gF (gb _)) rfl) bL) ?_
  refine aP (bW (nF (bT C1 hr (aq (ae 0 rfl) (aq (ae 1 rfl) aZ)) ⟨p,e,rfl,ok,oe,oa,rfl⟩) rfl) bL) ?_
  refine aP (bW (nF (bT C2 hr (aq (ae 0 rfl) (aq (ae 1 rfl) aZ)) ⟨p,e,rfl,ok,oe,oa,rfl⟩) rfl) bL) ?_
  refine aP (bW (nF (bT C3 hr (aq (ae 0 rfl) (aq (ae 1 rfl) aZ)) ⟨p,e,rfl,ok,oe,oa,rfl⟩) rfl) bL) ?_
  exact bJ (cy aM)
end
def MS:Option Int->V
 |none=>.non
 |some i=>.int i
theorem J9(o:Option Int):Rep K H (MS o) (nJ o):=by
 cases o with
 |none=>exact .non
 |some i=>exact .int i
theorem Rep.MT{v:V}{o:Option Int}(r:Rep K H v (nJ o)):v=MS o:=by
 cases o with
 |none=>cases r;rfl
 |some i=>cases r;rfl
def sv(p:Pl):List (Key×V):=p.kinds.map λq=>(a7 q.1,MS q.2)
def sx(p:Pl):List (Key×V):=p.lines.map λq=>(a7 q.1,V.int q.2)
def sy(p:Pl):List (List Key×V):=p.times.map λq=>(uv (q.1,q.2.1),V.int q.2.2)
def gj(h:List (Str×List (Int×Int)))(cs:List aI):List (Key×V):=(h.zip cs).map λz=>(a7 z.1.1,V.ref z.2)
def jt(l:List (Str×Str×Int×Int))(xp:List V):List (Key×V):=(l.zip xp).map λz=>(a7 z.1.1,z.2)
abbrev VB:List Str:=["kinds","gates","lines","desks","times","hours","paces"]
def K1(ak ag al ad at_ ah ap:aI):List (Str×V):=[("kinds",.ref ak),("gates",.ref ag),("lines",.ref al),("desks",.ref ad),("times",.ref at_),("hours",.ref ah),("paces",.ref ap)]
structure PlW(K:ao)(p:aI)(st:Pl)(H0 H:Hp)(C dx ak ag al ad at_ ah ap:aI)(cs:List aI)(xd xp:List V):Prop where
 ins:H p=some (.ins C dx (K1 ak ag al ad at_ ah ap))
 cls:A_ K C
 pB:∀f∈VB,jo K C f
 ki:H ak=some (.dK (sv st))
 ga:H ag=some (.lst (st.gates.map V.str))
 li:H al=some (.dK (sx st))
 de:H ad=some (.lst xd)
 dr:cu K H0 xd (st.desks.map k_)
 ti:H at_=some (.dT (sy st))
 ho:H ah=some (.dK (gj (fz st.hours) cs))
 hl:cs.length=(fz st.hours).length
 pa:H ap=some (.dK (jt st.paces xp))/\cu K H0 xp (st.paces.map rD)
 ce:∀(i:Nat)c q,cs[i]?=some c->(fz st.hours)[i]?=some q->∃xs,H c=some (.lst xs)/\cu K H0 xs (q.2.map pairD)
def Ao(K:ao)(p:aI)(st:Pl):OR:=λH0 H as=>∃C dx ak ag al ad at_ ah ap cs xd xp,as=p::ak::ag::al::ad::at_::ah::ap::cs/\as.Nodup/\PlW K p st H0 H C dx ak ag al ad at_ ah ap cs xd xp
theorem Ao.mono{st:Pl}:lG (Ao K p st):=by
 rintro H0 H Ha Hb as ⟨C,dx,ak,ag,al,ad,at_,ah,ap,cs,xd,xp,rfl,nd,W⟩ s e
 refine⟨C,dx,ak,ag,al,ad,at_,ah,ap,cs,xd,xp,rfl,nd,?_⟩
 exact⟨by rw[e p (by simp)];exact W.ins,W.cls,W.pB,by rw[e ak (by simp)];exact W.ki,by rw[e ag (by simp)];exact W.ga,by rw[e al (by simp)];exact W.li,by rw[e ad (by simp)];exact W.de,W.dr.mono s,by rw[e at_ (by simp)];exact W.ti,by rw[e ah (by simp)];exact W.ho,W.hl,by rw[e ap (by simp)];exact⟨W.pa.1,W.pa.2.mono s⟩,λi c q e1 e2=>by
  obtain⟨xs,h1,h2⟩:=W.ce i c q e1 e2;refine⟨xs,?_,h2.mono s⟩
  rw[e c (by simp[bh e1])]
  exact h1⟩
theorem tV{α:Type}{f:α->V}{g:α->ai}:∀{l:List α},(∀x∈l,Rep K H (f x) (g x))->cu K H (l.map f) (l.map g)
 | [],_=>.nil
 |x::l,h=>.cons (h x aO) (tV λy hy=>h y (aR _ hy))
theorem B8{α:Type}{g:α->ai}:∀{l:List α}{cs:List aI},cs.length=l.length->(∀(i:Nat)c q,cs[i]?=some c->l[i]?=some q->Rep K H (.ref c) (g q))->cu K H (cs.map V.ref) (l.map g)
 | [],[],_,_=>.nil
 | [],_::_,h,_=>by cases h
 |_::_,[],h,_=>by cases h
 |q::l,c::cs,h,k=>.cons (k 0 c q rfl rfl) (B8 (by simpa using h) λi c' q' e1 e2=>k (i+1) c' q' (by simpa using e1) (by simpa using e2))
theorem vj:∀{h:List (Str×List (Int×Int))}{cs:List aI},cs.length=h.length->(gj h cs).map (·.1)=h.map λq=>(a7 q.1:Key)
 | [],[],_=>rfl
 | [],_::_,e=>by cases e
 |_::_,[],e=>by cases e
 |q::h,c::cs,e=>by
  have:=vj (h:=h) (cs:=cs) (by simpa using e)
  unfold gj at this ⊢;rw[eG,aD,aD,this];rfl
theorem vm:∀{h:List (Str×List (Int×Int))}{cs:List aI},cs.length=h.length->(gj h cs).map (·.2)=cs.map V.ref
 | [],[],_=>rfl
 | [],_::_,e=>by cases e
 |_::_,[],e=>by cases e
 |q::h,c::cs,e=>by
  have:=vm (h:=h) (cs:=cs) (by simpa using e)
  unfold gj at this ⊢;rw[eG,aD,aD,this];rfl
theorem qx:∀{h:List (Str×Str×Int×Int)}{xp:List V},xp.length=h.length->(jt h xp).map (·.1)=h.map λq=>(a7 q.1:Key)
 | [],[],_=>rfl
 | [],_::_,e=>by cases e
 |_::_,[],e=>by cases e
 |q::h,c::cs,e=>by
  have:=qx (h:=h) (xp:=cs) (by simpa using e)
  unfold jt at this ⊢;rw[eG,aD,aD,this];rfl
theorem vn:∀{h:List (Str×Str×Int×Int)}{xp:List V},xp.length=h.length->(jt h xp).map (·.2)=xp
 | [],[],_=>rfl
 | [],_::_,e=>by cases e
 |_::_,[],e=>by cases e
 |q::h,c::cs,e=>by
  have:=vn (h:=h) (xp:=cs) (by simpa using e)
  unfold jt at this ⊢;rw[eG,aD,aD,this]
theorem Ea{h:List (Str×Str×Int×Int)}{xp:List V}(e:xp.length=h.length)(q:Str×Str×Int×Int)(v:V):jt (h ++ [q]) (xp ++ [v])=jt h xp ++ [(a7 q.1,v)]:=by
 unfold jt;rw[List.zip_append (by omega),bx]
 rfl
theorem Ao.rep{st:Pl}(Ha Hb:Hp)(as:List aI)(sb:dC Ha Hb)(h:Ao K p st Ha Hb as):Rep K (qm as Hb Ha) (.ref p) (iz st):=by
 obtain⟨C,dx,ak,ag,al,ad,at_,ah,ap,cs,xd,xp,rfl,nd,W⟩:=h;have sm:=nW (as:=p::ak::ag::al::ad::at_::ah::ap::cs) sb
 generalize hM:qm (p::ak::ag::al::ad::at_::ah::ap::cs) Hb Ha=M at *
 have mm:∀a∈p::ak::ag::al::ad::at_::ah::ap::cs,M a=Hb a:=λa ha=>by rw[<-hM];exact oH ha
 refine Rep.obj (fs:=K1 ak ag al ad at_ ah ap) (by rw[mm p (by simp)];exact W.ins) W.cls W.pB rfl ?_
 refine .cons ?_ (.cons ?_ (.cons ?_ (.cons ?_ (.cons ?_ (.cons ?_ (.cons ?_ .nil))))))
 ·refine .dct (by rw[mm ak (by simp)];exact W.ki) ?_ ?_
  ·unfold qP sv;simp only[aL];rfl
  ·unfold qP sv;simp only[aL];exact tV λq _=>J9 q.2
 ·exact .lst (jV.of (by rw[mm ag (by simp)];exact W.ga)) (uw _)
 ·refine .dct (by rw[mm al (by simp)];exact W.li) ?_ ?_
  ·unfold nr sx;simp only[aL];rfl
  ·unfold nr sx;simp only[aL];exact tV λq _=>.int q.2
 ·exact .lst (jV.of (by rw[mm ad (by simp)];exact W.de)) (W.dr.mono sm)
 ·refine .Rm (by rw[mm at_ (by simp)];exact W.ti) ?_ ?_
  ·unfold qQ sy;simp only[aL];rfl
  ·unfold qQ sy;simp only[aL];exact tV λq _=>.int q.2.2
 ·refine .dct (by rw[mm ah (by simp)];exact W.ho) ?_ ?_
  ·have:=vj W.hl
   have e:(gj (fz st.hours) cs).map (λq=>lJ q.1)=((gj (fz st.hours) cs).map (·.1)).map lJ:=by rw[aL];rfl
   rw[e,this];unfold v7;simp only[aL];rfl
  ·rw[vm W.hl]
   have e:((v7 st).map λq=>(aQ q.1,q.2)).map (·.2)=(fz st.hours).map λq=>lu (q.2.map pairD):=by
    unfold v7;simp only[aL];rfl
   rw[e];exact B8 W.hl λi c q e1 e2=>by
    obtain⟨xs,h1,h2⟩:=W.ce i c q e1 e2;exact .lst (jV.of (by rw[mm c (by simp[bh e1])];exact h1)) (h2.mono sm)
 ·have hl:xp.length=st.paces.length:=by have:=W.pa.2.length;rw[aj]at this;exact this
  refine .dct (by rw[mm ap (by simp)];exact W.pa.1) ?_ ?_
  ·have:=qx hl
   have e:(jt st.paces xp).map (λq=>lJ q.1)=((jt st.paces xp).map (·.1)).map lJ:=by rw[aL];rfl
   rw[e,this];unfold c6;simp only[aL];rfl
  ·rw[vn hl]
   have e:((c6 st).map λq=>(aQ q.1,q.2)).map (·.2)=st.paces.map rD:=by
    unfold c6;simp only[aL];rfl
   rw[e];exact W.pa.2.mono sm
structure UK(H H1:Hp)(p C dx:aI)(fs:List (Str×V))(os:List (aI×HO)):Prop where
 ins:H1 p=some (.ins C dx fs)
 ob:∀q∈os,H1 q.1=some q.2
 nd:(p::os.map (·.1)).Nodup
 fresh:∀q∈os,H q.1=none
 old:∀b o,H b=some o->b≠p->H1 b=some o
theorem UK.step{H1: Hp}{C dx d: aI}{fs fs':List (Str×V)}{os:List (aI×HO)}{o:HO}(m:UK H H1 p C dx fs os)(hd:H1 d=none):UK H (upd (upd H1 d o) p (.ins C dx fs')) p C dx fs' (os ++ [(d,o)]):=by
 have VC:d≠p:=λz=>by subst z;rw[m.ins]at hd;cases hd
 have Pq:d∉os.map (·.1):=λz=>by
  obtain⟨q,hq,rfl⟩:=aE.mp z;rw[m.ob q hq]at hd;cases hd
 have Vx:p∉os.map (·.1):=(dw.mp m.nd).1
 refine⟨bB,λq hq=>?_,?_,λq hq=>?_,λb o' e hb=>?_⟩
 ·rcases cx.mp hq with hq|hq
  ·have h1:q.1≠p:=λz=>Vx (by rw[<-z];exact aE.mpr ⟨q,hq,rfl⟩)
   have h2:q.1≠d:=λz=>Pq (by rw[<-z];exact aE.mpr ⟨q,hq,rfl⟩)
   rw[aN h1,aN h2];exact m.ob q hq
  ·rw[aW.mp hq,aN VC];exact bB
 ·rw[bx,<-List.cons_append,fk]
  refine⟨m.nd,by simp,λx hx y hy=>?_⟩
  rw[jW,aW]at hy;subst hy;rcases av.mp hx with rfl|hx
  ·exact bV VC
  ·exact λz=>Pq (by rw[<-z];exact hx)
 ·rcases cx.mp hq with hq|hq
  ·exact m.fresh q hq
  ·rw[aW.mp hq]
   cases e:H d with
   |none=>rfl
   |some o'=>have:=m.old d o' e VC;rw[hd]at this;cases this
 ·have h2:b≠d:=λz=>by subst z;have:=m.old b o' e hb;rw[hd]at this;cases this
  rw[aN hb,aN h2];exact m.old b o' e hb
theorem lq{f:Str}{v:V}:∀{fs:List (Str×V)},f∉fs.map (·.1)->lD f v fs=fs ++ [(f,v)]
 | [],_=>rfl
 |(g,x)::fs,h=>by
  have h1:g≠f:=λz=>h (by rw[z];simp)
  show(if g=f then(g,v)::fs else(g,x)::lD f v fs)=_
  rw[qQ2 h1,lq λz=>h (by simp[z])]
  rfl
abbrev xF:fH:=inClass (top 21) 0
def J_(C:aI):Sp:=λvs H Q _=>∃p dx,vs=[.ref p]/\H p=some (.ins C dx [])/\∀ak ag al ad at_ ah ap H',UK H H' p C dx (K1 ak ag al ad at_ ah ap) [(ak,.dK []),(ag,.lst []),(al,.dK []),(ad,.lst []),(at_,.dT []),(ah,.dK []),(ap,.dK [])]->Q .non H'
section
variable{P:bC}{w:bY}{K:ao}{mg:Str->Option aB}{base:cR}{f:aI}{k:Nat}
theorem UL:cY ["self"] ["self"] (a_ xF):=⟨rfl,rfl,rfl,by symm,rfl,by symm,by symm⟩
theorem Yg{C:aI}(F:mR K "__init__" "Plant.__init__" xF f fd)(cl:A_ K C)(na:∀f∈VB,jo K C f):fY P w K mg base iP 1 f fd ["self"] (J_ C):=by
 refine F.ok UL (λvs H Q E h=>?_) (λeZ A outer s H vs Q E hr h=>?_)
 ·obtain⟨p,dx,rfl,_⟩:=h
  rfl
 ·obtain⟨p,dx,rfl,hp,q⟩:=h
  refine⟨_,jC (rT (pv 0) pZ rfl) (jC (rT (pv 0) (wy fK) rfl) (jC (rT (pv 0) pZ rfl) (jC (rT (pv 0) (wy fK) rfl) (jC (rT (pv 0) Ij rfl) (jC (rT (pv 0) pZ rfl) (vT (rT (pv 0) pZ rfl))))))),?_⟩
  have m0:UK H H p C dx [] []:=⟨hp,λq hq=>(by cases hq),by simp,λq hq=>(by cases hq),λb o e _=>e⟩
  intro ak hak;have p1:(upd H ak (.dK [])) p=some (.ins C dx []):=by rw[aN (bG hp hak)];exact hp
  refine⟨_,rfl,p,C,dx,_,rfl,p1,cl,na _ (by symm),by show 0<1000;decide,?_⟩
  have e1:lD "kinds" (.ref ak) ([]:List (Str×V))=[(("kinds":Str),V.ref ak)]:=lq (show("kinds":Str)∉([]:List Str) by symm)
  have m1:=m0.step (o:=.dK []) (fs':=[(("kinds":Str),V.ref ak)]) hak;rw[e1];refine⟨aV _,λag hag=>?_⟩
  refine⟨_,rfl,p,C,dx,_,rfl,by rw[aN (bG m1.ins hag)];exact m1.ins,cl,na _ (by symm),by show 1<1000;decide,?_⟩
  have e2:lD "gates" (.ref ag) ([(("kinds":Str),V.ref ak)]:List (Str×V))=[(("kinds":Str),V.ref ak),("gates",V.ref ag)]:=lq (show("gates":Str)∉(["kinds"]:List Str) by symm)
  have m2:=m1.step (o:=.lst []) (fs':=[(("kinds":Str),V.ref ak),("gates",V.ref ag)]) hag;rw[e2];intro al Vt;refine⟨_,rfl,p,C,dx,_,rfl,by rw[aN (bG m2.ins Vt)];exact m2.ins,cl,na _ (by symm),by show 2<1000;decide,?_⟩
  have e3:lD "lines" (.ref al) ([(("kinds":Str),V.ref ak),("gates",V.ref ag)]:List (Str×V))=[(("kinds":Str),V.ref ak),("gates",V.ref ag),("lines",V.ref al)]:=lq (show("lines":Str)∉(["kinds","gates"]:List Str) by symm)
  have m3:=m2.step (o:=.dK []) (fs':=[(("kinds":Str),V.ref ak),("gates",V.ref ag),("lines",V.ref al)]) Vt;rw[e3];refine⟨aV _,λad had=>?_⟩
  refine⟨_,rfl,p,C,dx,_,rfl,by rw[aN (bG m3.ins had)];exact m3.ins,cl,na _ (by symm),by show 3<1000;decide,?_⟩
  have e4:lD "desks" (.ref ad) ([(("kinds":Str),V.ref ak),("gates",V.ref ag),("lines",V.ref al)]:List (Str×V))=[(("kinds":Str),V.ref ak),("gates",V.ref ag),("lines",V.ref al),("desks",V.ref ad)]:=lq (show("desks":Str)∉(["kinds","gates","lines"]:List Str) by symm)
  have m4:=m3.step (o:=.lst []) (fs':=[(("kinds":Str),V.ref ak),("gates",V.ref ag),("lines",V.ref al),("desks",V.ref ad)]) had;rw[e4];intro at_ hat;refine⟨_,rfl,p,C,dx,_,rfl,by rw[aN (bG m4.ins hat)];exact m4.ins,cl,na _ (by symm),by show 4<1000;decide,?_⟩
  have e5:lD "times" (.ref at_) ([(("kinds":Str),V.ref ak),("gates",V.ref ag),("lines",V.ref al),("desks",V.ref ad)]:List (Str×V))=[(("kinds":Str),V.ref ak),("gates",V.ref ag),("lines",V.ref al),("desks",V.ref ad),("times",V.ref at_)]:=lq (show("times":Str)∉(["kinds","gates","lines","desks"]:List Str) by symm)
  have m5:=m4.step (o:=.dT []) (fs':=[(("kinds":Str),V.ref ak),("gates",V.ref ag),("lines",V.ref al),("desks",V.ref ad),("times",V.ref at_)]) hat;rw[e5];intro ah hah;refine⟨_,rfl,p,C,dx,_,rfl,by rw[aN (bG m5.ins hah)];exact m5.ins,cl,na _ (by symm),by show 5<1000;decide,?_⟩
  have e6:lD "hours" (.ref ah) ([(("kinds":Str),V.ref ak),("gates",V.ref ag),("lines",V.ref al),("desks",V.ref ad),("times",V.ref at_)]:List (Str×V))=[(("kinds":Str),V.ref ak),("gates",V.ref ag),("lines",V.ref al),("desks",V.ref ad),("times",V.ref at_),("hours",V.ref ah)]:=lq (show("hours":Str)∉(["kinds","gates","lines","desks","times"]:List Str) by symm)
  have m6:=m5.step (o:=.dK []) (fs':=[(("kinds":Str),V.ref ak),("gates",V.ref ag),("lines",V.ref al),("desks",V.ref ad),("times",V.ref at_),("hours",V.ref ah)]) hah;rw[e6];intro ap hap;refine⟨_,rfl,p,C,dx,_,rfl,by rw[aN (bG m6.ins hap)];exact m6.ins,cl,na _ (by symm),by show 6<1000;decide,?_⟩
  have e7:lD "paces" (.ref ap) ([(("kinds":Str),V.ref ak),("gates",V.ref ag),("lines",V.ref al),("desks",V.ref ad),("times",V.ref at_),("hours",V.ref ah)]:List (Str×V))=[(("kinds":Str),V.ref ak),("gates",V.ref ag),("lines",V.ref al),("desks",V.ref ad),("times",V.ref at_),("hours",V.ref ah),("paces",V.ref ap)]:=lq (show("paces":Str)∉(["kinds","gates","lines","desks","times","hours"]:List Str) by symm)
  have m7:=m6.step (o:=.dK []) (fs':=[(("kinds":Str),V.ref ak),("gates",V.ref ag),("lines",V.ref al),("desks",V.ref ad),("times",V.ref at_),("hours",V.ref ah),("paces",V.ref ap)]) hap;rw[e7];exact q ak ag al ad at_ ah ap _ m7
end
def qy(p:Pl):Ent->Pl
 | .kind n k=>{ p with kinds:=p.kinds ++ [(n,k)] }
 | .gate n=>{ p with gates:=p.gates ++ [n] }
 | .line n r=>{ p with lines:=p.lines ++ [(n,r)] }
 | .desk d=>{ p with desks:=p.desks ++ [d] }
 | .time d k w=>{ p with times:=p.times ++ [(d,k,w)] }
 | .hour d a b=>{ p with hours:=p.hours ++ [(d,a,b)] }
 | .pace g k a b=>{ p with paces:=p.paces ++ [(g,k,a,b)] }
def Oj(st:Pl)(d:ai)(yf:Pl):Prop:=∃e,d=D5 e/\lg st/\rC e/\xC st e/\yf=qy st e
theorem qz{κ:Type}[DecidableEq κ]:∀{kvs:List (κ×V)}{k:κ},(∀q∈kvs,q.1≠k)->g_ kvs k=none
 | [],_,_=>rfl
 |q::l,k,h=>by rw[j5 (h q aO)];exact qz λx hx=>h x (aR _ hx)
theorem xG(z:Int×Int)(n:Str):∀{h:List (Str×List (Int×Int))}{cs:List aI},cs.length=h.length->
  (g_ (gj h cs) (a7 n)=none/\pA h n z=h ++ [(n,[z])])\/∃i c q,h[i]?=some q/\cs[i]?=some c/\g_ (gj h cs) (a7 n)=some (.ref c)/\pA h n z=h.set i (q.1,q.2 ++ [z])
 | [],[],_=>.inl ⟨rfl,rfl⟩
 | [],_::_,e=>by cases e
 |_::_,[],e=>by cases e
 |q::h,c::cs,e=>by
  have hv:gj (q::h) (c::cs)=(a7 q.1,V.ref c)::gj h cs:=rfl;by_cases hn:q.1=n
  ·refine .inr ⟨0,c,q,rfl,rfl,?_,?_⟩
   ·rw[hv];exact ml (by show(a7 q.1:Key)=a7 n;rw[hn])
   ·show(if q.1=n then(q.1,q.2 ++ [z])::h else q::pA h n z)=_
    rw[qQ3 hn];rfl
  ·have ne:¬(a7 q.1:Key)=a7 n:=λw=>hn (by injection w)
   have ea:pA (q::h) n z=q::pA h n z:=by
    show(if q.1=n then(q.1,q.2 ++ [z])::h else q::pA h n z)=_
    rw[qQ2 hn]
   rcases xG z n (h:=h) (cs:=cs) (by simpa using e) with⟨h1,h2⟩|⟨i,c',q',h1,h2,h3,h4⟩
   ·exact .inl ⟨by rw[hv,j5 ne];exact h1,by rw[ea,h2];rfl⟩
   ·exact .inr ⟨i+1,c',q',by simpa using h1,by simpa using h2,by rw[hv,j5 ne];exact h3,by rw[ea,h4];rfl⟩
theorem vo:∀{h h':List (Str×List (Int×Int))}{cs:List aI},h'.map (·.1)=h.map (·.1)->gj h' cs=gj h cs
 | [],[],_,_=>rfl
 | [],_::_,_,e=>by cases e
 |_::_,[],_,e=>by cases e
 |q::h,q'::h',cs,e=>by
  obtain⟨e1,e2⟩:=iC e;cases cs with
  |nil=>rfl
  |cons c cs=>
   show(a7 q'.1,V.ref c)::gj h' cs=(a7 q.1,V.ref c)::gj h cs
   rw[show q'.1=q.1 from e1,vo e2]
theorem Eb{h:List (Str×List (Int×Int))}{cs:List aI}(e:cs.length=h.length)(q:Str×List (Int×Int))(c:aI):gj (h ++ [q]) (cs ++ [c])=gj h cs ++ [(a7 q.1,V.ref c)]:=by
 unfold gj;rw[List.zip_append (by omega),bx]
 rfl
theorem Ec(l:List (Str×Int×Int))(q:Str×Int×Int):fz (l ++ [q])=pA (fz l) q.1 q.2:=by
 unfold fz;rw[eA];rfl
theorem B9(z:Int×Int)(n:Str):∀h,(pA h n z).length<=h.length+1
 | []=>aA _
 |q::h=>by
  show(if q.1=n then(q.1,q.2 ++ [z])::h else q::pA h n z).length<=_
  split
  ·simp
  ·have:=B9 z n h
   simp only[bF];omega
theorem Ed(l:List (Str×Int×Int)):(fz l).length<=l.length:=by
 have go:∀(l:List (Str×Int×Int))(acc:List (Str×List (Int×Int))),(l.foldl (λacc q=>pA acc q.1 q.2) acc).length<=acc.length+l.length:=by
  intro l
  induction l with
  |nil=>intro acc;exact aA _
  |cons q l ih=>
   intro acc;have h1:=ih (pA acc q.1 q.2);have h2:=B9 q.2 q.1 acc;rw[pI,bF];omega
 have:=go l [];rw[cp,pN]at this;exact this
theorem xH(z:Int×Int)(n:Str):∀(h:List (Str×List (Int×Int)))(b:Nat),(∀q∈h,q.2.length<=b)->∀q∈pA h n z,q.2.length<=b+1
 | [],b,_,q,hq=>by rw[aW.mp hq];simp
 |p::h,b,hb,q,hq=>by
  have hq:q∈(if p.1=n then(p.1,p.2 ++ [z])::h else p::pA h n z):=hq
  split at hq
  ·rcases av.mp hq with rfl|hq
   ·have:=hb p aO
    rw[bq];simp;omega
   ·have:=hb q (aR _ hq);omega
  ·rcases av.mp hq with rfl|hq
   ·have:=hb q aO;omega
   ·exact xH z n h b (λx hx=>hb x (aR _ hx)) q hq
theorem B_(l:List (Str×Int×Int)):∀q∈fz l,q.2.length<=l.length:=by
 have go:∀(l:List (Str×Int×Int))(acc:List (Str×List (Int×Int)))(b:Nat),(∀q∈acc,q.2.length<=b)->∀q∈l.foldl (λacc q=>pA acc q.1 q.2) acc,q.2.length<=b+l.length:=by
  intro l
  induction l with
  |nil=>intro acc b hb q hq;exact hb q hq
  |cons q0 l ih=>
   intro acc b hb q hq;have:=ih (pA acc q0.1 q0.2) (b+1) (xH q0.2 q0.1 acc b hb) q hq;rw[bF];omega
 intro q hq;have:=go l [] 0 (λq hq=>by cases hq) q hq
 omega
section
variable{P:bC}{w:bY}{K:ao}{mg:Str->Option aB}{base:cR}{f:aI}{k:Nat}
abbrev Yh:List Str:=["plant","entry","form","name"]
theorem Ol:cY Yh B7 (a_ (top 37)):=⟨rfl,rfl,rfl,by symm,rfl,by symm,by symm⟩
theorem UM{ak ag al ad at_ ah ap:aI}:(K1 ak ag al ad at_ ah ap).lookup ("kinds":Str)=some (.ref ak)/\(K1 ak ag al ad at_ ah ap).lookup ("gates":Str)=some (.ref ag)/\(K1 ak ag al ad at_ ah ap).lookup ("lines":Str)=some (.ref al)/\(K1 ak ag al ad at_ ah ap).lookup ("desks":Str)=some (.ref ad)/\(K1 ak ag al ad at_ ah ap).lookup ("times":Str)=some (.ref at_)/\(K1 ak ag al ad at_ ah ap).lookup ("hours":Str)=some (.ref ah)/\(K1 ak ag al ad at_ ah ap).lookup ("paces":Str)=some (.ref ap):=⟨rfl,rfl,rfl,rfl,rfl,rfl,rfl⟩
theorem Yi(F:mR K "add_entry" "add_entry" (top 37) f fd):fY P w K mg base iP 1 f fd B7 (Jl K Pl (Ao K) Oj):=by
 refine F.ok Ol (λvs H Q E h=>?_) (λeZ A outer s H vs Q E hr h=>?_)
 ·obtain⟨_,_,_,_,_,_,_,rfl,_⟩:=h
  rfl
 ·obtain⟨H0,p,v,as,st,yf,d,rfl,sm,rv,own,W0,⟨e,rfl,ok,oe,oa,rfl⟩,q⟩:=h
  refine⟨_,j7,?_⟩
  have nd:Yh.Nodup:=Ol.nd;have f0:gf K H0 H H0 H (start Yh [.ref p,v]) [.ref p,.val (D5 e),.un,.un]:=by
   refine⟨.refl sm,rfl,λi sl hi=>?_,λi j a b p' _ h1=>?_⟩
   ·match i,hi with
    |0,hi=>cases hi;exact rfl
    |1,hi=>cases hi;exact⟨v,rfl,rv⟩
    |2,hi=>cases hi;exact trivial
    |3,hi=>cases hi;exact trivial
    |i+4,hi=>simp at hi
   ·match i,h1 with
    |0,h1=>cases h1
    |1,h1=>cases h1
    |2,h1=>cases h1
    |3,h1=>cases h1
    |i+4,h1=>simp at h1
  refine c0 (Jn f0 (cO 2 (d:=.str e.form) (b9 (ae 1 rfl) aK (qR e)) nd) λσ1 H1 dP s1 f1=>?_)
  refine c0 (Jn f1 (cO 3 (d:=.str e.name) (b9 (ae 1 rfl) aK (Fw e)) nd) λσ2 H2 h8 s2 f2=>?_)
  have W2:=Ao.mono _ _ _ _ _ W0 f2.ent.fA (λa ha=>f2.ent.big.eq (own a ha).2)
  obtain⟨C,dx,ak,ag,al,ad,at_,ah,ap,cs,xd,xp,rfl,K2,W⟩:=W2;have o2:∀a∈p::ak::ag::al::ad::at_::ah::ap::cs,∃o,H a=some o/\H0 a=none:=λa ha=>by
   obtain⟨z1,z2⟩:=own a ha;cases e:H a with
   |none=>exact qQ7 e z2
   |some o=>exact⟨o,rfl,z1⟩
  have UN:=K2;simp only[dw,av,not_or]at UN;obtain⟨⟨pk,pg,pl,pd,pt,ph,pp,pc⟩,⟨kg,kl,kd,kt,kh,kp,kc⟩,⟨gl,gd,gt,gh,gp,gc⟩,⟨ld,lt,lh,lp,lc⟩,⟨dt,dh,dp,dc⟩,⟨th,tp,tc⟩,⟨hp,hc⟩,apc,ncs⟩:=UN;have fin:∀(Ha Hb:Hp)(a:aI)(o:HO),dQ H0 H Ha Hb->a∈p::ak::ag::al::ad::at_::ah::ap::cs->(∀xd',xd'=xd->Ao K p (qy st e) Ha (upd Hb a o) (p::ak::ag::al::ad::at_::ah::ap::cs))->Q .non (upd Hb a o):=λHa Hb a o g ha hW=>by
   have fr:∀b∈p::ak::ag::al::ad::at_::ah::ap::cs,Ha b=none/\Hb b≠none:=λb hb=>by
    obtain⟨ob,e1,e2⟩:=o2 b hb;exact⟨g.still e2 e1,by rw[g.big _ _ e1];simp⟩
   refine q Ha (upd Hb a o) _ g.fA (λb u e=>?_) g.new (λb hb=>⟨(fr b hb).1,?_,.inl hb⟩) (λb u e hb=>?_) (hW xd rfl)
   ·rw[aN (bG e (fr a ha).1)];exact g.sub b u e
   ·by_cases hba:b=a
    ·subst hba;rw[bB];simp
    ·rw[aN hba];exact(fr b hb).2
   ·rw[aN (λz=>hb (by rw[z];exact ha))];exact g.big b u e
  have Wg:∀Ha Hb,dQ H2 h8 Ha Hb->PlW K p st Ha Hb C dx ak ag al ad at_ ah ap cs xd xp:=λHa Hb g=>by
   have M:=Ao.mono (K:=K) (p:=p) (st:=st) H2 h8 Ha Hb (p::ak::ag::al::ad::at_::ah::ap::cs) ⟨C,dx,ak,ag,al,ad,at_,ah,ap,cs,xd,xp,rfl,K2,W⟩ g.fA (λa ha=>by
    obtain⟨o,e1,_⟩:=o2 a ha;exact g.big.eq (by rw[f2.ent.big _ _ e1];simp))
   exact⟨g.big _ _ W.ins,W.cls,W.pB,g.big _ _ W.ki,g.big _ _ W.ga,g.big _ _ W.li,g.big _ _ W.de,W.dr.mono g.fA,g.big _ _ W.ti,g.big _ _ W.ho,W.hl,⟨g.big _ _ W.pa.1,W.pa.2.mono g.fA⟩,λi c q e1 e2=>by
    obtain⟨xs,h1,h2⟩:=W.ce i c q e1 e2;exact⟨xs,g.big _ _ h1,h2.mono g.fA⟩⟩
  obtain⟨lk1,lk2,lk3,lk4,lk5,lk6,lk7⟩:=UM (ak:=ak) (ag:=ag) (al:=al) (ad:=ad) (at_:=at_) (ah:=ah) (ap:=ap);have lf:=bw (n:=20) (cB e);cases e with
  |kind m kk=>
   refine cK (vb f2 (VT.to (bN hr lf aS (ae 2 rfl) aM) (iA _)) λHa Hb g=>?_)
   have Wa:=Wg Ha Hb g;have hz:(sv st).length<sizeLine:=ja (by unfold sv;rw[aj];have:=ok.kn;omega)
   refine cK (Jo (f2.grow g) hr 0 rfl Wa.ins Wa.cls (Wa.pB _ (by symm)) lk1 Wa.ki (ae 3 rfl) (b9 (ae 1 rfl) aK (bK (j:=2) rfl)) hz λv Hc Hd g2 r=>?_)
   have Wd:=Wg Hc Hd (g.trans g2);have hv:=Rep.MT r;subst hv;refine fin Hc Hd ak _ (f2.ent.trans (g.trans g2)) (by simp) λ_ _=>⟨C,dx,ak,ag,al,ad,at_,ah,ap,cs,xd,xp,rfl,K2,?_⟩
   have hn:g_ (sv st) (a7 m)=none:=qz λq' Dr=>by
    obtain⟨q0,h0,rfl⟩:=aE.mp Dr;intro z
    injection z with z
    exact oa (by rw[<-z];exact aE.mpr ⟨q0,h0,rfl⟩)
   refine⟨by rw[aN pk];exact Wd.ins,Wd.cls,Wd.pB,?_,by rw[aN (bV kg)];exact Wd.ga,by rw[aN (bV kl)];exact Wd.li,by rw[aN (bV kd)];exact Wd.de,Wd.dr,by rw[aN (bV kt)];exact Wd.ti,by rw[aN (bV kh)];exact Wd.ho,Wd.hl,by rw[aN (bV kp)];exact Wd.pa,λi c q' e1 e2=>?_⟩
   ·rw[bB]
    show some (HO.dK (putK (sv st) (a7 m) (MS kk)))=some (.dK ((st.kinds ++ [(m,kk)]).map _));rw[pX _ hn,bx];rfl
   ·obtain⟨xs,h1,h2⟩:=Wd.ce i c q' e1 e2
    exact⟨xs,by rw[aN (λz=>kc (by rw[<-z];exact bh e1))];exact h1,h2⟩
  |gate m=>
   refine cK (jj f2 (VT.to (bN hr lf aS (ae 2 rfl) aM) (eC (show("gate":Str)≠"kind" by symm))) λK3 K4 g1=>?_)
   have Ca:=f2.grow g1;have J':=g1;refine cK (vb Ca (VT.to (bN hr lf aS (ae 2 rfl) aM) (iA _)) λKc Kd g2=>?_)
   have CM:=Ca.grow g2;have GY:=J'.trans g2;have Wa:=Wg Kc Kd GY;have hz:(st.gates.map V.str).length<sizeLine:=ja (by rw[aj];have:=ok.gn;omega)
   refine cK (Br CM 0 rfl Wa.ins Wa.cls (Wa.pB _ (by symm)) lk2 Wa.ga (ae 3 rfl) hz λv Hc Hd g9 r=>?_)
   have Wd:=Wg Hc Hd (GY.trans g9);cases r;refine fin Hc Hd ag _ (f2.ent.trans (GY.trans g9)) (by simp) λ_ _=>⟨C,dx,ak,ag,al,ad,at_,ah,ap,cs,xd,xp,rfl,K2,?_⟩
   refine⟨by rw[aN (pg)];exact Wd.ins,Wd.cls,Wd.pB,by rw[aN (kg)];exact Wd.ki,?_,by rw[aN (bV gl)];exact Wd.li,by rw[aN (bV gd)];exact Wd.de,Wd.dr,by rw[aN (bV gt)];exact Wd.ti,by rw[aN (bV gh)];exact Wd.ho,Wd.hl,by rw[aN (bV gp)];exact Wd.pa,λi c q' e1 e2=>?_⟩
   ·rw[bB]
    show some (HO.lst (st.gates.map V.str ++ [V.str m]))=some (.lst ((st.gates ++ [m]).map V.str));rw[bx];rfl
   ·obtain⟨xs,h1,h2⟩:=Wd.ce i c q' e1 e2
    exact⟨xs,by rw[aN (λz=>gc (by rw[<-z];exact bh e1))];exact h1,h2⟩
  |line m rr=>
   refine cK (jj f2 (VT.to (bN hr lf aS (ae 2 rfl) aM) (eC (show("line":Str)≠"kind" by symm))) λK3 K4 g1=>?_)
   have Ca:=f2.grow g1;have J':=g1;refine cK (jj Ca (VT.to (bN hr lf aS (ae 2 rfl) aM) (eC (show("line":Str)≠"gate" by symm))) λKc Kd g2=>?_)
   have CM:=Ca.grow g2;have GY:=J'.trans g2;refine cK (vb CM (VT.to (bN hr lf aS (ae 2 rfl) aM) (iA _)) λMV MX g3=>?_)
   have GZ:=CM.grow g3;have Ke:=GY.trans g3;have Wa:=Wg MV MX Ke;have hz:(sx st).length<sizeLine:=ja (by unfold sx;rw[aj];have:=ok.ln;omega)
   refine cK (Jo GZ hr 0 rfl Wa.ins Wa.cls (Wa.pB _ (by symm)) lk3 Wa.li (ae 3 rfl) (b9 (ae 1 rfl) aK (bK (j:=2) rfl)) hz λv Hc Hd g9 r=>?_)
   have Wd:=Wg Hc Hd (Ke.trans g9);cases r;refine fin Hc Hd al _ (f2.ent.trans (Ke.trans g9)) (by simp) λ_ _=>⟨C,dx,ak,ag,al,ad,at_,ah,ap,cs,xd,xp,rfl,K2,?_⟩
   have hn:g_ (sx st) (a7 m)=none:=qz λq' Dr=>by
    obtain⟨q0,h0,rfl⟩:=aE.mp Dr;intro z
    injection z with z
    exact oa (.inr (by rw[<-z];exact aE.mpr ⟨q0,h0,rfl⟩))
   refine⟨by rw[aN (pl)];exact Wd.ins,Wd.cls,Wd.pB,by rw[aN (kl)];exact Wd.ki,by rw[aN (gl)];exact Wd.ga,?_,by rw[aN (bV ld)];exact Wd.de,Wd.dr,by rw[aN (bV lt)];exact Wd.ti,by rw[aN (bV lh)];exact Wd.ho,Wd.hl,by rw[aN (bV lp)];exact Wd.pa,λi c q' e1 e2=>?_⟩
   ·rw[bB]
    show some (HO.dK (putK (sx st) (a7 m) (V.int rr)))=some (.dK ((st.lines ++ [(m,rr)]).map _));rw[pX _ hn,bx];rfl
   ·obtain⟨xs,h1,h2⟩:=Wd.ce i c q' e1 e2
    exact⟨xs,by rw[aN (λz=>lc (by rw[<-z];exact bh e1))];exact h1,h2⟩
  |desk q0=>
   refine cK (jj f2 (VT.to (bN hr lf aS (ae 2 rfl) aM) (eC (show("desk":Str)≠"kind" by symm))) λK3 K4 g1=>?_)
   have Ca:=f2.grow g1;have J':=g1;refine cK (jj Ca (VT.to (bN hr lf aS (ae 2 rfl) aM) (eC (show("desk":Str)≠"gate" by symm))) λKc Kd g2=>?_)
   have CM:=Ca.grow g2;have GY:=J'.trans g2;refine cK (jj CM (VT.to (bN hr lf aS (ae 2 rfl) aM) (eC (show("desk":Str)≠"line" by symm))) λMV MX g3=>?_)
   have GZ:=CM.grow g3;have Ke:=GY.trans g3;refine cK (vb GZ (VT.to (bN hr lf aS (ae 2 rfl) aM) (iA _)) λOm Oo g4=>?_)
   have K5:=GZ.grow g4;have MY:=Ke.trans g4;have Wa:=Wg Om Oo MY;have KZ:=Wa.dr.length;rw[aj]at KZ;have hz:xd.length<sizeLine:=ja (by have:=ok.dn;omega)
   have DW:L2.cutD (aQ "desk"::Ent.rest (.desk q0)) (some 1) none=Ent.rest (.desk q0):=(jG (aQ "desk"::Ent.rest (.desk q0)) 1).trans rfl;refine cK (Br (d:=k_ q0) K5 0 rfl Wa.ins Wa.cls (Wa.pB _ (by symm)) lk4 Wa.de (VE.to (qJ (ae 1 rfl) (.yes aK) .no ?_) (by show dB (L2.cutD (aQ "desk"::Ent.rest (.desk q0)) (some 1) none)=_;rw[DW];rfl)) hz λv Hc Hd g9 r=>?_)
   ·intro z
    have:=z.1;rw[show(1:Int)=((1:Nat):Int)from rfl,HT.mZ]at this
    exact qQ7 this (by show ¬(min 1 5=0);decide)
   have Wd:=Wg Hc Hd (MY.trans g9);refine fin Hc Hd ad _ (f2.ent.trans (MY.trans g9)) (by simp) λ_ _=>⟨C,dx,ak,ag,al,ad,at_,ah,ap,cs,xd ++ [v],xp,rfl,K2,?_⟩
   refine⟨by rw[aN (pd)];exact Wd.ins,Wd.cls,Wd.pB,by rw[aN (kd)];exact Wd.ki,by rw[aN (gd)];exact Wd.ga,by rw[aN (ld)];exact Wd.li,bB,?_,by rw[aN (bV dt)];exact Wd.ti,by rw[aN (bV dh)];exact Wd.ho,Wd.hl,by rw[aN (bV dp)];exact Wd.pa,λi c q' e1 e2=>?_⟩
   ·show cu K Hc (xd ++ [v]) ((st.desks ++ [q0]).map k_)
    rw[bx];exact Wd.dr.append (.cons r .nil)
   ·obtain⟨xs,h1,h2⟩:=Wd.ce i c q' e1 e2
    exact⟨xs,by rw[aN (λz=>dc (by rw[<-z];exact bh e1))];exact h1,h2⟩
  |time dk VD wk=>
   refine cK (jj f2 (VT.to (bN hr lf aS (ae 2 rfl) aM) (eC (show("time":Str)≠"kind" by symm))) λK3 K4 g1=>?_)
   have Ca:=f2.grow g1;have J':=g1;refine cK (jj Ca (VT.to (bN hr lf aS (ae 2 rfl) aM) (eC (show("time":Str)≠"gate" by symm))) λKc Kd g2=>?_)
   have CM:=Ca.grow g2;have GY:=J'.trans g2;refine cK (jj CM (VT.to (bN hr lf aS (ae 2 rfl) aM) (eC (show("time":Str)≠"line" by symm))) λMV MX g3=>?_)
   have GZ:=CM.grow g3;have Ke:=GY.trans g3;refine cK (jj GZ (VT.to (bN hr lf aS (ae 2 rfl) aM) (eC (show("time":Str)≠"desk" by symm))) λOm Oo g4=>?_)
   have K5:=GZ.grow g4;have MY:=Ke.trans g4;refine cK (vb K5 (VT.to (bN hr lf aS (ae 2 rfl) aM) (iA _)) λUO UQ g5=>?_)
   have QZ:=K5.grow g5;have RC:=MY.trans g5;have Wa:=Wg UO UQ RC;have hz:(sy st).length<sizeLine:=ja (by unfold sy;rw[aj];have:=ok.tn;omega)
   refine cK (Qq QZ hr 0 rfl Wa.ins Wa.cls (Wa.pB _ (by symm)) lk5 Wa.ti (ae 3 rfl) (b9 (ae 1 rfl) aK (bK (j:=2) rfl)) (b9 (ae 1 rfl) aK (bK (j:=3) rfl)) hz λv t Hc Hd g9 ht r=>?_)
   have gt9:dQ H2 h8 Hc (upd Hd t (.tup [.str dk,.str VD])):=(RC.trans g9).trans (.loose g9.sub ht);have Wd:=Wg Hc _ gt9;cases r;refine fin Hc _ at_ _ (f2.ent.trans gt9) (by simp) λ_ _=>⟨C,dx,ak,ag,al,ad,at_,ah,ap,cs,xd,xp,rfl,K2,?_⟩
   have hn:g_ (sy st) (uv (dk,VD))=none:=qz λq' Dr=>by
    obtain⟨q0,h0,rfl⟩:=aE.mp Dr;intro z;have:=Bn z;exact oa.1 (by rw[<-this];exact aE.mpr ⟨q0,h0,rfl⟩)
   refine⟨by rw[aN (pt)];exact Wd.ins,Wd.cls,Wd.pB,by rw[aN (kt)];exact Wd.ki,by rw[aN (gt)];exact Wd.ga,by rw[aN (lt)];exact Wd.li,by rw[aN (dt)];exact Wd.de,Wd.dr,?_,by rw[aN (bV th)];exact Wd.ho,Wd.hl,by rw[aN (bV tp)];exact Wd.pa,λi c q' e1 e2=>?_⟩
   ·rw[bB]
    show some (HO.dT (putK (sy st) (uv (dk,VD)) (V.int wk)))=some (.dT ((st.times ++ [(dk,VD,wk)]).map _));rw[pX _ hn,bx];rfl
   ·obtain⟨xs,h1,h2⟩:=Wd.ce i c q' e1 e2
    exact⟨xs,by rw[aN (λz=>tc (by rw[<-z];exact bh e1))];exact h1,h2⟩
  |hour dk ha hb=>
   refine cK (jj f2 (VT.to (bN hr lf aS (ae 2 rfl) aM) (eC (show("open":Str)≠"kind" by symm))) λK3 K4 g1=>?_)
   have Ca:=f2.grow g1;have J':=g1;refine cK (jj Ca (VT.to (bN hr lf aS (ae 2 rfl) aM) (eC (show("open":Str)≠"gate" by symm))) λKc Kd g2=>?_)
   have CM:=Ca.grow g2;have GY:=J'.trans g2;refine cK (jj CM (VT.to (bN hr lf aS (ae 2 rfl) aM) (eC (show("open":Str)≠"line" by symm))) λMV MX g3=>?_)
   have GZ:=CM.grow g3;have Ke:=GY.trans g3;refine cK (jj GZ (VT.to (bN hr lf aS (ae 2 rfl) aM) (eC (show("open":Str)≠"desk" by symm))) λOm Oo g4=>?_)
   have K5:=GZ.grow g4;have MY:=Ke.trans g4;refine cK (jj K5 (VT.to (bN hr lf aS (ae 2 rfl) aM) (eC (show("open":Str)≠"time" by symm))) λUO UQ g5=>?_)
   have QZ:=K5.grow g5;have RC:=MY.trans g5;refine cK (vb QZ (VT.to (bN hr lf aS (ae 2 rfl) aM) (iA _)) λUT VF g6=>?_)
   have Yj:=QZ.grow g6;have MZ:=RC.trans g6;have Wa:=Wg UT VF MZ;have hll:=Ed st.hours;have AX:=B_ st.hours;have okh:=ok.hn;have hz:(gj (fz st.hours) cs).length<sizeLine:=ja (by unfold gj;rw[aj,xY];omega)
   have DW:L2.cutD (aQ "open"::Ent.rest (.hour dk ha hb)) (some 2) none=[.int ha,.int hb]:=(jG (aQ "open"::Ent.rest (.hour dk ha hb)) 2).trans rfl;have Xo:UT ah=none:=by
    obtain⟨o,e1,e2⟩:=o2 ah (by simp)
    exact(f2.ent.trans MZ).still e2 e1
   have Gz:fz (st.hours ++ [(dk,ha,hb)])=pA (fz st.hours) dk (ha,hb):=Ec _ _;have Kf:=xG (ha,hb) dk W.hl;refine cK (Jp (d:=pairD (ha,hb)) Yj 0 rfl Wa.ins Wa.cls (Wa.pB _ (by symm)) lk6 Wa.ho (ae 3 rfl) (VE.to (qJ (ae 1 rfl) (.yes aK) .no ?_) (by show dB (L2.cutD (aQ "open"::Ent.rest (.hour dk ha hb)) (some 2) none)=_;rw[DW];rfl)) hz rfl Xo (λv hv=>?_) (λc xs v t Hc Hd Bs U9 htt g9 ht0 r=>?_) (λv c Hc Hd Bs hcn s9 WQ nw old Rr hdc Vp ha9 r=>?_))
   ·intro z
    have:=z.1;rw[show(2:Int)=((2:Nat):Int)from rfl,HT.mZ]at this
    exact qQ7 this (by show ¬(min 2 4=0);decide)
   ·rcases Kf with⟨h1,_⟩|⟨i,c,q',h1,h2,h3,h4⟩
    ·have hv:g_ (gj (fz st.hours) cs) (a7 dk)=some v:=hv
     rw[h1]at hv;cases hv
    ·have hv:some v=some (V.ref c):=hv.symm.trans h3
     cases hv;obtain⟨xs,x1,x2⟩:=Wa.ce i c q' h2 h1;refine⟨c,xs,rfl,x1,ja ?_⟩
     have:=x2.length;rw[aj]at this;have:=AX q' (bh h1);omega
   ·rcases Kf with⟨h1,_⟩|⟨i,c',q',h1,h2,h3,h4⟩
    ·have Bs:g_ (gj (fz st.hours) cs) (a7 dk)=some (V.ref c):=Bs
     rw[h1]at Bs;cases Bs
    ·have Bs:some (V.ref c')=some (V.ref c):=h3.symm.trans Bs
     cases Bs;have Wd:=Wg Hc Hd (MZ.trans g9);have KJ:c∈cs:=bh h2;obtain⟨xs',x1,x2⟩:=Wd.ce i c q' h2 h1;have ex:xs'=xs:=by
      have:=g9.big _ _ U9;rw[this]at x1;cases x1;rfl
     subst ex;have Yk:i<(fz st.hours).length:=(aJ.mp h1).1;have xI:fz (qy st (.hour dk ha hb)).hours=(fz st.hours).set i (q'.1,q'.2 ++ [(ha,hb)]):=by
      show fz (st.hours ++ [(dk,ha,hb)])=_;rw[Gz,h4]
     refine fin Hc Hd c _ (f2.ent.trans (MZ.trans g9)) (by simp[KJ]) λ_ _=>⟨C,dx,ak,ag,al,ad,at_,ah,ap,cs,xd,xp,rfl,K2,?_⟩
     have nc:∀x,x∉cs->x≠c:=λx hx z=>hx (by rw[z];exact KJ)
     refine⟨by rw[aN (nc _ pc)];exact Wd.ins,Wd.cls,Wd.pB,by rw[aN (nc _ kc)];exact Wd.ki,by rw[aN (nc _ gc)];exact Wd.ga,by rw[aN (nc _ lc)];exact Wd.li,by rw[aN (nc _ dc)];exact Wd.de,Wd.dr,by rw[aN (nc _ tc)];exact Wd.ti,?_,?_,by rw[aN (nc _ apc)];exact Wd.pa,λj c2 q2 e1 e2=>?_⟩
     ·rw[aN (nc _ hc),Wd.ho,xI]
      congr 2
      refine(vo ?_).symm
      rw[List.map_set];refine fX λn=>?_
      by_cases hn:n=i
      ·subst hn;rw[bu (by rw[aj];exact Yk),aF,h1];rfl
      ·rw[bf (bV hn)]
     ·rw[xI,List.length_set];exact Wd.hl
     ·rw[xI]at e2
      by_cases hj:j=i
      ·subst hj
       rw[h2]at e1;cases e1;rw[bu Yk]at e2;cases e2;refine⟨xs' ++ [v],bB,?_⟩
       show cu K Hc (xs' ++ [v]) ((q'.2 ++ [(ha,hb)]).map pairD);rw[bx];exact x2.append (.cons r .nil)
      ·rw[bf (bV hj)]at e2
       obtain⟨ys,y1,y2⟩:=Wd.ce j c2 q2 e1 e2;have E6:c2≠c:=λz=>by
        subst z;have l1:=aJ.mp e1;have l2:=aJ.mp h2;obtain⟨T1,T2⟩:=l1;obtain⟨T3,T4⟩:=l2;rcases uf hj with kA|kA
        ·exact cZ.mp ncs j i T1 T3 kA (by rw[T2,T4])
        ·exact cZ.mp ncs i j T3 T1 kA (by rw[T2,T4])
       exact⟨ys,by rw[aN E6];exact y1,y2⟩
   ·rcases Kf with⟨h1,h4⟩|⟨i,c',q',h1,h2,h3,h4⟩
    ·have gH:=f2.ent.trans MZ
     have Yl:H c=none:=gH.big.free hcn;have M0:c∉p::ak::ag::al::ad::at_::ah::ap::cs:=λz=>by
      obtain⟨o,e1,_⟩:=o2 c z;rw[Yl]at e1;cases e1
     have xI:fz (qy st (.hour dk ha hb)).hours=fz st.hours ++ [(dk,[(ha,hb)])]:=by
      show fz (st.hours ++ [(dk,ha,hb)])=_;rw[Gz,h4]
     have Ym:∀x∈p::ak::ag::al::ad::at_::ah::ap::cs,Hc x=none:=λx hx=>by
      obtain⟨o,e1,e2⟩:=o2 x hx;have:UT x=none:=gH.still e2 e1;cases e:Hc x with
      |none=>rfl
      |some u=>
       rcases nw x (by rw[e];simp)with z|z
       ·exact qQ7 this z
       ·rw[gH.big _ _ e1]at z;cases z
     have Oq:∀x∈p::ak::ag::al::ad::at_::ah::ap::cs,x≠ah->∀u,VF x=some u->(upd Hd c (.lst [v])) x=some u:=λx hx VG u e=>by
      rw[aN (λz=>M0 (by rw[<-z];exact hx))];exact old x u e VG
     refine q Hc (upd Hd c (.lst [v])) (p::ak::ag::al::ad::at_::ah::ap::(cs ++ [c])) (gH.fA.trans s9) (λb u e=>?_) (λb z=>?_) (λx hx=>?_) (λb u e Qh=>?_) ⟨C,dx,ak,ag,al,ad,at_,ah,ap,cs ++ [c],xd,xp,rfl,?_,?_⟩
     ·rw[aN (bG e Vp)];exact WQ b u e
     ·rcases nw b z with z|z
      ·exact gH.new b z
      ·exact .inr (gH.big.free z)
     ·have hx:x∈(p::ak::ag::al::ad::at_::ah::ap::cs) ++ [c]:=by simpa using hx
      rcases cx.mp hx with hx|hx
      ·refine⟨Ym x hx,?_,.inl hx⟩
       rw[aN (λz=>M0 (by rw[<-z];exact hx))]
       obtain⟨o,e1,_⟩:=o2 x hx;by_cases VG:x=ah
       ·rw[VG,Rr];simp
       ·rw[old x o (gH.big _ _ e1) VG];simp
      ·rw[aW.mp hx]
       exact⟨Vp,by rw[bB];simp,.inr Yl⟩
     ·have QH:b≠c:=λz=>by rw[z,Yl]at e;cases e
      rw[aN QH];exact old b u (gH.big _ _ e) (λz=>Qh (by rw[z];simp))
     ·have:(p::ak::ag::al::ad::at_::ah::ap::(cs ++ [c]))=(p::ak::ag::al::ad::at_::ah::ap::cs) ++ [c]:=by simp
      rw[this,fk];exact⟨K2,by simp,λx hx y hy z=>M0 (by rw[<-aW.mp hy,<-z];exact hx)⟩
     ·refine⟨Oq p (by simp) ph _ Wa.ins,Wa.cls,Wa.pB,Oq ak (by simp) kh _ Wa.ki,Oq ag (by simp) gh _ Wa.ga,Oq al (by simp) lh _ Wa.li,Oq ad (by simp) dh _ Wa.de,Wa.dr.mono s9,Oq at_ (by simp) th _ Wa.ti,?_,?_,⟨Oq ap (by simp) (bV hp) _ Wa.pa.1,Wa.pa.2.mono s9⟩,λj c2 q2 e1 e2=>?_⟩
      ·have Rr:Hd ah=some (.dK (putK (gj (fz st.hours) cs) (a7 dk) (.ref c))):=Rr
       rw[aN (λz=>M0 (by rw[<-z];simp)),Rr,xI,pX _ h1,Eb W.hl]
      ·rw[xI,bq,bq,W.hl];rfl
      ·rw[xI]at e2
       by_cases hj:j<cs.length
       ·rw[bX hj]at e1
        rw[bX (by rw[<-W.hl];exact hj)]at e2
        obtain⟨ys,y1,y2⟩:=Wa.ce j c2 q2 e1 e2;have hm:c2∈cs:=bh e1;exact⟨ys,Oq c2 (by simp[hm]) (λz=>hc (by rw[<-z];exact hm)) _ y1,y2.mono s9⟩
       ·have hl:=W.hl
        have hj2:j=cs.length:=by
         have:=(aJ.mp e1).1;rw[bq,eT]at this;omega
        subst hj2;rw[cn (aA _),pQ]at e1;rw[cn (by omega),show cs.length-(fz st.hours).length=0 from by omega]at e2
        cases e1;cases e2;exact⟨[v],bB,.cons r .nil⟩
    ·have Bs:g_ (gj (fz st.hours) cs) (a7 dk)=none:=Bs
     rw[h3]at Bs;cases Bs
  |pace Ot Q0 Fg Q5=>
   refine cK (jj f2 (VT.to (bN hr lf aS (ae 2 rfl) aM) (eC (show("pace":Str)≠"kind" by symm))) λK3 K4 g1=>?_)
   have Ca:=f2.grow g1;have J':=g1;refine cK (jj Ca (VT.to (bN hr lf aS (ae 2 rfl) aM) (eC (show("pace":Str)≠"gate" by symm))) λKc Kd g2=>?_)
   have CM:=Ca.grow g2;have GY:=J'.trans g2;refine cK (jj CM (VT.to (bN hr lf aS (ae 2 rfl) aM) (eC (show("pace":Str)≠"line" by symm))) λMV MX g3=>?_)
   have GZ:=CM.grow g3;have Ke:=GY.trans g3;refine cK (jj GZ (VT.to (bN hr lf aS (ae 2 rfl) aM) (eC (show("pace":Str)≠"desk" by symm))) λOm Oo g4=>?_)
   have K5:=GZ.grow g4;have MY:=Ke.trans g4;refine cK (jj K5 (VT.to (bN hr lf aS (ae 2 rfl) aM) (eC (show("pace":Str)≠"time" by symm))) λUO UQ g5=>?_)
   have QZ:=K5.grow g5;have RC:=MY.trans g5;refine cK (jj QZ (VT.to (bN hr lf aS (ae 2 rfl) aM) (eC (show("pace":Str)≠"open" by symm))) λUT VF g6=>?_)
   have Yj:=QZ.grow g6;have MZ:=RC.trans g6;have Wa:=Wg UT VF MZ;have KZ:=Wa.pa.2.length;rw[aj]at KZ;have hz:(jt st.paces xp).length<sizeLine:=ja (by unfold jt;rw[aj,xY];have:=ok.an;omega)
   have DW:L2.cutD (aQ "pace"::Ent.rest (.pace Ot Q0 Fg Q5)) (some 2) none=[.str Q0,.int Fg,.int Q5]:=(jG (aQ "pace"::Ent.rest (.pace Ot Q0 Fg Q5)) 2).trans rfl;refine cK (Jo (d:=rD (Ot,Q0,Fg,Q5)) Yj hr 0 rfl Wa.ins Wa.cls (Wa.pB _ (by symm)) lk7 Wa.pa.1 (ae 3 rfl) (VE.to (qJ (ae 1 rfl) (.yes aK) .no ?_) (by show dB (L2.cutD (aQ "pace"::Ent.rest (.pace Ot Q0 Fg Q5)) (some 2) none)=_;rw[DW];rfl)) hz λv Hc Hd g9 r=>?_)
   ·intro z
    have:=z.1;rw[show(2:Int)=((2:Nat):Int)from rfl,HT.mZ]at this
    exact qQ7 this (by show ¬(min 2 5=0);decide)
   have Wd:=Wg Hc Hd (MZ.trans g9);refine fin Hc Hd ap _ (f2.ent.trans (MZ.trans g9)) (by simp) λ_ _=>⟨C,dx,ak,ag,al,ad,at_,ah,ap,cs,xd,xp ++ [v],rfl,K2,?_⟩
   have hn:g_ (jt st.paces xp) (a7 Ot)=none:=qz λq' Dr=>by
    have hm:q'.1∈(jt st.paces xp).map (·.1):=aE.mpr ⟨q',Dr,rfl⟩
    rw[qx KZ]at hm;obtain⟨q0,h0,h1⟩:=aE.mp hm;intro z;rw[<-h1]at z
    injection z with z
    exact oa.1 (by rw[<-z];exact aE.mpr ⟨q0,h0,rfl⟩)
   refine⟨by rw[aN pp];exact Wd.ins,Wd.cls,Wd.pB,by rw[aN kp];exact Wd.ki,by rw[aN gp];exact Wd.ga,by rw[aN lp];exact Wd.li,by rw[aN dp];exact Wd.de,Wd.dr,by rw[aN tp];exact Wd.ti,by rw[aN hp];exact Wd.ho,Wd.hl,⟨?_,?_⟩,λi c q' e1 e2=>?_⟩
   ·rw[bB]
    show some (HO.dK (putK (jt st.paces xp) (a7 Ot) v))=some (.dK (jt (st.paces ++ [(Ot,Q0,Fg,Q5)]) (xp ++ [v])));rw[pX _ hn,Ea KZ]
   ·show cu K Hc (xp ++ [v]) ((st.paces ++ [(Ot,Q0,Fg,Q5)]).map rD)
    rw[bx];exact Wd.pa.2.append (.cons r .nil)
   ·obtain⟨xs,h1,h2⟩:=Wd.ce i c q' e1 e2
    exact⟨xs,by rw[aN (λz=>apc (by rw[<-z];exact bh e1))];exact h1,h2⟩
end
def Ee:Pl:=⟨[],[],[],[],[],[],[]⟩
def uG(es:List Ent)(i:Nat):Pl:=(es.take i).foldl qy Ee
theorem G6{es:List Ent}{i:Nat}(h:es[i]?=some e):uG es (i+1)=qy (uG es i) e:=by
 unfold uG;rw[cV,h,eA];rfl
theorem Kg(es:List Ent):uG es es.length=es.foldl qy Ee:=by unfold uG;rw[jw]
structure UU(es:List Ent):Prop where
 ent:∀e∈es,rC e
 pl:∀i,i<=es.length->lg (uG es i)
 add:∀(i:Nat)e,es[i]?=some e->xC (uG es i) e
section
variable{P:bC}{w:bY}{K:ao}{mg:Str->Option aB}{base:cR}{f:aI}{k:Nat}
structure PlC(P:bC)(w:bY)(K:ao)(mg:Str->Option aB)(base:cR):Prop where
 ex:∃C fi fd,mg "Plant"=some (.ref C)/\A_ K C/\(∀f∈VB,jo K C f)/\Mk K C fi/\fY P w K mg base iP 1 fi fd ["self"] (J_ C)/\Binds K fd ["self"] []
abbrev Nrp:List Str:=["text","plant","number","words","entry","word"]
theorem Ou:cY Nrp ["text"] (a_ (top 22)):=⟨rfl,rfl,rfl,by symm,rfl,by symm,by symm⟩
def Rrp(ds:List ai)(d:ai):Prop:=∃(x:Str)(es:List Ent),ds=[.str x]/\uy x/\(rowsOf x).map (·.2)=es.map D6/\UU es/\d=iz (es.foldl qy Ee)
theorem Yn(F:mR K "read_plant" "read_plant" (top 22) f fd)(n:Np mg w.params K)(T:PlC P w K mg base)(C1:bM P w K mg base 2 "rows_of" ["text"] (II K ZX))(C2:bM P w K mg base 8 "entry_of" ["words"] (ig K Reo))(C3:bM P w K mg base 3 "fault_of" B7 (ig K Rfo))(C4:bM P w K mg base 1 "add_entry" B7 (Jl K Pl (Ao K) Oj)):fY P w K mg base iP 9 f fd ["text"] (ig K Rrp):=
 kN F Ou (λ_ _ h=>by obtain⟨_,_,rfl,_⟩:=h;rfl) λ_ _ h=>by
  obtain⟨x,es,rfl,ox,Ov,Q6,rfl⟩:=h;intro eZ A outer s H E hr;have nd:Nrp.Nodup:=Ou.nd;obtain⟨C,fi,fdi,mC,cl,na,M,FI,bI⟩:=T.ex;have hlen:(rowsOf x).length=es.length:=by have:=qQ6 gw Ov;simpa using this
  refine wW λB0 B σ H0 Hh D fr HG=>?_
  refine c0 (Qp 1 M FI (hr.mono (by omega)) mC bI (λp dx E' hp hdx VC=>?_) nd)
  refine⟨p,dx,rfl,bB,λak ag al ad at_ ah ap H' mid=>⟨rfl,?_⟩⟩
  have HQ:∀b,(upd (upd Hh dx (.own p)) p (.ins C dx [])) b=none->Hh b=none:=λb hb=>by
   have h1:b≠p:=λz=>by rw[z,bB]at hb;cases hb
   rw[aN h1]at hb;have h2:b≠dx:=λz=>by rw[z,bB]at hb;cases hb
   rw[aN h2]at hb;exact hb
  have Ow:∀b o,Hh b=some o->H' b=some o:=λb o e=>by
   have h1:b≠p:=bG e hp;refine mid.old b o ?_ h1
   rw[aN h1,aN (bG e hdx)];exact e
  have G0:OF K B0 B (Ao K p (uG es 0)) H0 H' (σ.set 1 (some (.ref p))) [.val (.str x),.ref p,.un,.un,.un,.un]:=by
   have g:dQ H0 Hh H0 H':=⟨Ow,dC.refl _,λb u e=>Ow b u (fr.sub b u e),λ_ z=>.inl z⟩
   refine⟨(fr.grow g).mD (i:=1) (v:=.ref p) (sl:=.ref p) rfl rfl,rfl,[p,ak,ag,al,ad,at_,ah,ap],λa ha=>?_,C,dx,ak,ag,al,ad,at_,ah,ap,[],[],[],rfl,by simpa using mid.nd,?_⟩
   ·have Kh:Hh a=none/\H' a≠none:=by
     rcases av.mp ha with rfl|ha
     ·exact⟨hp,by rw[mid.ins];simp⟩
     ·have Yo:∃q∈[(ak,HO.dK []),(ag,.lst []),(al,.dK []),(ad,.lst []),(at_,.dT []),(ah,.dK []),(ap,.dK [])],q.1=a:=by
       simp only[av,aX,or_false]at ha;rcases ha with rfl|rfl|rfl|rfl|rfl|rfl|rfl<;>simp
      obtain⟨q,hq,rfl⟩:=Yo;exact⟨HQ _ (mid.fresh q hq),by rw[mid.ob q hq];simp⟩
    exact⟨fr.sub.free Kh.1,fr.ent.big.free Kh.1,Kh.2⟩
   ·exact⟨mid.ins,cl,na,mid.ob (ak,.dK []) (by simp),mid.ob (ag,.lst []) (by simp),mid.ob (al,.dK []) (by simp),mid.ob (ad,.lst []) (by simp),.nil,mid.ob (at_,.dT []) (by simp),mid.ob (ah,.dK []) (by simp),rfl,⟨mid.ob (ap,.dK []) (by simp),.nil⟩,λi c q e1=>by simp at e1⟩
  refine c0 (TB (tgt:=.tup [2,3]) (ds:=(rowsOf x).map xj) (λi=>Ao K p (uG es i)) (λi=>Ao.mono) G0 dI rfl (fE (VO.ve (qM C1 (hr.mono (by omega)) (aq (ae 0 rfl) aZ) ⟨x,rfl,ox,rfl⟩)))
   (fQ rfl (bH (bE (i:=2) nd rfl (aY rfl)) (bH (bE (i:=3) nd rfl (aY rfl)) eU))) (λi d hd=>?_) (λσ2 Ha Hb G=>?_))
  ·obtain⟨r,hri,rfl⟩:∃r,(rowsOf x)[i]?=some r/\d=xj r:=by
    rw[aF]at hd;cases e:(rowsOf x)[i]? with
    |none=>rw[e]at hd;cases hd
    |some r=>rw[e]at hd;cases hd;exact⟨r,rfl,rfl⟩
   have Yk:i<(rowsOf x).length:=(aJ.mp hri).1;have KQ:es[i]?=some es[i]:=au (by omega)
   have hw:r.2=D6 es[i]:=by
    have h1:((rowsOf x).map (·.2))[i]?=some r.2:=by rw[aF,hri];rfl
    rw[Ov,aF,KQ]at h1;exact(cQ h1).symm
   have oe:=Q6.ent _ (dN (by omega:i<es.length))
   have oa:=Q6.add i _ KQ;have op:=Q6.pl i (by omega)
   have rE:=G6 KQ
   generalize es[i]=e at *
   refine⟨[.val (.str x),.ref p,.val (.int (r.1:Nat)),.val (.list (r.2.map .str)),.un,.un],rfl,rfl,λD C0 σ' di dP G q=>?_⟩
   refine c0 (mF Ao.mono G (cO 4 (d:=D5 e) (bT C2 hr (aq (ae 3 rfl) aZ) ⟨e,by rw[hw];rfl,oe,rfl⟩) nd) rfl λσ1 K3 K4 G1=>?_)
   refine c0 (DL Ao.mono G1 1 5 (d:=.str "") rfl Ao.rep (bT C3 (hr.mono (by omega)) (aq (ae 1 rfl) (aq (ae 4 rfl) aZ)) ⟨uG es i,e,rfl,op,oe,oa,rfl⟩) rfl rfl (λσ2 Kc Kd G2=>?_) nd)
   refine c0 (mF Ao.mono G2 (bW (VT.to (mq hr aS aS (ae 5 rfl) aM) (qQ6 (λb=>!b) (iA _))) bL) rfl λσ3 MV MX G3=>?_)
   refine cK (TF (s:=uG es i) (s':=uG es (i+1)) C4 (hr.mono (by omega)) G3 Ao.mono 1 rfl (ae 4 rfl) ⟨e,rfl,op,oe,oa,rE⟩ λOm Oo G4=>?_)
   exact q _ _ _ (G4.forget Ao.mono ⟨.inr rfl,.inr rfl,.inl rfl,.inl rfl,.inl rfl,.inl rfl,trivial⟩ rfl)
  ·have e:uG es ((rowsOf x).map xj).length=es.foldl qy Ee:=by rw[aj,hlen,Kg]
   rw[e]at G;exact cK (N3 G 1 rfl Ao.rep HG)
end
end Mg
namespace Mg
open L2 PySem PyProof.Rows
variable{p:Pl}
structure Ef(p:Pl):Prop where
 kn:(p.kinds.map (·.1)).Nodup
 pn:(p.gates++p.lines.map (·.1)).Nodup
 dn:(p.desks.map (·.name)).Nodup
 dk:∀d∈p.desks,D7 d/\(∀x∈d.places,x∈p.gates++p.lines.map (·.1))/\(d.to=""\/∃r,(d.to,r)∈p.lines/\r9 d.rule d.places.length<=r)
 dj:(p.desks.map (·.places)).flatten.Nodup
 tn:(p.times.map λq=>(q.1,q.2.1)).Nodup
 tm:∀q∈p.times,q.1∈p.desks.map (·.name)/\q.2.1∈p.kinds.map (·.1)/\1<=q.2.2
 hr:∀q∈p.hours,q.1∈p.desks.map (·.name)/\q.2.1<q.2.2
 kk:∀q∈p.kinds,∀i,q.2=some i->1<=i/\cC i
 ll:∀q∈p.lines,1<=q.2
 pc:(p.paces.map (·.1)).Nodup
 pp:∀q∈p.paces,q.1∈p.gates/\q.2.1∈p.kinds.map (·.1)/\1<=q.2.2.1/\1<=q.2.2.2
def Cb(p:Pl):List Ent:=p.kinds.map (λq=>Ent.kind q.1 q.2)++p.gates.map Ent.gate++p.lines.map (λq=>Ent.line q.1 q.2)++p.desks.map Ent.desk++p.times.map (λq=>Ent.time q.1 q.2.1 q.2.2)++p.hours.map (λq=>Ent.hour q.1 q.2.1 q.2.2)++p.paces.map (λq=>Ent.pace q.1 q.2.1 q.2.2.1 q.2.2.2)
def rF:Pl->List Ent->Prop
 |st,[]=>lg st
 |st,e::es=>lg st/\rC e/\xC st e/\rF (qy st e) es
theorem rF.app:∀{A B:List Ent}{st:Pl},rF st A->rF (A.foldl qy st) B->rF st (A++B)
 | [],_,_,_,h=>h
 |_::_,_,_,⟨h1,h2,h3,h4⟩,h=>⟨h1,h2,h3,h4.app h⟩
theorem rF.es:∀{es:List Ent}{st:Pl},rF st es->(∀e∈es,rC e)/\(∀i,i<=es.length->lg ((es.take i).foldl qy st))/\∀(i:Nat)e,es[i]?=some e->xC ((es.take i).foldl qy st) e
 | [],st,h=>⟨λe he=>(by cases he),λi hi=>by rw[List.take_nil];exact h,λi e he=>by simp at he⟩
 |e::es,st,⟨h1,h2,h3,h4⟩=>by
  obtain⟨a,b,c⟩:=h4.es;refine⟨λx hx=>?_,λi hi=>?_,λi x hx=>?_⟩
  ·rcases av.mp hx with rfl|hx
   ·exact h2
   ·exact a x hx
  ·cases i with
   |zero=>exact h1
   |succ i=>exact b i (by simpa using hi)
  ·cases i with
   |zero=>cases hx;exact h3
   |succ i=>exact c i x (by simpa using hx)
theorem seg{α:Type}(mk:α->Ent)(put:List α->Pl)(h1:∀l x,qy (put l) (mk x)=put (l ++ [x]))(l:List α)(hok:∀pre x post,l=pre++x::post->lg (put pre)/\rC (mk x)/\xC (put pre) (mk x))(Yp:lg (put l)):
  rF (put []) (l.map mk)/\(l.map mk).foldl qy (put [])=put l:=by
 have go:∀(rest pre:List α),l=pre++rest->rF (put pre) (rest.map mk)/\(rest.map mk).foldl qy (put pre)=put l:=by
  intro rest
  induction rest with
  |nil=>intro pre e;rw[du]at e;subst e;exact⟨Yp,rfl⟩
  |cons x rest ih=>
   intro pre e;obtain⟨a,b,c⟩:=hok pre x rest e;obtain⟨i1,i2⟩:=ih (pre ++ [x]) (by rw[e];simp)
   rw[aD];refine⟨⟨a,b,c,?_⟩,?_⟩
   ·rw[h1];exact i1
   ·rw[pI,h1];exact i2
 exact go l [] rfl
theorem jh{q: Pl}(h:lg p)(k1:q.kinds.length<=p.kinds.length)(k2:∀x∈q.kinds,x∈p.kinds)(g1:q.gates.length<=p.gates.length)(g2:∀x∈q.gates,x∈p.gates)(l1:q.lines.length<=p.lines.length)(l2:∀x∈q.lines,x∈p.lines)(d1:q.desks.length<=p.desks.length)(d2:∀x∈q.desks,x∈p.desks)(t1:q.times.length<=p.times.length)(t2:∀x∈q.times,x∈p.times)(h1:q.hours.length<=p.hours.length)(h2:∀x∈q.hours,x∈p.hours)(a1:q.paces.length<=p.paces.length)(a2:∀x∈q.paces,x∈p.paces):lg q:=
 ⟨bZ k1 h.kn,bZ g1 h.gn,bZ l1 h.ln,bZ d1 h.dn,bZ t1 h.tn,bZ h1 h.hn,λx hx=>h.kinds x (k2 x hx),λx hx=>h.gates x (g2 x hx),λx hx=>h.lines x (l2 x hx),λx hx=>h.desks x (d2 x hx),λx hx=>h.times x (t2 x hx),λx hx=>h.hours x (h2 x hx),bZ a1 h.an,λx hx=>h.paces x (a2 x hx)⟩
theorem Cd{κ:Type}[DecidableEq κ]:∀{kvs:List (κ×ai)}{k:κ}{v:ai},(kvs.map (·.1)).Nodup->(k,v)∈kvs->fZ kvs k=some v
 | [],_,_,_,h=>by cases h
 |q::l,k,v,nd,h=>by
  rw[aD,dw]at nd;rcases av.mp h with rfl|h
  ·exact dR rfl
  ·rw[bU (λe=>nd.1 (by rw[e];exact aE.mpr ⟨(k,v),h,rfl⟩))]
   exact Cd nd.2 h
theorem sA{α:Type}{l pre post:List α}{x:α}(e:l=pre++x::post):pre.length<=l.length/\∀y∈pre,y∈l:=by
 subst e;exact⟨by rw[bq];omega,λy hy=>gX _ hy⟩
theorem lW{α β:Type}{f:α->β}{l pre post:List α}{x:α}(nd:(l.map f).Nodup)(e:l=pre++x::post):f x∉pre.map f:=by
 subst e;rw[bx,aD,fk]at nd;intro z;exact nd.2.2 _ z _ aO rfl
theorem Ki(ok:lg p)(g:Ef p):rF Ee (Cb p)/\(Cb p).foldl qy Ee=p:=by
 have n0:∀{α:Type}(x:α),x∈([]:List α)->False:=λx h=>by cases h
 have s1:=seg (λq:Str×Option Int=>Ent.kind q.1 q.2) (λl=>⟨l,[],[],[],[],[],[]⟩) (λ_ _=>rfl) p.kinds (λpre x post e=>by
  obtain⟨e1,e2⟩:=sA e;have hx:x∈p.kinds:=by rw[e];simp
  exact⟨jh ok e1 e2 (aV _) (λx h=>(n0 x h).elim) (aV _) (λx h=>(n0 x h).elim) (aV _) (λx h=>(n0 x h).elim) (aV _) (λx h=>(n0 x h).elim) (aV _) (λx h=>(n0 x h).elim) (aV _) (λx h=>(n0 x h).elim),⟨(ok.kinds x hx).1,g.kk x hx⟩,lW g.kn e⟩)
  (jh ok (aA _) (λ_ h=>h) (aV _) (λx h=>(n0 x h).elim) (aV _) (λx h=>(n0 x h).elim) (aV _) (λx h=>(n0 x h).elim) (aV _) (λx h=>(n0 x h).elim) (aV _) (λx h=>(n0 x h).elim) (aV _) (λx h=>(n0 x h).elim))
 have pn:=g.pn;rw[fk]at pn;have s2:=seg Ent.gate (λl=>⟨p.kinds,l,[],[],[],[],[]⟩) (λ_ _=>rfl) p.gates (λpre x post e=>by
  obtain⟨e1,e2⟩:=sA e;have hx:x∈p.gates:=by rw[e];simp
  refine⟨jh ok (aA _) (λ_ h=>h) e1 e2 (aV _) (λx h=>(n0 x h).elim) (aV _) (λx h=>(n0 x h).elim) (aV _) (λx h=>(n0 x h).elim) (aV _) (λx h=>(n0 x h).elim) (aV _) (λx h=>(n0 x h).elim),ok.gates x hx,?_⟩
  rintro(h|h)
  ·have:=lW (f:=id) (by simpa using pn.1) e
   exact this (by simpa using h)
  ·cases h)
  (jh ok (aA _) (λ_ h=>h) (aA _) (λ_ h=>h) (aV _) (λx h=>(n0 x h).elim) (aV _) (λx h=>(n0 x h).elim) (aV _) (λx h=>(n0 x h).elim) (aV _) (λx h=>(n0 x h).elim) (aV _) (λx h=>(n0 x h).elim))
 have s3:=seg (λq:Str×Int=>Ent.line q.1 q.2) (λl=>⟨p.kinds,p.gates,l,[],[],[],[]⟩) (λ_ _=>rfl) p.lines (λpre x post e=>by
  obtain⟨e1,e2⟩:=sA e;have hx:x∈p.lines:=by rw[e];simp
  refine⟨jh ok (aA _) (λ_ h=>h) (aA _) (λ_ h=>h) e1 e2 (aV _) (λx h=>(n0 x h).elim) (aV _) (λx h=>(n0 x h).elim) (aV _) (λx h=>(n0 x h).elim) (aV _) (λx h=>(n0 x h).elim),⟨(ok.lines x hx).1,g.ll x hx,(ok.lines x hx).2⟩,?_⟩
  rintro(h|h)
  ·exact pn.2.2 _ h _ (aE.mpr ⟨x,hx,rfl⟩) rfl
  ·exact lW pn.2.1 e h)
  (jh ok (aA _) (λ_ h=>h) (aA _) (λ_ h=>h) (aA _) (λ_ h=>h) (aV _) (λx h=>(n0 x h).elim) (aV _) (λx h=>(n0 x h).elim) (aV _) (λx h=>(n0 x h).elim) (aV _) (λx h=>(n0 x h).elim))
 have s4:=seg Ent.desk (λl=>⟨p.kinds,p.gates,p.lines,l,[],[],[]⟩) (λ_ _=>rfl) p.desks (λpre x post e=>by
  obtain⟨e1,e2⟩:=sA e;have hx:x∈p.desks:=by rw[e];simp
  obtain⟨q1,q2,q3⟩:=g.dk x hx;refine⟨jh ok (aA _) (λ_ h=>h) (aA _) (λ_ h=>h) (aA _) (λ_ h=>h) e1 e2 (aV _) (λx h=>(n0 x h).elim) (aV _) (λx h=>(n0 x h).elim) (aV _) (λx h=>(n0 x h).elim),q1,lW g.dn e,λy hy hz=>?_,λy hy=>cx.mp (q2 y hy),?_⟩
  ·obtain⟨d,hd,hyd⟩:=hz
   have dj:=g.dj;rw[e,bx,List.flatten_append,fk]at dj;exact dj.2.2 y (List.mem_flatten.mpr ⟨d.places,aE.mpr ⟨d,hd,rfl⟩,hyd⟩) y (List.mem_flatten.mpr ⟨x.places,by simp,hy⟩) rfl
  ·rcases q3 with h|⟨r,h,hr⟩
   ·exact .inl h
   ·refine .inr ⟨r,Cd ?_ (aE.mpr ⟨(x.to,r),h,rfl⟩),hr⟩
    rw[lQ];exact pn.2.1)
  (jh ok (aA _) (λ_ h=>h) (aA _) (λ_ h=>h) (aA _) (λ_ h=>h) (aA _) (λ_ h=>h) (aV _) (λx h=>(n0 x h).elim) (aV _) (λx h=>(n0 x h).elim) (aV _) (λx h=>(n0 x h).elim))
 have s5:=seg (λq:Str×Str×Int=>Ent.time q.1 q.2.1 q.2.2) (λl=>⟨p.kinds,p.gates,p.lines,p.desks,l,[],[]⟩) (λ_ _=>rfl) p.times (λpre x post e=>by
  obtain⟨e1,e2⟩:=sA e;have hx:x∈p.times:=by rw[e];simp
  obtain⟨q1,q2,q3⟩:=g.tm x hx;obtain⟨r1,r2,r3⟩:=ok.times x hx;exact⟨jh ok (aA _) (λ_ h=>h) (aA _) (λ_ h=>h) (aA _) (λ_ h=>h) (aA _) (λ_ h=>h) e1 e2 (aV _) (λx h=>(n0 x h).elim) (aV _) (λx h=>(n0 x h).elim),⟨r1,r2,q3,r3⟩,lW (f:=λq:Str×Str×Int=>(q.1,q.2.1)) g.tn e,q1,q2⟩)
  (jh ok (aA _) (λ_ h=>h) (aA _) (λ_ h=>h) (aA _) (λ_ h=>h) (aA _) (λ_ h=>h) (aA _) (λ_ h=>h) (aV _) (λx h=>(n0 x h).elim) (aV _) (λx h=>(n0 x h).elim))
 have s6:=seg (λq:Str×Int×Int=>Ent.hour q.1 q.2.1 q.2.2) (λl=>⟨p.kinds,p.gates,p.lines,p.desks,p.times,l,[]⟩) (λ_ _=>rfl) p.hours (λpre x post e=>by
  obtain⟨e1,e2⟩:=sA e;have hx:x∈p.hours:=by rw[e];simp
  obtain⟨q1,q2⟩:=g.hr x hx;obtain⟨r1,r2,r3⟩:=ok.hours x hx;exact⟨jh ok (aA _) (λ_ h=>h) (aA _) (λ_ h=>h) (aA _) (λ_ h=>h) (aA _) (λ_ h=>h) (aA _) (λ_ h=>h) e1 e2 (aV _) (λx h=>(n0 x h).elim),⟨r1,r2,r3,q2⟩,q1⟩)
  (jh ok (aA _) (λ_ h=>h) (aA _) (λ_ h=>h) (aA _) (λ_ h=>h) (aA _) (λ_ h=>h) (aA _) (λ_ h=>h) (aA _) (λ_ h=>h) (aV _) (λx h=>(n0 x h).elim))
 have s7:=seg (λq:Str×Str×Int×Int=>Ent.pace q.1 q.2.1 q.2.2.1 q.2.2.2) (λl=>⟨p.kinds,p.gates,p.lines,p.desks,p.times,p.hours,l⟩) (λ_ _=>rfl) p.paces (λpre x post e=>by
  obtain⟨e1,e2⟩:=sA e;have hx:x∈p.paces:=by rw[e];simp
  obtain⟨q1,q2,q3,q4⟩:=g.pp x hx;obtain⟨r1,r2,r3,r4⟩:=ok.paces x hx;exact⟨jh ok (aA _) (λ_ h=>h) (aA _) (λ_ h=>h) (aA _) (λ_ h=>h) (aA _) (λ_ h=>h) (aA _) (λ_ h=>h) (aA _) (λ_ h=>h) e1 e2,⟨r1,r2,⟨q3,r3⟩,q4,r4⟩,lW g.pc e,q1,q2⟩)
  ok
 unfold Cb;simp only[eu];refine⟨s1.1.app ?_,?_⟩
 ·rw[s1.2]
  refine s2.1.app ?_
  rw[s2.2];refine s3.1.app ?_
  rw[s3.2];refine s4.1.app ?_
  rw[s4.2];refine s5.1.app ?_
  rw[s5.2];refine s6.1.app ?_
  rw[s6.2];exact s7.1
 ·rw[eA,show Ee=⟨[],[],[],[],[],[],[]⟩from rfl,s1.2,eA,s2.2,eA,s3.2,eA,s4.2,eA,s5.2,eA,s6.2,s7.2]
theorem UW(ok:lg p)(g:Ef p):UU (Cb p):=by
 obtain⟨a,b,c⟩:=(Ki ok g).1.es;exact⟨a,b,c⟩
theorem f6{x y:Str}{c:Nat}(h1:c∉x.cps.toList)(h2:c∉y.cps.toList):c∉(x++y).cps.toList:=by rw[add_list,cx];exact λz=>z.elim h1 h2
theorem qS{c:Nat}{y:Str}(hy:c∉y.cps.toList):∀{l:List Str},(∀x∈l,c∉x.cps.toList)->c∉(cL y l).cps.toList
 | [],_=>by show c∉([]:List Nat);simp
 | [x],h=>h x aO
 |x::z::l,h=>by
  show c∉(x++y++cL y (z::l)).cps.toList;exact f6 (f6 (h x aO) hy) (qS hy λu hu=>h u (aR _ hu))
theorem Eg(ok:lg p):(∀r∈eQ p,10∉r.cps.toList)/\(eQ p).map wordsOf=(Cb p).map D6:=by
 have nn:∀{x:Str},c7 x->10∉x.cps.toList:=λh=>(fP h).2.2
 have dn:∀{d:ai},GP d->10∉(er d).cps.toList:=λh=>(qO h).2.2
 have nm:∀{i:Int},cC i->10∉(cI i).cps.toList:=λh=>(kf h.1 h.2).2.2
 constructor
 ·intro r hr
  unfold eQ lI mJ at hr;simp only[cx,aE]at hr;rcases hr with(((((⟨q,hq,rfl⟩|⟨q,hq,rfl⟩)|⟨q,hq,rfl⟩)|⟨q,hq,rfl⟩)|⟨q,hq,rfl⟩)|⟨q,hq,rfl⟩)|⟨q,hq,rfl⟩
  ·obtain⟨h1,h2⟩:=ok.kinds q hq
   exact f6 (f6 (f6 (by symm) (nn h1)) (by symm)) (dn h2)
  ·exact f6 (by symm) (nn (ok.gates q hq))
  ·obtain⟨h1,h2⟩:=ok.lines q hq
   exact f6 (f6 (f6 (by symm) (nn h1)) (by symm)) (nm h2)
  ·obtain⟨h1,h2,h3,h4,h5⟩:=ok.desks q hq
   refine f6 (f6 (f6 (f6 (f6 (f6 (f6 (by symm) (nn h1)) (by symm)) (dn (d:=.str q.to) h2)) (by symm)) (qS (by symm) λx hx=>(sk h3 x hx).2.2)) (by symm)) (qS (by symm) λx hx=>nn (h5 x hx))
  ·obtain⟨h1,h2,h3⟩:=ok.times q hq
   refine qS (by symm) λx hx=>?_
   simp only[av,aX,or_false]at hx;rcases hx with rfl|rfl|rfl|rfl
   ·symm
   ·exact nn h1
   ·exact nn h2
   ·exact nm h3
  ·obtain⟨h1,h2,h3⟩:=ok.hours q hq
   refine qS (by symm) λx hx=>?_
   simp only[av,aX,or_false]at hx;rcases hx with rfl|rfl|rfl|rfl
   ·symm
   ·exact nn h1
   ·exact nm h2
   ·exact nm h3
  ·obtain⟨h1,h2,h3,h4⟩:=ok.paces q hq
   refine qS (by symm) λx hx=>?_
   simp only[av,aX,or_false]at hx;rcases hx with rfl|rfl|rfl|rfl|rfl
   ·symm
   ·exact nn h1
   ·exact nn h2
   ·exact nm h3
   ·exact nm h4
 ·unfold eQ lI mJ Cb
  simp only[bx,aL]
  congr 1
  congr 1
  congr 1
  congr 1
  congr 1
  congr 1
  ·exact fq λq hq=>DY (ok.kinds q hq)
  ·exact fq λq hq=>DZ (ok.gates q hq)
  ·exact fq λq hq=>D0 (ok.lines q hq)
  ·exact fq λq hq=>D1 (ok.desks q hq)
  ·exact fq λq hq=>D2 (ok.times q hq)
  ·exact fq λq hq=>D3 (ok.hours q hq)
  ·exact fq λq hq=>D4 (ok.paces q hq)
theorem M3(e:Ent):(D6 e).isEmpty=false:=by cases e<;>rfl
theorem G8(l:List Str):∀k,((l.zipIdx k).filterMap λp=>if(wordsOf p.1).isEmpty then none else some (p.2,wordsOf p.1)).map (·.2)=(l.map wordsOf).filter λws=>!ws.isEmpty:=by
 induction l with
 |nil=>intro k;rfl
 |cons x l ih=>
  intro k;rw[vO,aD,il];cases hx:(wordsOf x).isEmpty with
  |true=>rw[dH (by simp only[hx];rfl),ih];rfl
  |false=>rw[cA (b:=(k,wordsOf x)) (by simp only[hx];rfl),aD,ih];rfl
theorem Ce(ok:lg p)(hk:p.kinds≠[]):(rowsOf (oO p)).map (·.2)=(Cb p).map D6:=by
 obtain⟨h1,h2⟩:=Eg ok;unfold oO;rw[GO (λz=>?_) h1,G8,h2,sI.mpr]
 ·intro ws J0
  obtain⟨e,_,rfl⟩:=aE.mp J0;rw[M3];rfl
 ·unfold eQ lI mJ at z
  cases hkk:p.kinds with
  |nil=>exact hk hkk
  |cons q l=>rw[hkk]at z;simp at z
theorem Eh(m:Int)(k:Nat):(rB m k).cps.toList=(stemOf m).cps.toList.take (m/624%(1+m/78%8)).toNat++(97+((m/3+5*k)%26).toNat)::(stemOf m).cps.toList.drop (m/624%(1+m/78%8)+1).toNat:=by
 have hs:=uz m;have hl:(stemOf m).cps.toList.length=(1+m/78%8).toNat:=by rw[hs,c9]
 have b1:0<=m/78%8:=bA _ (by decide)
 have b2:m/78%8<8:=bj _ (by decide)
 have p1:0<=m/624%(1+m/78%8):=bA _ (by omega)
 have p2:m/624%(1+m/78%8)<1+m/78%8:=bj _ (by omega)
 have e1:lA (stemOf m) none (some (m/624%(1+m/78%8)))=_:=A2 (x:=stemOf m) ⟨p1,by rw[hl];omega⟩
 have e2:lA (stemOf m) (some (m/624%(1+m/78%8)+1)) none=_:=zx (x:=stemOf m) ⟨by omega,by rw[hl];omega⟩
 unfold rB;rw[e1,e2]
 show((_++_++_:Array Nat)).toList=_
 simp only[EA,kC,C8,BK,one];rw[fj (l:=List.drop _ _) (by rw[eI];omega),eu]
 rfl
theorem vp{β:Type}{f:Nat->β}:∀{n:Nat},(∀i j,i<n->j<n->f i=f j->i=j)->((bS n).map f).Nodup:=by
 intro n h;rw[List.Nodup,List.pairwise_map,cZ];intro i j hi hj HD e;rw[eB]at hi hj;rw[mY,mY]at e;exact qQ7 (h i j hi hj e) (by omega)
theorem kY(cell:Int){many:Nat}(hm:many<=26):(namesOf cell many).Nodup:=by
 unfold namesOf
 split
 ·refine vp λi j hi hj e=>?_
  have e1:∀k,(nameA (cz cell 3) many k).cps.toList=bp (many-k) (97+(cz cell 3/3%26).toNat):=λk=>Ae _ _
  have:=qQ6 (λx:Str=>x.cps.toList.length) e
  simp only[e1,c9]at this;omega
 ·refine vp λi j hi hj e=>?_
  have:=qQ6 (λx:Str=>x.cps.toList) e
  simp only[Eh]at this;have:=List.append_cancel_left this;have:=(iC this).1
  generalize cz cell 3/3=a at *
  omega
theorem Ei(l:List Str):(bS l.length).map (λk=>l.getD k "")=l:=by
 refine fX λi=>?_
 rw[aF];by_cases h:i<l.length
 ·rw[cg h,au h]
  show some (l.getD i "")=_;rw[aG,au h];rfl
 ·rw[df (by simpa using h),df (by simpa using h)];rfl
end Mg
namespace Mg
open L2 PySem PyProof.Rows
seal L2.VE L2.VS L2.pF L2.VT L2.VO L2.IG
variable{K:ao}
theorem gO(x y:Str):(x++y).length=x.length+y.length:=by simp only[cj]
theorem hV{x y:Str}(h1:lH x)(h2:lH y):lH (x++y):=(lL _).mpr λc hc=>by
 rw[add_list]at hc;rcases cx.mp hc with hc|hc
 ·exact(lL _).mp h1 c hc
 ·exact(lL _).mp h2 c hc
theorem mL{y:Str}(hy:lH y):∀{l:List Str},(∀x∈l,lH x)->lH (cL y l)
 | [],_=>(lL _).mpr λc hc=>by cases hc
 | [x],h=>h x aO
 |x::z::l,h=>hV (hV (h x aO) hy) (mL hy λu hu=>h u (aR _ hu))
theorem gk{x:Str}(h:cG (.str x)=true:=by symm):lH x:=h
theorem G9{p:Pl}(ok:lg p):∀r∈eQ p,lH r/\r.length<=1400:=by
 intro r hr;have nn:∀{x:Str},c7 x->lH x/\x.length<=8:=λh=>⟨h.ok.2,h.short⟩
 have dn:∀{d:ai},GP d->lH (er d)/\(er d).length<=8:=λh=>⟨(tT h).2,jP h⟩
 have nm:∀{i:Int},cC i->lH (cI i)/\(cI i).length<=6:=λh=>⟨(lE h.1 h.2).2,fc h⟩
 unfold eQ lI mJ at hr;simp only[cx,aE]at hr;rcases hr with(((((⟨q,hq,rfl⟩|⟨q,hq,rfl⟩)|⟨q,hq,rfl⟩)|⟨q,hq,rfl⟩)|⟨q,hq,rfl⟩)|⟨q,hq,rfl⟩)|⟨q,hq,rfl⟩
 ·obtain⟨h1,h2⟩:=ok.kinds q hq
  refine⟨hV (hV (hV gk (nn h1).1) gk) (dn h2).1,?_⟩
  have a:=(nn h1).2;have b:=(dn h2).2;unfold oN;rw[gO,gO,gO,show("kind ":Str).length=5 from by decide,show(" ":Str).length=1 from by decide]
  omega
 ·have h1:=ok.gates q hq
  refine⟨hV gk (nn h1).1,?_⟩
  have a:=(nn h1).2;unfold lM;rw[gO,show("gate ":Str).length=5 from by decide]
  omega
 ·obtain⟨h1,h2⟩:=ok.lines q hq
  refine⟨hV (hV (hV gk (nn h1).1) gk) (nm h2).1,?_⟩
  have a:=(nn h1).2;have b:=(nm h2).2;unfold lN;rw[gO,gO,gO,show("line ":Str).length=5 from by decide,show(" ":Str).length=1 from by decide]
  omega
 ·obtain⟨h1,h2,h3,h4,h5⟩:=ok.desks q hq
  refine⟨hV (hV (hV (hV (hV (hV (hV gk (nn h1).1) gk) (dn (d:=.str q.to) h2).1) gk) (mL gk λx hx=>(B3 h3 x hx).2)) gk) (mL gk λx hx=>(nn (h5 x hx)).1),?_⟩
  have a:=(nn h1).2;have b:=(dn (d:=.str q.to) h2).2;have c:=mI h3;have d:=fS (y:=(" ":Str)) (by decide) (l:=q.places) (b:=8) λx hx=>(nn (h5 x hx)).2
  unfold kW mH;rw[gO,gO,gO,gO,gO,gO,gO,show("desk ":Str).length=5 from by decide,show(" to ":Str).length=4 from by decide,show(" by ":Str).length=4 from by decide,show(" from ":Str).length=6 from by decide]
  omega
 ·obtain⟨h1,h2,h3⟩:=ok.times q hq
  have UX:∀x∈[("time":Str),q.1,q.2.1,cI q.2.2],lH x/\x.length<=8:=λx hx=>by
   simp only[av,aX,or_false]at hx;rcases hx with rfl|rfl|rfl|rfl
   ·exact⟨gk,by decide⟩
   ·exact nn h1
   ·exact nn h2
   ·exact⟨(nm h3).1,by have:=(nm h3).2;omega⟩
  refine⟨mL gk λx hx=>(UX x hx).1,?_⟩
  have:=fS (y:=(" ":Str)) (by decide) λx hx=>(UX x hx).2
  unfold lO;simp only[bF,cp]at this;omega
 ·obtain⟨h1,h2,h3⟩:=ok.hours q hq
  have UX:∀x∈[("open":Str),q.1,cI q.2.1,cI q.2.2],lH x/\x.length<=8:=λx hx=>by
   simp only[av,aX,or_false]at hx;rcases hx with rfl|rfl|rfl|rfl
   ·exact⟨gk,by decide⟩
   ·exact nn h1
   ·exact⟨(nm h2).1,by have:=(nm h2).2;omega⟩
   ·exact⟨(nm h3).1,by have:=(nm h3).2;omega⟩
  refine⟨mL gk λx hx=>(UX x hx).1,?_⟩
  have:=fS (y:=(" ":Str)) (by decide) λx hx=>(UX x hx).2
  unfold nh;simp only[bF,cp]at this;omega
 ·obtain⟨h1,h2,h3,h4⟩:=ok.paces q hq
  have hx5:∀x∈[("pace":Str),q.1,q.2.1,cI q.2.2.1,cI q.2.2.2],lH x/\x.length<=8:=λx hx=>by
   simp only[av,aX,or_false]at hx;rcases hx with rfl|rfl|rfl|rfl|rfl
   ·exact⟨gk,by decide⟩
   ·exact nn h1
   ·exact nn h2
   ·exact⟨(nm h3).1,by have:=(nm h3).2;omega⟩
   ·exact⟨(nm h4).1,by have:=(nm h4).2;omega⟩
  refine⟨mL gk λx hx=>(hx5 x hx).1,?_⟩
  have:=fS (y:=(" ":Str)) (by decide) λx hx=>(hx5 x hx).2
  unfold lP;simp only[bF,cp]at this;omega
theorem text_ok{p:Pl}(ok:lg p)(h2:(eQ p).length<=44):uy (oO p):=by
 have hr:=G9 ok;refine⟨?_,mL gk λx hx=>(hr x hx).1⟩
 have:=fS (y:=("\n":Str)) (by decide) λx hx=>(hr x hx).2
 unfold oO;have:(eQ p).length*(1400+1)<=44*1401:=iw h2 (aA _);omega
theorem Cg(l:List Int):sL (jb l):=.lst λd hd=>by obtain⟨i,_,rfl⟩:=aE.mp hd;exact .int i
theorem M4(l:List Str):sL (oM l):=.lst λd hd=>by obtain⟨i,_,rfl⟩:=aE.mp hd;exact .str i
theorem Fy(o:Option Int):sL (nJ o):=by cases o with|none=>exact .non|some i=>exact .int i
theorem G_(l:List (Str×Int×Int)):sL (.list (l.map yW)):=.lst λd hd=>by
 obtain⟨q,_,rfl⟩:=aE.mp hd;refine .tup λd hd=>?_
 simp only[av,aX,or_false]at hd;rcases hd with rfl|rfl|rfl
 ·exact .str _
 ·exact .int _
 ·exact .int _
theorem Kj(r:Rl):sL (AY r):=by
 refine .tup λd hd=>?_
 rcases av.mp hd with rfl|hd
 ·exact .str _
 ·cases r with
  |turns s=>
   rw[aW.mp hd];exact .tup λd hd=>by obtain⟨i,_,rfl⟩:=aE.mp hd;exact .int i
  |eldest=>cases hd
  |rank b=>rw[aW.mp hd];exact Fy b
  |many m=>rw[aW.mp hd];exact .int _
  |gather m a=>
   rcases av.mp hd with rfl|hd
   ·exact .int _
   ·rw[aW.mp hd];exact .int _
  |meet=>cases hd
theorem y4(p:Pl):∀q∈gL p,sL q.2:=by
 intro q hq;unfold gL at hq;simp only[av,aX,or_false]at hq;rcases hq with rfl|rfl|rfl|rfl|rfl|rfl|rfl
 ·refine .lst λd hd=>?_
  obtain⟨k,_,rfl⟩:=aE.mp hd;refine .tup λd hd=>?_
  simp only[av,aX,or_false]at hd;rcases hd with rfl|rfl
  ·exact .str _
  ·exact Fy _
 ·exact M4 _
 ·refine .lst λd hd=>?_
  obtain⟨k,_,rfl⟩:=aE.mp hd;refine .tup λd hd=>?_
  simp only[av,aX,or_false]at hd;rcases hd with rfl|rfl
  ·exact .str _
  ·exact .int _
 ·refine .lst λd hd=>?_
  obtain⟨k,_,rfl⟩:=aE.mp hd;refine .tup λd hd=>?_
  simp only[av,aX,or_false]at hd;rcases hd with rfl|rfl|rfl|rfl
  ·exact .str _
  ·exact .str _
  ·exact Kj _
  ·exact .tup λd hd=>by obtain⟨i,_,rfl⟩:=aE.mp hd;exact .str i
 ·refine .lst λd hd=>?_
  obtain⟨k,_,rfl⟩:=aE.mp hd;refine .tup λd hd=>?_
  simp only[av,aX,or_false]at hd;rcases hd with rfl|rfl|rfl
  ·exact .str _
  ·exact .str _
  ·exact .int _
 ·exact G_ _
 ·refine .lst λd hd=>?_
  obtain⟨k,_,rfl⟩:=aE.mp hd;refine .tup λd hd=>?_
  simp only[av,aX,or_false]at hd;rcases hd with rfl|rfl|rfl|rfl
  ·exact .str _
  ·exact .str _
  ·exact .int _
  ·exact .int _
def Ox(K:ao):Sp:=λvs H Q _=>∃(a:aI)(ns:List Int),vs=[.ref a]/\jV K H a (ns.map V.int)/\ns.length<=63/\∀H',Q (.bl true) H'
theorem qU{H:Hp}:∀ns:List Int,cu K H (ns.map V.int) (ns.map cW)
 | []=>.nil
 |n::ns=>.cons (.int n) (qU ns)
theorem law_small{H:Hp}{a:aI}{ns:List Int}(h:jV K H a (ns.map V.int)):∃H0,dC H0 H/\cu K H0 [.ref a] [jb ns]/\∀b kvs,H0 b≠some (.dK kvs):=by
 rcases h with(h|⟨o,h⟩)|h
 ·refine⟨λq=>if q=a then H q else none,λb o e=>?_,.cons (.lst (.inl (.inl (by show(if a=a then H a else none)=_;rw[qQ3 rfl];exact h))) (qU ns)) .nil,λb kvs e=>?_⟩
  ·by_cases hb:b=a
   ·have e':(if b=a then H b else none)=some o:=e
    rw[qQ3 hb]at e';exact e'
   ·have e':(if b=a then H b else none)=some o:=e
    rw[qQ2 hb]at e';cases e'
  ·have e':(if b=a then H b else none)=some (HO.dK kvs):=e
   by_cases hb:b=a
   ·rw[qQ3 hb,hb,h]at e';cases e'
   ·rw[qQ2 hb]at e';cases e'
 ·refine⟨λq=>if q=a then H q else none,λb o e=>?_,.cons (.lst (.inl (.inr ⟨o,by show(if a=a then H a else none)=_;rw[qQ3 rfl];exact h⟩)) (qU ns)) .nil,λb kvs e=>?_⟩
  ·by_cases hb:b=a
   ·have e':(if b=a then H b else none)=some o:=e
    rw[qQ3 hb]at e';exact e'
   ·have e':(if b=a then H b else none)=some o:=e
    rw[qQ2 hb]at e';cases e'
  ·have e':(if b=a then H b else none)=some (HO.dK kvs):=e
   by_cases hb:b=a
   ·rw[qQ3 hb,hb,h]at e';cases e'
   ·rw[qQ2 hb]at e';cases e'
 ·exact⟨λ_=>none,(λb o e=>by cases e),.cons (.lst (.inr h) (qU ns)) .nil,(λb kvs e=>by cases e)⟩
end Mg
namespace Mg
variable{gap:Int}{ts:List Int}
def rG(gap:Int):List Int->Option Int:=λts=>ts.foldl (λacc t=>some (match acc with|none=>t|some l=>max t (l+gap))) none
theorem xJ(gap:Int)(ts:List Int)(t:Int):rG gap (ts ++ [t])=some (match rG gap ts with|none=>t|some l=>max t (l+gap)):=by
 unfold rG;rw[eA];rfl
theorem Kk(c:Int):∀(n:Nat)(ts:List Int),ts.length=n+1->∃l,rG gap ts=some l/\(c<l↔∃i,∃h:i<ts.length,c<ts[i]+((n-i:Nat):Int)*gap):=by
 intro n
 induction n generalizing c with
 |zero=>
  intro ts h
  match ts,h with
  | [t],_=>
   refine⟨t,rfl,?_⟩
   constructor
   ·intro z
    exact⟨0,by simp,by simpa using z⟩
   ·rintro⟨i,hi,z⟩
    have:i=0:=by simp at hi;omega
    subst this;simpa using z
 |succ n ih=>
  intro ts h;obtain⟨us,t,rfl⟩:∃us t,ts=us ++ [t]:=by
   rcases List.eq_nil_or_concat ts with e|⟨us,t,e⟩
   ·rw[e]at h;cases h
   ·exact⟨us,t,by rw[e,List.concat_eq_append]⟩
  have hu:us.length=n+1:=by rw[bq,eT]at h;omega
  obtain⟨l,hl,hc⟩:=ih (c-gap) us hu;refine⟨max t (l+gap),by rw[xJ,hl],?_⟩
  have hm:c<max t (l+gap)↔c<t\/c-gap<l:=by omega
  rw[hm,hc]
  constructor
  ·rintro(z|⟨i,hi,z⟩)
   ·refine⟨n+1,by rw[bq,eT];omega,?_⟩
    rw[zy (by omega)]
    simp only[hu,pQ,CH];simpa using z
   ·refine⟨i,by rw[bq];omega,?_⟩
    rw[AV hi,show n+1-i=(n-i)+1 from by omega]
    have:((n-i+1:Nat):Int)*gap=((n-i:Nat):Int)*gap+gap:=by rw[Int.natCast_add,Int.add_mul];simp
    omega
  ·rintro⟨i,hi,z⟩
   by_cases hn:i=n+1
   ·subst hn
    left
    rw[zy (by omega)]at z
    simp only[hu,pQ,CH]at z;simpa using z
   ·have VH:i<us.length:=by rw[bq,eT]at hi;omega
    right
    refine⟨i,VH,?_⟩
    rw[AV VH,show n+1-i=(n-i)+1 from by omega]at z
    have:((n-i+1:Nat):Int)*gap=((n-i:Nat):Int)*gap+gap:=by rw[Int.natCast_add,Int.add_mul];simp
    omega
def nu:List Int->Prop:=List.Pairwise (λa b=>a<=b)
theorem count_at(b:Int):∀(ts:List Int),nu ts->∀(c:Nat),c=(ts.filter λt=>decide (b<=t)).length->1<=c->∃h:ts.length-c<ts.length,b<=ts[ts.length-c]
 | [],_,c,hc,h1=>by rw[hc]at h1;simp at h1
 |t::ts,hs,c,hc,h1=>by
  obtain⟨ht,hs⟩:=List.pairwise_cons.mp hs;by_cases hb:b<=t
  ·have pW:((t::ts).filter λt=>decide (b<=t))=t::ts:=sI.mpr λx hx=>by
    rcases av.mp hx with rfl|hx
    ·exact qQ1 hb
    ·exact qQ1 (Int.le_trans hb (ht x hx))
   rw[pW]at hc;subst hc;simp only[pQ];exact⟨by simp,hb⟩
  ·rw[il,qQ2 (by simpa using hb)]at hc
   obtain⟨g,k⟩:=count_at b ts hs c hc h1;have hle:c<=ts.length:=by rw[hc];exact C9 _ _
   have e:(t::ts).length-c=(ts.length-c)+1:=by rw[bF];omega
   refine⟨by rw[bF];omega,?_⟩
   simp only[e,List.getElem_cons_succ];exact k
theorem Kl(hs:nu ts){i:Nat}(hi:i<ts.length):ts.length-i<=(ts.filter λt=>decide (ts[i]<=t)).length:=by
 have h1:(ts.drop i).filter (λt=>decide (ts[i]<=t))=ts.drop i:=sI.mpr λx hx=>by
  obtain⟨j,hj,rfl⟩:=List.mem_iff_getElem.mp hx;rw[List.getElem_drop];refine qQ1 ?_
  by_cases h0:j=0
  ·subst h0;simp
  ·exact cZ.mp hs i (i+j) hi (by rw[eI]at hj;omega) (by omega)
 have h2:((ts.drop i).filter λt=>decide (ts[i]<=t)).length<=(ts.filter λt=>decide (ts[i]<=t)).length:=((List.drop_sublist i ts).filter _).length_le
 rw[h1,eI]at h2;exact h2
theorem Ci(hg:0<gap)(k x:Int):x/gap<k↔x<k*gap:=by
 constructor
 ·intro h
  have h1:=Int.lt_ediv_add_one_mul_self x hg;have h2:(x/gap+1)*gap<=k*gap:=wa (by omega) (by omega)
  omega
 ·intro h
  exact Int.ediv_lt_of_lt_mul hg h
theorem Km{o7: Int}(hg:0<gap)(hs:nu ts)(hn:ts≠[])(last:Int)(hl:ts.getLast?=some last):
  ∃l,rG gap ts=some l/\((o7-1)*gap<l-last↔∃b∈ts,o7+(last-b)/gap<((ts.filter λt=>decide (b<=t)).length:Int)):=by
 obtain⟨n,hn⟩:∃n,ts.length=n+1:=⟨ts.length-1,by have:=List.length_pos_iff.mpr hn;omega⟩
 obtain⟨l,h1,h2⟩:=Kk (gap:=gap) ((o7-1)*gap+last) n ts hn;refine⟨l,h1,?_⟩
 have h3:(o7-1)*gap<l-last↔(o7-1)*gap+last<l:=by omega
 rw[h3,h2]
 constructor
 ·rintro⟨i,hi,z⟩
  refine⟨ts[i],dN _,?_⟩
  have hc:=Kl hs hi
  generalize(ts.filter λt=>decide (ts[i]<=t)).length=c at *
  have h4:(last-ts[i])/gap<(c:Int)-o7:=by
   rw[Ci hg];have h5:((n-i:Nat):Int)*gap<=((c:Int)-1)*gap:=wa (by omega) (by omega)
   have h6:((c:Int)-o7)*gap=((c:Int)-1)*gap-(o7-1)*gap:=by rw[<-Int.sub_mul];congr 1;omega
   omega
  omega
 ·rintro⟨b,hb,z⟩
  have Xn:1<=(ts.filter λt=>decide (b<=t)).length:=List.length_pos_iff.mpr (List.ne_nil_of_mem (xS.mpr ⟨hb,by simp⟩))
  obtain⟨h,k⟩:=count_at b ts hs _ rfl Xn;have AX:(ts.filter λt=>decide (b<=t)).length<=ts.length:=C9 _ _
  refine⟨_,h,?_⟩
  generalize(ts.filter λt=>decide (b<=t)).length=c at *
  have h4:(last-b)/gap<(c:Int)-o7:=by omega
  rw[Ci hg]at h4;have h6:((c:Int)-o7)*gap=((c:Int)-1)*gap-(o7-1)*gap:=by rw[<-Int.sub_mul];congr 1;omega
  have h7:((n-(ts.length-c):Nat):Int)=(c:Int)-1:=by omega
  rw[h7];omega
end Mg
namespace Mg
open L2 PySem PyProof.Rows
seal L2.VE L2.VS L2.pF L2.VT L2.VO L2.IG
variable{fd:fe}
def VJ(b:List fH)(i:Nat):bP:=match b.getD i (.Pass ⟨0,0,0,0⟩) with
 | .If c _ _ _=>c
 |_=>.Name "" ⟨0,0,0,0⟩
abbrev Gp:=Int×Str×Str×Str
def iD(q:Gp):ai:=.tuple [.int q.1,.str q.2.1,.str q.2.2.1,.str q.2.2.2]
abbrev Pc:=Str×Str×Int×Int
variable{l:List Pc}
def nL(l:List Pc)(g:Str):Option Pc:=l.find? λq=>decide (q.1=g)
theorem xK(p:Pl)(g:Str):fZ (c6 p) g=(nL p.paces g).map rD:=by
 unfold c6 nL
 induction p.paces with
 |nil=>rfl
 |cons q l ih=>
  rw[aD,dA];by_cases h:q.1=g
  ·rw[dR h,qQ1 h];rfl
  ·rw[bU h,qQ0 h];exact ih
theorem xN{g:Str}{c:Pc}(h:nL l g=some c):c∈l/\c.1=g:=by
 unfold nL at h;exact⟨jB h,by have:=xZ h;exact qQ4 this⟩
def y6(kv:List (Str×ai))(g:Str)(t:Int):Int:=match fZ kv g with
 |some (.int l)=>l
 |_=>t
def yq(kv:List (Str×ai))(q:Gp):Int:=if y6 kv q.2.1 q.1>q.1 then y6 kv q.2.1 q.1 else q.1
def mM(l:List Pc)(kv:List (Str×ai))(q:Gp):List (Str×ai):=match nL l q.2.1 with
 |none=>kv
 |some c=>tK kv q.2.1 (.int (yq kv q+c.2.2.2))
def dE(l:List Pc)(day:List Gp)(i:Nat):List (Str×ai):=(day.take i).foldl (mM l) []
def M5(l:List Pc)(kv:List (Str×ai))(q:Gp):Bool:=match nL l q.2.1 with
 |none=>false
 |some c=>!decide (q.2.2.1=c.2.1)||decide ((c.2.2.1-1)*c.2.2.2<yq kv q-q.1)
def RD:Gp:=(0,"","","")
def sC(l:List Pc)(day:List Gp)(i:Nat):Bool:=M5 l (dE l day i) (day.getD i RD)
def Ap(l:List Pc)(day:List Gp):Option Nat:=(bS day.length).find? (sC l day)
def G':Option Nat->ai
 |none=>.none
 |some n=>.int n
theorem kj{day:List Gp}{i:Nat}{q:Gp}(h:day[i]?=some q):dE l day (i+1)=mM l (dE l day i) q:=by
 unfold dE;rw[cV,h,eA];rfl
theorem Cj(kv:List (Str×ai))(y x:Str)(d:ai):fZ (tK kv y d) x=if y=x then some d else fZ kv x:=by
 have xI:∀kv:List (Str×ai),(kv.any λq=>decide (q.1=y))=true->fZ (mD kv y d) x=if y=x then some d else fZ kv x:=by
  intro kv
  induction kv with
  |nil=>intro h;simp at h
  |cons q kv ih=>
   intro h;have e:mD (q::kv) y d=(if q.1=y then(q.1,d)else q)::mD kv y d:=rfl
   rw[e];by_cases hq:q.1=y
   ·rw[qQ3 hq]
    by_cases hx:y=x
    ·rw[qQ3 hx,dR (show(q.1,d).1=x from hq.trans hx)]
    ·rw[qQ2 hx,bU (show ¬(q.1,d).1=x from λz=>hx (hq.symm.trans z)),bU (λz=>hx (hq.symm.trans z))]
     by_cases ha:(kv.any λq=>decide (q.1=y))=true
     ·rw[ih ha,qQ2 hx]
     ·have:mD kv y d=kv:=by
       unfold mD;refine(fq λz hz=>?_).trans (wc _)
       have:¬z.1=y:=λw=>ha (jx.mpr ⟨z,hz,qQ1 w⟩)
       rw[qQ2 this];rfl
      rw[this]
   ·rw[qQ2 hq]
    have ha:(kv.any λq=>decide (q.1=y))=true:=by
     rw[gx,qQ0 hq,sP]at h;exact h
    by_cases Kn:q.1=x
    ·rw[dR Kn,dR Kn,qQ2 (λz=>hq (Kn.trans z.symm))]
    ·rw[bU Kn,bU Kn];exact ih ha
 unfold tK
 split
 ·exact xI kv (by assumption)
 ·rename_i ha
  induction kv with
  |nil=>
   by_cases hx:y=x
   ·rw[qQ3 hx];exact dR hx
   ·rw[qQ2 hx];exact bU hx
  |cons q kv ih=>
   have hq:¬q.1=y:=λw=>ha (by rw[gx,qQ1 w];rfl)
   have Yo:¬(kv.any λq=>decide (q.1=y))=true:=λw=>ha (by rw[gx,w,uR])
   rw[List.cons_append];by_cases Kn:q.1=x
   ·rw[dR Kn,dR Kn,qQ2 (λz=>hq (Kn.trans z.symm))]
   ·rw[bU Kn,bU Kn];exact ih Yo
theorem Ko(kv:List (Str×ai))(y:Str)(d:ai):(tK kv y d).length<=kv.length+1:=by
 unfold tK mD
 split
 ·rw[aj];omega
 ·rw[bq,eT];exact aA _
theorem Ck(l:List Pc)(day:List Gp):∀i,(dE l day i).length<=i:=by
 intro i
 induction i with
 |zero=>exact aA _
 |succ i ih=>
  cases h:day[i]? with
  |none=>
   have:dE l day (i+1)=dE l day i:=by unfold dE;rw[cV,h];simp
   rw[this];omega
  |some q=>
   rw[kj h];unfold mM
   split
   ·omega
   ·have:=Ko (dE l day i) q.2.1 (.int (yq (dE l day i) q+(by assumption:Pc).2.2.2));omega
def Oy(kv:List (Str×ai)):Prop:=∀g v,fZ kv g=some v->∃i,v=.int i
theorem Ej(l:List Pc)(day:List Gp):∀i,Oy (dE l day i):=by
 intro i
 induction i with
 |zero=>intro g v h;cases h
 |succ i ih=>
  cases h:day[i]? with
  |none=>
   have:dE l day (i+1)=dE l day i:=by unfold dE;rw[cV,h];simp
   rw[this];exact ih
  |some q=>
   rw[kj h];unfold mM
   split
   ·exact ih
   ·intro g v hv
    rw[Cj]at hv
    split at hv
    ·exact⟨_,(cQ hv).symm⟩
    ·exact ih g v hv
theorem Kq{kv:List (Str×ai)}(h:Oy kv)(g:Str)(t:Int):(fZ kv g).getD (.int t)=.int (y6 kv g t):=by
 unfold y6;cases e:fZ kv g with
 |none=>rfl
 |some v=>obtain⟨i,rfl⟩:=h g v e;rfl
section
variable{P:bC}{w:bY}{K:ao}{mg:Str->Option aB}{base:cR}{f:aI}{k:Nat}
abbrev VL:List Str:=["plant","day","frees","number","good","pace","let_in"]
theorem Oz:cY VL ["plant","day"] (a_ (top 1)):=⟨rfl,rfl,rfl,by symm,rfl,by symm,by symm⟩
def Rpf(ds:List ai)(d:ai):Prop:=∃(p:Pl)(day:List Gp),ds=[iz p,.list (day.map iD)]/\lg p/\day.length<=1000/\(∀q∈day,lH q.2.2.1)/\d=G' (Ap p.paces day)
theorem Yq(F:mR K "pace_fault" "pace_fault" (top 1) f fd)(n1:mg "enumerate"=none)(n2:mg "max"=none):fY P w K mg base iP 1 f fd ["plant","day"] (ig K Rpf):=
 kN F Oz (λ_ _ h=>by obtain⟨_,_,rfl,_⟩:=h;rfl) λ_ _ h=>by
  obtain⟨p,day,rfl,ok,dl,dk,rfl⟩:=h;intro eZ A outer s H E hr;have nd:VL.Nodup:=Oz.nd;refine wW λB0 B σ H0 Hh D fr HG=>?_
  refine c0 (Qy fr 2 nd (λ_=>rfl) λq σ1 H1 G1=>?_)
  have m:∀k,lG (DR K q (dE p.paces day k)):=λk=>DR.mono
  have look:∀(i:Nat)(g:Gp)(hi:i<day.length)(hg:day[i]=g)(D':Ends)C0 σ' Ha Hb,OF K C0 B (DR K q (dE p.paces day i)) Ha Hb σ' [.val (iz p),.val (.list (day.map iD)),.ref q,.val (.int (i:Nat)),.val (iD g),.un,.un]->
    (sC p.paces day i=true->∀v Hc Hd,dQ C0 B Hc Hd->Rep K Hc v (.int (i:Nat))->D'.rt v Hd)->(sC p.paces day i=false->∀σ2 Hc Hd,OF K C0 B (DR K q (dE p.paces day (i+1))) Hc Hd σ2 [.val (iz p),.val (.list (day.map iD)),.ref q,.un,.un,.un,.un]->D'.nx σ2 Hd)->
    u9 (jq iP P w K mg base VL "pace_fault" (a_ (top 1)) f eZ A outer s H E).rP (suite (dq (top 1)) 1) D' σ' Hb:=λi g hi hg D' C0 σ' Ha Hb G Yr hnx=>by
   have eg:day.getD i RD=g:=by rw[aG,au hi,hg];rfl
   cases hc:nL p.paces g.2.1 with
   |none=>
    have UY:sC p.paces day i=false:=by unfold sC M5;rw[eg,hc]
    have rE:dE p.paces day (i+1)=dE p.paces day i:=by
     rw[kj (q:=g) (by rw[au hi,hg])]
     unfold mM;rw[hc]
    refine cK (N5 (m i) G (VT.to (Ja hr (b9 (ae 4 rfl) aK (bK (j:=1) rfl)) (jO (ae 0 rfl) (tU p))) (by rw[xK,hc];rfl)) λK3 K4 G1=>z_ ?_)
    have G2:=G1.forget (δ':=[.val (iz p),.val (.list (day.map iD)),.ref q,.un,.un,.un,.un]) (m i) ⟨.inr rfl,.inr rfl,.inr rfl,.inl rfl,.inl rfl,.inl rfl,.inl rfl,trivial⟩ rfl;rw[<-rE]at G2;exact hnx UY _ _ _ G2
   |some c=>
    obtain⟨c1,c2⟩:=xN hc;obtain⟨k1,k2,k3,k4⟩:=ok.paces c c1;have okg:lH g.2.2.1:=dk g (by rw[<-hg];exact dN _)
    have hv:fZ (c6 p) g.2.1=some (rD c):=by rw[xK,hc];rfl
    have UY:sC p.paces day i=(!decide (g.2.2.1=c.2.1)||decide ((c.2.2.1-1)*c.2.2.2<yq (dE p.paces day i) g-g.1)):=by
     unfold sC M5;rw[eg,hc]
    have rE:dE p.paces day (i+1)=tK (dE p.paces day i) g.2.1 (.int (yq (dE p.paces day i) g+c.2.2.2)):=by
     rw[kj (q:=g) (by rw[au hi,hg])]
     unfold mM;rw[hc]
    refine cK (N4 (m i) G (VT.to (Ja hr (b9 (ae 4 rfl) aK (bK (j:=1) rfl)) (jO (ae 0 rfl) (tU p))) (by rw[hv];rfl)) λK3 K4 G1=>?_)
    refine c0 (mF (m i) G1 (cO 5 (d:=rD c) (fN hr (jO (ae 0 rfl) (tU p)) (b9 (ae 4 rfl) aK (bK (j:=1) rfl)) hv) nd) rfl λσ2 Kc Kd G2=>?_)
    refine c0 (DL (m i) G2 2 6 (d:=.int (yq (dE p.paces day i) g)) rfl DR.rep (VE.to (h_ (ui rfl) (DH g.1 (y6 (dE p.paces day i) g.2.1 g.1)) (aq (b9 (ae 4 rfl) aK (bK (j:=0) rfl)) (aq (VE.to (Bp hr (ae 2 rfl) (b9 (ae 4 rfl) aK (bK (j:=1) rfl)) (b9 (d:=.int g.1) (ae 4 rfl) aK (bK (j:=0) rfl))) (Kq (Ej _ _ i) _ _)) aZ)) n2 rfl) rfl) rfl rfl (λσ3 MV MX G3=>?_) nd)
    have Q7:∀b,sC p.paces day i=b->VT (jq iP P w K mg base VL "pace_fault" (a_ (top 1)) f eZ A outer s H E).rP (VJ (suite (suite (dq (top 1)) 1) 0) 2) [.val (iz p),.val (.list (day.map iD)),.ref q,.val (.int (i:Nat)),.val (iD g),.val (rD c),.val (.int (yq (dE p.paces day i) g))] b:=λb hb=>by
     rw[UY]at hb;subst hb;refine iY (VT.to (mq hr (bw okg) (bw k2.ok.2) (b9 (ae 4 rfl) aK (bK (j:=2) rfl)) (b9 (ae 5 rfl) aK (bK (j:=0) rfl))) (by rw[bO])) (λ_=>IB (uo (ae 6 rfl) (b9 (ae 4 rfl) aK (bK (j:=0) rfl))) (mn (uo (b9 (ae 5 rfl) aK (bK (j:=1) rfl)) aK) (b9 (ae 5 rfl) aK (bK (j:=2) rfl)) (.inr ⟨by have:=k4.1;omega,by have:=k4.2;omega⟩)))
    cases hb:sC p.paces day i with
    |true=>
     exact c0 (N4 (m i) G3 (Q7 true hb) λOm Oo G4=>cK (Jw G4 (ae 3 rfl) (Yr hb)))
    |false=>
     refine c0 (N5 (m i) G3 (Q7 false hb) λOm Oo G4=>z_ ?_)
     refine cK (Qz G4 hr 2 rfl (b9 (ae 4 rfl) aK (bK (j:=1) rfl)) (fy (ae 6 rfl) (b9 (ae 5 rfl) aK (bK (j:=2) rfl))) (ja (by have:=Ck p.paces day i;omega)) λUO UQ G5=>?_)
     rw[<-rE]at G5;exact hnx hb _ _ _ (G5.forget (m (i+1)) ⟨.inr rfl,.inr rfl,.inr rfl,.inl rfl,.inl rfl,.inl rfl,.inl rfl,trivial⟩ rfl)
  have hlen:(j9 (day.map iD)).length=day.length:=by rw[e9,aj]
  have item:∀i d,(j9 (day.map iD))[i]?=some d->∃hi:i<day.length,d=.tuple [.int (i:Nat),iD day[i]]:=λi d hd=>by
   obtain⟨x,hx,rfl⟩:=kK hd;have hi:i<day.length:=by have:=(aJ.mp hx).1;rw[aj]at this;exact this
   rw[aF,au hi]at hx;cases hx;exact⟨hi,rfl⟩
  cases hf:Ap p.paces day with
  |none=>
   have pW:∀i,i<day.length->sC p.paces day i=false:=λi hi=>by
    have:=List.find?_eq_none.mp hf i (cw.mpr hi)
    simpa using this
   rw[hf]at HG;refine c0 (Jt (tgt:=.tup [3,4]) (ds:=j9 (day.map iD)) (λi=>DR K q (dE p.paces day i)) (λ_=>[.val (iz p),.val (.list (day.map iD)),.ref q,.un,.un,.un,.un]) m G1 dI rfl (qK (ds:=day.map iD) (ae 1 rfl) n1)
    (fQ rfl (bH (bE (i:=3) nd rfl (aY rfl)) (bH (bE (i:=4) nd rfl (aY rfl)) eU))) (λi d hd=>?_) (λσ2 Ha Hb G=>?_))
   ·obtain⟨hi,rfl⟩:=item i d hd
    exact⟨_,rfl,rfl,λD' C0 σ' di H' G qn=>look i _ hi rfl D' C0 σ' di H' G (λz=>by rw[pW i hi]at z;cases z) (λ_=>qn)⟩
   ·exact cK (Jw G gF HG)
  |some n=>
   have hn:n<day.length:=cw.mp (jB hf);have hb:sC p.paces day n=true:=xZ hf;have Q8:∀i,i<n->sC p.paces day i=false:=λi hi=>by
    obtain⟨_,as,bs,e1,e2⟩:=wg.mp hf;have hl:as.length=n:=by
     have h1:(bS day.length)[as.length]?=some n:=by rw[e1];simp
     rw[cg (by have:=qQ6 gw e1;simp at this;omega)]at h1
     exact cQ h1
    have:i∈as:=by
     have h2:(bS day.length)[i]?=some i:=cg (by omega)
     rw[e1,bX (by omega)]at h2
     exact bh h2
    have:=e2 i this;simpa using this
   rw[hf]at HG;refine c0 (QD (tgt:=.tup [3,4]) (ds:=j9 (day.map iD)) (λi=>DR K q (dE p.paces day i)) (λ_=>[.val (iz p),.val (.list (day.map iD)),.ref q,.un,.un,.un,.un]) m G1 dI rfl (qK (ds:=day.map iD) (ae 1 rfl) n1)
    (fQ rfl (bH (bE (i:=3) nd rfl (aY rfl)) (bH (bE (i:=4) nd rfl (aY rfl)) eU))) n (by omega) (λi d SR hd=>?_) (λd hd=>?_))
   ·obtain⟨hi,rfl⟩:=item i d hd
    exact⟨_,rfl,rfl,λD' C0 σ' di H' G qn=>look i _ hi rfl D' C0 σ' di H' G (λz=>by rw[Q8 i SR]at z;cases z) (λ_=>qn)⟩
   ·obtain⟨hi,rfl⟩:=item n d hd
    exact⟨_,rfl,rfl,λD' σ' Ha Hb hrt G=>look n _ hi rfl D' B0 σ' Ha Hb G (λ_ v Hc Hd g r=>hrt v Hd (HG v Hc Hd g r)) (λz=>by rw[hb]at z;cases z)⟩
end
def jL(day:List Gp)(i:Nat)(g:Str):List Int:=(day.take (i+1)).filterMap λq=>if decide (q.2.1=g)=true then some q.1 else none
def rH(c:Pc)(ts:List Int)(t b:Int):Bool:=decide (c.2.2.1+(t-b)/c.2.2.2<((ts.filter λz=>decide (b<=z)).length:Int))
def M6(l:List Pc)(day:List Gp)(i:Nat)(q:Gp):Bool:=match nL l q.2.1 with
 |none=>false
 |some c=>(jL day i q.2.1).any (rH c (jL day i q.2.1) q.1) || !decide (q.2.2.1=c.2.1)
def vJ(l:List Pc)(day:List Gp)(i:Nat):Bool:=M6 l day i (day.getD i RD)
def lR(l:List Pc)(day:List Gp):Option Nat:=(bS day.length).find? (vJ l day)
def Ys:ai->Option ai
 | .tuple [a,b,c,d]=>some (.tuple [a,.tuple [b,c,d]])
 |_=>none
theorem Fz(p:Pl):(p.paces.map iK).filterMap Ys=(c6 p).map L2.pairD:=by
 unfold c6;rw[bQ,aL];exact filterMap_some λk _=>rfl
def UZ(g:Str):ai->Option ai
 | .tuple [t,.str h,_,_]=>if decide (h=g)=true then some t else none
 |_=>none
theorem M7(g:Str)(l:List Gp):(l.map iD).filterMap (UZ g)=(l.filterMap λq=>if decide (q.2.1=g)=true then some q.1 else none).map .int:=by
 induction l with
 |nil=>rfl
 |cons q l ih=>
  rw[aD];by_cases h:q.2.1=g
  ·rw[cA (f:=UZ g) (b:=.int q.1) (by show(if decide (q.2.1=g)=true then some _ else none)=_;rw[qQ3 (qQ1 h)]),cA (b:=q.1) (by rw[qQ3 (qQ1 h)]),ih];rfl
  ·rw[dH (f:=UZ g) (by show(if decide (q.2.1=g)=true then some _ else none)=_;rw[qQ2 (by rw[qQ0 h];decide)]),dH (by rw[qQ2 (by rw[qQ0 h];decide)]),ih]
def VM(b:Int):ai->Option ai
 | .int z=>if decide (b<=z)=true then some (.int z)else none
 |_=>none
theorem M8(b:Int)(l:List Int):(l.map cW).filterMap (VM b)=(l.filter λz=>decide (b<=z)).map .int:=by
 induction l with
 |nil=>rfl
 |cons z l ih=>
  rw[aD,il];by_cases h:b<=z
  ·rw[cA (f:=VM b) (b:=.int z) (by show(if decide (b<=z)=true then some _ else none)=_;rw[qQ3 (qQ1 h)]),qQ3 (qQ1 h),ih];rfl
  ·rw[dH (f:=VM b) (by show(if decide (b<=z)=true then some _ else none)=_;rw[qQ2 (by rw[qQ0 h];decide)]),qQ2 (by rw[qQ0 h];decide),ih]
theorem Ek{p:Nat->Bool}{m n:Nat}(h:(bS m).find? p=some n):n<m/\p n=true/\∀i,i<n->p i=false:=by
 refine⟨cw.mp (jB h),xZ h,λi hi=>?_⟩
 obtain⟨_,as,bs,e1,e2⟩:=wg.mp h;have hl:as.length=n:=by
  have h1:(bS m)[as.length]?=some n:=by rw[e1];simp
  rw[cg (by have:=qQ6 gw e1;simp at this;omega)]at h1
  exact cQ h1
 have hm:=cw.mp (jB h);have:i∈as:=by
  have h2:(bS m)[i]?=some i:=cg (by omega)
  rw[e1,bX (by omega)]at h2
  exact bh h2
 have:=e2 i this;simpa using this
theorem y8{α:Type}{p:α->Bool}:∀{l:List α},l.any p=true->∃(j:Nat)(x:α),l[j]?=some x/\p x=true/\∀(i:Nat)(y:α),i<j->l[i]?=some y->p y=false
 | [],h=>by cases h
 |x::l,h=>by
  by_cases hx:p x=true
  ·exact⟨0,x,rfl,hx,λi y hi=>by omega⟩
  ·have hx:p x=false:=by simpa using hx
   rw[gx,hx,sP]at h;obtain⟨j,z,h1,h2,h3⟩:=y8 h;refine⟨j+1,z,by simpa using h1,h2,λi y hi hy=>?_⟩
   cases i with
   |zero=>cases hy;exact hx
   |succ i=>exact h3 i y (by omega) (by simpa using hy)
section
variable{P:bC}{w:bY}{K:ao}{mg:Str->Option aB}{base:cR}{f:aI}{k:Nat}
abbrev He:List Str:=["_law_h","_law_day","_law_paces","_law_number","_law_one","_law_kind","_law_burst","_law_gap","_law_times","_law_begin","_law_some"]
theorem OB:cY He ["_law_h","_law_day"] (a_ (top 46)):=⟨rfl,rfl,rfl,by symm,rfl,by symm,by symm⟩
structure U0(day:List Gp):Prop where
 len:day.length<=1000
 gd:∀q∈day,0<=q.1/\lH q.2.1/\lH q.2.2.1
def Rlb(ds:List ai)(d:ai):Prop:=∃(p:Pl)(day:List Gp),ds=[dY p,.list (day.map iD)]/\lg p/\(p.paces.map (·.1)).Nodup/\(∀q∈p.paces,1<=q.2.2.2)/\U0 day/\d=G' (lR p.paces day)
abbrev U1(p:Pl)(day:List Gp):List Slot:=[.val (dY p),.val (.list (day.map iD)),.val (gq (c6 p)),.un,.un,.un,.un,.un,.un,.un,.un]
theorem Yt(F:mR K "_law_breaks" "_law_breaks" (top 46) f fd)(n1:mg "enumerate"=none)(n2:mg "dict"=none)(n3:mg "len"=none):fY P w K mg base iP 1 f fd ["_law_h","_law_day"] (ig K Rlb):=
 kN F OB (λ_ _ h=>by obtain⟨_,_,rfl,_⟩:=h;rfl) λ_ _ h=>by
  obtain⟨p,day,rfl,ok,ML,pg,⟨dl,dk⟩,rfl⟩:=h;intro eZ A outer s H E hr;have nd:He.Nodup:=OB.nd;have n4:(["_law_gate","_law_kind","_law_burst","_law_gap"]:List Str).Nodup:=by symm
  have b7:=ok.an;refine aP (cO 2 (d:=gq (c6 p)) (Bu (l:=c6 p) (VO.ve (VO.to (eO (own:=["_law_gate","_law_kind","_law_burst","_law_gap"]) (cap:=[]) (N:=["_law_gate","_law_kind","_law_burst","_law_gap"]) (cl:=[]) (tgt:=.tup [0,1,2,3]) (F:=Ys) (ds:=p.paces.map iK) rfl ⟨rfl,by symm,by symm,rfl,rfl,by simp⟩ (fE (fN hr (ae 0 rfl) aM (tN p))) (λf s3 H3=>fQ rfl (bH (bE (i:=0) n4 rfl (aY rfl)) (bH (bE (i:=1) n4 rfl (aY rfl)) (bH (bE (i:=2) n4 rfl (aY rfl)) (bH (bE (i:=3) n4 rfl (aY rfl)) eU))))) rfl (small (by rw[aj];omega)) (λd hd=>?_)) (Fz p))) (by rw[oT];exact ML) rfl n2) nd) ?_
  ·obtain⟨q,hq,rfl⟩:=aE.mp hd
   refine⟨_,rfl,λf s3 H3=>eN,λr hC f s3 H3=>?_⟩
   cases hC;exact gy (aq (ae 0 rfl) (aq (gy (aq (ae 1 rfl) (aq (ae 2 rfl) (aq (ae 3 rfl) aZ)))) aZ))
  have hlen:(j9 (day.map iD)).length=day.length:=by rw[e9,aj]
  have item:∀i d,(j9 (day.map iD))[i]?=some d->∃hi:i<day.length,d=.tuple [.int (i:Nat),iD day[i]]:=λi d hd=>by
   obtain⟨x,hx,rfl⟩:=kK hd;have hi:i<day.length:=by have:=(aJ.mp hx).1;rw[aj]at this;exact this
   rw[aF,au hi]at hx;cases hx;exact⟨hi,rfl⟩
  have one:∀(i:Nat)(hi:i<day.length)(c:Pc),nL p.paces day[i].2.1=some c->
    (vJ p.paces day i=true->pF (jq iP P w K mg base He "_law_breaks" (a_ (top 46)) f eZ A outer s H E).rP ((suite (dq (top 46)) 1).drop 1) [.val (dY p),.val (.list (day.map iD)),.val (gq (c6 p)),.val (.int (i:Nat)),.val (iD day[i]),.un,.un,.un,.un,.un,.un] (.rt (.int (i:Nat))))/\
    (vJ p.paces day i=false->pF (jq iP P w K mg base He "_law_breaks" (a_ (top 46)) f eZ A outer s H E).rP ((suite (dq (top 46)) 1).drop 1) [.val (dY p),.val (.list (day.map iD)),.val (gq (c6 p)),.val (.int (i:Nat)),.val (iD day[i]),.un,.un,.un,.un,.un,.un] (.nx (U1 p day))):=λi hi c hc=>by
   obtain⟨c1,c2⟩:=xN hc;obtain⟨k1,k2,k3,k4⟩:=ok.paces c c1;have k5:=pg c c1
   generalize hg:day[i]=g at *
   have VN:g∈day:=by rw[<-hg];exact dN _
   obtain⟨g1,g2,g3⟩:=dk g VN;have hv:fZ (c6 p) g.2.1=some (rD c):=by rw[xK,hc];rfl
   have eg:day.getD i RD=g:=by rw[aG,au hi,hg];rfl
   have UY:vJ p.paces day i=((jL day i g.2.1).any (rH c (jL day i g.2.1) g.1) || !decide (g.2.2.1=c.2.1)):=by
    unfold vJ M6;rw[eg,hc]
   have htl:(jL day i g.2.1).length<=1000:=by
    unfold jL;exact bZ (hG _ _) (by rw[dz];omega)
   have Q9:((day.take (i+1)).map iD).filterMap (UZ g.2.1)=(jL day i g.2.1).map .int:=M7 _ _
   generalize jL day i g.2.1=ts at *
   have nc1:(["_law_other","_law_one"]:List Str).Nodup:=by symm
   have nc2:(["_law_time","_law_begin"]:List Str).Nodup:=by symm
   have key:∀o,pF (jq iP P w K mg base He "_law_breaks" (a_ (top 46)) f eZ A outer s H E).rP ((suite (dq (top 46)) 1).drop 3) [.val (dY p),.val (.list (day.map iD)),.val (gq (c6 p)),.val (.int (i:Nat)),.val (iD g),.val (.str c.2.1),.val (.int c.2.2.1),.val (.int c.2.2.2),.val (.list (ts.map .int)),.un,.un] o->
     pF (jq iP P w K mg base He "_law_breaks" (a_ (top 46)) f eZ A outer s H E).rP ((suite (dq (top 46)) 1).drop 1) [.val (dY p),.val (.list (day.map iD)),.val (gq (c6 p)),.val (.int (i:Nat)),.val (iD g),.un,.un,.un,.un,.un,.un] o:=λo ho=>by
    refine aP (DG (.tup [5,6,7]) (fN hr (ae 2 rfl) (b9 (d:=.str g.2.1) (ae 4 rfl) aK (bK (j:=1) rfl)) hv) (fQ rfl (bH (bE (i:=5) nd rfl (aY rfl)) (bH (bE (i:=6) nd rfl (aY rfl)) (bH (bE (i:=7) nd rfl (aY rfl)) eU)))) rfl) ?_
    refine aP (vY 8 (own:=["_law_other"]) (cap:=[4]) (N:=["_law_other","_law_one"]) (tgt:=.one 0) (F:=UZ g.2.1) (ds:=(day.take (i+1)).map iD) rfl ⟨rfl,by symm,by symm,rfl,rfl,?_⟩ (fE (VE.to (VO.ve (iF (ds:=day.map iD) (ae 1 rfl) .no (.yes (fy (ae 3 rfl) aK)))) (by rw[show((i:Nat):Int)+1=((i+1:Nat):Int)from rfl,wO,sV]))) (λf s3 H3=>bE (i:=0) nc1 rfl (aY rfl)) rfl (small (by rw[aj,dz];omega)) (λd hd=>?_) nd) ?_
    ·intro j hj
     rcases av.mp hj with rfl|hj
     ·exact⟨(by show(4:Nat)<11;decide),aY rfl,rfl⟩
     ·cases hj
    ·obtain⟨z,hz,rfl⟩:=aE.mp hd
     have hzm:z∈day:=rh hz;refine⟨_,rfl,λf s3 H3=>?_,λr hC f s3 H3=>?_⟩
     ·refine tG (VT.to (bN hr (bw (dk z hzm).2.1) (bw g2) (b9 (ae 0 rfl) aK (bK (j:=1) rfl)) (b9 (ae 1 rfl) aK (bK (j:=1) rfl))) ?_)
      rw[bO];show decide (z.2.1=g.2.1)=(if decide (z.2.1=g.2.1)=true then some (cW z.1)else none).isSome
      by_cases h:z.2.1=g.2.1
      ·rw[qQ1 h];rfl
      ·rw[qQ0 h];rfl
     ·have hC:(if decide (z.2.1=g.2.1)=true then some (cW z.1)else none)=some r:=hC
      split at hC
      ·cases hC;exact b9 (ae 0 rfl) aK (bK (j:=0) rfl)
      ·cases hC
    rw[Q9];exact kM 8 rfl ho
   have Yu:∀(b:Int)(o:Out),(rH c ts g.1 b=true->o=.rt (.int (i:Nat)))->(rH c ts g.1 b=false->o=.nx [.val (dY p),.val (.list (day.map iD)),.val (gq (c6 p)),.val (.int (i:Nat)),.val (iD g),.val (.str c.2.1),.val (.int c.2.2.1),.val (.int c.2.2.2),.val (.list (ts.map .int)),.un,.un])->
     pF (jq iP P w K mg base He "_law_breaks" (a_ (top 46)) f eZ A outer s H E).rP (suite (suite (dq (top 46)) 1) 3) [.val (dY p),.val (.list (day.map iD)),.val (gq (c6 p)),.val (.int (i:Nat)),.val (iD g),.val (.str c.2.1),.val (.int c.2.2.1),.val (.int c.2.2.2),.val (.list (ts.map .int)),.val (.int b),.un] o:=λb o h1 h2=>by
    refine aP (cO 10 (d:=.int ((ts.filter λz=>decide (b<=z)).length:Int)) (VE.to (nG (ds:=(ts.filter λz=>decide (b<=z)).map .int) (VO.ve (VO.to (eO (own:=["_law_time"]) (cap:=[9]) (N:=["_law_time","_law_begin"]) (tgt:=.one 0) (F:=VM b) (ds:=ts.map .int) rfl ⟨rfl,by symm,by symm,rfl,rfl,?_⟩ (fE (ae 8 rfl)) (λf s3 H3=>bE (i:=0) nc2 rfl (aY rfl)) rfl (small (by rw[aj];omega)) (λd hd=>?_)) (M8 b ts))) n3) (by rw[aj])) nd) ?_
    ·intro j hj
     rcases av.mp hj with rfl|hj
     ·exact⟨(by show(9:Nat)<11;decide),aY rfl,rfl⟩
     ·cases hj
    ·obtain⟨z,hz,rfl⟩:=aE.mp hd
     refine⟨_,rfl,λf s3 H3=>?_,λr hC f s3 H3=>?_⟩
     ·refine tG (VT.to (S6 (ae 1 rfl) (ae 0 rfl)) ?_)
      show decide (b<=z)=(if decide (b<=z)=true then some (cW z)else none).isSome
      by_cases h:b<=z
      ·rw[qQ1 h];rfl
      ·rw[qQ0 h];rfl
     ·have hC:(if decide (b<=z)=true then some (cW z)else none)=some r:=hC
      split at hC
      ·cases hC;exact ae 0 rfl
      ·cases hC
    have Q7:VT (jq iP P w K mg base He "_law_breaks" (a_ (top 46)) f eZ A outer s H E).rP (VJ (suite (suite (dq (top 46)) 1) 3) 1) [.val (dY p),.val (.list (day.map iD)),.val (gq (c6 p)),.val (.int (i:Nat)),.val (iD g),.val (.str c.2.1),.val (.int c.2.2.1),.val (.int c.2.2.2),.val (.list (ts.map .int)),.val (.int b),.val (.int ((ts.filter λz=>decide (b<=z)).length:Int))] (rH c ts g.1 b):=
     IB (ae 10 rfl) (fy (ae 6 rfl) (j8 (uo (b9 (d:=.int g.1) (ae 4 rfl) aK (bK (j:=0) rfl)) (ae 9 rfl)) (ae 7 rfl) ⟨by omega,by have:=k4.2;omega⟩))
    cases VQ:rH c ts g.1 b with
    |true=>
     rw[VQ]at Q7;rw[h1 VQ];exact dU (eR Q7 (bJ (cy (ae 3 rfl)))) rfl
    |false=>
     rw[VQ]at Q7;rw[h2 VQ];exact lK (bJ (bW Q7 bL)) ⟨.inr rfl,.inr rfl,.inr rfl,.inr rfl,.inr rfl,.inr rfl,.inr rfl,.inr rfl,.inr rfl,.inl rfl,.inl rfl,trivial⟩
   have kt:VT (jq iP P w K mg base He "_law_breaks" (a_ (top 46)) f eZ A outer s H E).rP (VJ (suite (dq (top 46)) 1) 4) [.val (dY p),.val (.list (day.map iD)),.val (gq (c6 p)),.val (.int (i:Nat)),.val (iD g),.val (.str c.2.1),.val (.int c.2.2.1),.val (.int c.2.2.2),.val (.list (ts.map .int)),.un,.un] (!decide (g.2.2.1=c.2.1)):=
    VT.to (mq hr (bw g3) (bw k2.ok.2) (b9 (ae 4 rfl) aK (bK (j:=2) rfl)) (ae 5 rfl)) (by rw[bO])
   have U2:(ts.any (rH c ts g.1)=false)->∀o,pF (jq iP P w K mg base He "_law_breaks" (a_ (top 46)) f eZ A outer s H E).rP ((suite (dq (top 46)) 1).drop 4) [.val (dY p),.val (.list (day.map iD)),.val (gq (c6 p)),.val (.int (i:Nat)),.val (iD g),.val (.str c.2.1),.val (.int c.2.2.1),.val (.int c.2.2.2),.val (.list (ts.map .int)),.un,.un] o->
     pF (jq iP P w K mg base He "_law_breaks" (a_ (top 46)) f eZ A outer s H E).rP ((suite (dq (top 46)) 1).drop 3) [.val (dY p),.val (.list (day.map iD)),.val (gq (c6 p)),.val (.int (i:Nat)),.val (iD g),.val (.str c.2.1),.val (.int c.2.2.1),.val (.int c.2.2.2),.val (.list (ts.map .int)),.un,.un] o:=λDu o ho=>by
    refine aP (qd (tgt:=.one 9) (ds:=ts.map .int) (o:=.nx [.val (dY p),.val (.list (day.map iD)),.val (gq (c6 p)),.val (.int (i:Nat)),.val (iD g),.val (.str c.2.1),.val (.int c.2.2.1),.val (.int c.2.2.2),.val (.list (ts.map .int)),.un,.un]) dI rfl (fE (ae 8 rfl)) (bE (i:=9) nd rfl (b_ rfl)) (λ_=>[.val (dY p),.val (.list (day.map iD)),.val (gq (c6 p)),.val (.int (i:Nat)),.val (iD g),.val (.str c.2.1),.val (.int c.2.2.1),.val (.int c.2.2.2),.val (.list (ts.map .int)),.un,.un]) (ts.map cW).length rfl (aA _) (λj d hj hd=>?_) (.inl ⟨rfl,rfl⟩)) ho
    rw[aF]at hd;cases hb:ts[j]? with
    |none=>rw[hb]at hd;cases hd
    |some b=>
     rw[hb]at hd;cases hd;have hf:rH c ts g.1 b=false:=by
      have:=uO.mp Du b (bh hb);simpa using this
     exact⟨_,rfl,Yu b _ (λz=>by rw[hf]at z;cases z) (λ_=>rfl)⟩
   rw[UY];refine⟨λhb=>key _ ?_,λhb=>key _ ?_⟩
   ·cases ha:ts.any (rH c ts g.1) with
    |true=>
     obtain⟨j,b,j1,j2,j3⟩:=y8 ha;refine dU (qd (tgt:=.one 9) (ds:=ts.map .int) (o:=.rt (.int (i:Nat))) dI rfl (fE (ae 8 rfl)) (bE (i:=9) nd rfl (b_ rfl)) (λ_=>[.val (dY p),.val (.list (day.map iD)),.val (gq (c6 p)),.val (.int (i:Nat)),.val (iD g),.val (.str c.2.1),.val (.int c.2.2.1),.val (.int c.2.2.2),.val (.list (ts.map .int)),.un,.un]) j rfl (by have:=(aJ.mp j1).1;rw[aj];omega) (λj' d hj hd=>?_) (.inr ⟨.int b,_,by rw[aF,j1];rfl,rfl,rfl,Yu b _ (λ_=>rfl) (λz=>by rw[j2]at z;cases z)⟩)) rfl
     rw[aF]at hd;cases hb:ts[j']? with
     |none=>rw[hb]at hd;cases hd
     |some b'=>
      rw[hb]at hd;cases hd;have hf:=j3 j' b' hj hb;exact⟨_,rfl,Yu b' _ (λz=>by rw[hf]at z;cases z) (λ_=>rfl)⟩
    |false=>
     rw[ha,sP]at hb;rw[hb]at kt;exact U2 ha _ (dU (eR kt (bJ (cy (ae 3 rfl)))) rfl)
   ·rw[Bool.or_eq_false_iff]at hb
    rw[hb.2]at kt;exact U2 hb.1 _ (lK (bJ (bW kt bL)) ⟨.inr rfl,.inr rfl,.inr rfl,.inl rfl,.inl rfl,.inl rfl,.inl rfl,.inl rfl,.inl rfl,.inl rfl,.inl rfl,trivial⟩)
  have non:∀(i:Nat)(hi:i<day.length),nL p.paces day[i].2.1=none->vJ p.paces day i=false:=λi hi hc=>by
   unfold vJ M6;rw[show day.getD i RD=day[i] by rw[aG,au hi];rfl,hc]
  have ask:∀(i:Nat)(hi:i<day.length),VT (jq iP P w K mg base He "_law_breaks" (a_ (top 46)) f eZ A outer s H E).rP (VJ (suite (dq (top 46)) 1) 0) [.val (dY p),.val (.list (day.map iD)),.val (gq (c6 p)),.val (.int (i:Nat)),.val (iD day[i]),.un,.un,.un,.un,.un,.un] (!(nL p.paces day[i].2.1).isSome):=λi hi=>
   VT.to (Gn hr (b9 (d:=.str day[i].2.1) (ae 4 rfl) aK (bK (j:=1) rfl)) (ae 2 rfl)) (by rw[xK];cases nL p.paces day[i].2.1<;>rfl)
  have step:∀(i:Nat)(hi:i<day.length),vJ p.paces day i=false->TQ (jq iP P w K mg base He "_law_breaks" (a_ (top 46)) f eZ A outer s H E).rP (suite (dq (top 46)) 1) [.val (dY p),.val (.list (day.map iD)),.val (gq (c6 p)),.val (.int (i:Nat)),.val (iD day[i]),.un,.un,.un,.un,.un,.un] (U1 p day):=λi hi hb=>by
   have a:=ask i hi;cases hc:nL p.paces day[i].2.1 with
   |none=>
    rw[hc]at a;exact Jx a ⟨.inr rfl,.inr rfl,.inr rfl,.inl rfl,.inl rfl,.inl rfl,.inl rfl,.inl rfl,.inl rfl,.inl rfl,.inl rfl,trivial⟩
   |some c=>
    rw[hc]at a;exact Jy a ((one i hi c hc).2 hb)
  cases hf:lR p.paces day with
  |none=>
   have pW:∀i,i<day.length->vJ p.paces day i=false:=λi hi=>by
    have:=List.find?_eq_none.mp hf i (cw.mpr hi)
    simpa using this
   refine aP (Fn (tgt:=.tup [3,4]) (ds:=j9 (day.map iD)) (o:=.nx (U1 p day)) dI rfl (qK (ds:=day.map iD) (ae 1 rfl) n1) (fQ rfl (bH (bE (i:=3) nd rfl (aY rfl)) (bH (bE (i:=4) nd rfl (b_ rfl)) eU))) (λ_=>U1 p day) day.length rfl (by omega) (λi d hi hd=>?_) (.inl ⟨hlen.symm,rfl⟩)) (bJ (cy gF))
   obtain⟨hi,rfl⟩:=item i d hd;exact⟨_,rfl,step i hi (pW i hi)⟩
  |some n=>
   obtain⟨hn,hb,Q8⟩:=Ek hf;have hd:(j9 (day.map iD))[n]?=some (.tuple [.int (n:Nat),iD day[n]]):=by
    have h1:(j9 (day.map iD))[n]?=some ((j9 (day.map iD))[n]'(by omega)):=au (by omega)
    obtain⟨_,h2⟩:=item n _ h1;rw[h1,h2]
   refine dU (Fn (tgt:=.tup [3,4]) (ds:=j9 (day.map iD)) (o:=.rt (.int (n:Nat))) dI rfl (qK (ds:=day.map iD) (ae 1 rfl) n1) (fQ rfl (bH (bE (i:=3) nd rfl (aY rfl)) (bH (bE (i:=4) nd rfl (b_ rfl)) eU))) (λ_=>U1 p day) n rfl (by omega) (λi d hi hd=>?_) (.inr ⟨_,_,hd,rfl,rfl,?_⟩)) rfl
   ·obtain⟨VH,rfl⟩:=item i d hd
    exact⟨_,rfl,step i VH (Q8 i hi)⟩
   ·have a:=ask n hn
    cases hc:nL p.paces day[n].2.1 with
    |none=>rw[non n hn hc]at hb;cases hb
    |some c=>
     rw[hc]at a;exact aP (bW a bL) ((one n hn c hc).1 hb)
end
end Mg
namespace Mg
open L2 PySem PyProof.Rows
variable{day:List Gp}{l:List Pc}
def fu(l:List Gp)(g:Str):List Int:=l.filterMap λq=>if decide (q.2.1=g)=true then some q.1 else none
theorem Cm(l:List Gp)(g:Str):fu l g=(l.filter λq=>decide (q.2.1=g)).map (·.1):=by
 unfold fu
 induction l with
 |nil=>rfl
 |cons q l ih=>
  rw[il];by_cases h:decide (q.2.1=g)=true
  ·rw[cA (b:=q.1) (by rw[qQ3 h]),qQ3 h,ih];rfl
  ·rw[dH (by rw[qQ2 h]),qQ2 h,ih]
theorem lS(l:List Gp)(q:Gp)(g:Str):fu (l ++ [q]) g=fu l g++(if q.2.1=g then [q.1]else []):=by
 unfold fu;rw[k6]
 congr 1
 by_cases h:q.2.1=g
 ·rw[qQ3 h,cA (b:=q.1) (by rw[qQ3 (qQ1 h)])];rfl
 ·rw[qQ2 h,dH (by rw[qQ2 (by rw[qQ0 h];decide)])];rfl
theorem FC{kv:List (Str×ai)}{q:Gp}{gap:Int}{ts:List Int}(h:fZ kv q.2.1=(rG gap ts).map λl=>cW (l+gap)):rG gap (ts ++ [q.1])=some (yq kv q):=by
 rw[xJ];unfold yq y6;rw[h];cases rG gap ts with
 |none=>
  show some q.1=some (if q.1>q.1 then q.1 else q.1)
  rw[qQ2 (by omega)]
 |some l=>
  show some (max q.1 (l+gap))=some (if l+gap>q.1 then l+gap else q.1)
  congr 1
  split<;>omega
theorem Hf(l:List Pc)(day:List Gp):∀i g,fZ (dE l day i) g=match nL l g with
  |none=>none
  |some c=>(rG c.2.2.2 (fu (day.take i) g)).map λz=>cW (z+c.2.2.2):=by
 intro i
 induction i with
 |zero=>
  intro g;have e:dE l day 0=[]:=rfl;rw[e,q_];cases nL l g<;>rfl
 |succ i ih=>
  intro g;cases h:day[i]? with
  |none=>
   have e1:dE l day (i+1)=dE l day i:=by unfold dE;rw[cV,h];simp
   rw[e1,ih g,cV,h];simp
  |some q=>
   have et:day.take (i+1)=day.take i ++ [q]:=by rw[cV,h];rfl
   rw[kj h,et,lS];unfold mM;cases hq:nL l q.2.1 with
   |none=>
    rw[ih g];by_cases hg:q.2.1=g
    ·subst hg;rw[hq]
    ·rw[qQ2 hg,du]
   |some c=>
    show fZ (tK _ _ _) g=_;rw[Cj];by_cases hg:q.2.1=g
    ·subst hg
     have:=ih q.2.1;rw[hq]at this;rw[qQ3 rfl,qQ3 rfl,hq];show _=(rG c.2.2.2 (fu (day.take i) q.2.1 ++ [q.1])).map _;rw[FC this];rfl
    ·rw[qQ2 hg,qQ2 hg,du]
     exact ih g
theorem M9(hg:∀q∈l,1<=q.2.2.2)(hs:nu (day.map (·.1))){i:Nat}(hi:i<day.length):sC l day i=vJ l day i:=by
 unfold sC vJ M5 M6;have eg:day.getD i RD=day[i]:=by rw[aG,au hi];rfl
 rw[eg];cases hc:nL l day[i].2.1 with
 |none=>rfl
 |some c=>
  have et:day.take (i+1)=day.take i ++ [day[i]]:=by rw[cV,au hi];rfl
  have Q9:jL day i day[i].2.1=fu (day.take i) day[i].2.1 ++ [day[i].1]:=by
   show fu (day.take (i+1)) _=_;rw[et,lS,qQ3 rfl]
  have U3:nu (jL day i day[i].2.1):=by
   show nu (fu (day.take (i+1)) _);rw[Cm];refine List.Pairwise.sublist ?_ hs
   exact(List.filter_sublist.trans (List.take_sublist _ _)).map _
  have hv:=Hf l day i day[i].2.1;rw[hc]at hv;have hl:=FC (q:=day[i]) (gap:=c.2.2.2) hv;obtain⟨z,h1,h2⟩:=Km (gap:=c.2.2.2) (o7:=c.2.2.1) (by have:=hg c (xN hc).1;omega) U3 (by rw[Q9];simp) day[i].1 (by rw[Q9];simp)
  rw[Q9,hl]at h1;cases h1
  show(!decide (day[i].2.2.1=c.2.1)||decide ((c.2.2.1-1)*c.2.2.2<yq (dE l day i) day[i]-day[i].1))=((jL day i day[i].2.1).any (rH c (jL day i day[i].2.1) day[i].1) || !decide (day[i].2.2.1=c.2.1))
  rw[Bool.or_comm]
  congr 1
  rw[fw,decide_eq_true_iff,jx,h2]
  constructor
  ·rintro⟨b,hb,hz⟩
   exact⟨b,hb,qQ1 hz⟩
  ·rintro⟨b,hb,hz⟩
   exact⟨b,hb,qQ4 hz⟩
theorem Aq(hg:∀q∈l,1<=q.2.2.2)(hs:nu (day.map (·.1))):Ap l day=lR l day:=by
 unfold Ap lR;have go:∀(js:List Nat),(∀j∈js,j<day.length)->js.find? (sC l day)=js.find? (vJ l day):=by
  intro js
  induction js with
  |nil=>intro _;rfl
  |cons j js ih=>
   intro h;rw[dA,dA,M9 hg hs (h j aO),ih λx hx=>h x (aR _ hx)]
 exact go _ λj hj=>cw.mp hj
end Mg
namespace Mg
open L2 PySem PyProof.Rows
seal L2.VE L2.VS L2.pF L2.VT L2.VO L2.IG
variable{day:List Gp}{p:Pl}
def max2(i j:Int):Int:=if j>i then j else i
def jl(day:List Gp):Int:=match day.getLast? with
 |some q=>q.1
 |none=>0
def FD(p:Pl):Str:=(p.kinds.getD 0 ("",none)).1
def Cp(p:Pl):Str:=(p.kinds.getD (p.kinds.length-1) ("",none)).1
def qZ(p:Pl)(g:Str):Str×Int×Int:=match nL p.paces g with
 |some c=>c.2
 |none=>(FD p,1,1)
def mN(p:Pl)(ef:Int)(day:List Gp)(m:Int):Int:=
 if(qZ p (pickOf p.gates "" m)).2.1<=((fu day (pickOf p.gates "" m)).length:Int) then
  max2 (jl day) ((fu day (pickOf p.gates "" m)).getD ((fu day (pickOf p.gates "" m)).length-(qZ p (pickOf p.gates "" m)).2.1.toNat) 0+(qZ p (pickOf p.gates "" m)).2.2-(if decide (m/50%ef=1)=true then 1 else 0))
 else jl day+m/7%3
def y9(p:Pl)(ef:Int)(m:Int):Str:=if m/300%(3*ef)=1 then Cp p else(qZ p (pickOf p.gates "" m)).1
def y_(m:Int):Str:=if m/9%2=0 then "" else "p"
def tW(p:Pl)(ef:Int)(day:List Gp)(m:Int):Gp:=(max2 (jl day) (mN p ef day m),pickOf p.gates "" m,y9 p ef m,y_ m)
def kR(p:Pl)(ef:Int)(cells:List Int):Nat->List Gp
 |0=>[]
 |i+1=>kR p ef cells i ++ [tW p ef (kR p ef cells i) (cz (cells.getD i 0) i)]
theorem xO(p:Pl)(ef:Int)(cells:List Int):∀i,(kR p ef cells i).length=i
 |0=>rfl
 |i+1=>by rw[kR,bq,xO p ef cells i];rfl
def uH(p:Pl)(day:List Gp):List (Str×List ai):=p.gates.map λg=>(g,(fu day g).map cW)
theorem Hg(p:Pl)(day:List Gp):(uH p day).map (·.1)=p.gates:=by
 unfold uH;rw[aL];exact wc _
theorem Kr(hn:p.gates.Nodup){j:Nat}{q:Gp}(hj:p.gates[j]?=some q.2.1):(uH p day).set j (q.2.1,(fu day q.2.1).map cW ++ [.int q.1])=uH p (day ++ [q]):=by
 refine fX λn=>?_
 have Qv:j<p.gates.length:=(aJ.mp hj).1;unfold uH;by_cases h:n=j
 ·subst h
  rw[bu (by rw[aj];exact Qv),aF,hj,fU,lS,qQ3 rfl,bx]
  rfl
 ·rw[bf (bV h),aF,aF]
  cases e:p.gates[n]? with
  |none=>rfl
  |some g=>
   have:¬q.2.1=g:=λz=>by
    subst z;obtain⟨a1,b1⟩:=aJ.mp e;obtain⟨a2,b2⟩:=aJ.mp hj;rcases uf h with kA|kA
    ·exact cZ.mp hn n j a1 a2 kA (by rw[b1,b2])
    ·exact cZ.mp hn j n a2 a1 kA (by rw[b1,b2])
   rw[fU,fU,lS,qQ2 this,du]
theorem Ks{g:Str}(hg:g∈p.gates):fZ ((uH p day).map λq=>(q.1,lu q.2)) g=some (.list ((fu day g).map .int)):=by
 unfold uH;rw[aL]
 revert hg
 induction p.gates with
 |nil=>intro hg;cases hg
 |cons h l ih=>
  intro hg;rw[aD];by_cases e:h=g
  ·subst e;exact dR rfl
  ·rw[bU e]
   exact ih ((av.mp hg).resolve_left λz=>e z.symm)
theorem FE{α:Type}{l:List α}{b:Nat}(h1:1<=b)(h2:b<=l.length):pj l (-(b:Int))=l[l.length-b]?:=by
 unfold pj Lr;rw[qQ2 (by omega),qQ3 (by omega)]
 show l[(-(b:Int)+(l.length:Int)).toNat]?=_
 congr 1
 omega
theorem Kt{g:Str}:(fZ (c6 p) g).getD (.tuple [.str (FD p),.int 1,.int 1])=.tuple [.str (qZ p g).1,.int (qZ p g).2.1,.int (qZ p g).2.2]:=by
 unfold qZ;rw[xK];cases nL p.paces g<;>rfl
theorem M_(m:Int):pj [aQ "",.str "p"] (m/9%2)=some (.str (y_ m)):=by
 unfold y_;have a1:0<=m/9%2:=bA _ (by omega)
 have a2:m/9%2<2:=bj _ (by omega)
 rcases(by omega:m/9%2=0\/m/9%2=1)with e|e<;>rw[e]<;>rfl
theorem Cq(day:List Gp)(g:Str):(fu day g).length<=day.length:=hG _ _
section
variable{P:bC}{w:bY}{K:ao}{mg:Str->Option aB}{base:cR}{f:aI}{k:Nat}
abbrev Yv:List Str:=["_law_h","_law_cells","_law_wild","_law_day","_law_paces","_law_times","_law_now","_law_k","_law_cell","_law_m","_law_gate","_law_kind","_law_burst","_law_gap","_law_early"]
theorem OD:cY Yv ["_law_h","_law_cells","_law_wild"] (a_ (top 47)):=⟨rfl,rfl,rfl,by symm,rfl,by symm,by symm⟩
structure M'(p:Pl):Prop where
 ok:lg p
 gn:p.gates.Nodup
 g1:1<=p.gates.length
 k1:1<=p.kinds.length
 pn:(p.paces.map (·.1)).Nodup
 pg:∀q∈p.paces,1<=q.2.2.1/\1<=q.2.2.2
def Rpd(ds:List ai)(d:ai):Prop:=∃(p:Pl)(cells:List Int)(ef:Int),ds=[dY p,jb cells,.int ef]/\M' p/\cells.length<=100/\1<=ef/\ef<=1000/\d=.list ((kR p ef cells cells.length).map iD)
theorem Yw{fd:fe}(F:mR K "_law_paced_day" "_law_paced_day" (top 47) f fd)(n:Na mg)(n2:mg "dict"=none)(n3:mg "max"=none)(n4:mg "int"=none)(C1:bM P w K mg base 1 "_law_mix" ["_law_cell","_law_k"] (ig K xk)):fY P w K mg base iP 2 f fd ["_law_h","_law_cells","_law_wild"] (ig K Rpd):=
 kN F OD (λ_ _ h=>by obtain⟨_,_,_,rfl,_⟩:=h;rfl) λ_ _ h=>by
  obtain⟨p,cells,ef,rfl,⟨ok,gn,gl,kl1,ML,pg⟩,AX,hw1,hw2,rfl⟩:=h;intro eZ A outer s H E hr;have nd:Yv.Nodup:=OD.nd;have m4:(["_law_gate","_law_kind","_law_burst","_law_gap"]:List Str).Nodup:=by symm
  have m1:(["_law_gate"]:List Str).Nodup:=by symm
  have b7:=ok.an;have b2:=ok.gn;refine wW λB0 B σ H0 Hh D fr HG=>?_
  refine c0 (QG fr 3 nd (λ_=>rfl) λd σ1 H1 G1=>?_)
  refine c0 (mF LR.mono G1 (cO 4 (d:=gq (c6 p)) (Bu (l:=c6 p) (VO.ve (VO.to (eO (own:=["_law_gate","_law_kind","_law_burst","_law_gap"]) (cap:=[]) (N:=["_law_gate","_law_kind","_law_burst","_law_gap"]) (cl:=[]) (tgt:=.tup [0,1,2,3]) (F:=Ys) (ds:=p.paces.map iK) rfl ⟨rfl,by symm,by symm,rfl,rfl,by simp⟩ (fE (fN hr (ae 0 rfl) aM (tN p))) (λf s3 H3=>fQ rfl (bH (bE (i:=0) m4 rfl (aY rfl)) (bH (bE (i:=1) m4 rfl (aY rfl)) (bH (bE (i:=2) m4 rfl (aY rfl)) (bH (bE (i:=3) m4 rfl (aY rfl)) eU))))) rfl (small (by rw[aj];omega)) (λdd hd=>?_)) (Fz p))) (by rw[oT];exact ML) rfl n2) nd) rfl λσ2 Kc Kd G2=>?_)
  ·obtain⟨q,hq,rfl⟩:=aE.mp hd
   refine⟨_,rfl,λf s3 H3=>eN,λr hC f s3 H3=>?_⟩
   cases hC;exact gy (aq (ae 0 rfl) (aq (gy (aq (ae 1 rfl) (aq (ae 2 rfl) (aq (ae 3 rfl) aZ)))) aZ))
  have hgs:(p.gates.map aQ).filterMap (λx=>match x with | .str y=>some y|_=>none)=p.gates:=by
   rw[bQ];exact(filterMap_some (g:=id) λk _=>rfl).trans (wc _)
  refine c0 (Mv (rs:=p.gates) G2 5 (by
   rw[<-hgs];refine JA (own:=["_law_gate"]) (cap:=[]) (N:=["_law_gate"]) (cl:=[]) (tgt:=.one 0) (ds:=p.gates.map .str) rfl ⟨rfl,by symm,by symm,rfl,rfl,by simp⟩ (fE (fN hr (ae 0 rfl) aM (tM p))) (λf s3 H3=>bE (i:=0) m1 rfl (aY rfl)) rfl (small (by rw[aj];omega)) (λdd hd=>?_)
   obtain⟨g,hg,rfl⟩:=aE.mp hd;refine⟨_,rfl,λf s3 H3=>eN,λr hC f s3 H3=>?_⟩
   cases hC;exact Mt (ae 0 rfl) (iH (ds:=[]) aZ)) gn rfl n2 nd (λ_=>rfl) λa σ3 MV MX G3=>?_)
  refine c0 (mF tL.mono G3 (cO 6 (d:=.int 0) aK nd) rfl λσ4 Om Oo G4=>?_)
  refine c0 (Jt (tgt:=.tup [7,8]) (ds:=j9 (cells.map .int)) (λi=>tL K d a ((kR p ef cells i).map iD) (uH p (kR p ef cells i))) (λi=>[.val (dY p),.val (jb cells),.val (.int ef),.ref d,.val (gq (c6 p)),.ref a,.val (.int (jl (kR p ef cells i))),.un,.un,.un,.un,.un,.un,.un,.un]) (λ_=>tL.mono) G4 dI rfl (qK (ds:=cells.map .int) (ae 1 rfl) n.Rn)
   (fQ rfl (bH (bE (i:=7) nd rfl (aY rfl)) (bH (bE (i:=8) nd rfl (aY rfl)) eU))) (λi dd hd=>?_) (λσ5 UO UQ G5=>?_))
  ·obtain⟨x,hx,rfl⟩:=kK hd
   have hi:i<cells.length:=by have:=(aJ.mp hx).1;rw[aj]at this;exact this
   obtain rfl:x=.int (cells.getD i 0):=by
    rw[aF,au hi]at hx;rw[aG,au hi];cases hx;rfl
   have Qd:=xO p ef cells i;have rE:kR p ef cells (i+1)=kR p ef cells i ++ [tW p ef (kR p ef cells i) (cz (cells.getD i 0) i)]:=rfl;have mlo:=Fs (cells.getD i 0) i;have mhi:=MA (cells.getD i 0) i
   generalize Yx:kR p ef cells i=day at *
   have hm0:∃m,m=cz (cells.getD i 0) i:=⟨_,rfl⟩;obtain⟨m,hm⟩:=hm0;rw[<-hm]at rE mlo mhi;obtain⟨ga,VN⟩:=Ft (l:=p.gates) (d:="") (F:=aQ) gl m;have VR:tW p ef day m=(max2 (jl day) (mN p ef day m),pickOf p.gates "" m,y9 p ef m,y_ m):=rfl;have ee:mN p ef day m=if(qZ p (pickOf p.gates "" m)).2.1<=((fu day (pickOf p.gates "" m)).length:Int)then max2 (jl day) ((fu day (pickOf p.gates "" m)).getD ((fu day (pickOf p.gates "" m)).length-(qZ p (pickOf p.gates "" m)).2.1.toNat) 0+(qZ p (pickOf p.gates "" m)).2.2-(if decide (m/50%ef=1)=true then 1 else 0))else jl day+m/7%3:=rfl
   have ke:y9 p ef m=if m/300%(3*ef)=1 then Cp p else(qZ p (pickOf p.gates "" m)).1:=rfl
   have cb:1<=(qZ p (pickOf p.gates "" m)).2.1:=by
    unfold qZ;cases hc:nL p.paces (pickOf p.gates "" m) with
    |none=>exact x3 _
    |some c=>exact(pg c (xN hc).1).1
   have htl:=Cq day (pickOf p.gates "" m);have RG:=Ks (p:=p) (day:=day) VN;have cv:=Kt (p:=p) (g:=pickOf p.gates "" m);obtain⟨j,Qv,hje⟩:=List.getElem_of_mem VN;have hj:p.gates[j]?=some (pickOf p.gates "" m):=by rw[au Qv,hje]
   have hkj:(uH p day)[j]?=some (pickOf p.gates "" m,(fu day (pickOf p.gates "" m)).map cW):=by unfold uH;rw[aF,hj];rfl
   have xI:=λq (h:q.2.1=pickOf p.gates "" m)=>Kr gn (day:=day) (j:=j) (q:=q) (by rw[h];exact hj)
   generalize pickOf p.gates "" m=g at *
   generalize qZ p g=c at *
   generalize Q9:fu day g=ts at *
   have gsl:(p.gates.map aQ).length=p.gates.length:=aj _;have k0:pj (p.kinds.map g0) 0=some (.tuple [.str (FD p),nJ (p.kinds.getD 0 ("",none)).2]):=bK (j:=0) (by
    rw[aF,au (by omega)]
    unfold FD;rw[aG,au (by omega)];rfl)
   have kL:pj (p.kinds.map g0) (-1)=some (.tuple [.str (Cp p),nJ (p.kinds.getD (p.kinds.length-1) ("",none)).2]):=(FE (b:=1) (by omega) (by rw[aj];omega)).trans (by
    rw[aj,aF,au (by omega)]
    unfold Cp;rw[aG,au (by omega)];rfl)
   refine⟨_,rfl,rfl,λD' C0 σ' di H' G qn=>?_⟩
   refine c0 (mF tL.mono G (cO 9 (d:=.int m) (bT C1 hr (aq (ae 8 rfl) (aq (ae 7 rfl) aZ)) ⟨cells.getD i 0,i,rfl,by omega,by omega,by rw[hm]⟩) nd) rfl λσa Haa Hba Ga=>?_)
   refine c0 (mF tL.mono Ga (cO 10 (d:=.str g) (gK (fN hr (ae 0 rfl) aM (tM p)) (eV (ae 9 rfl) (VE.to (nG (ds:=p.gates.map .str) (fN hr (ae 0 rfl) aM (tM p)) n.len) (by rw[gsl])) (by omega)) ga) nd) rfl λσb Hab Hbb Gb=>?_)
   refine c0 (mF tL.mono Gb (DG (.tup [11,12,13]) (VE.to (k:=.tuple [.str c.1,.int c.2.1,.int c.2.2]) (Bp hr (ae 4 rfl) (ae 10 rfl) (gy (aq (b9 (gK (fN hr (ae 0 rfl) aM (xl p)) aK k0) aK (bK (j:=0) rfl)) (aq aK (aq aK aZ))))) cv) (fQ rfl (bH (bE (i:=11) nd rfl (aY rfl)) (bH (bE (i:=12) nd rfl (aY rfl)) (bH (bE (i:=13) nd rfl (aY rfl)) eU)))) rfl) rfl λσc Hac Hbc Gc=>?_)
   refine c0 (mF tL.mono Gc (cO 14 (d:=.int (jl day+m/7%3)) (fy (ae 6 rfl) (eV (j8 (ae 9 rfl) aK ⟨by decide,by decide⟩) aK (by decide))) nd) rfl λσd Had Hbd Gd=>?_)
   have rest:∀ev σ Ha Hb,ev=mN p ef day m->OF K C0 B (tL K d a (day.map iD) (uH p day)) Ha Hb σ [.val (dY p),.val (jb cells),.val (.int ef),.ref d,.val (gq (c6 p)),.ref a,.val (.int (jl day)),.val (.int (i:Nat)),.val (.int (cells.getD i 0)),.val (.int m),.val (.str g),.val (.str c.1),.val (.int c.2.1),.val (.int c.2.2),.val (.int ev)]->
     u9 (jq iP P w K mg base Yv "_law_paced_day" (a_ (top 47)) f eZ A outer s H E).rP ((suite (dq (top 47)) 4).drop 5) D' σ Hb:=λev σ Ha Hb hev G=>by
    subst hev;refine c0 (mF tL.mono G (cO 6 (d:=.int (max2 (jl day) (mN p ef day m))) (h_ (ui rfl) (DH (jl day) (mN p ef day m)) (aq (ae 6 rfl) (aq (ae 14 rfl) aZ)) n3 rfl) nd) rfl λσe Hae Hbe Ge=>?_)
    refine c0 (mF (δ':=[.val (dY p),.val (jb cells),.val (.int ef),.ref d,.val (gq (c6 p)),.ref a,.val (.int (max2 (jl day) (mN p ef day m))),.val (.int (i:Nat)),.val (.int (cells.getD i 0)),.val (.int m),.val (.str g),.val (.str (y9 p ef m)),.val (.int c.2.1),.val (.int c.2.2),.val (.int (mN p ef day m))]) tL.mono Ge (by
     by_cases hk:m/300%(3*ef)=1
     ·rw[ke,qQ3 hk]
      exact eR (VT.to (bN hr (eP _ _) (eP _ _) (eV (j8 (ae 9 rfl) aK ⟨by decide,by decide⟩) (mn aK (ae 2 rfl) (.inl ⟨by decide,by decide⟩)) (by omega)) aK) (by rw[kU];exact qQ1 hk)) (bJ (cO 11 (d:=.str (Cp p)) (b9 (gK (fN hr (ae 0 rfl) aM (xl p)) (IK aK) kL) aK (bK (j:=0) rfl)) nd))
     ·rw[ke,qQ2 hk]
      exact bW (VT.to (bN hr (eP _ _) (eP _ _) (eV (j8 (ae 9 rfl) aK ⟨by decide,by decide⟩) (mn aK (ae 2 rfl) (.inl ⟨by decide,by decide⟩)) (by omega)) aK) (by rw[kU];exact qQ0 hk)) bL) rfl λσf Haf Hbf Gf=>?_)
    refine c0 (Mw Gf hr 5 rfl (ae 10 rfl) (by rw[Hg];exact gn) hkj (ae 6 rfl) (ja (by rw[aj];omega)) λHag Hbg Gg=>?_)
    refine cK (JD (dv:=iD (tW p ef day m)) Gg 3 rfl (VE.to (gy (aq (ae 6 rfl) (aq (ae 10 rfl) (aq (ae 11 rfl) (aq (gK (VO.ve (iH (aq aM (aq aM aZ)))) (eV (j8 (ae 9 rfl) aK ⟨by decide,by decide⟩) aK (by decide)) (M_ m)) aZ))))) (by rw[VR];rfl)) (ja (by rw[aj];omega)) λHah Hbh Gh=>?_)
    have Vq:(uH p day).set j (g,ts.map cW ++ [.int (max2 (jl day) (mN p ef day m))])=uH p (day ++ [tW p ef day m]):=by
     have:=xI (tW p ef day m) (by rw[VR])
     rw[VR]at this ⊢;rw[<-Q9];exact this
    have e1:day.map iD ++ [iD (tW p ef day m)]=(kR p ef cells (i+1)).map iD:=by rw[rE,bx];rfl
    have Yy:jl (kR p ef cells (i+1))=max2 (jl day) (mN p ef day m):=by
     rw[rE];unfold jl;rw[EB,VR];rfl
    rw[Vq,e1,<-rE]at Gh;exact qn _ _ _ (Gh.forget tL.mono ⟨.inr rfl,.inr rfl,.inr rfl,.inr rfl,.inr rfl,.inr rfl,.inr (by rw[Yy]),.inl rfl,.inl rfl,.inl rfl,.inl rfl,.inl rfl,.inl rfl,.inl rfl,.inl rfl,trivial⟩ rfl)
   refine c0 (T5 (kb:=decide (c.2.1<=(ts.length:Int))) tL.mono Gd 5 rfl tL.TR (NV (VE.to (nG (ds:=ts.map .int) (fN hr (ae 5 rfl) (ae 10 rfl) RG) n.len) (by rw[aj])) (ae 12 rfl)) (λhb Hx Gx=>?_) (λhb Hx Gx=>z_ (rest _ _ _ _ (by rw[ee,qQ2 (qQ5 hb)]) Gx)))
   have hb:=qQ4 hb;have Yz:pj (ts.map cW) (-c.2.1)=some (.int (ts.getD (ts.length-c.2.1.toNat) 0)):=by
    obtain⟨b,Qh⟩:=ku (show 0<=c.2.1 by omega)
    rw[Qh]at hb cb ⊢;rw[FE (by omega) (by rw[aj];omega),aj,eS,aF,au (by omega),aG,au (by omega)]
    rfl
   exact cK (DL tL.mono Gx 5 14 (d:=.int (mN p ef day m)) rfl tL.TR (VE.to (h_ (ui rfl) (DH (jl day) (ts.getD (ts.length-c.2.1.toNat) 0+c.2.2-(if decide (m/50%ef=1)=true then 1 else 0))) (aq (ae 6 rfl) (aq (uo (fy (gK (fN hr (ae 5 rfl) (ae 10 rfl) RG) (IK (ae 12 rfl)) Yz) (ae 13 rfl)) (Mr (VE.to (oZ hr (eP _ _) (eP _ _) (eV (j8 (ae 9 rfl) aK ⟨by decide,by decide⟩) (ae 2 rfl) (by omega)) aK) (by rw[kU])) n4)) aZ)) n3 rfl) (by rw[ee,qQ3 hb];rfl)) rfl rfl (λσ Ha Hb G7=>rest _ _ _ _ rfl G7) nd)
  ·have e:(j9 (cells.map cW)).length=cells.length:=by rw[e9,aj]
   rw[e]at G5;exact cK (N3 G5 3 rfl tL.Xu HG)
end
end Mg
namespace Mg
open L2 PySem PyProof.Rows
theorem Nb(a b:Int):a<=max2 a b:=by unfold max2;split<;>omega
theorem Ku(day:List Gp)(q:Gp):jl (day ++ [q])=q.1:=by
 unfold jl;rw[EB]
theorem uI(p:Pl)(ef:Int)(cells:List Int):∀i,nu ((kR p ef cells i).map (·.1))/\(∀q∈kR p ef cells i,0<=q.1/\q.1<=jl (kR p ef cells i))/\0<=jl (kR p ef cells i)
 |0=>⟨yv,(λq hq=>by cases hq),x3 _⟩
 |i+1=>by
  obtain⟨h1,h2,h3⟩:=uI p ef cells i;rw[kR,Ku]
  generalize Yx:kR p ef cells i=day at *
  have hg:jl day<=(tW p ef day (cz (cells.getD i 0) i)).1:=Nb _ _
  generalize tW p ef day (cz (cells.getD i 0) i)=q at *
  refine⟨?_,λz hz=>?_,by omega⟩
  ·rw[bx]
   refine List.pairwise_append.mpr ⟨h1,A3 _ _,λx hx y hy=>?_⟩
   obtain⟨z,hz,rfl⟩:=aE.mp hx;rw[jW,aW]at hy;have:=(h2 z hz).2;omega
  ·rcases cx.mp hz with hz|hz
   ·have:=h2 z hz;omega
   ·rw[aW.mp hz];omega
theorem OG{p:Pl}(h:M' p)(ef:Int)(cells:List Int):∀i,∀q∈kR p ef cells i,lH q.2.1/\lH q.2.2.1
 |0,q,hq=>by cases hq
 |i+1,q,hq=>by
  rw[kR]at hq;rcases cx.mp hq with hq|hq
  ·exact OG h ef cells i q hq
  ·rw[aW.mp hq]
   have uV:∀n,n<p.kinds.length->lH (p.kinds.getD n ("",none)).1:=λn hn=>by
    rw[aG,au hn];exact(h.ok.kinds _ (dN hn)).1.ok.2
   have LY:=h.k1;refine⟨(h.ok.gates _ (Ft (l:=p.gates) (F:=aQ) (d:=("":Str)) h.g1 _).2).ok.2,?_⟩
   show lH (y9 p ef _);unfold y9
   split
   ·exact uV _ (by omega)
   ·unfold qZ
    split
    ·rename_i c hc
     exact(h.ok.paces c (xN hc).1).2.1.ok.2
    ·exact uV 0 (by omega)
theorem Q_{p:Pl}(h:M' p)(ef:Int){cells:List Int}(hc:cells.length<=100):U0 (kR p ef cells cells.length):=
 ⟨by rw[xO];omega,λq hq=>⟨((uI p ef cells _).2.1 q hq).1,OG h ef cells _ q hq⟩⟩
def lX(a:Int):Nat:=(1+cz a 1%3).toNat
def dO(b:Int):Nat:=(1+cz b 2%3).toNat
def dD(a:Int):List (Str×Option Int):=(namesOf a (lX a)).map λx=>(x,none)
def gU(b:Int):List Str:=namesOf (cz b 4) (dO b)
def CN(b:Int):Str:=(namesOf (cz b 5) 1).getD 0 ""
def ju(b:Int)(k:Nat):Int:=1+cz b (30+k)%3
def fF(b:Int):List Int:=(bS (dO b)).map (ju b)
def qA(b:Int)(way:Int):Rl:=if way=0 then .eldest else if way=1 then .rank none else if way=2 then .rank (some (cz b 7%40))else .turns (fF b)
def dG(b:Int):List Str:=(gU b).drop (cz b 6%dO b).toNat++(gU b).take (cz b 6%dO b).toNat
def iO(a:Int)(k:Nat):Int:=1+cz a (10+k)%6
def ko(a b:Int):List (Str×Str×Int):=(bS (lX a)).filterMap λk=>if decide (1<iO a k)=true then some (CN b,(namesOf a (lX a)).getD k "",iO a k)else none
def iG(a b:Int)(k:Nat):Nat:=(cz b (50+k)%lX a).toNat
def tX(a b:Int):Int:=((bS (dO b)).map λk=>ju b k*iO a (iG a b k)).sum
def Nc(a b way:Int)(k:Nat):Int:=if way=3 then(tX a b+ju b k-1)/ju b k+cz b (70+k)%3 else iO a (iG a b k)*(dO b+1)+cz b (70+k)%9
def vq(a b way:Int)(k:Nat):Pc:=((dG b).getD k "",(namesOf a (lX a)).getD (iG a b k) "",1+cz b (70+k)/9%4,Nc a b way k)
def gW(a b way:Int):List Pc:=(bS (dO b)).map (vq a b way)
def iR(ns:List Int)(way:Int):Pl:=⟨dD (dW ns),gU (cH ns),[],[⟨CN (cH ns),"",qA (cH ns) way,dG (cH ns)⟩],ko (dW ns) (cH ns),[],if cz (cH ns) 90%2=0 then gW (dW ns) (cH ns) way else(gW (dW ns) (cH ns) way).reverse⟩
def Hi(m:Int)(q:Pc):Pc:=(q.1,q.2.1,q.2.2.1,1+(q.2.2.2*7+m)%40)
def oi(p:Pl)(m:Int):Pl:={ p with paces:=(p.paces.map (Hi m)).drop (m/40%2).toNat }
theorem ji(a:Int):1<=lX a/\lX a<=3:=by
 unfold lX;have a1:0<=cz a 1%3:=bA _ (by omega)
 have a2:cz a 1%3<3:=bj _ (by omega)
 omega
theorem iq(b:Int):1<=dO b/\dO b<=3:=by
 unfold dO;have a1:0<=cz b 2%3:=bA _ (by omega)
 have a2:cz b 2%3<3:=bj _ (by omega)
 omega
theorem jH(b:Int):(dG b).Perm (gU b):=by
 unfold dG;exact List.perm_append_comm.trans (by rw[List.take_append_drop])
theorem iB(b:Int):(dG b).length=dO b:=by
 rw[(jH b).length_eq];exact cP _ _
theorem tY(a b:Int)(k:Nat):iG a b k<lX a:=by
 have:=(ji a).1;unfold iG;have a1:0<=cz b (50+k)%(lX a:Int):=bA _ (by omega)
 have a2:cz b (50+k)%(lX a:Int)<lX a:=bj _ (by omega)
 omega
theorem oW(a:Int):(dD a).map (·.1)=namesOf a (lX a):=by
 unfold dD;rw[aL];exact wc _
theorem Cr(a b way:Int):(gW a b way).map (·.1)=dG b:=by
 unfold gW;rw[aL];have:=Ei (dG b);rw[iB]at this;exact this
theorem za{ns:List Int}{way m:Int}:(((oi (iR ns way) m).paces).map (·.1)).Nodup/\(oi (iR ns way) m).paces.length<=3/\∀q∈(oi (iR ns way) m).paces,q.1∈gU (cH ns)/\q.2.1∈namesOf (dW ns) (lX (dW ns))/\(1<=q.2.2.1/\q.2.2.1<=4)/\1<=q.2.2.2/\q.2.2.2<=40:=by
 have mb:=iq (cH ns);have ML:(dG (cH ns)).Nodup:=(jH (cH ns)).nodup_iff.mpr (kY _ (by omega))
 have hp:∃l,(iR ns way).paces=l/\(l.map (·.1)).Nodup/\l.length<=3/\∀q∈l,q∈gW (dW ns) (cH ns) way:=by
  have h0:((gW (dW ns) (cH ns) way).map (·.1)).Nodup:=by rw[Cr];exact ML
  have h1:(gW (dW ns) (cH ns) way).length<=3:=by unfold gW;rw[aj,eB];omega
  show ∃l,(if cz (cH ns) 90%2=0 then gW (dW ns) (cH ns) way else(gW (dW ns) (cH ns) way).reverse)=l/\_
  by_cases hz:cz (cH ns) 90%2=0
  ·rw[qQ3 hz];exact⟨_,rfl,h0,h1,λq hq=>hq⟩
  ·rw[qQ2 hz];exact⟨_,rfl,by rw[vR];exact(List.reverse_perm _).nodup_iff.mpr h0,by rw[ie];exact h1,λq hq=>List.mem_reverse.mp hq⟩
 obtain⟨l,e,l1,l2,l3⟩:=hp;have em:(oi (iR ns way) m).paces=(l.map (Hi m)).drop (m/40%2).toNat:=by
  show((iR ns way).paces.map (Hi m)).drop _=_
  rw[e]
 rw[em];refine⟨?_,?_,λq hq=>?_⟩
 ·rw[lC,aL]
  have:((λq:Pc=>q.1)∘Hi m)=λq=>q.1:=rfl
  rw[this];exact l1.sublist (List.drop_sublist _ _)
 ·rw[eI,aj];omega
 ·obtain⟨z,hz,rfl⟩:=aE.mp (ri hq)
  obtain⟨k,hk,rfl⟩:=aE.mp (l3 z hz);have hk:=cw.mp hk;have a1:0<=cz (cH ns) (70+k)/9%4:=bA _ (by omega)
  have a2:cz (cH ns) (70+k)/9%4<4:=bj _ (by omega)
  refine⟨(jH (cH ns)).mem_iff.mp (getD_mem (by rw[iB];exact hk)),getD_mem (by rw[cP];exact tY _ _ _),⟨?_,?_⟩,?_⟩
  ·show 1<=1+cz (cH ns) (70+k)/9%4;omega
  ·show 1+cz (cH ns) (70+k)/9%4<=4;omega
  ·have b1:0<=((vq (dW ns) (cH ns) way k).2.2.2*7+m)%40:=bA _ (by omega)
   have b2:((vq (dW ns) (cH ns) way k).2.2.2*7+m)%40<40:=bj _ (by omega)
   show 1<=1+((vq (dW ns) (cH ns) way k).2.2.2*7+m)%40/\1+((vq (dW ns) (cH ns) way k).2.2.2*7+m)%40<=40;omega
theorem xP{a b:Int}{q:Str×Str×Int}(h:q∈ko a b):q.1=CN b/\q.2.1∈namesOf a (lX a)/\1<=q.2.2/\q.2.2<=6:=by
 obtain⟨k,hk,e⟩:=t_.mp h;have hk:=cw.mp hk
 split at e
 ·cases e
  have a1:0<=cz a (10+k)%6:=bA _ (by omega)
  have a2:cz a (10+k)%6<6:=bj _ (by omega)
  refine⟨rfl,getD_mem (by rw[cP];exact hk),?_,?_⟩
  ·show 1<=1+cz a (10+k)%6;omega
  ·show 1+cz a (10+k)%6<=6;omega
 ·cases e
theorem Ar(a b:Int):((ko a b).map λq=>(q.1,q.2.1)).Nodup:=by
 have nb:=ji a;have knd:(namesOf a (lX a)).Nodup:=kY _ (by omega)
 unfold ko;rw[List.map_filterMap];refine List.Pairwise.filterMap _ (R:=λi j=>i<j/\j<lX a) (λi j HD x hx y hy=>?_) ?_
 ·simp only[AJ]at hx hy
  obtain⟨u,hu,rfl⟩:=hx;obtain⟨v,hv,rfl⟩:=hy
  split at hu<;>cases hu
  split at hv<;>cases hv
  intro e;have e2:(namesOf a (lX a)).getD i ""=(namesOf a (lX a)).getD j "":=(Prod.mk.inj e).2;have hl:=cP a (lX a);rw[aG,aG,au (by omega),au (by omega)]at e2
  exact cZ.mp knd i j (by omega) (by omega) HD.1 e2
 ·refine cZ.mpr λi j hi hj HD=>?_
  rw[eB]at hi hj;rw[mY,mY];exact⟨HD,hj⟩
theorem El(b way:Int):sr (qA b way) (dG b).length:=by
 unfold qA
 split
 ·trivial
 split
 ·trivial
 split
 ·exact DX _ (by decide) (by decide)
 ·refine⟨by rw[iB];unfold fF;rw[aj,eB],λz hz=>?_⟩
  obtain⟨k,_,rfl⟩:=aE.mp hz;have a1:0<=cz b (30+k)%3:=bA _ (by omega)
  have a2:cz b (30+k)%3<3:=bj _ (by omega)
  show 1<=1+cz b (30+k)%3/\1+cz b (30+k)%3<=9;omega
theorem Kv(ns:List Int)(way m:Int):lg (oi (iR ns way) m)/\Ef (oi (iR ns way) m)/\M' (oi (iR ns way) m):=by
 have nb:=ji (dW ns);have mb:=iq (cH ns);obtain⟨p1,p2,p3⟩:=za (ns:=ns) (way:=way) (m:=m);have kn:∀x∈namesOf (dW ns) (lX (dW ns)),c7 x:=λx hx=>rZ hx
 have gn:∀x∈gU (cH ns),c7 x:=λx hx=>rZ hx
 have YB:(gU (cH ns)).Nodup:=kY _ (by omega)
 have gln:(gU (cH ns)).length=dO (cH ns):=cP _ _;have ML:(dG (cH ns)).Nodup:=(jH (cH ns)).nodup_iff.mpr YB;have Ra:∀x∈dG (cH ns),x∈gU (cH ns):=λx hx=>(jH (cH ns)).mem_iff.mp hx
 have zcP:=iB (cH ns);have YC:c7 (CN (cH ns)):=rZ (getD_mem (by rw[cP];decide))
 have rg:=El (cH ns) way;have kl:(dD (dW ns)).length=lX (dW ns):=by unfold dD;rw[aj,cP]
 have km:∀q∈dD (dW ns),c7 q.1/\q.2=none:=λq hq=>by
  obtain⟨x,hx,rfl⟩:=aE.mp hq;exact⟨kn x hx,rfl⟩
 have tl:(ko (dW ns) (cH ns)).length<=3:=bZ (hG _ _) (by rw[eB];omega)
 have ok:lg (oi (iR ns way) m):=⟨by show(dD (dW ns)).length<=60;omega,by show(gU (cH ns)).length<=60;omega,aV _,by show 1<=60;decide,by show(ko (dW ns) (cH ns)).length<=600;omega,aV _,
  λq hq=>⟨(km q hq).1,by rw[(km q hq).2];trivial⟩,gn,(λq hq=>by cases hq),λd hd=>by
   rw[aW.mp (show d∈[_]from hd)]
   exact⟨YC,.inl rfl,rg.ok (by omega),by show(dG (cH ns)).length<=60;omega,λx hx=>gn x (Ra x hx)⟩,
  λq hq=>by
   obtain⟨t1,t2,t3,t4⟩:=xP (show q∈ko (dW ns) (cH ns)from hq)
   exact⟨by rw[t1];exact YC,kn _ t2,by omega,by omega⟩,
  (λq hq=>by cases hq),by omega,λq hq=>by
   obtain⟨q1,q2,q3,q4⟩:=p3 q hq;exact⟨gn _ q1,kn _ q2,⟨by omega,by omega⟩,by omega,by omega⟩⟩
 refine⟨ok,⟨?_,?_,?_,λd hd=>?_,?_,Ar _ _,λq hq=>?_,(λq hq=>by cases hq),λq hq i hi=>?_,(λq hq=>by cases hq),p1,λq hq=>?_⟩,⟨ok,YB,by show 1<=(gU (cH ns)).length;omega,by show 1<=(dD (dW ns)).length;omega,p1,λq hq=>?_⟩⟩
 ·show((dD (dW ns)).map (·.1)).Nodup
  rw[oW];exact kY _ (by omega)
 ·show(gU (cH ns) ++ []).Nodup
  rw[du];exact YB
 ·exact A3 _ _
 ·rw[aW.mp (show d∈[_]from hd)]
  refine⟨⟨YC,.inl rfl,rg,by show 1<=(dG (cH ns)).length;omega,by show(dG (cH ns)).length<=6;omega,ML,λx hx=>gn x (Ra x hx)⟩,λx hx=>?_,.inl rfl⟩
  show x∈gU (cH ns) ++ [];rw[du];exact Ra x hx
 ·show([dG (cH ns)]).flatten.Nodup
  simpa using ML
 ·obtain⟨t1,t2,t3,t4⟩:=xP (show q∈ko (dW ns) (cH ns)from hq)
  refine⟨?_,?_,t3⟩
  ·show q.1∈[CN (cH ns)]
   rw[t1];simp
  ·show q.2.1∈(dD (dW ns)).map (·.1)
   rw[oW];exact t2
 ·rw[(km q hq).2]at hi;cases hi
 ·obtain⟨q1,q2,q3,q4⟩:=p3 q hq
  exact⟨q1,by show q.2.1∈(dD (dW ns)).map (·.1);rw[oW];exact q2,q3.1,q4.1⟩
 ·obtain⟨q1,q2,q3,q4⟩:=p3 q hq
  exact⟨q3.1,q4.1⟩
end Mg
namespace Mg
open L2 PySem PyProof.Rows
seal L2.VE L2.VS L2.pF L2.VT L2.VO L2.IG L2.BF
variable{fd:fe}{way:Int}{ns:List Int}
def Fkb:ai->Option ai
 | .str x=>some (.tuple [.str x,.none])
 |_=>none
theorem Nf(a:Int):((namesOf a (lX a)).map aQ).filterMap Fkb=(dD a).map g0:=by
 unfold dD;rw[bQ,aL];exact filterMap_some λk _=>rfl
def Fsb(b:Int):ai->Option ai
 | .int k=>some (.int (1+cz b (30+k)%3))
 |_=>none
theorem Nh(b:Int):(gG (dO b)).filterMap (Fsb b)=(fF b).map .int:=by
 unfold gG fF;rw[bQ,aL];exact filterMap_some λk _=>rfl
section
variable{P:bC}{w:bY}{K:ao}{mg:Str->Option aB}{base:cR}{f:aI}{k:Nat}
abbrev CP:List Str:=["_law_script","_law_way","_law_a","_law_b","_law_kinds","_law_many","_law_gates","_law_name","_law_shares","_law_rule","_law_at","_law_places","_law_works","_law_times","_law_picks","_law_turn","_law_paces","_law_k","_law_place","_law_m","_law_gap","_law_h"]
theorem zc:cY CP ["_law_script","_law_way"] (a_ (top 45)):=⟨rfl,rfl,rfl,by symm,rfl,by symm,by symm⟩
theorem bo1(n:Na mg)(C0:bM P w K mg base 1 "_law_cell_at" ["_law_script","_law_k"] (ig K BM))(C1:bM P w K mg base 1 "_law_mix" ["_law_cell","_law_k"] (ig K xk))(C2:bM P w K mg base 2 "_law_names" ["_law_cell","_law_many"] (II K XJ))(h0:0<=way)(h3:way<4)
  {eZ A outer s H E}(hr:eE 2 (A.deeper (envOfC "_law_bounded" (a_ (top 45)) s.heap.objs.size f eZ)))(o:Out)
  (h:BF (jq iP P w K mg base CP "_law_bounded" (a_ (top 45)) f eZ A outer s H E).rP ((dq (top 45)).drop 9) [.val (jb ns),.val (.int way),.val (.int (dW ns)),.val (.int (cH ns)),.val (.list ((dD (dW ns)).map g0)),.val (.int (dO (cH ns):Nat)),.val (oM (gU (cH ns))),.val (.str (CN (cH ns))),.val (.tuple ((fF (cH ns)).map .int)),.val (AY (qA (cH ns) way)),.val (.int ((cz (cH ns) 6%dO (cH ns)).toNat:Nat)),.val (.tuple ((dG (cH ns)).map .str)),.un,.un,.un,.un,.un,.un,.un,.un,.un,.un] o):
  BF (jq iP P w K mg base CP "_law_bounded" (a_ (top 45)) f eZ A outer s H E).rP (dq (top 45)) (qe CP [jb ns,.int way]) o:=by
 have nd:CP.Nodup:=zc.nd;have pw:eE 1 _:=hr.mono (by omega)
 have nb:=ji (dW ns);have mb:=iq (cH ns);have ek:((lX (dW ns):Nat):Int)=1+cz (dW ns) 1%3:=by
  unfold lX;have a1:0<=cz (dW ns) 1%3:=bA _ (by omega)
  omega
 have em:((dO (cH ns):Nat):Int)=1+cz (cH ns) 2%3:=by
  unfold dO;have a1:0<=cz (cH ns) 2%3:=bA _ (by omega)
  omega
 have et:(((cz (cH ns) 6%dO (cH ns)).toNat:Nat):Int)=cz (cH ns) 6%(dO (cH ns):Int):=mP (bA _ (by omega))
 have m1:(["_law_name"]:List Str).Nodup:=by symm
 have m2:(["_law_k","_law_b"]:List Str).Nodup:=by symm
 refine gA (DG (.tup [2,3]) (d:=.tuple [.int (dW ns),.int (cH ns)]) (gy (aq (bT C0 pw (aq (ae 0 rfl) (aq aK aZ)) ⟨ns,0,rfl,rfl⟩) (aq (bT C0 pw (aq (ae 0 rfl) (aq aK aZ)) ⟨ns,1,rfl,rfl⟩) aZ))) (fQ rfl (bH (bE (i:=2) nd rfl (by first|exact aY rfl|exact b_ rfl)) (bH (bE (i:=3) nd rfl (by first|exact aY rfl|exact b_ rfl)) eU))) rfl) ?_
 refine gA (m_ 4 (ds:=(dD (dW ns)).map g0) (VO.to (eO (own:=["_law_name"]) (cap:=[]) (N:=["_law_name"]) (cl:=[]) (tgt:=.one 0) (F:=Fkb) (ds:=(namesOf (dW ns) (lX (dW ns))).map .str) rfl ⟨rfl,by symm,by symm,rfl,rfl,by simp⟩ (fE (VO.ve (qM C2 hr (aq (ae 2 rfl) (aq (VE.to (k:=.int (lX (dW ns):Nat)) (fy aK (eV (bT C1 pw (aq (ae 2 rfl) (aq aK aZ)) ⟨dW ns,1,rfl,by decide,by decide,rfl⟩) aK (by decide))) (by rw[ek])) aZ)) ⟨dW ns,lX (dW ns),rfl,by omega,rfl⟩))) (λf s3 H3=>bE (i:=0) m1 rfl (aY rfl)) rfl (small (by rw[aj,cP];omega)) (λd hd=>?_)) (Nf _)) nd) ?_
 ·obtain⟨x,hx,rfl⟩:=aE.mp hd
  refine⟨_,rfl,λf s3 H3=>eN,λr hC f s3 H3=>?_⟩
  cases hC;exact gy (aq (ae 0 rfl) (aq gF aZ))
 refine mG 4 rfl ?_
 refine gA (cO 5 (d:=.int (dO (cH ns):Nat)) (VE.to (fy aK (eV (bT C1 pw (aq (ae 3 rfl) (aq aK aZ)) ⟨cH ns,2,rfl,by decide,by decide,rfl⟩) aK (by decide))) (by rw[em])) nd) ?_
 refine gA (cO 6 (d:=oM (gU (cH ns))) (VO.ve (qM C2 hr (aq (bT C1 pw (aq (ae 3 rfl) (aq aK aZ)) ⟨cH ns,4,rfl,by decide,by decide,rfl⟩) (aq (ae 5 rfl) aZ)) ⟨cz (cH ns) 4,dO (cH ns),rfl,by omega,rfl⟩)) nd) ?_
 refine gA (cO 7 (d:=.str (CN (cH ns))) (gK (ds:=(namesOf (cz (cH ns) 5) 1).map .str) (VO.ve (qM C2 hr (aq (bT C1 pw (aq (ae 3 rfl) (aq aK aZ)) ⟨cH ns,5,rfl,by decide,by decide,rfl⟩) (aq aK aZ)) ⟨cz (cH ns) 5,1,rfl,by omega,rfl⟩)) aK (bK (j:=0) (by
  have hl:=cP (cz (cH ns) 5) 1;unfold CN;rw[aF,aG,au (by omega)];rfl))) nd) ?_
 refine gA (cO 8 (d:=.tuple ((fF (cH ns)).map .int)) (jg kS vW (aq (VO.ve (VO.to (eO (own:=["_law_k"]) (cap:=[3]) (N:=["_law_k","_law_b"]) (tgt:=.one 0) (F:=Fsb (cH ns)) (ds:=gG (dO (cH ns))) rfl ⟨rfl,by symm,by symm,rfl,rfl,?_⟩ (nU (n:=(dO (cH ns):Int)) (ae 5 rfl) n.rng (by omega) (by omega)) (λf s3 H3=>bE (i:=0) m2 rfl (aY rfl)) rfl (small (by rw[jF];omega)) (λd hd=>?_)) (Nh _))) aZ) n.tup rfl) nd) ?_
 ·intro j hj
  rcases av.mp hj with rfl|hj
  ·exact⟨(by show(3:Nat)<22;decide),aY rfl,rfl⟩
  ·cases hj
 ·obtain⟨i,hi,rfl⟩:=aE.mp hd
  have hi:=cw.mp hi;refine⟨_,rfl,λf s3 H3=>eN,λr hC f s3 H3=>?_⟩
  cases hC;exact fy aK (eV (bT C1 pw (aq (ae 1 rfl) (aq (fy aK (ae 0 rfl)) aZ)) ⟨cH ns,30+(i:Int),rfl,by omega,by omega,rfl⟩) aK (by decide))
 have J6:pj [AY .eldest,AY (.rank none),AY (.rank (some (cz (cH ns) 7%40))),AY (.turns (fF (cH ns)))] way=some (AY (qA (cH ns) way)):=by
  unfold qA;rcases(by omega:way=0\/way=1\/way=2\/way=3)with e|e|e|e<;>subst e<;>rfl
 refine gA (cO 9 (d:=AY (qA (cH ns) way)) (gK (VO.ve (iH (aq (VE.to (gy (aq aM aZ)) rfl) (aq (VE.to (gy (aq aM (aq gF aZ))) rfl) (aq (VE.to (gy (aq aM (aq (eV (bT C1 pw (aq (ae 3 rfl) (aq aK aZ)) ⟨cH ns,7,rfl,by decide,by decide,rfl⟩) aK (by decide)) aZ))) rfl) (aq (VE.to (gy (aq aM (aq (ae 8 rfl) aZ))) rfl) aZ)))))) (ae 1 rfl) J6) nd) ?_
 refine gA (cO 10 (d:=.int ((cz (cH ns) 6%dO (cH ns)).toNat:Nat)) (VE.to (eV (bT C1 pw (aq (ae 3 rfl) (aq aK aZ)) ⟨cH ns,6,rfl,by decide,by decide,rfl⟩) (ae 5 rfl) (by omega)) (by rw[et])) nd) ?_
 refine gA (cO 11 (d:=.tuple ((dG (cH ns)).map .str)) (jg kS vW (aq (VO.ve (VO.to (k:=(dG (cH ns)).map .str) (rX (VO.ve (iF (ds:=(gU (cH ns)).map .str) (ae 6 rfl) (.yes (ae 10 rfl)) .no)) (VO.ve (iF (ds:=(gU (cH ns)).map .str) (ae 6 rfl) .no (.yes (ae 10 rfl)))) ?_) (by unfold dG;rw[jG,wO,bx,lC,sV]))) aZ) n.tup rfl) nd) h
 rw[jG,wO];have:=cP (cz (cH ns) 4) (dO (cH ns));exact small (by rw[eI,dz,aj];unfold gU;omega)
end
def gC(a:Int):List Int:=(bS (lX a)).map (iO a)
def Fwk(a:Int):ai->Option ai
 | .int k=>some (.int (1+cz a (10+k)%6))
 |_=>none
theorem Ni(a:Int):(gG (lX a)).filterMap (Fwk a)=(gC a).map .int:=by
 unfold gG gC;rw[bQ,aL];exact filterMap_some λk _=>rfl
def Ftb(x:Str):ai->Option ai
 | .tuple [.tuple [k,_],.int w]=>if decide (1<w)=true then some (.tuple [.str x,k,.int w])else none
 |_=>none
def FG(a:Int)(k:Nat):ai:=.tuple [g0 ((namesOf a (lX a)).getD k "",none),.int (iO a k)]
theorem uJ(a:Int):qk ((dD a).map g0) ((gC a).map .int)=(bS (lX a)).map (FG a):=by
 have hl:=cP a (lX a);refine fX λn=>?_
 unfold qk dD gC;rw[aF,aF];by_cases h:n<lX a
 ·rw[cg h,List.zip_eq_zipWith,C_]
  simp only[aF,cg h,fU];rw[au (by omega)]
  show some _=some (FG a n);unfold FG;rw[aG,au (by omega)]
  rfl
 ·rw[df (by simp;omega),df (by simp;omega)];rfl
theorem Nj(a b:Int):((bS (lX a)).map (FG a)).filterMap (Ftb (CN b))=(ko a b).map vg:=by
 unfold ko;rw[bQ,List.map_filterMap]
 congr 1
 funext k
 show(if decide (1<iO a k)=true then some (dB [.str (CN b),.str ((namesOf a (lX a)).getD k ""),.int (iO a k)])else none)=_
 split<;>rfl
section
variable{P:bC}{w:bY}{K:ao}{mg:Str->Option aB}{base:cR}{f:aI}{k:Nat}
theorem bo2(n:Na mg)(mz:mg "zip"=none)(C1:bM P w K mg base 1 "_law_mix" ["_law_cell","_law_k"] (ig K xk))
  {eZ A outer s H E}(hr:eE 2 (A.deeper (envOfC "_law_bounded" (a_ (top 45)) s.heap.objs.size f eZ)))(o:Out){d1 d2 d3 d4 d5 d6:Slot}
  (h:BF (jq iP P w K mg base CP "_law_bounded" (a_ (top 45)) f eZ A outer s H E).rP ((dq (top 45)).drop 11) [.val (jb ns),.val (.int way),.val (.int (dW ns)),.val (.int (cH ns)),.val (.list ((dD (dW ns)).map g0)),.val (.int (dO (cH ns):Nat)),d1,.val (.str (CN (cH ns))),d2,d3,d4,d5,.val (.list ((gC (dW ns)).map .int)),.val (.list ((ko (dW ns) (cH ns)).map vg)),.un,.un,.un,.un,.un,.un,.un,.un] o):
  BF (jq iP P w K mg base CP "_law_bounded" (a_ (top 45)) f eZ A outer s H E).rP ((dq (top 45)).drop 9) [.val (jb ns),.val (.int way),.val (.int (dW ns)),.val (.int (cH ns)),.val (.list ((dD (dW ns)).map g0)),.val (.int (dO (cH ns):Nat)),d1,.val (.str (CN (cH ns))),d2,d3,d4,d5,.un,.un,.un,.un,.un,.un,.un,.un,.un,.un] o:=by
 have nd:CP.Nodup:=zc.nd;have pw:eE 1 _:=hr.mono (by omega)
 have nb:=ji (dW ns);have RG:(dD (dW ns)).length=lX (dW ns):=by unfold dD;rw[aj,cP]
 have m2:(["_law_k","_law_a"]:List Str).Nodup:=by symm
 have m3:(["_law_kind","_law_work","_law_name"]:List Str).Nodup:=by symm
 refine gA (m_ 12 (ds:=(gC (dW ns)).map .int) (VO.to (eO (own:=["_law_k"]) (cap:=[2]) (N:=["_law_k","_law_a"]) (tgt:=.one 0) (F:=Fwk (dW ns)) (ds:=gG (lX (dW ns))) rfl ⟨rfl,by symm,by symm,rfl,rfl,?_⟩ (nU (n:=(lX (dW ns):Int)) (VE.to (nG (ds:=(dD (dW ns)).map g0) (ae 4 rfl) n.len) (by rw[aj,RG])) n.rng (by omega) (by omega)) (λf s3 H3=>bE (i:=0) m2 rfl (aY rfl)) rfl (small (by rw[jF];omega)) (λd hd=>?_)) (Ni _)) nd) ?_
 ·intro j hj
  rcases av.mp hj with rfl|hj
  ·exact⟨(by show(2:Nat)<22;decide),aY rfl,rfl⟩
  ·cases hj
 ·obtain⟨i,hi,rfl⟩:=aE.mp hd
  have hi:=cw.mp hi;refine⟨_,rfl,λf s3 H3=>eN,λr hC f s3 H3=>?_⟩
  cases hC;exact fy aK (eV (bT C1 pw (aq (ae 1 rfl) (aq (fy aK (ae 0 rfl)) aZ)) ⟨dW ns,10+(i:Int),rfl,by omega,by omega,rfl⟩) aK (by decide))
 refine mG 12 rfl ?_
 refine gA (vY 13 (own:=["_law_kind","_law_work"]) (cap:=[7]) (N:=["_law_kind","_law_work","_law_name"]) (tgt:=.tup [0,1]) (F:=Ftb (CN (cH ns))) (ds:=qk ((dD (dW ns)).map g0) ((gC (dW ns)).map .int)) rfl ⟨rfl,by symm,by symm,rfl,rfl,?_⟩ (wV .lst .lst (ae 4 rfl) (ae 12 rfl) mz) (λf s3 H3=>fQ rfl (bH (bE (i:=0) m3 rfl (aY rfl)) (bH (bE (i:=1) m3 rfl (aY rfl)) eU))) rfl (small (by rw[uJ,aj,eB];omega)) (λd hd=>?_) nd) ?_
 ·intro j hj
  rcases av.mp hj with rfl|hj
  ·exact⟨(by show(7:Nat)<22;decide),aY rfl,rfl⟩
  ·cases hj
 ·rw[uJ]at hd
  obtain⟨i,hi,rfl⟩:=aE.mp hd;refine⟨_,rfl,λf s3 H3=>?_,λr hC f s3 H3=>?_⟩
  ·refine tG (VT.to (IB (i:=iO (dW ns) i) (ae 1 rfl) aK) ?_)
   show decide (1<iO (dW ns) i)=(if decide (1<iO (dW ns) i)=true then some (dB [.str (CN (cH ns)),.str ((namesOf (dW ns) (lX (dW ns))).getD i ""),.int (iO (dW ns) i)])else none).isSome
   by_cases hw:1<iO (dW ns) i
   ·rw[qQ1 hw];rfl
   ·rw[qQ0 hw];rfl
  ·have hC:(if decide (1<iO (dW ns) i)=true then some (dB [.str (CN (cH ns)),.str ((namesOf (dW ns) (lX (dW ns))).getD i ""),.int (iO (dW ns) i)])else none)=some r:=hC
   split at hC
   ·cases hC
    exact gy (aq (ae 2 rfl) (aq (b9 (ae 0 rfl) aK (bK (j:=0) rfl)) (aq (ae 1 rfl) aZ)))
   ·cases hC
 rw[uJ,Nj];exact mG 13 rfl h
end
def jQ(a b:Int):List Int:=(bS (dO b)).map λk=>(iG a b k:Int)
theorem Hj(a b:Int)(k:Nat):((iG a b k:Nat):Int)=cz b (50+k)%(lX a:Int):=by
 have:=(ji a).1;unfold iG;exact mP (bA _ (by omega))
def Fpk(a b:Int):ai->Option ai
 | .int k=>some (.int (cz b (50+k)%(lX a:Int)))
 |_=>none
theorem Nk(a b:Int):(gG (dO b)).filterMap (Fpk a b)=(jQ a b).map .int:=by
 unfold gG jQ;rw[bQ,aL];exact filterMap_some λk _=>qQ6 (λz=>some (cW z)) (Hj a b k).symm
def termB(a b:Int)(k:Nat):Int:=ju b k*iO a (iG a b k)
def Ftm(a:Int):ai->Option ai
 | .tuple [.int s,.int p]=>some (.int (s*(gC a).getD p.toNat 0))
 |_=>none
theorem uK(a b:Int):qk ((fF b).map .int) ((jQ a b).map .int)=(bS (dO b)).map λk=>dB [.int (ju b k),.int (iG a b k:Nat)]:=by
 refine fX λn=>?_
 unfold qk fF jQ;rw[aF,aF];by_cases h:n<dO b
 ·rw[cg h,List.zip_eq_zipWith,C_]
  simp only[aF,cg h,fU]
 ·rw[df (by simp;omega),df (by simp;omega)];rfl
theorem Kw(a b:Int)(k:Nat):(gC a).getD (iG a b k) 0=iO a (iG a b k):=by
 unfold gC;rw[aG,aF,cg (tY a b k)];rfl
theorem Nn(a b:Int):((bS (dO b)).map λk=>dB [.int (ju b k),.int (iG a b k:Nat)]).filterMap (Ftm a)=((bS (dO b)).map (termB a b)).map .int:=by
 rw[bQ,aL];refine filterMap_some λk _=>?_
 show some (cW (ju b k*(gC a).getD ((iG a b k:Nat):Int).toNat 0))=_;rw[eS,Kw];rfl
theorem term_bound(a b:Int)(k:Nat):0<=termB a b k/\termB a b k<=18:=by
 have a1:0<=cz b (30+k)%3:=bA _ (by omega)
 have a2:cz b (30+k)%3<3:=bj _ (by omega)
 have b1:0<=cz a (10+(iG a b k:Nat))%6:=bA _ (by omega)
 have b2:cz a (10+(iG a b k:Nat))%6<6:=bj _ (by omega)
 unfold termB ju iO;refine⟨Int.mul_nonneg (by omega) (by omega),?_⟩
 have:=Int.mul_le_mul (a:=1+cz b (30+k)%3) (b:=1+cz a (10+(iG a b k:Nat))%6) (c:=3) (d:=6) (by omega) (by omega) (by omega) (by omega)
 omega
theorem sum_bound:∀{l:List Int},(∀z∈l,0<=z/\z<=18)->0<=l.sum/\l.sum<=18*l.length
 | [],_=>⟨x3 _,x3 _⟩
 |x::l,h=>by
  have h1:=h x aO;have h2:=sum_bound λz hz=>h z (aR _ hz)
  rw[om,bF];omega
theorem Kx(a b:Int):IL ((bS (dO b)).map (termB a b)):=by
 have mb:=iq b;have pW:∀z∈(bS (dO b)).map (termB a b),0<=z/\z<=18:=λz hz=>by
  obtain⟨k,_,rfl⟩:=aE.mp hz;exact term_bound a b k
 intro j hj;have h2:=sum_bound λz hz=>pW z (rh (i:=j+1) hz)
 have hl:(((bS (dO b)).map (termB a b)).take (j+1)).length<=3:=by rw[dz,aj,eB];omega
 have h1:0<=((bS (dO b)).map (termB a b)).getD j 0/\((bS (dO b)).map (termB a b)).getD j 0<=18:=by
  rw[aG,au hj];exact pW _ (dN hj)
 unfold InLong
 constructor<;>constructor<;>omega
section
variable{P:bC}{w:bY}{K:ao}{mg:Str->Option aB}{base:cR}{f:aI}{k:Nat}
theorem bo3(n:Na mg)(mz:mg "zip"=none)(ms:mg "sum"=none)(C1:bM P w K mg base 1 "_law_mix" ["_law_cell","_law_k"] (ig K xk))
  {eZ A outer s H E}(hr:eE 2 (A.deeper (envOfC "_law_bounded" (a_ (top 45)) s.heap.objs.size f eZ)))(o:Out){d0 d1 d2 d3 d4 d5 d6 d7:Slot}
  (h:BF (jq iP P w K mg base CP "_law_bounded" (a_ (top 45)) f eZ A outer s H E).rP ((dq (top 45)).drop 13) [d0,d7,.val (.int (dW ns)),.val (.int (cH ns)),.val (.list ((dD (dW ns)).map g0)),.val (.int (dO (cH ns):Nat)),d1,d2,.val (.tuple ((fF (cH ns)).map .int)),d3,d4,d5,.val (.list ((gC (dW ns)).map .int)),d6,.val (.list ((jQ (dW ns) (cH ns)).map .int)),.val (.int (tX (dW ns) (cH ns))),.un,.un,.un,.un,.un,.un] o):
  BF (jq iP P w K mg base CP "_law_bounded" (a_ (top 45)) f eZ A outer s H E).rP ((dq (top 45)).drop 11) [d0,d7,.val (.int (dW ns)),.val (.int (cH ns)),.val (.list ((dD (dW ns)).map g0)),.val (.int (dO (cH ns):Nat)),d1,d2,.val (.tuple ((fF (cH ns)).map .int)),d3,d4,d5,.val (.list ((gC (dW ns)).map .int)),d6,.un,.un,.un,.un,.un,.un,.un,.un] o:=by
 have nd:CP.Nodup:=zc.nd;have pw:eE 1 _:=hr.mono (by omega)
 have nb:=ji (dW ns);have mb:=iq (cH ns);have RG:(dD (dW ns)).length=lX (dW ns):=by unfold dD;rw[aj,cP]
 have m2:(["_law_k","_law_b","_law_kinds"]:List Str).Nodup:=by symm
 have m3:(["_law_share","_law_pick","_law_works"]:List Str).Nodup:=by symm
 refine gA (vY 14 (own:=["_law_k"]) (cap:=[3,4]) (N:=["_law_k","_law_b","_law_kinds"]) (tgt:=.one 0) (F:=Fpk (dW ns) (cH ns)) (ds:=gG (dO (cH ns))) rfl ⟨rfl,by symm,by symm,rfl,rfl,?_⟩ (nU (n:=(dO (cH ns):Int)) (ae 5 rfl) n.rng (by omega) (by omega)) (λf s3 H3=>bE (i:=0) m2 rfl (aY rfl)) rfl (small (by rw[jF];omega)) (λd hd=>?_) nd) ?_
 ·intro j hj
  rcases av.mp hj with rfl|hj
  ·exact⟨(by show(3:Nat)<22;decide),aY rfl,rfl⟩
  rcases av.mp hj with rfl|hj
  ·exact⟨(by show(4:Nat)<22;decide),aY rfl,rfl⟩
  ·cases hj
 ·obtain⟨i,hi,rfl⟩:=aE.mp hd
  have hi:=cw.mp hi;refine⟨_,rfl,λf s3 H3=>eN,λr hC f s3 H3=>?_⟩
  cases hC;exact eV (bT C1 pw (aq (ae 1 rfl) (aq (fy aK (ae 0 rfl)) aZ)) ⟨cH ns,50+(i:Int),rfl,by omega,by omega,rfl⟩) (VE.to (nG (ds:=(dD (dW ns)).map g0) (ae 2 rfl) n.len) (by rw[aj,RG])) (by omega)
 rw[Nk];refine mG 14 rfl ?_
 refine gA (cO 15 (d:=.int (tX (dW ns) (cH ns))) (h_ (Gj rfl) (Tf (Kx (dW ns) (cH ns))) (aq (VO.ve (VO.to (k:=((bS (dO (cH ns))).map (termB (dW ns) (cH ns))).map .int) (eO (own:=["_law_share","_law_pick"]) (cap:=[12]) (N:=["_law_share","_law_pick","_law_works"]) (tgt:=.tup [0,1]) (F:=Ftm (dW ns)) (ds:=qk ((fF (cH ns)).map .int) ((jQ (dW ns) (cH ns)).map .int)) rfl ⟨rfl,by symm,by symm,rfl,rfl,?_⟩ (wV .tup .lst (ae 8 rfl) (ae 14 rfl) mz) (λf s3 H3=>fQ rfl (bH (bE (i:=0) m3 rfl (aY rfl)) (bH (bE (i:=1) m3 rfl (aY rfl)) eU))) rfl (small (by rw[uK,aj,eB];omega)) (λd hd=>?_)) (by rw[uK,Nn]))) aZ) ms rfl) nd) h
 ·intro j hj
  rcases av.mp hj with rfl|hj
  ·exact⟨(by show(12:Nat)<22;decide),aY rfl,rfl⟩
  ·cases hj
 ·rw[uK]at hd
  obtain⟨i,hi,rfl⟩:=aE.mp hd;refine⟨_,rfl,λf s3 H3=>eN,λr hC f s3 H3=>?_⟩
  cases hC;have a1:0<=cz (cH ns) (30+i)%3:=bA _ (by omega)
  have a2:cz (cH ns) (30+i)%3<3:=bj _ (by omega)
  refine mn (ae 0 rfl) (gK (ds:=(gC (dW ns)).map .int) (ae 2 rfl) (ae 1 rfl) ?_) (.inl (by unfold ju;exact⟨by omega,by omega⟩))
  have hp:=tY (dW ns) (cH ns) i;rw[eS];refine bK ?_
  unfold gC;rw[aG,aF,aF,cg hp];rfl
end
theorem Nq(b:Int)(k:Nat):1<=ju b k/\ju b k<=3:=by
 have a1:0<=cz b (30+k)%3:=bA _ (by omega)
 have a2:cz b (30+k)%3<3:=bj _ (by omega)
 unfold ju;omega
theorem Rb(a:Int)(k:Nat):1<=iO a k/\iO a k<=6:=by
 have a1:0<=cz a (10+k)%6:=bA _ (by omega)
 have a2:cz a (10+k)%6<6:=bj _ (by omega)
 unfold iO;omega
theorem Ky(a b:Int)(k:Nat):pj ((gC a).map cW) ((iG a b k:Nat):Int)=some (.int (iO a (iG a b k))):=by
 refine bK ?_
 unfold gC;rw[aF,aF,cg (tY a b k)];rfl
theorem Ct(a b:Int){k:Nat}(h:k<dO b):pj ((jQ a b).map cW) (k:Int)=some (.int (iG a b k:Nat)):=by
 refine bK ?_
 unfold jQ;rw[aF,aF,cg h];rfl
theorem zh(b:Int){k:Nat}(h:k<dO b):pj ((fF b).map cW) (k:Int)=some (.int (ju b k)):=by
 refine bK ?_
 unfold fF;rw[aF,aF,cg h];rfl
theorem Kz(a b:Int)(k:Nat):pj ((dD a).map g0) ((iG a b k:Nat):Int)=some (g0 ((namesOf a (lX a)).getD (iG a b k) "",none)):=by
 refine bK ?_
 have h:=tY a b k;have hl:=cP a (lX a);unfold dD;rw[aF,aF,aG,au (by omega)];rfl
section
variable{P:bC}{w:bY}{K:ao}{mg:Str->Option aB}{base:cR}{f:aI}{k:Nat}
theorem bo4(n:Na mg)(C1:bM P w K mg base 1 "_law_mix" ["_law_cell","_law_k"] (ig K xk))(h0:0<=way)(h3:way<4)
  {eZ A outer s H E}(hr:eE 2 (A.deeper (envOfC "_law_bounded" (a_ (top 45)) s.heap.objs.size f eZ)))(o:Out){d0 d1 d2 d3 d4 d6:Slot}
  (h:BF (jq iP P w K mg base CP "_law_bounded" (a_ (top 45)) f eZ A outer s H E).rP ((dq (top 45)).drop 15) [d0,.val (.int way),.val (.int (dW ns)),.val (.int (cH ns)),.val (.list ((dD (dW ns)).map g0)),.val (.int (dO (cH ns):Nat)),d1,d2,.val (.tuple ((fF (cH ns)).map .int)),d3,d4,.val (.tuple ((dG (cH ns)).map .str)),.val (.list ((gC (dW ns)).map .int)),d6,.val (.list ((jQ (dW ns) (cH ns)).map .int)),.val (.int (tX (dW ns) (cH ns))),.val (.list ((gW (dW ns) (cH ns) way).map iK)),.un,.un,.un,.un,.un] o):
  BF (jq iP P w K mg base CP "_law_bounded" (a_ (top 45)) f eZ A outer s H E).rP ((dq (top 45)).drop 13) [d0,.val (.int way),.val (.int (dW ns)),.val (.int (cH ns)),.val (.list ((dD (dW ns)).map g0)),.val (.int (dO (cH ns):Nat)),d1,d2,.val (.tuple ((fF (cH ns)).map .int)),d3,d4,.val (.tuple ((dG (cH ns)).map .str)),.val (.list ((gC (dW ns)).map .int)),d6,.val (.list ((jQ (dW ns) (cH ns)).map .int)),.val (.int (tX (dW ns) (cH ns))),.un,.un,.un,.un,.un,.un] o:=by
 have nd:CP.Nodup:=zc.nd;have pw:eE 1 _:=hr.mono (by omega)
 have mb:=iq (cH ns);refine gA (m_ 16 (ds:=[]) (iH aZ) nd) ?_
 refine gA (qd (tgt:=.tup [17,18]) (o:=.nx [d0,.val (.int way),.val (.int (dW ns)),.val (.int (cH ns)),.val (.list ((dD (dW ns)).map g0)),.val (.int (dO (cH ns):Nat)),d1,d2,.val (.tuple ((fF (cH ns)).map .int)),d3,d4,.val (.tuple ((dG (cH ns)).map .str)),.val (.list ((gC (dW ns)).map .int)),d6,.val (.list ((jQ (dW ns) (cH ns)).map .int)),.val (.int (tX (dW ns) (cH ns))),.own ((gW (dW ns) (cH ns) way).map iK),.un,.un,.un,.un,.un]) dI rfl (JG (ds:=(dG (cH ns)).map .str) (ae 11 rfl) n.Rn)
  (fQ rfl (bH (bE (i:=17) nd rfl (aY rfl)) (bH (bE (i:=18) nd rfl (aY rfl)) eU)))
  (λi=>[d0,.val (.int way),.val (.int (dW ns)),.val (.int (cH ns)),.val (.list ((dD (dW ns)).map g0)),.val (.int (dO (cH ns):Nat)),d1,d2,.val (.tuple ((fF (cH ns)).map .int)),d3,d4,.val (.tuple ((dG (cH ns)).map .str)),.val (.list ((gC (dW ns)).map .int)),d6,.val (.list ((jQ (dW ns) (cH ns)).map .int)),.val (.int (tX (dW ns) (cH ns))),.own (((bS i).map (vq (dW ns) (cH ns) way)).map iK),.un,.un,.un,.un,.un]) (dO (cH ns)) rfl (by rw[e9,aj,iB];exact aA _) (λi d hi hd=>?_) (.inl ⟨by rw[e9,aj,iB],rfl⟩)) (mG 16 rfl h)
 obtain⟨x,hx,rfl⟩:=kK hd;obtain rfl:x=.str ((dG (cH ns)).getD i ""):=by
  have hl:=iB (cH ns);rw[aF,au (by omega)]at hx
  cases hx;rw[aG,au (by omega)];rfl
 refine⟨_,rfl,?_⟩
 rw[List.range_succ,bx,bx,jW,jW];have hw:=Rb (dW ns) (iG (dW ns) (cH ns) i);have hs:=Nq (cH ns) i;refine aP (cO 19 (d:=.int (cz (cH ns) (70+i))) (bT C1 pw (aq (ae 3 rfl) (aq (fy aK (ae 17 rfl)) aZ)) ⟨cH ns,70+(i:Int),rfl,by omega,by omega,rfl⟩) nd) ?_
 refine aP (cO 20 (d:=.int (iO (dW ns) (iG (dW ns) (cH ns) i)*((dO (cH ns):Nat)+1)+cz (cH ns) (70+i)%9)) (fy (mn (gK (ds:=(gC (dW ns)).map .int) (ae 12 rfl) (gK (ds:=(jQ (dW ns) (cH ns)).map .int) (ae 14 rfl) (ae 17 rfl) (Ct _ _ hi)) (Ky _ _ _)) (fy (ae 5 rfl) aK) (.inl ⟨by omega,by omega⟩)) (eV (ae 19 rfl) aK (by decide))) nd) ?_
 refine aP (δ':=[d0,.val (.int way),.val (.int (dW ns)),.val (.int (cH ns)),.val (.list ((dD (dW ns)).map g0)),.val (.int (dO (cH ns):Nat)),d1,d2,.val (.tuple ((fF (cH ns)).map .int)),d3,d4,.val (.tuple ((dG (cH ns)).map .str)),.val (.list ((gC (dW ns)).map .int)),d6,.val (.list ((jQ (dW ns) (cH ns)).map .int)),.val (.int (tX (dW ns) (cH ns))),.own (((bS i).map (vq (dW ns) (cH ns) way)).map iK),.val (.int (i:Nat)),.val (.str ((dG (cH ns)).getD i "")),.val (.int (cz (cH ns) (70+i))),.val (.int (Nc (dW ns) (cH ns) way i)),.un]) (Td (k:=decide (way=3)) (VT.to (bN hr (eP 20 _) (eP 20 _) (ae 1 rfl) aK) (by rw[kU])) (λhk=>?_) λhk=>?_) ?_
 ·have e:Nc (dW ns) (cH ns) way i=(tX (dW ns) (cH ns)+ju (cH ns) i-1)/ju (cH ns) i+cz (cH ns) (70+i)%3:=qQ3 (qQ4 hk)
  rw[e];exact bJ (cO 20 (fy (j8 (uo (fy (ae 15 rfl) (b9 (ds:=(fF (cH ns)).map .int) (ae 8 rfl) (ae 17 rfl) (zh _ hi))) aK) (b9 (ds:=(fF (cH ns)).map .int) (ae 8 rfl) (ae 17 rfl) (zh _ hi)) ⟨by omega,by omega⟩) (eV (ae 19 rfl) aK (by decide))) nd)
 ·have e:Nc (dW ns) (cH ns) way i=iO (dW ns) (iG (dW ns) (cH ns) i)*((dO (cH ns):Nat)+1)+cz (cH ns) (70+i)%9:=qQ2 (qQ5 hk)
  rw[e];exact bL
 exact lK (bJ (qL 16 rfl (d:=iK (vq (dW ns) (cH ns) way i)) (gy (aq (ae 18 rfl) (aq (b9 (gK (ds:=(dD (dW ns)).map g0) (ae 4 rfl) (gK (ds:=(jQ (dW ns) (cH ns)).map .int) (ae 14 rfl) (ae 17 rfl) (Ct _ _ hi)) (Kz _ _ _)) aK rfl) (aq (fy aK (eV (j8 (ae 19 rfl) aK ⟨by decide,by decide⟩) aK (by decide))) (aq (ae 20 rfl) aZ))))) (ja (by simp only[aj,eB];omega)))) ⟨.inr rfl,.inr rfl,.inr rfl,.inr rfl,.inr rfl,.inr rfl,.inr rfl,.inr rfl,.inr rfl,.inr rfl,.inr rfl,.inr rfl,.inr rfl,.inr rfl,.inr rfl,.inr rfl,.inr rfl,.inl rfl,.inl rfl,.inl rfl,.inl rfl,.inl rfl,trivial⟩
end
def OI(p:Pl):List (Str×ai):=[("kinds",.list (p.kinds.map g0)),("gates",oM p.gates),("lines",.list (p.lines.map BO)),("desks",.list (p.desks.map k_)),("times",.list (p.times.map vg)),("hours",.list (p.hours.map yW))]
theorem Hk(p:Pl):tK (OI p) "paces" (.list (p.paces.map iK))=gL p:=by
 unfold tK OI;rfl
theorem zj(l:List Pc):sL (.list (l.map iK)):=.lst λd hd=>by
 obtain⟨k,_,rfl⟩:=aE.mp hd;refine .tup λd hd=>?_
 simp only[av,aX,or_false]at hd;rcases hd with rfl|rfl|rfl|rfl
 ·exact .str _
 ·exact .str _
 ·exact .int _
 ·exact .int _
theorem Nr(p:Pl):∀q∈OI p,sL q.2:=λq hq=>y4 p q (by
 have e:gL p=OI p ++ [(("paces":Str),lu (p.paces.map iK))]:=rfl;rw[e];exact gX _ hq)
def Rbo(ds:List ai)(d:ai):Prop:=∃(ns:List Int)(way:Int),ds=[jb ns,.int way]/\0<=way/\way<4/\d=dY (iR ns way)
section
variable{P:bC}{w:bY}{K:ao}{mg:Str->Option aB}{base:cR}{f:aI}{k:Nat}
theorem bo5(n:Na mg)(C1:bM P w K mg base 1 "_law_mix" ["_law_cell","_law_k"] (ig K xk))
  {eZ A outer s H E}(hr:eE 2 (A.deeper (envOfC "_law_bounded" (a_ (top 45)) s.heap.objs.size f eZ))){d0 d1 d2 d4 d5 d6 d7 d8 d9:Slot}:
  BF (jq iP P w K mg base CP "_law_bounded" (a_ (top 45)) f eZ A outer s H E).rP ((dq (top 45)).drop 15) [d0,d1,d2,.val (.int (cH ns)),.val (.list ((dD (dW ns)).map g0)),d4,.val (oM (gU (cH ns))),.val (.str (CN (cH ns))),d5,.val (AY (qA (cH ns) way)),d6,.val (.tuple ((dG (cH ns)).map .str)),d7,.val (.list ((ko (dW ns) (cH ns)).map vg)),d8,d9,.val (.list ((gW (dW ns) (cH ns) way).map iK)),.un,.un,.un,.un,.un] (.rt (dY (iR ns way))):=by
 have nd:CP.Nodup:=zc.nd;have pw:eE 1 _:=hr.mono (by omega)
 refine JK λB0 B σ H0 Hh D nb fr HG=>?_
 refine c0 (Jn fr (cO 21 (d:=gq (OI (iR ns way))) (Mh (kvs:=OI (iR ns way)) (.cons aM (ae 4 rfl) (.cons aM (ae 6 rfl) (.cons aM (VE.to (VO.ve (iH (ds:=[]) aZ)) rfl) (.cons aM (VE.to (VO.ve (iH (aq (gy (aq (ae 7 rfl) (aq aM (aq (ae 9 rfl) (aq (ae 11 rfl) aZ))))) aZ))) rfl) (.cons aM (ae 13 rfl) (.cons aM (VE.to (VO.ve (iH (ds:=[]) aZ)) rfl) .nil)))))) (show([("kinds":Str),"gates","lines","desks","times","hours"]).Nodup by symm) (by simp[OI]) (by show 6<=15;decide)) nd) λσ1 K3 K4 _ f1=>?_)
 refine c0 (Mx (δ2:=[.un,.un,.un,.un,.un,.un,.un,.un,.un,.un,.un,.un,.un,.un,.un,.un,.un,.un,.un,.un,.un,.val (dY (iR ns way))]) (d:=.list ((iR ns way).paces.map iK)) f1 hr nb 21 (kv:=OI (iR ns way)) rfl rfl ?_ (Nr _) (gK (ds:=[.list ((gW (dW ns) (cH ns) way).map iK),.list ((gW (dW ns) (cH ns) way).map iK).reverse]) (VO.ve (iH (aq (ae 16 rfl) (aq (VO.ve (QJ (ae 16 rfl))) aZ)))) (eV (bT C1 pw (aq (ae 3 rfl) (aq aK aZ)) ⟨cH ns,90,rfl,by decide,by decide,rfl⟩) aK (by decide)) ?_) (zj _) (ja (by show 6<=1000000;decide)) λKc Kd f2=>?_)
 ·intro j sl e
  match j,e with
  |0,e=>cases e;exact .inl rfl
  |1,e=>cases e;exact .inl rfl
  |2,e=>cases e;exact .inl rfl
  |3,e=>cases e;exact .inl rfl
  |4,e=>cases e;exact .inl rfl
  |5,e=>cases e;exact .inl rfl
  |6,e=>cases e;exact .inl rfl
  |7,e=>cases e;exact .inl rfl
  |8,e=>cases e;exact .inl rfl
  |9,e=>cases e;exact .inl rfl
  |10,e=>cases e;exact .inl rfl
  |11,e=>cases e;exact .inl rfl
  |12,e=>cases e;exact .inl rfl
  |13,e=>cases e;exact .inl rfl
  |14,e=>cases e;exact .inl rfl
  |15,e=>cases e;exact .inl rfl
  |16,e=>cases e;exact .inl rfl
  |17,e=>cases e;exact .inl rfl
  |18,e=>cases e;exact .inl rfl
  |19,e=>cases e;exact .inl rfl
  |20,e=>cases e;exact .inl rfl
  |21,e=>cases e;exact .inr (.inl ⟨rfl,by rw[Hk];rfl⟩)
  |j+22,e=>simp at e
 ·have a1:0<=cz (cH ns) 90%2:=bA _ (by decide)
  have a2:cz (cH ns) 90%2<2:=bj _ (by decide)
  have e:(iR ns way).paces=if cz (cH ns) 90%2=0 then gW (dW ns) (cH ns) way else(gW (dW ns) (cH ns) way).reverse:=rfl
  rw[e];by_cases hz:cz (cH ns) 90%2=0
  ·rw[qQ3 hz,hz];rfl
  ·have h1:cz (cH ns) 90%2=1:=by omega
   rw[qQ2 hz,h1,vR];rfl
 exact Jq (bJ (cy (ae 21 rfl))) f2 HG
theorem YD(F:mR K "_law_bounded" "_law_bounded" (top 45) f fd)(n:Na mg)(mz:mg "zip"=none)(ms:mg "sum"=none)(C0:bM P w K mg base 1 "_law_cell_at" ["_law_script","_law_k"] (ig K BM))(C1:bM P w K mg base 1 "_law_mix" ["_law_cell","_law_k"] (ig K xk))(C2:bM P w K mg base 2 "_law_names" ["_law_cell","_law_many"] (II K XJ)):fY P w K mg base iP 3 f fd ["_law_script","_law_way"] (ig K Rbo):=by
 refine T6 F zc (λds d h=>by obtain⟨ns,way,rfl,_⟩:=h;rfl) (λds d h z hz=>?_) (λds d h eZ A outer s H E hr B0 B σ H0 Hh D nb fr ok=>?_)
 ·obtain⟨ns,way,rfl,_⟩:=h
  simp only[av,aX,or_false]at hz;rcases hz with rfl|rfl
  ·exact Cg ns
  ·exact .int _
 ·obtain⟨ns,way,rfl,h0,h3,rfl⟩:=h
  exact(bo1 n C0 C1 C2 h0 h3 hr _ (bo2 (d6:=.un) n mz C1 hr _ (bo3 n mz ms C1 hr _ (bo4 n C1 h0 h3 hr _ (bo5 n C1 hr))))).run nb fr ok
end
theorem KC{K:ao}{d:ai}:yL K (λx y H Q=>y=.non/\Q (.bl (!decide (x=.non))) H) d .none (.bool (!Uh d)):=λv u H0 H Q s r1 r2 k=>by
 cases r2;refine⟨rfl,k _ _ _ (.refl s) ?_⟩
 cases r1<;>exact .bl _
theorem FH(p:Pl)(ef:Int)(cells:List Int):∀i,∀q∈kR p ef cells i,lH q.2.2.2
 |0,q,hq=>by cases hq
 |i+1,q,hq=>by
  rw[kR]at hq;rcases cx.mp hq with hq|hq
  ·exact FH p ef cells i q hq
  ·rw[aW.mp hq]
   show lH (y_ _);unfold y_
   split<;>exact gk
theorem Nt{day:List Gp}(h:∀q∈day,lH q.2.1/\lH q.2.2.1/\lH q.2.2.2):Lay 20 (.list (day.map iD)):=zT (n:=19) λd hd=>by
 obtain⟨q,hq,rfl⟩:=aE.mp hd;obtain⟨h1,h2,h3⟩:=h q hq;refine E4 (n:=18) λd hd=>?_
 simp only[av,aX,or_false]at hd;rcases hd with rfl|rfl|rfl|rfl
 ·exact eP _ _
 ·exact bw h1
 ·exact bw h2
 ·exact bw h3
def As(ns:List Int):List (List Int):=[L2.cutD ns (some 3) (some 43),(L2.cutD ns (some 2) (some 30)).reverse,[4,4,9]]
theorem Hl{c: List Int}(hn:ns.length<=63)(h:c∈As ns):c.length<=100:=by
 have cl:∀(lo hi:Option Int),(L2.cutD ns lo hi).length<=ns.length:=λlo hi=>by
  unfold L2.cutD;rw[dz,eI];omega
 unfold As at h;simp only[av,aX,or_false]at h;rcases h with rfl|rfl|rfl
 ·have:=cl (some 3) (some 43);omega
 ·rw[ie];have:=cl (some 2) (some 30);omega
 ·decide
theorem KD(ns:List Int)(way m:Int):uy (oO (oi (iR ns way) m)):=by
 refine text_ok (Kv ns way m).1 ?_
 have nb:=ji (dW ns);have mb:=iq (cH ns);obtain⟨_,p2,_⟩:=za (ns:=ns) (way:=way) (m:=m);have kl:(dD (dW ns)).length=lX (dW ns):=by unfold dD;rw[aj,cP]
 have gln:(gU (cH ns)).length=dO (cH ns):=cP _ _;have tl:(ko (dW ns) (cH ns)).length<=3:=bZ (hG _ _) (by rw[eB];omega)
 have e1:(oi (iR ns way) m).kinds=dD (dW ns):=rfl;have e2:(oi (iR ns way) m).gates=gU (cH ns):=rfl;have e3:(oi (iR ns way) m).lines=[]:=rfl;have e4:(oi (iR ns way) m).desks.length=1:=rfl;have e5:(oi (iR ns way) m).times=ko (dW ns) (cH ns):=rfl;have e6:(oi (iR ns way) m).hours=[]:=rfl;unfold eQ lI mJ;rw[e1,e2,e3,e5,e6];simp only[bq,aj,cp];omega
theorem Hn(ns:List Int)(way m:Int):(oi (iR ns way) m).kinds≠[]:=by
 have nb:=ji (dW ns);have kl:(dD (dW ns)).length=lX (dW ns):=by unfold dD;rw[aj,cP]
 show dD (dW ns)≠[];intro z;rw[z]at kl;simp at kl;omega
def Fgm(m:Int):ai->Option ai
 | .tuple [a,b,c,.int g]=>some (.tuple [a,b,c,.int (1+(g*7+m)%40)])
 |_=>none
theorem Nu(m:Int)(l:List Pc):(l.map iK).filterMap (Fgm m)=(l.map (Hi m)).map iK:=by
 rw[bQ,aL];exact filterMap_some λq _=>rfl
theorem Ho(p:Pl)(l:List Pc):mD (gL p) "paces" (.list (l.map iK))=gL { p with paces:=l }:=by
 unfold mD gL;rfl
structure LawC(P:bC)(w:bY)(K:ao)(mg:Str->Option aB)(base:cR):Prop where
 n:Na mg
 kt:Ka K
 mr:mg "reversed"=none
 ca:bM P w K mg base 1 "_law_cell_at" ["_law_script","_law_k"] (ig K BM)
 mx:bM P w K mg base 1 "_law_mix" ["_law_cell","_law_k"] (ig K xk)
 bo:bM P w K mg base 3 "_law_bounded" ["_law_script","_law_way"] (ig K Rbo)
 pt:bM P w K mg base 3 "_law_plant_text" ["_law_h"] (ig K Z7)
 rp:bM P w K mg base 9 "read_plant" ["text"] (ig K Rrp)
 pd:bM P w K mg base 2 "_law_paced_day" ["_law_h","_law_cells","_law_wild"] (ig K Rpd)
 lb:bM P w K mg base 1 "_law_breaks" ["_law_h","_law_day"] (ig K Rlb)
 pf:bM P w K mg base 1 "pace_fault" ["plant","day"] (ig K Rpf)
section
variable{P:bC}{w:bY}{K:ao}{mg:Str->Option aB}{base:cR}{f:aI}{k:Nat}
abbrev Hq:List Str:=["_law_script","_law_h","_law_m","_law_plant","_law_cells","_law_day","_law_handed","_law_due","_law_turn","_law_found"]
theorem Em:cY Hq ["_law_script"] (a_ (top 48)):=⟨rfl,rfl,rfl,by symm,rfl,by symm,by symm⟩
theorem Rc(C:LawC P w K mg base)(hn:ns.length<=63)(way m:Int):∀eZ A outer s H E,eE 9 (A.deeper (envOfC "law" (a_ (top 48)) s.heap.objs.size f eZ))->pF (jq iP P w K mg base Hq "law" (a_ (top 48)) f eZ A outer s H E).rP ((dq (top 48)).drop 3) [.val (jb ns),.val (dY (oi (iR ns way) m)),.val (.int m),.un,.un,.un,.un,.un,.un,.un] (.rt (.bool true)):=by
 intro eZ A outer s H E hr;have n:=C.n;have nd:Hq.Nodup:=Em.nd;have pw:eE 1 _:=hr.mono (by omega)
 have Uo:eE 2 _:=hr.mono (by omega)
 have YF:eE 3 _:=hr.mono (by omega)
 obtain⟨N7,gdp,U4⟩:=Kv ns way m;have otx:=KD ns way m;have NS:=Hn ns way m
 generalize oi (iR ns way) m=p at *
 have a1:0<=m%30:=bA _ (by decide)
 have a2:m%30<30:=bj _ (by decide)
 refine aP (cO 3 (d:=iz p) (bT C.rp hr (aq (bT C.pt YF (aq (ae 1 rfl) aZ) ⟨p,rfl,N7,rfl⟩) aZ) ⟨oO p,Cb p,rfl,otx,Ce N7 NS,UW N7 gdp,by rw[(Ki N7 gdp).2]⟩) nd) ?_
 refine aP (qd (tgt:=.one 4) (ds:=(As ns).map jb) (o:=.nx [.val (jb ns),.val (dY p),.val (.int m),.val (iz p),.un,.un,.un,.un,.un,.un]) dI rfl (fE (VE.to (k:=.list ((As ns).map jb)) (VO.ve (iH (aq (VO.ve (VO.to (iF (ds:=ns.map cW) (ae 0 rfl) (.yes aK) (.yes aK)) (Af _ _ _ _))) (aq (VO.ve (VO.to (k:=((L2.cutD ns (some 2) (some 30)).reverse).map cW) (DQ (VO.ve (VO.to (iF (ds:=ns.map cW) (ae 0 rfl) (.yes aK) (.yes aK)) (Af _ _ _ _))) rfl n.lst C.mr) (vR).symm)) (aq (VO.ve (iH (aq aK (aq aK (aq aK aZ))))) aZ))))) rfl)) (bE (i:=4) nd rfl (aY rfl)) (λ_=>[.val (jb ns),.val (dY p),.val (.int m),.val (iz p),.un,.un,.un,.un,.un,.un]) 3 rfl (aA _) (λt d ht hd=>?_) (.inl ⟨rfl,rfl⟩)) (bJ (cy Iw))
 obtain⟨cells,hc,rfl⟩:=aE.mp (bh hd);have AX:=Hl hn hc;have dy:=Q_ U4 (5+m%30) AX;have hS:=(uI p (5+m%30) cells cells.length).1;have mk:=FH p (5+m%30) cells cells.length;have hfb:=Aq (λq hq=>(U4.pg q hq).2) hS
 refine⟨_,rfl,?_⟩
 refine aP (cO 5 (d:=.list ((kR p (5+m%30) cells cells.length).map iD)) (bT C.pd Uo (aq (ae 1 rfl) (aq (ae 4 rfl) (aq (fy aK (eV (ae 2 rfl) aK (by decide))) aZ))) ⟨p,cells,5+m%30,rfl,U4,AX,by omega,by omega,rfl⟩) nd) ?_
 generalize kR p (5+m%30) cells cells.length=day at *
 have hL:Lay 20 (.list (day.map iD)):=Nt λq hq=>⟨(dy.gd q hq).2.1,(dy.gd q hq).2.2,mk q hq⟩
 refine aP (cO 6 (d:=.list (day.map iD)) (VO.ve (yO tf P2 (aq (ae 5 rfl) aZ) n.lst rfl)) nd) ?_
 refine aP (cO 7 (d:=G' (lR p.paces day)) (bT C.lb pw (aq (ae 1 rfl) (aq (ae 5 rfl) aZ)) ⟨p,day,rfl,N7,U4.pn,λq hq=>(U4.pg q hq).2,dy,rfl⟩) nd) ?_
 refine lK (bJ (qd (tgt:=.one 8) (o:=.nx [.val (jb ns),.val (dY p),.val (.int m),.val (iz p),.val (jb cells),.val (.list (day.map iD)),.val (.list (day.map iD)),.val (G' (lR p.paces day)),.un,.un]) dI rfl (nU (n:=2) aK n.rng (by decide) (by decide)) (bE (i:=8) nd rfl (aY rfl)) (λ_=>[.val (jb ns),.val (dY p),.val (.int m),.val (iz p),.val (jb cells),.val (.list (day.map iD)),.val (.list (day.map iD)),.val (G' (lR p.paces day)),.un,.un]) 2 rfl (aA _) (λt2 d2 PX hd2=>?_) (.inl ⟨rfl,rfl⟩))) ⟨.inr rfl,.inr rfl,.inr rfl,.inr rfl,.inl rfl,.inl rfl,.inl rfl,.inl rfl,.inl rfl,.inl rfl,trivial⟩
 obtain rfl:d2=.int (t2:Int):=by
  unfold gG at hd2;rw[aF,cg (by exact PX)]at hd2
  cases hd2;rfl
 refine⟨_,rfl,?_⟩
 refine aP (cO 9 (d:=G' (lR p.paces day)) (VE.to (bT C.pf pw (aq (ae 3 rfl) (aq (ae 6 rfl) aZ)) ⟨p,day,rfl,N7,dy.len,λq hq=>(dy.gd q hq).2.2,rfl⟩) (by rw[hfb])) nd) ?_
 generalize lR p.paces day=N
 refine aP (bW (VT.to (iY (k1:=false) (k2:=false) (VT.to (mq hr hL hL (ae 6 rfl) (ae 5 rfl)) (by rw[SeqAt.eqv_refl _ hL.1];rfl)) (λ_=>VT.to (mq hr (BP 20 _) (BP 20 _) (p_ kH nY (ae 9 rfl) gF (gb _)) (p_ kH nY (ae 7 rfl) gF (gb _))) (by rw[JX];simp))) rfl) bL) ?_
 refine lK (bJ (bW ?_ bL)) ⟨.inr rfl,.inr rfl,.inr rfl,.inr rfl,.inr rfl,.inr rfl,.inr rfl,.inr rfl,.inl rfl,.inl rfl,trivial⟩
 cases N with
 |none=>exact VT.to (rW (k1:=false) (k2:=false) (VT.to (gT EI KC (ae 7 rfl) gF (gb _)) rfl) (λz=>by cases z)) rfl
 |some i=>exact VT.to (rW (k1:=true) (k2:=false) (VT.to (gT EI KC (ae 7 rfl) gF (gb _)) rfl) (λ_=>VT.to (Dz (k1:=false) (k2:=false) (k3:=false) (VT.to (zR (nF (IJ (tn:="int") (d:=.int (i:Int)) (ae 9 rfl) rfl C.kt.ii rfl n.Zq n.int rfl) rfl)) rfl) (λ_=>VT.to (nF (IJ (tn:="bool") (d:=.int (i:Int)) (ae 9 rfl) rfl C.kt.ib rfl n.Zq n.bool rfl) rfl) rfl) (λ_ _=>VT.to (mq hr (eP 20 (i:Int)) (eP 20 (i:Int)) (ae 9 rfl) (ae 7 rfl)) (by rw[kU];simp))) rfl)) rfl
theorem U5(C:LawC P w K mg base)(hn:ns.length<=63):∀eZ A outer s H E,eE 9 (A.deeper (envOfC "law" (a_ (top 48)) s.heap.objs.size f eZ))->∀B0 B σ H0 Hh D,(∀b kvs,B0 b≠some (HO.dK kvs))->gf K B0 B H0 Hh σ (qe Hq [jb ns])->(∀v di H',dQ B0 B di H'->Rep K di v (.bool true)->D.rt v H')->
  u9 (jq iP P w K mg base Hq "law" (a_ (top 48)) f eZ A outer s H E).rP (dq (top 48)) D σ Hh:=by
 intro eZ A outer s H E hr B0 B σ H0 Hh D nb fr HG;have n:=C.n;have nd:Hq.Nodup:=Em.nd;have pw:eE 1 _:=hr.mono (by omega)
 have YF:eE 3 _:=hr.mono (by omega)
 have w0:0<=cz (ns.getD 2 0) 1%4:=bA _ (by decide)
 have w4:cz (ns.getD 2 0) 1%4<4:=bj _ (by decide)
 refine c0 (Jn fr (cO 1 (d:=dY (iR ns (cz (ns.getD 2 0) 1%4))) (bT C.bo YF (aq (ae 0 rfl) (aq (eV (bT C.mx pw (aq (bT C.ca pw (aq (ae 0 rfl) (aq aK aZ)) ⟨ns,2,rfl,rfl⟩) (aq aK aZ)) ⟨ns.getD 2 0,1,rfl,by decide,by decide,rfl⟩) aK (by decide)) aZ)) ⟨ns,_,rfl,w0,w4,rfl⟩) nd) λσ1 K3 K4 _ f1=>?_)
 generalize cz (ns.getD 2 0) 1%4=way at *
 refine c0 (Jn f1 (cO 2 (d:=.int (cz (ns.getD 2 0) 2)) (bT C.mx pw (aq (bT C.ca pw (aq (ae 0 rfl) (aq aK aZ)) ⟨ns,2,rfl,rfl⟩) (aq aK aZ)) ⟨ns.getD 2 0,2,rfl,by decide,by decide,rfl⟩) nd) λσ2 Kc Kd _ f2=>?_)
 generalize cz (ns.getD 2 0) 2=m at *
 have m5:(["_law_gate","_law_kind","_law_burst","_law_gap","_law_m"]:List Str).Nodup:=by symm
 have sW:(iR ns way).paces.length<=3:=by
  have mb:=iq (cH ns)
  show(if cz (cH ns) 90%2=0 then gW (dW ns) (cH ns) way else(gW (dW ns) (cH ns) way).reverse).length<=3
  have h1:(gW (dW ns) (cH ns) way).length<=3:=by unfold gW;rw[aj,eB];omega
  split
  ·exact h1
  ·rw[ie];exact h1
 have b0:0<=m/40%2:=bA _ (by decide)
 have eb:(((m/40%2).toNat:Nat):Int)=m/40%2:=mP b0;refine c0 (Qr (δ2:=[.val (jb ns),.val (dY (oi (iR ns way) m)),.val (.int m),.un,.un,.un,.un,.un,.un,.un]) (d:=.list ((oi (iR ns way) m).paces.map iK)) f2 hr nb 1 (kv:=gL (iR ns way)) rfl rfl ?_ (y4 _) (by unfold gL;simp)
  (VO.ve (VO.to (iF (ds:=((iR ns way).paces.map (Hi m)).map iK) (VO.ve (VO.to (eO (own:=["_law_gate","_law_kind","_law_burst","_law_gap"]) (cap:=[2]) (N:=["_law_gate","_law_kind","_law_burst","_law_gap","_law_m"]) (tgt:=.tup [0,1,2,3]) (F:=Fgm m) (ds:=(iR ns way).paces.map iK) rfl ⟨rfl,by symm,by symm,rfl,rfl,?_⟩ (fE (fN hr (ae 1 rfl) aM (tN (iR ns way)))) (λf s3 H3=>fQ rfl (bH (bE (i:=0) m5 rfl (aY rfl)) (bH (bE (i:=1) m5 rfl (aY rfl)) (bH (bE (i:=2) m5 rfl (aY rfl)) (bH (bE (i:=3) m5 rfl (aY rfl)) eU))))) rfl (small (by rw[aj];omega)) (λd hd=>?_)) (Nu m _))) (.yes (eV (j8 (ae 2 rfl) aK ⟨by decide,by decide⟩) aK (by decide))) .no) (by rw[Af,<-eb,jG];rfl))) (zj _) (ja (by show 7<=1000000;decide)) λMV MX f3=>?_)
 ·intro j sl e
  match j,e with
  |0,e=>cases e;exact .inr (.inr ⟨rfl,_,rfl,Cg ns⟩)
  |1,e=>cases e;exact .inr (.inl ⟨rfl,by rw[Ho];rfl⟩)
  |2,e=>cases e;exact .inr (.inr ⟨rfl,_,rfl,.int _⟩)
  |3,e=>cases e;exact .inl rfl
  |4,e=>cases e;exact .inl rfl
  |5,e=>cases e;exact .inl rfl
  |6,e=>cases e;exact .inl rfl
  |7,e=>cases e;exact .inl rfl
  |8,e=>cases e;exact .inl rfl
  |9,e=>cases e;exact .inl rfl
  |j+10,e=>simp at e
 ·intro j hj
  rcases av.mp hj with rfl|hj
  ·exact⟨(by show(2:Nat)<10;decide),(by first|exact aY rfl|exact b_ rfl),rfl⟩
  ·cases hj
 ·obtain⟨⟨qa,qb,qi,qj⟩,hq,rfl⟩:=aE.mp hd
  refine⟨_,rfl,λf s3 H3=>eN,λr hC f s3 H3=>?_⟩
  cases hC;exact gy (aq (ae 0 rfl) (aq (ae 1 rfl) (aq (ae 2 rfl) (aq (fy aK (eV (fy (mn (ae 3 rfl) aK (.inr ⟨by decide,by decide⟩)) (ae 4 rfl)) aK (by decide))) aZ))))
 exact Jq (Rc C hn way m eZ A outer s H E hr) f3 HG
theorem U6(F:mR K "law" "law" (top 48) f fd)(C:LawC P w K mg base):fY P w K mg base iP 10 f fd ["_law_script"] (Ox K):=by
 refine F.ok Em (λvs H Q E h=>?_) (λeZ A outer s H vs Q E hr h=>?_)
 ·obtain⟨a,ns,rfl,_⟩:=h
  rfl
 ·obtain⟨a,ns,rfl,hS,hn,q⟩:=h
  obtain⟨H0,sm,r,nb⟩:=law_small hS;exact⟨_,j7,U5 C hn eZ A outer s H E hr H0 H _ H0 H _ nb (.start sm r) λv di H' g r=>by cases r;exact q H'⟩
end
end Mg
namespace Mg
open L2 PySem PyProof.Rows
variable{g:aI}{H_:Array (Option aB)}{h:cR}{ps:List Str}{od:Option aI}{st:fH}{oc:aB}
structure fB(K:ao)(mg:Str->Option aB)(g x:Str)(st:fH)(ps:List Str):Prop where
 ex:∃f fd,mR K x x st f fd/\mg g=some (.ref f)/\∀us:List aB,us.length=ps.length->bindArgs fd ⟨us,[]⟩=pure (ps.zip us)
theorem En{K:ao}{mg:Str->Option aB}{g x:Str}{f:aI}{an: Option aI}{kV doc pm eZ ct:aB}(X:K.In h)(G:h.Ns mainGlobals mg)
  (hb:∀(kV doc pm:aB)(an:Option aI)(eZ ct:aB)(us:List aB),us.length=ps.length->bindArgs (iu x x (oy st) (dq st) (a_ st) .none kV doc pm an eZ ct) ⟨us,[]⟩=pure (ps.zip us))
  (a:PySem.W.nsIn K mainGlobals g=some (some (.ref f)))(l:K.lookup f=some ⟨oc,od,.func (iu x x (oy st) (dq st) (a_ st) .none kV doc pm an eZ ct),H_⟩)
  (c:lY K eZ x=true)(k:hX K (.ref f)=true):fB K mg g x st ps:=
 ⟨f,_,Ig l c k,nA X G a,hb kV doc pm an eZ ct⟩
section
variable{P:bC}{w:bY}{K:ao}{mg:Str->Option aB}{base:cR}{f:aI}{k:Nat}
theorem fB.call{g x:Str}{sp:Sp}(D:fB K mg g x st ps)(h:∀f fd,mR K x x st f fd->fY P w K mg base iP k f fd ps sp):bM P w K mg base k g ps sp:=by
 obtain⟨f,fd,F,hm,hb⟩:=D.ex;exact⟨f,fd,h f fd F,hm,F.kp,.all hb⟩
theorem kr{ws:List Str}{its:Array aB}{n:Nat}{sl:Array (Option aB)}(l:K.lookup g=some ⟨.type "tuple",od,.seq its n,sl⟩)(hs:its.size<=100)(hv:dS (ws.map V.str) its.toList):Jg K g ws:=
 ⟨_,_,_,l,rfl,rfl,small (by omega),hv⟩
theorem OJ{pr:zq}{kvs:List (Str×List Str)}{es:Array uP}{ep:Nat}(nm:(g==sysModules)=false)(nd:(kvs.map (·.1)).Nodup)(l:K.lookup g=some ⟨.type "dict",none,.dict es ep,#[]⟩)(ge:GE pr K es.toList kvs):GD pr K g kvs:=
 ⟨nm,nd,_,es,ep,l,⟨rfl,rfl,rfl⟩,rfl,ge⟩
structure Nv(K:ao)(mg:Str->Option aB):Prop where
 ex:∃C fi fd,mg "Plant"=some (.ref C)/\A_ K C/\(∀f∈VB,jo K C f)/\Mk K C fi/\mR K "__init__" "Plant.__init__" xF fi fd/\Binds K fd ["self"] []
theorem U7{C f:aI}{an: Option aI}{kV doc pm eZ ct:aB}(X:K.In h)(G:h.Ns mainGlobals mg)(aC:PySem.W.nsIn K mainGlobals "Plant"=some (some (.ref C)))
  (a1:c5 K (.ref C) "__init__"=some (some (.ref f)))(i1:PySem.W.isFn K (.ref f)=true)(l:K.lookup f=some ⟨oc,od,.func (iu "__init__" "Plant.__init__" (oy xF) (dq xF) (a_ xF) .none kV doc pm an eZ ct),H_⟩)(c:lY K eZ "Plant.__init__"=true)(k:hX K (.ref f)=true)
  (pg:nO K C ft=true)(hd:mV K C=true)(po:sN K C=true)(sa:c5 K (.ref C) "__setattr__"=some (some (.builtin "object.__setattr__")))(mk:vz K C=true)(kc:hX K (.ref C)=true)
  (z1:c5 K (.ref C) "kinds"=some none)(z2:c5 K (.ref C) "gates"=some none)(z3:c5 K (.ref C) "lines"=some none)(z4:c5 K (.ref C) "desks"=some none)(z5:c5 K (.ref C) "times"=some none)(z6:c5 K (.ref C) "hours"=some none)(z7:c5 K (.ref C) "paces"=some none):Nv K mg:=by
 have F:=Ig (st:=xF) l c k;refine⟨C,f,_,nA X G aC,⟨pg,hd,po,sa⟩,λf hf=>?_,⟨mk,a1,i1,kc⟩,F,F.binds (ps:=["self"]) λ_ _ _ _ _ _ us hl=>match us,hl with | [_],_=>rfl⟩
 simp only[av,aX,or_false]at hf;rcases hf with rfl|rfl|rfl|rfl|rfl|rfl|rfl
 ·exact z1
 ·exact z2
 ·exact z3
 ·exact z4
 ·exact z5
 ·exact z6
 ·exact z7
theorem Nv.pc(T:Nv K mg):PlC P w K mg base:=by
 obtain⟨C,fi,fd,h1,h2,h3,h4,h5,h6⟩:=T.ex;exact⟨C,fi,fd,h1,h2,h3,h4,Yg h5 h2 h3,h6⟩
structure Defs(K:ao)(mg:Str->Option aB)(pr:zq):Prop where
 n:Np mg pr K
 nw:Nw mg
 kt:Ka K
 pa:Nv K mg
 md:mg "dict"=none
 mm:mg "max"=none
 ms:mg "sum"=none
 mr:mg "reversed"=none
 d0:fB K mg "is_made_of" "is_made_of" (top 12) ["signs","longest","word"]
 d1:fB K mg "is_name" "is_name" (top 13) ["word"]
 d2:fB K mg "is_number" "is_number" (top 14) ["word"]
 d3:fB K mg "words_of" "words_of" (top 15) ["row"]
 d4:fB K mg "rows_of" "rows_of" (top 16) ["text"]
 d5:fB K mg "greatest_load" "greatest_load" (top 6) ["rule","many"]
 d6:fB K mg "read_plant" "read_plant" (top 22) ["text"]
 d7:fB K mg "fits" "fits" (top 23) ["shape","word"]
 d8:fB K mg "value_of" "value_of" (top 24) ["shape","word"]
 d9:fB K mg "values_of" "values_of" (top 25) ["shapes","words"]
 YG:fB K mg "entry_of" "entry_of" (top 26) ["words"]
 YH:fB K mg "desk_entry" "desk_entry" (top 27) ["words"]
 YJ:fB K mg "rule_of" "rule_of" (top 28) ["words","many"]
 YK:fB K mg "are_places" "are_places" (top 29) ["names"]
 YL:fB K mg "fault_of" "fault_of" (top 30) ["plant","entry"]
 YM:fB K mg "tells_twice" "tells_twice" (top 31) ["plant","entry"]
 YN:fB K mg "lacks_name" "lacks_name" (top 32) ["plant","entry"]
 YQ:fB K mg "lacks_room" "lacks_room" (top 33) ["plant","entry"]
 YR:fB K mg "is_place" "is_place" (top 34) ["plant","name"]
 YS:fB K mg "is_desk" "is_desk" (top 35) ["plant","name"]
 YT:fB K mg "takers_of" "takers_of" (top 36) ["plant","place"]
 YV:fB K mg "add_entry" "add_entry" (top 37) ["plant","entry"]
 YW:fB K mg "pace_fault" "pace_fault" (top 1) ["plant","day"]
 YX:fB K mg "_law_cell_at" "_law_cell_at" (top 39) ["_law_script","_law_k"]
 YY:fB K mg "_law_mix" "_law_mix" (top 40) ["_law_cell","_law_k"]
 YZ:fB K mg "_law_names" "_law_names" (top 41) ["_law_cell","_law_many"]
 Y0:fB K mg "_law_dash" "_law_dash" (top 42) ["_law_thing"]
 Y1:fB K mg "_law_rule_text" "_law_rule_text" (top 43) ["_law_rule"]
 Y2:fB K mg "_law_plant_text" "_law_plant_text" (top 44) ["_law_h"]
 Y3:fB K mg "_law_bounded" "_law_bounded" (top 45) ["_law_script","_law_way"]
 Y4:fB K mg "_law_breaks" "_law_breaks" (top 46) ["_law_h","_law_day"]
 Y5:fB K mg "_law_paced_day" "_law_paced_day" (top 47) ["_law_h","_law_cells","_law_wild"]
theorem Defs.all(D:Defs K mg w.params):LawC P w K mg base:=by
 have n:=D.n;have nw:=D.nw;have pc:=D.pa.pc (P:=P) (w:=w) (base:=base);have tZ:=D.d0.call (P:=P) (w:=w) (base:=base) λ_ _ F=>XE F nw
 have uL:=D.d1.call (P:=P) (w:=w) (base:=base) λ_ _ F=>XF F nw tZ
 have vt:=D.d2.call (P:=P) (w:=w) (base:=base) λ_ _ F=>XG F nw tZ
 have Eo:=D.d3.call (P:=P) (w:=w) (base:=base) λ_ _ F=>XH F
 have Hr:=D.d4.call (P:=P) (w:=w) (base:=base) λ_ _ F=>XI F nw Eo
 have vK:=D.d5.call (P:=P) (w:=w) (base:=base) λ_ _ F=>Yc F
 have Nx:=D.d7.call (P:=P) (w:=w) (base:=base) λ_ _ F=>Up F n.toNa uL vt
 have Rf:=D.d7.call (P:=P) (w:=w) (base:=base) λ_ _ F=>XU F n.toNa uL vt Nx
 have Ep:=D.d8.call (P:=P) (w:=w) (base:=base) λ_ _ F=>XW F n.toNa
 have qB:=D.d9.call (P:=P) (w:=w) (base:=base) λ_ _ F=>XX F n.toNa n.zip Rf Ep
 have Ht:=D.YJ.call (P:=P) (w:=w) (base:=base) λ_ _ F=>Uv F n qB
 have Au:=D.YK.call (P:=P) (w:=w) (base:=base) λ_ _ F=>XY F n uL
 have Av:=D.YH.call (P:=P) (w:=w) (base:=base) λ_ _ F=>X1 F n qB Ht Au
 have Es:=D.YG.call (P:=P) (w:=w) (base:=base) λ_ _ F=>X8 F n qB Av
 have xQ:=D.YR.call (P:=P) (w:=w) (base:=base) λ_ _ F=>X' F
 have zk:=D.YS.call (P:=P) (w:=w) (base:=base) λ_ _ F=>Ya F
 have Cu:=D.YT.call (P:=P) (w:=w) (base:=base) λ_ _ F=>Yb F
 have yr:=D.YM.call (P:=P) (w:=w) (base:=base) λ_ _ F=>Yd F n xQ zk Cu
 have Aw:=D.YN.call (P:=P) (w:=w) (base:=base) λ_ _ F=>Ye F n xQ zk
 have Ax:=D.YQ.call (P:=P) (w:=w) (base:=base) λ_ _ F=>UI F n vK
 have Et:=D.YL.call (P:=P) (w:=w) (base:=base) λ_ _ F=>Yf F yr Aw Ax
 have Cv:=D.YV.call (P:=P) (w:=w) (base:=base) λ_ _ F=>Yi F
 have Ay:=D.d6.call (P:=P) (w:=w) (base:=base) λ_ _ F=>Yn F n pc Hr Es Et Cv
 have Az:=D.YW.call (P:=P) (w:=w) (base:=base) λ_ _ F=>Yq F n.Rn D.mm
 have rJ:=D.YX.call (P:=P) (w:=w) (base:=base) λ_ _ F=>QP F n.len
 have qV:=D.YY.call (P:=P) (w:=w) (base:=base) λ_ _ F=>Ug F
 have Cw:=D.YZ.call (P:=P) (w:=w) (base:=base) λ_ _ F=>XM F n.toNm qV
 have xR:=D.Y0.call (P:=P) (w:=w) (base:=base) λ_ _ F=>XR F n.toNa
 have vL:=D.Y1.call (P:=P) (w:=w) (base:=base) λ_ _ F=>XS F n.toNa xR
 have uM:=D.Y2.call (P:=P) (w:=w) (base:=base) λ_ _ F=>XT F n.toNa xR vL
 have yt:=D.Y3.call (P:=P) (w:=w) (base:=base) λ_ _ F=>YD F n.toNa n.zip D.ms rJ qV Cw
 have AA:=D.Y4.call (P:=P) (w:=w) (base:=base) λ_ _ F=>Yt F n.Rn D.md n.len
 have vM:=D.Y5.call (P:=P) (w:=w) (base:=base) λ_ _ F=>Yw F n.toNa D.md D.mm n.int qV
 exact⟨n.toNa,D.kt,D.mr,rJ,qV,yt,uM,Ay,vM,AA,Az⟩
end
theorem walk{l:PySem.W.OpenLaw}{q:bC}{loose:List Str}{XP:(Str->Option aB)->cR->Prop}{YP:bY->cR->Prop}{d:DefRec}{K:zq->ao}(hn:l.most=some 63)(SF:d.params.defaults=[])(Vr:d.name="law")
  (hY:∀(w:bY)(h:cR),YP w h->(K w.params).In h)
  (F:∀(w:bY)(mg:Str->Option aB)(h:cR),(K w.params).In h->h.Ns mainGlobals mg->Defs (K w.params) mg w.params/\fB (K w.params) mg "law" "law" (top 48) ["_law_script"]):
  PySem.W.WalkO q loose XP YP l.row.toRowW d [] (λf vs=>PySem.call f vs):=
 L2.Lz (n:=63) (k:=10) (x:="_law_script") (CX:=λ_=>iP) (sp:=λw=>Ox (K w.params)) hn (by decide) SF ⟨rfl,by decide,by decide⟩ hY (λw mg fa h X G KN=>by
  obtain⟨D,L⟩:=F w mg h X G;obtain⟨f,fd,Fl,hm,hb⟩:=L.ex;rw[Vr]at KN;rw[hm]at KN;cases KN;exact⟨fd,λs v=>.of_eq (hb [v] rfl),λbase _ _=>U6 Fl D.all⟩) (λ_ _ a ns hl _ hS=>⟨a,ns,rfl,hS,hl,λ_=>rfl⟩) λ_ _ _ _ _ z=>z
end Mg
namespace PySem.W.Fast
def tw10104149189252513081:=()
def tw10129425560339120422:=()
def tw10143874942759015774:=()
def tw10148579571050158915:=()
def tw10231190699783696353:=()
def tw10327458999579410155:=()
def tw10352786688707705409:=()
def tw10368015037391554635:=()
def tw10410027101690866033:=()
def tw10424223669778002813:=()
def tw10602198628545481374:=()
def tw10602424025721135065:=()
def tw10731289001595976991:=()
def tw10772636001218228712:=()
def tw1083816995894096896:=()
def tw10901695725089648022:=()
def tw1101835136091576631:=()
def tw11069702744366420664:=()
def tw11111589908380203970:=()
def tw11117260896226926930:=()
def tw11169026156124212692:=()
def tw11304704217159951984:=()
def tw11382253640994425099:=()
def tw11388849948882059809:=()
def tw11395436591703094152:=()
def tw11424453968478119100:=()
def tw11439416841670776810:=()
def tw11460096432162214442:=()
def tw11507973314995798949:=()
def tw11627439212428643713:=()
def tw11654860624549657495:=()
def tw11662351571192782081:=()
def tw11712958793315257699:=()
def tw11947189662541654172:=()
def tw1196083252023224159:=()
def tw11995602564561600157:=()
def tw11997307373982845347:=()
def tw12128609989171395797:=()
def tw12179001275564609689:=()
def tw12179495725675180565:=()
def tw12361897140594654303:=()
def tw12591138798863792418:=()
def tw12598426523459397404:=()
def tw12802184530312066248:=()
def tw13116712557101127260:=()
def tw13155627088443091289:=()
def tw13296475426609340630:=()
def tw1335048828122785966:=()
def tw13437692419749731001:=()
def tw13441909022855021667:=()
def tw13525822181243881306:=()
def tw13537932399151608328:=()
def tw13546585572018033481:=()
def tw13611666916462366576:=()
def tw13663180139750998731:=()
def tw13727633735925428962:=()
def tw13733352247729836136:=()
def tw13747259356834700867:=()
def tw1382191519178893661:=()
def tw13870643911821223318:=()
def tw13892309841259262562:=()
def tw13905698262916305218:=()
def tw13958266333418421313:=()
def tw13989665788424274809:=()
def tw14111311448245936783:=()
def tw14143873903130997017:=()
def tw14178167140684021086:=()
def tw14265259556539323751:=()
def tw14312829598698050946:=()
def tw14339800065257768674:=()
def tw14360713789829812188:=()
def tw14368991823296528140:=()
def tw1441119796162144854:=()
def tw1444079002445787884:=()
def tw14509086914612801439:=()
def tw145579318462391059:=()
def tw14579757096821305420:=()
def tw14607980436978915298:=()
def tw14752988720140282311:=()
def tw14841380547686176018:=()
def tw14895349557854868298:=()
def tw15041787552044884294:=()
def tw15056884135306845655:=()
def tw15160681086888992427:=()
def tw15235097961396724765:=()
def tw15295385738502500029:=()
def tw15486746119731184635:=()
def tw15550512396810929120:=()
def tw15635090924362206333:=()
def tw15754102167506165394:=()
def tw15840122501737985889:=()
def tw15841933039490671563:=()
def tw15859275760763800567:=()
def tw15901525621222610364:=()
def tw1593457956055712608:=()
def tw15984772523752827140:=()
def tw16023535961291644958:=()
def tw16070468174439369164:=()
def tw16200055895803730813:=()
def tw16390744512641196667:=()
def tw16503855080543091014:=()
def tw16542494189446353308:=()
def tw16559641470086501216:=()
def tw16649702252085999010:=()
def tw16662743316472062811:=()
def tw16685557863957561549:=()
def tw16740190986283409755:=()
def tw16799384392817228024:=()
def tw16809636281782692635:=()
def tw1681835855896806456:=()
def tw16818929255698114491:=()
def tw168381091927182362:=()
def tw16846219448025279403:=()
def tw16883121370862639264:=()
def tw16918589112228402169:=()
def tw16949032054637231829:=()
def tw16969675639280501179:=()
def tw17057644781656541612:=()
def tw17070430321456545773:=()
def tw17081659647038431463:=()
def tw17129667398067919407:=()
def tw17150928042576290466:=()
def tw1717696968497137692:=()
def tw17258079277220205827:=()
def tw17421809895439332120:=()
def tw17473446567426545389:=()
def tw17505747280835729242:=()
def tw17542665596042542529:=()
def tw17549473052188888615:=()
def tw17555009942949804258:=()
def tw17632901471609766865:=()
def tw17655887672049595783:=()
def tw17674617475294537180:=()
def tw17910953488623629554:=()
def tw1792798879030466919:=()
def tw1794861355273566885:=()
def tw18091135528076219249:=()
def tw18275000151781459171:=()
def tw18295658726064330959:=()
def tw18354616490262279767:=()
def tw1881830054052040358:=()
def tw1997378840085507211:=()
def tw2009325922636256330:=()
def tw207962834111273326:=()
def tw2131742585392751988:=()
def tw2265511643783313472:=()
def tw2271961761408613027:=()
def tw2290721368427685202:=()
def tw2321238891557084090:=()
def tw2335727559583952822:=()
def tw2350392212649857139:=()
def tw2429970397027178705:=()
def tw2443074616326728150:=()
def tw2511175751739019585:=()
def tw2592849827596802280:=()
def tw2634691046107638799:=()
def tw2640020901960975297:=()
def tw2649458112456375115:=()
def tw2649834531522398632:=()
def tw265168697672633399:=()
def tw2794893204060772700:=()
def tw2883421139126427050:=()
def tw2931836162680739700:=()
def tw3119683130093342964:=()
def tw3286130276249622419:=()
def tw3287005401130511332:=()
def tw3309038671390992147:=()
def tw3409330459863542263:=()
def tw3447728293467789328:=()
def tw3455923581545391824:=()
def tw3543048183848600308:=()
def tw3583958178636508182:=()
def tw3675168932963324405:=()
def tw3803251321468206105:=()
def tw4124148480356422503:=()
def tw4215653537727864826:=()
def tw4234455141034661875:=()
def tw4399836082828441284:=()
def tw4418967809628797141:=()
def tw4446022228385728805:=()
def tw4614357007496206783:=()
def tw4625986128070183714:=()
def tw4843804121715678946:=()
def tw4853603278304587586:=()
def tw4968081504763659405:=()
def tw4977534260998657668:=()
def tw5076097888244054165:=()
def tw5077091230919012233:=()
def tw5167242621659924995:=()
def tw5191108268925914901:=()
def tw5458552811369260866:=()
def tw5473044749628209052:=()
def tw5475528334282518586:=()
def tw5478273468564288051:=()
def tw5633150755169789830:=()
def tw5666472374853059215:=()
def tw5777558090794074178:=()
def tw581808301901689770:=()
def tw5865814037468656395:=()
def tw5910155700263723681:=()
def tw595893118507548178:=()
def tw5974850879453526837:=()
def tw612044393374431264:=()
def tw6225911132811551835:=()
def tw626349159136356790:=()
def tw6370173445581444924:=()
def tw639009247085346462:=()
def tw6440184494656802985:=()
def tw6456938359914421722:=()
def tw647928328039079772:=()
def tw6505650913398782646:=()
def tw6508576616068449939:=()
def tw6641130653943369286:=()
def tw6692735911100910959:=()
def tw6753867196845613326:=()
def tw6794427613991634285:=()
def tw6879599393601889484:=()
def tw6900758282020075395:=()
def tw6956276566693019116:=()
def tw7012448761822604984:=()
def tw7024254525269514910:=()
def tw7060158896963819620:=()
def tw7084344802804562448:=()
def tw7123735750859846274:=()
def tw7225989635501889722:=()
def tw7250057382274126515:=()
def tw7304962265673930633:=()
def tw7336622185311205653:=()
def tw7348509959341649775:=()
def tw7353587467581784973:=()
def tw7564329026722636884:=()
def tw7738416576376089992:=()
def tw7952678773618209907:=()
def tw7980167320729809258:=()
def tw8053793172866803911:=()
def tw8127258563360765500:=()
def tw8147079518808808713:=()
def tw8229169551681880217:=()
def tw8250299247239035841:=()
def tw8433563236968135237:=()
def tw853284878713871114:=()
def tw8642997603994107203:=()
def tw8886744726038812066:=()
def tw88872249045178250:=()
def tw9010248186550298583:=()
def tw9134146062030424774:=()
def tw9181245325546414775:=()
def tw9448854667864657987:=()
def tw9474711576059016258:=()
def tw9570828447796036335:=()
def tw9630527232183781376:=()
def tw9643502352207750419:=()
def tw9696658833313110749:=()
def tw9803419658124157662:=()
def tw9842026021975919040:=()
def tw9844179343254612027:=()
def tw9860855415630799700:=()
def tw987275016134771723:=()
def tw9962716696025044206:=()
end PySem.W.Fast
open PySem PySem.W PyProof.Rows
theorem PySem.Challenge.cw_mergeline_k61_pace_fault_holds : PySem.Challenge.rw_mergeline_k61_pace_fault.Holds := by
 w_on;o_law;k_head;(case hw=>w_witness2)
 k_fill
 refine Mg.walk (l:=PySem.Challenge.rw_mergeline_k61_pace_fault) rfl rfl rfl (λw h Y=>PySem.W.kIn_of Y) ?F
 case F=>
  intro w mg h KX G;refine⟨⟨⟨⟨⟨?n1,?n2,?n3,?n4,?n5,?n6,?n7,?n8,?n9,?n10,?n11,?n12⟩,?n13,?n14⟩,?y1,?y2,?y3,?ymp,?yfo,?yru⟩,⟨?w1,?w2,?w3,?xa,?xb,?xc,?xd⟩,⟨?t0,?t1,?t2,?t3,?t4,?t5,?t6,?t7,?t8,?t9,?t10,?t11⟩,?ypl,?md,?mm,?ms,?mr,?d0,?d1,?d2,?d3,?d4,?d5,?d6,?d7,?d8,?d9,?YG,?YH,?YJ,?YK,?YL,?YM,?YN,?YQ,?YR,?YS,?YT,?YV,?YW,?YX,?YY,?YZ,?Y0,?Y1,?Y2,?Y3,?Y4,?Y5⟩,?law⟩
  case n1|n2|n3|n4|n5|n6|n7|n8|n9|n10|n11|n12|n13|n14|y1|y2|y3|w1|w2|w3|md|mm|ms|mr=>exact PySem.W.mg_none_of KX G (by k_is)
  case ymp|xa|xb|xc|xd=>exact⟨_,nA KX G (by k_is)⟩
  case yfo=>refine⟨_,nA KX G (by k_is),Mg.OJ (by decide) (by symm) (by k_is) (.cons rfl (Mg.kr (by k_is) (by decide) (.cons ⟨_,rfl⟩ (.cons ⟨_,rfl⟩ .nil))) (.cons rfl (Mg.kr (by k_is) (by decide) (.cons ⟨_,rfl⟩ .nil)) (.cons rfl (Mg.kr (by k_is) (by decide) (.cons ⟨_,rfl⟩ (.cons ⟨_,rfl⟩ .nil))) (.cons rfl (Mg.kr (by k_is) (by decide) (.cons ⟨_,rfl⟩ (.cons ⟨_,rfl⟩ (.cons ⟨_,rfl⟩ .nil)))) (.cons rfl (Mg.kr (by k_is) (by decide) (.cons ⟨_,rfl⟩ (.cons ⟨_,rfl⟩ (.cons ⟨_,rfl⟩ .nil)))) (.cons rfl (Mg.kr (by k_is) (by decide) (.cons ⟨_,rfl⟩ (.cons ⟨_,rfl⟩ (.cons ⟨_,rfl⟩ (.cons ⟨_,rfl⟩ .nil))))) .nil))))))⟩
  case yru=>refine⟨_,nA KX G (by k_is),Mg.OJ (by decide) (by symm) (by k_is) (.cons rfl (Mg.kr (by k_is) (by decide) .nil) (.cons rfl (Mg.kr (by k_is) (by decide) (.cons ⟨_,rfl⟩ .nil)) (.cons rfl (Mg.kr (by k_is) (by decide) (.cons ⟨_,rfl⟩ .nil)) (.cons rfl (Mg.kr (by k_is) (by decide) (.cons ⟨_,rfl⟩ (.cons ⟨_,rfl⟩ .nil))) (.cons rfl (Mg.kr (by k_is) (by decide) .nil) .nil)))))⟩
  case t0|t1|t2|t3|t4|t5|t6|t7|t8|t9|t10|t11=>kit_is
  case ypl=>refine' Mg.U7 KX G ?aC ?a1 ?i1 ?l ?c ?k ?pg ?hd ?po ?sa ?mk ?kc ?z1 ?z2 ?z3 ?z4 ?z5 ?z6 ?z7;(case aC|a1|i1|l|c|k|pg|hd|po|sa|mk|kc|z1|z2|z3|z4|z5|z6|z7=>k_is)
  case d1|d2|d3|d4|d6|YG|YH|YK|Y0|Y1|Y2|law=>refine' Mg.En KX G (λ_ _ _ _ _ _ us hl=>match us,hl with | [_],_=>rfl) ?a ?l ?c ?k;(case a|l|c|k=>k_is)
  case d5|d7|d8|d9|YJ|YL|YM|YN|YQ|YR|YS|YT|YV|YW|YX|YY|YZ|Y3|Y4=>refine' Mg.En KX G (λ_ _ _ _ _ _ us hl=>match us,hl with | [_,_],_=>rfl) ?a ?l ?c ?k;(case a|l|c|k=>k_is)
  case d0|Y5=>refine' Mg.En KX G (λ_ _ _ _ _ _ us hl=>match us,hl with | [_,_,_],_=>rfl) ?a ?l ?c ?k;(case a|l|c|k=>k_is)
