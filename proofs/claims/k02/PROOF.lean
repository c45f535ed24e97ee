import PyProof.Rows.All
import Wide.All
import OpenK.AllK
import Wide.FinOn
import Lean
import PyProof.EqAt
import PyProof.EqKinds
import PyProof.TupleCall
import PyProof.Rows.SetFrom
import PyProof.TupleKey
import KE.KSortTup
import PyProof.ListRange
import PyProof.ConsumeS
import KE.KIntText
import PyProof.StrCalls2
import PyProof.StrOps2
import PyProof.SliceStr2
import PyProof.StrWalks
import PyProof.Rows.StrJoin2
import PyProof.ZipIter
import PyProof.TupleIter
import PyProof.ListMulRoad
import PyProof.WalksMore
import KE.KDictLaws
import KE.KDictList
import PyProof.IsiH_list
import PyProof.AttrMiss
import KE.KDictOf
import PyProof.StationsW
import PyProof.ExcInit
import PyProof.ExcClass2
import PyProof.ExcBaseAll.ValueError
import OpenK.KMake
import OpenK.KCls
import PyProof.Rows.FStr
import PyProof.LayNew
import PyProof.RulesAs
import PyProof.NsDelKeeps
import PyProof.ExcAttrAll.ValueError
import KE.KIsAll
import PyProof.CollectIter
import PyProof.TupleOfStr
import KE.KEqDict
import PyProof.DictWalks
import KE.KRevSl
import KE.KSortedL
import PyProof.DictItemsLoops
import KE.KPairComp
import PyProof.DictIter
import PySem.Challenge.RW_mergeline_k02_plants_written
set_option Elab.async false
set_option linter.all false
set_option maxRecDepth 100000
set_option maxHeartbeats 4000000
open Array renaming getElem?_eq_getElem→fA,getElem?_eq_none→Ej,getElem?_eq_some_iff→Bc,getElem?_toList→fD,length_toList→cu,mem_toList_iff→Gz,size_append→wV
open Bool renaming and_eq_true_iff→iI,and_eq_true→gT,eq_false_iff→pY,eq_iff_iff→gx,false_ne_true→gV,not_eq_true→yZ,or_true→Gq,true_and→qv
open False renaming elim→gU
open ForInStep renaming yield→qp
open Int renaming emod_lt_of_pos→cQ,emod_nonneg→cX,eq_ofNat_of_zero_le→rP,toNat_natCast→cN,toNat_of_nonneg→kO
open List renaming all_eq_true→cV,all_map→Gn,any_cons→m_,any_eq_false→xX,any_eq_true→mZ,append_assoc→bS,append_nil→bC,cons_ne_nil→rE,drop_eq_nil_of_le→rW,drop_succ_cons→vN,drop_zero→uH,eq_nil_of_length_eq_zero→nA,ext_getElem?→iG,filterMap_append→uh,filterMap_cons_none→f6,filterMap_cons_some→c5,filterMap_cons→kJ,filterMap_map→cO,filter_append→oU,filter_cons_of_neg→Ek,filter_cons_of_pos→rF,filter_cons→iR,filter_eq_nil_iff→Gr,filter_nil→A4,find?_cons→eA,flatten_cons→ft,foldl_append→d_,foldl_cons→dN,getD_eq_getElem?_getD→aQ,getElem?_append_left→bN,getElem?_append_right→bF,getElem?_eq_getElem→ax,getElem?_eq_none→eO,getElem?_eq_some_iff→aq,getElem?_map→ay,getElem?_range→kK,getElem?_replicate→cK,getElem?_set_ne→aO,getElem?_set_self→aR,getElem?_zipIdx→I_,getElem?_zip_eq_some→pU,getElem_inj→rA,getElem_map→ko,getElem_mem→eD,head?_eq_getElem?→Gs,length_append→aN,length_cons→bj,length_drop→iQ,length_eq_zero_iff→gq,length_filterMap_le→f7,length_map→ae,length_nil→cx,length_range→cW,length_replicate→dY,length_set→eT,length_singleton→jH,length_take→bU,length_zip→sr,length→dq,lookup_cons→dR,lookup→k7,map_append→aH,map_congr_left→dS,map_cons→ao,map_drop→qw,map_map→aG,map_nil→eC,map_set→kf,map_singleton→fU,map_take→Eb,map→rC,mem_append_left→bH,mem_append_right→bt,mem_append→aT,mem_cons_of_mem→aD,mem_cons_self→aB,mem_cons→au,mem_filterMap→jl,mem_flatten→y0,mem_iff_getElem?→mM,mem_map→aj,mem_of_getElem?→aF,mem_of_mem_drop→nD,mem_of_mem_take→iH,mem_or_eq_of_mem_set→kx,mem_range→gb,mem_replicate→jm,mem_singleton→aA,mem_take_iff_getElem→pV,nil_append→nV,nodup_append→cF,nodup_cons→cD,nodup_nil→gX,not_mem_nil→aS,of_mem_zip→nU,pairwise_iff_getElem→ky,range_succ→sj,range→cv,replicate_succ→eM,replicate→bo,set_comm→vQ,size_toArray→bJ,sum_cons→qx,sum_nil→Gp,take_add_one→cB,take_append_drop→GK,take_length→bV,take_of_length_le→gJ,take_sublist→xY,take_zero→BF,toArray→bf,zip_append→A2,zip_cons_cons→eV
open List.Pairwise renaming map→rZ
open List.Sublist renaming refl→ui,trans→BH
open List.cons renaming inj→jb
open Nat renaming eq_zero_or_pos→wN,le_add_right→rO,le_of_ble_eq_true→hZ,le_of_lt→yz,le_of_not_lt→eI,le_refl→aE,le_trans→bZ,lt_of_lt_of_le→bX,lt_succ_of_lt→qu,lt_trans→yC,min_eq_left→nZ,mul_le_mul→fu,ne_of_gt→eG,ne_of_lt→aZ,one_le_iff_ne_zero→su,sub_self→yG,succ_mul→GB,toDigits_of_lt_base→lC,toDigits→iK,zero_add→r9,zero_le→aY
open Ne renaming symm→bD
open Option renaming isSome_map→wH,map_eq_some_iff→rB,map_some→dJ,toList_some→vM
open Option.some renaming injEq→eY,inj→bK
open Or renaming inl→jc
open PyProof.Rows renaming AllBare→uT,IntsAre→A9,assignInOrder_cons→jK,assignInOrder_nil→A7,callWith_type1→iT,slot_tuple_getitem→kX
open PyProof.Rows.F renaming entry_set_update_loop→I0
open PyProof.Rows.IsTup renaming new→uG
open PySem renaming Addr→J,Around→g7,Builtin→rV,DictEntry→fq,Expr→bY,FuncData→iu,GenState→A5,Heap→dv,IsItemIter→lO,IsPair→GF,IsPart→CJ,NameKind→oQ,Paired→wK,Params→GC,PassesOwn→uz,Program→bW,PyData→U,Result→GA,Scope→nT,Shared→aU,Spec→eU,Stmt→kr,Str→O,Value→M,Within→Eh,World→cP,boot_len→uB,call_meets→lM,codeAny_builtin→lI,codeAny_mono→pX,evalArgs_none→Je,isSubtype_stop→GH,length_partsBetween→yD,mem_of_lookup→iP,plainId_quiet→yW,sizeLine_eq→cL,tupleKind_room_in1→jL,typeIs_str→uV,wpAny_Call_Name_kw→qA,wpAny_Call_method→rU,wpAny_attempt→lE,wpAny_bindName→qz,wpAny_bind→L,wpAny_callSpecial?_slot→dE,wpAny_call_entry→eN,wpAny_dictEntries→kj,wpAny_dictEpoch→lK,wpAny_execs_nil→Ei,wpAny_fieldsOf→wU,wpAny_field→dM,wpAny_holding→hV,wpAny_isInstance→CM,wpAny_isOneOf_itemiter→uX,wpAny_ite_false→lJ,wpAny_letGo→Ea,wpAny_letOwnedTupleGo_items→Gm,wpAny_loadPart'→fS,wpAny_mono→iw,wpAny_newObj_type→cR,wpAny_notOrdered_dict→vS,wpAny_onRaise→yX,wpAny_passesOwn→pD,wpAny_pure→aM,wpAny_pyIter_keyiter→wR,wpAny_pyIter_list→m9,wpAny_pyIter_tuple→zy,wpAny_rule→uU,wpAny_seqItems→iy,wpAny_setField_rec→dO,wpAny_setField→qC,wpAny_standAt→rX,wpAny_truthy_bool→fB,wpAny_typeNameOfWhole_itemiter→jq,wpAny_typeNameOfWhole_keyiter→jJ,wpAny_updateSeq_pair→wO
open PySem.Around renaming under→D6
open PySem.AutoSeq1 renaming idx_int→Jc,sub_tuple_tuple→A1
open PySem.Builtin.Dict renaming showsAll→k5
open PySem.Builtin.Dict_items renaming ownedTupleFields→pH,ownsTuple→fx
open PySem.Builtin.List renaming listFitsIndex→wI
open PySem.Builtin.Slice renaming sliceAdjust→wG,slicePlaces→jw
open PySem.Builtin.SmallTypes renaming nextOf→iV
open PySem.Builtin.Str renaming strSliceIndices→qy
open PySem.Calls renaming Name_function_global→A6,callWith_builtin→rM,evalArgs_plain→uA,spliced_cons→k0,spliced_nil→wL
open PySem.Code renaming isFrame→Gj
open PySem.F renaming args_dict_get_3→Bz,args_dict_itemiterator_next_1→A3,args_dict_keyiterator_next_1→Bb,args_str_split_2→yE,args_tuple_add_2→A8,args_tuple_iterator_next_1→CL,called_set→kN,entry_dict_get→CK,entry_dict_itemiterator_next→Bd,entry_dict_keyiterator_next→BG,entry_str_split→zA,entry_tuple_add→Bx,entry_tuple_iterator_next→D_,plainAttrs_dict→BD,plainAttrs_list→dZ,plainAttrs_str→qB,slot_dict_getitem→oS,slot_dict_get→rN,slot_dict_itemiterator_next→gu,slot_dict_items→rD,slot_dict_keyiterator_next→gI,slot_dict_setdefault→yF,slot_list_append→fM,slot_list_getattribute→k8,slot_str_join→D8,slot_str_split→A_,slot_tuple_add→CH,slot_tuple_iterator_next→ku,slot_tuple_mul→Ba,slot_zip_next→uI,type_list_append→fN,type_str_join→D9
open PySem.Heap renaming ExtBut→zB,NewAttrErr→sf,SameBut→dA,get?_push_of_some→av,get?_push_size→aV,get?_update_other→Gk,get?_update_self→ug,lt_size→aX,size_push→gW
open PySem.Heap.SameBut renaming update→jI
open PySem.MeetsSeq renaming plain_index_loop→rY
open PySem.NameKind renaming cell→lN,free→dI
open PySem.Obj renaming data_mapFields→pF,isFreed_of_fields→Jb,mapSeq→wM
open PySem.Paired renaming length→uS
open PySem.PassesOwn renaming never→bL
open PySem.PyData renaming bool→iq,canLay0→bR,canLayAll0→pE,eqv→df,int→eJ,list→pG,str→aJ,tuple→dg
open PySem.SeqAt renaming readOf→wQ
open PySem.Shared renaming TypeIs→uW
open PySem.Str renaming empty→fW,join→bB,length_append→cG,ofString→sk
open PySem.StrLaws renaming found_one→vT,join_split→n_,occ_length_le→D7,split_free→uY
open PySem.Txt renaming slice_le→GJ,slice→iF,split→cz
open PySem.Value renaming isStrOf→vL,none→iJ,ref→ck,type→vP
open PySem.W renaming Frag→ai,cellsFrom_some→CG,codeIn→nY,emptyDict→h8,findIn→c7,fnOf→iU,hasDictIn→oT,instObj→hU,keepIn→iL,kia_one→hX,kitOne→bp,kitx_dict→Jd,lookIn→zz,makesIn→yB,mg_of→pI,plainGet→pW,plainOver→vR,takerIn→yA
open Sum renaming inl→yy,inr→bh
open Sum.inr renaming inj→mK
open True renaming intro→fQ
def qQ0:=@decide_eq_false
def qQ1:=@decide_eq_true
def qQ2:=@if_neg
def qQ3:=@if_pos
def qQ4:=@of_decide_eq_true
def qQ5:=@of_decide_eq_false
def qQ6:=@congrArg
def qQ7:=@absurd
local macro_rules|`(tactic|symm)=>`(tactic|decide +kernel)
local macro_rules|`(tactic|left)=>`(tactic|first|exact Or.inl rfl|exact Or.inr rfl|exact Or.inr (Or.inl rfl)|exact Or.inr (Or.inr rfl)|assumption)
local macro_rules|`(tactic|ext)=>`(tactic|(intro _ _ h;(repeat obtain⟨_,h⟩:=h);subst_vars;rfl))
local macro_rules|`(tactic|ac_rfl)=>`(tactic|exact⟨rfl,by first|exact Or.inl rfl|exact Or.inr (Or.inl rfl)|exact Or.inr (Or.inr rfl),by decide,by decide⟩)
local macro_rules|`(tactic|grind)=>`(tactic|exact⟨rfl,rfl,rfl,by decide +kernel,rfl,by decide +kernel,by decide +kernel⟩)
set_option autoImplicit true
set_option relaxedAutoImplicit true
section
local macro_rules|`(#[$a])=>`(⟨$a⟩)|`(#[$a,$b,*])=>`(⟨$a,$b,*⟩)
theorem Y{α:Sort u}{a:α}:a=a:=rfl
local macro_rules|`(())=>`(by omega)
local macro_rules|`(∅)=>`(by simp)
local macro_rules|`(⋯)=>`(by decide)
local macro_rules|`(∎)=>`(by symm)
local macro_rules|`(↑$x)=>`(by simpa using $x)
open Lean Parser.Tactic in
def XD:Nat->Term->MacroM (TSyntax `rcasesPat)
 |0,_=>Macro.throwUnsupported
 |n+1,x=>match x with
  |`(#[$a,*])=>do `(rcasesPat|⟨$(<-a.getElems.mapM λy=>do `(rcasesPatLo|$(<-XD n y):rcasesPat)),*⟩)
  |`(_)=>`(rcasesPat|_)
  |`($y:ident)=>`(rcasesPat|$y:ident)
  |_=>Macro.throwUnsupported
open Lean in
local macro_rules|`(tactic|let $d:letDecl)=>match d with
 |`(letDecl|$x:term:=$h)=>do `(tactic|obtain $(<-XD 9 x):rcasesPat:=$h)
 |_=>`(tactic|have $d:letDecl)
open Lean in
local macro_rules|`([$a,*]▸$b)=>do
  let r<-a.getElems.mapM λ(y:Term)=>match y with
   |`(<-$z)=>`(Parser.Tactic.rwRule|<-$(⟨z.raw[0]⟩):term)
   |_=>`(Parser.Tactic.rwRule|$y:term)
  `(by rw[$r,*];exact $b)
open Lean in
local macro_rules|`($n:scientific)=>`($(mkIdent `pJ) $(quote n.getScientific.1) rfl)
open Lean in
local macro_rules(kind:=«term{_}»)|`({$a,*})=>do
 let r:Term<-a.getElems.foldrM (λx r=>`($(mkIdent `du) $x $r)) (mkIdent `cZ);return r
local macro_rules|`(!$a)=>`(List $a)
local macro_rules|`($a>>$b)=>`($a=some $b)
namespace L2
open PySem PySem.Spec PyProof.Rows
variable{C a it:J}{A:g7}{c e tg:bY}{fd:iu}{base h:dv}{g:Int->Int->Int}{pins:!(J×Obj)}{fp:!J}{outer:!Env}{es:!bY}{body:!kr}{N ps:!O}{us:!M}{Ma:Model}{k t':Nat}{o:Obj}{P:bW}{K:ai}{scope:nT}{s s':aU}{kindOf:O->Option oQ}{mA mg:O->Option M}{u:M}{E Q:M->aU->Prop}{f:M->M->Sem M}{w:cP}
abbrev Key:=Sum Int O
def BI:Key->M->Bool
 | .inl k,v=>M.isInt k v
 | .inr x,v=>vL x v
def zbT(w:cP):Key->Int
 | .inl k=>hashInt k
 | .inr x=>hashStr w x
theorem gG:∀{k:Key}{v:M},BI k v=true->(∃i t,k=yy i/\v=M.int i t)\/(∃x t,k=bh x/\v=M.str x t)
 | .inl i,v,h=>by let#[t,e]:=M.isInt_shape h;exact .inl #[i,t,Y,e]
 | .inr x,v,h=>by let#[t,e]:=M.isStrOf_shape h;exact .inr #[x,t,Y,e]
theorem Kw(i:Int)(t:Tok):BI (.inl i) (.int i t)=true:=by simp[BI,M.isInt]
theorem Kx(x:O)(t:Tok):BI (.inr x) (.str x t)=true:=by simp[BI,vL]
theorem UG(a b:Int):decide ((yy a:Key)=yy b)=(a==b):=by
 by_cases e:a=b
 .subst e;simp
 .let h:¬(yy a:Key)=yy b:=λq=>e (yy.inj q);rw[qQ0 h];exact(beq_eq_false_iff_ne.mpr e).symm
theorem UH(a b:O):decide ((bh a:Key)=bh b)=decide (a=b):=by
 by_cases e:a=b
 .simp
 .let h:¬(bh a:Key)=bh b:=λq=>e (mK q);rw[qQ0 h,qQ0 e]
theorem UI(a:Int)(b:O):decide ((yy a:Key)=bh b)=false:=qQ0 (λq=>nomatch q)
theorem UJ(a:O)(b:Int):decide ((bh a:Key)=yy b)=false:=qQ0 (λq=>nomatch q)
def eB(prog:bW)(w:cP):PySem.KeyKind prog w Key where
 is:=BI
 hash:=zbT w
 inj:=λv a b ha hb=>by
  rcases gG ha with⟨i,t,rfl,rfl⟩|⟨x,t,rfl,rfl⟩
  ·rcases gG hb with⟨j,u,rfl,e⟩|⟨y,u,rfl,e⟩
   ·injection e with e1 _;rw[e1]
   ·exact nomatch e
  ·rcases gG hb with⟨j,u,rfl,e⟩|⟨y,u,rfl,e⟩
   ·exact nomatch e
   ·injection e with e1 _;rw[e1]
 byValue:=λk v h=>by
  rcases gG h with⟨i,t,rfl,rfl⟩|⟨x,t,rfl,rfl⟩<;>rfl
 pyHash:=λhv h=>by
  rcases gG hv with⟨i,t,rfl,rfl⟩|⟨x,t,rfl,rfl⟩
  ·exact wpAny_pyHash_int h
  ·exact wpAny_pyHash_str h
 eqBool:=λhu hv h=>by
  rcases gG hu with⟨i,t,rfl,rfl⟩|⟨x,t,rfl,rfl⟩
  ·rcases gG hv with⟨j,u,rfl,rfl⟩|⟨y,u,rfl,rfl⟩
   ·rw[UG]at h;exact wpAny_eqBool_int h
   ·rw[UI]at h;exact SeqAt.EqAt.int_str i t y u _ _ _ _ h
  ·rcases gG hv with⟨j,u,rfl,rfl⟩|⟨y,u,rfl,rfl⟩
   ·rw[UJ]at h;exact SeqAt.EqAt.str_int x t j u _ _ _ _ h
   ·rw[UH]at h;exact wpAny_eqBool_str h
 «strs»:=λk x t v h=>by
  rcases gG h with⟨i,u,rfl,e⟩|⟨y,u,rfl,e⟩
  ·exact nomatch e
  ·injection e with e1 _
   subst e1;cases v<;>rfl
theorem El(prog:bW)(w:cP)(i:Int)(t:Tok):(eB prog w).is (.inl i) (.int i t)=true:=Kw i t
theorem sv(prog:bW)(w:cP)(x:O)(t:Tok):(eB prog w).is (.inr x) (.str x t)=true:=Kx x t
inductive V where
 |non|bl (b:Bool)|int (i:Int)|str (x:O)|W9 (b:Array UInt8)|flt (b:UInt64)|ref (a:J)|ty (n:String)
 deriving DecidableEq
variable{vs xs:!V}
def RelV:V->M->Prop
 | .non,u=>u=iJ
 | .bl b,u=>u=M.bool b
 | .int i,u=>∃t,u=M.int i t
 | .str x,u=>∃t,u=M.str x t
 | .W9 b,u=>∃t,u=M.bytes b t
 | .flt b,u=>∃t,u=M.float b t
 | .ref a,u=>u=ck a
 | .ty n,u=>u=vP n
abbrev dw:!V->!M->Prop:=wK RelV
theorem dw.length(r:dw xs us):xs.length=us.length:=uS r
theorem dw.get:∀{xs:!V}{us:!M}{i:Nat}{x:V},dw xs us->xs[i]?>>x->∃u,us[i]?>>u/\RelV x u
 |_,_,_,_,.nil,e=>by simp at e
 |_,_,0,_,.cons r _,e=>by simp at e;subst e;exact#[_,Y,r]
 |_,_,i+1,x,.cons _ t,e=>by obtain⟨u,h1,h2⟩:=dw.get t ↑e;exact#[u,by simpa using h1,h2]
theorem dw.set(r:RelV x u):∀{xs:!V}{us:!M}(i:Nat),dw xs us->dw (xs.set i x) (us.set i u)
 |_,_,_,.nil=>.nil
 |_,_,0,.cons _ t=>.cons r t
 |_,_,i+1,.cons q t=>.cons q (dw.set r i t)
theorem dw.append:∀{xs ys:!V}{us ws:!M},dw xs us->dw ys ws->dw (xs++ys) (us++ws)
 |_,_,_,_,.nil,s=>s
 |_,_,_,_,.cons r t,s=>.cons r (dw.append t s)
theorem dw.take:∀{xs:!V}{us:!M}(n:Nat),dw xs us->dw (xs.take n) (us.take n)
 |_,_,0,_=>.nil
 |_,_,_+1,.nil=>.nil
 |_,_,n+1,.cons r t=>.cons r (dw.take n t)
theorem dw.drop:∀{xs:!V}{us:!M}(n:Nat),dw xs us->dw (xs.drop n) (us.drop n)
 |_,_,0,r=>r
 |_,_,_+1,.nil=>.nil
 |_,_,n+1,.cons _ t=>dw.drop n t
def uC:Option V->Option M->Prop
 |some v,some u=>RelV v u
 |none,none=>True
 |_,_=>False
def KV{κ:Type}:!(κ×V)->!(κ×M)->Prop:=wK λ(p:κ×V)(q:κ×M)=>p.1=q.1/\RelV p.2 q.2
def kV:Key->V
 | .inl i=>.int i
 | .inr x=>.str x
inductive HO where
 |lst (xs:!V)
 |tup (xs:!V)
 |dK (kvs:!(Key×V))|dT (kvs:!(!Key×V))
 |set (S:Int->Bool) (n:Nat)
 |ins (C dx:J) (fs:!(O×V))
 |own (x:J)
 |xd (fs:!(O×V))
 |met (f x:J)
 |rng (lo hi:Int)
 |jx (o:Obj) (u:HO)
 |UK (ps:Array M)
 |ext (φ:dv->Prop)
abbrev Hp:=J->Option HO
variable{H:Hp}{R:V->V->Hp->Prop}
def upd(H:Hp)(a:J)(o:HO):Hp:=λb=>if b=a then some o else H b
theorem aP{o:HO}:upd H a o a>>o:=by unfold upd;rw[qQ3 Y]
theorem aI{b: J}{o:HO}(h:b≠a):upd H a o b=H b:=by unfold upd;rw[qQ2 h]
theorem XF{b: J}{o u:HO}(h:H a>>o)(h':H b>>u)(d:o≠u):a≠b:=by intro e;subst e;rw[h]at h';exact d (bK h')
theorem bu{b: J}{o:HO}(h:H a>>o)(h':H b=none):a≠b:=by intro e;subst e;rw[h]at h';cases h'
section
variable(P:bW)(w:cP)
def gf(H:Hp)(h:dv)(a:J):HO->Prop
 | .lst xs=>xs.length<=sizeLine/\∃(its:!M)(n:Nat),dw xs its/\h.get? a=some { cls:=.type "list",data:=.seq its.toArray n }
 | .tup xs=>xs.length<=sizeLine/\∃its:!M,dw xs its/\IsTup h a its.toArray
 | .dK kvs=>kvs.length<=sizeLine/\(a==sysModules)=false/\∃vs,KV kvs vs/\h.DictOf (eB P w) a vs
 | .dT kvs=>kvs.length<=sizeLine/\(a==sysModules)=false/\∃xs:!(!Key×J×M),
   wK (λ(p:!Key×V)(q:!Key×J×M)=>p.1=q.1/\H q.2.1>>(.tup (p.1.map kV))/\RelV p.2 q.2.2) kvs xs/\
   ∃o es ep,h.get? a>>o/\o.ExactDict/\o.data=.dict es ep/\es.toList=xs.map (entryOfKey (tupleKind (eB P w)))/\(xs.map (·.1)).Nodup
 | .set S n=>h.SetOf (intKind P w) a S n
 | .ins C dx fs=>H dx>>(.own a)/\fs.length<=1000/\dx≠a/\h.get? a>>(hU C dx)/\
   ∃mA,h.Ns1 dx mA/\(∀f,uC (fs.lookup f) (mA f))/\Eh mA (fs.map (·.1))
 | .own _=>∃o,h.get? a>>o
 | .xd fs=>∃mA,h.Ns1 a mA/\∀f,uC (fs.lookup f) (mA f)
 | .rng lo hi=>∃t u v,h.get? a=some { cls:=.type "range",data:=.fields (bf [.int lo t,.int hi u,.int 1 v]) }
 | .jx o u=>h.get? a>>o/\gf H h a u
 | .UK ps=>h.get? a=some { cls:=.none,data:=.fields ps }
 | .met f x=>h.get? a>>(PySem.W.methodObj (.ref f) (.ref x))
 | .ext φ=>φ h/\(∃o,h.get? a>>o)/\∀h1 h2:dv,φ h1->(∀o,h1.get? a>>o->h2.get? a>>o)->φ h2
def vO(H:Hp)(h:dv):Prop:=∀a o,H a>>o->gf P w H h a o
end
section
variable{P:bW}{w:cP}{H H':Hp}{h h':dv}{a:J}{o:HO}
theorem gf.lt(x:gf P w H h a o):a<h.objs.size:=by
 cases o with
 |lst xs=>let#[_,_,_,_,e]:=x;exact aX e
 |tup xs=>let#[_,_,_,p]:=x;exact p.lt
 |dK kvs=>let#[_,_,_,_,o,_,_,e,_]:=x;exact aX e
 |dT kvs=>let#[_,_,_,_,o,_,_,e,_]:=x;exact aX e
 |set S n=>let#[o,_,_,_,e,_]:=x;exact aX e
 |ins C dx fs=>let#[_,_,_,e,_]:=x;exact aX e
 |own y=>let#[_,e]:=x;exact aX e
 |xd fs=>let#[_,#[_,_,_,e,_],_]:=x;exact aX e
 |rng lo hi=>let#[_,_,_,e]:=x;exact aX e
 |jx ob u=>let#[e,_]:=x;exact aX e
 |UK ps=>exact aX x
 |met f y=>exact aX x
 |ext φ=>let#[_,#[_,e],_]:=x;exact aX e
theorem wK.Qn{α β:Type}{F G:α->β->Prop}:∀{l₁:!α}{l₂:!β},wK F l₁ l₂->(∀a b,F a b->G a b)->wK G l₁ l₂
 |_,_,.nil,_=>.nil
 |_,_,.cons r t,f=>.cons (f _ _ r) (wK.Qn t f)
theorem gf.stay(x:gf P w H h a o)(k:∀b u,(b=a\/H b>>(.own a))->h.get? b>>u->h'.get? b>>u)
  (ho:∀b,H b>>(.own a)->H' b>>(.own a))(ht:∀b xs,H b>>(.tup xs)->H' b>>(.tup xs)):gf P w H' h' a o:=by
 induction o with
 |lst xs=>let#[z,its,n,r,e]:=x;exact#[z,its,n,r,k _ _ (.inl Y) e]
 |tup xs=>let#[z,its,r,ob,e,c]:=x;exact#[z,its,r,ob,k _ _ (.inl Y) e,c]
 |dK kvs=>let#[z,y,vs,r,ob,es,ep,e,c]:=x;exact#[z,y,vs,r,ob,es,ep,k _ _ (.inl Y) e,c]
 |dT kvs=>let#[z,y,xs,r,ob,es,ep,e,c]:=x;exact#[z,y,xs,wK.Qn r λp q z=>#[z.1,ht _ _ z.2.1,z.2.2],ob,es,ep,k _ _ (.inl Y) e,c]
 |set S n=>let#[ob,es,ep,t,e,c]:=x;exact#[ob,es,ep,t,k _ _ (.inl Y) e,c]
 |ins C dx fs=>let#[d,z,ne,e,mA,#[od,es,ep,e2,c],r]:=x;exact#[ho _ d,z,ne,k _ _ (.inl Y) e,mA,#[od,es,ep,k _ _ (.inr d) e2,c],r]
 |own y=>let#[ob,e]:=x;exact#[ob,k _ _ (.inl Y) e]
 |xd fs=>let#[mA,#[od,es,ep,e,c],r]:=x;exact#[mA,#[od,es,ep,k _ _ (.inl Y) e,c],r]
 |rng lo hi=>let#[t,u,v,e]:=x;exact#[t,u,v,k _ _ (.inl Y) e]
 |jx ob u ih=>let#[e,q]:=x;exact#[k _ _ (.inl Y) e,ih q]
 |UK ps=>let e:=x;exact k a _ (.inl Y) e
 |met f y=>let e:=x;exact k a _ (.inl Y) e
 |ext φ=>let#[p,#[o,e],st]:=x;exact#[st _ _ p λo q=>k _ _ (.inl Y) q,#[o,k _ _ (.inl Y) e],st]
theorem vO.lt(x:vO P w H h)(e:H a>>o):a<h.objs.size:=(x a o e).lt
theorem vO.fresh(x:vO P w H h)(e:h.objs.size<=a):H a=none:=by
 cases q:H a with
 |none=>rfl
 |some u=>exact qQ7 (bX (x.lt q) e) ()
theorem vO.kept(x:vO P w H h)(k:∀b u,h.get? b>>u->h'.get? b>>u):vO P w H h':=λa o e=>(x a o e).stay (λb u _ q=>k b u q) (λ_ q=>q) λ_ _ q=>q
theorem vO.laid(x:vO P w H h)(k:∀b u,h.get? b>>u->h'.get? b>>u)(hp:h.objs.size<=a)(new:gf P w (upd H a o) h' a o):vO P w (upd H a o) h':=λb u e=>by
 let hn:=x.fresh hp;by_cases hb:b=a
 .subst hb;rw[aP]at e;cases e;exact new
 .rw[aI hb]at e;exact(x b u e).stay (λc v _ q=>k c v q) (λc q=>[aI (bu q hn)]▸q) λc xs q=>[aI (bu q hn)]▸q
end
def Rd(H:Hp)(a:J)(u:HO):Prop:=H a>>u\/∃o,H a>>(.jx o u)
theorem Rd.of{u:HO}(h:H a>>u):Rd H a u:=.inl h
theorem Rd.ok{u:HO}(r:Rd H a u)(x:vO P w H h):gf P w H h a u:=by
 rcases r with r|⟨o,r⟩
 .exact x a u r
 .let#[_,q]:=x a _ r;exact q
def XG:Option HO->Prop
 |some (.lst _)=>True
 |some (.dK _)=>True
 |some (.dT _)=>True
 |some (.set _ _)=>True
 |some (.ins _ _ _)=>True
 |some (.ext _)=>True
 |_=>False
section
variable{H:Hp}{x e:J}{o':HO}
theorem vO.write{h h':dv}{P:bW}{w:cP}(ok:vO P w H h)(mu:XG (H x))(he:e=x\/H e>>(.own x))(k:∀b u,b≠e->h.get? b>>u->h'.get? b>>u)(Mv:∃u,h'.get? e>>u)
  (new:gf P w (upd H x o') h' x o'):vO P w (upd H x o') h':=λb u q=>by
 let XH:∀c y,H c>>(.own y)->c≠x:=λc y r z=>by subst z;rw[r]at mu;exact mu
 by_cases hb:b=x
 .subst hb;rw[aP]at q;cases q;exact new
 .rw[aI hb]at q;by_cases UL:b=e
  .let q':H b>>(.own x):=by
    rcases he with z|z
    .exact qQ7 (UL.trans z) hb
    .rwa[UL]
   rw[q]at q';cases q';let#[v,hv]:=Mv;exact#[v,[UL]▸hv]
  .refine(ok b u q).stay (λc v hc r=>k c v ?_ r) (λc r=>[aI (XH c b r)]▸r) λc xs r=>by rw[aI ((λc xs r z=>by subst z;rw[r]at mu;exact mu) c xs r)];exact r
   rcases hc with rfl|hc
   .exact UL
   .rintro rfl;rcases he with z|z
    .exact XH c b hc z
    .rw[hc]at z;cases z;exact hb Y
end
structure Un(fs ex:!J)(H H':Hp)(h h':dv):Prop where
 keep:∀b o,h.get? b>>o->H b=none->b∉fs->b∉ex->h'.get? b>>o
 slot:∀b o,h.get? b>>o->H b=none->b∈fs->b∉ex->∃sl,h'.get? b=some { o with slots:=sl }
 free:∀b o,h.get? b>>o->H b=none->b∉ex->H' b=none
 there:∀b o,h.get? b>>o->b∉ex->∃o',h'.get? b>>o'
 tups:∀b xs,H b>>(.tup xs)->H' b>>(.tup xs)
 sx:∀b o u,H b>>(.jx o u)->H' b>>(.jx o u)
 yH:∀b ps,H b>>(.UK ps)->∃more,H' b>>(.UK (ps++more))
section
variable{fs ex:!J}{H:Hp}{h h':dv}{a x e:J}{o:HO}
theorem Un.any(u:Un fs ex H H1 h h1)(q:h.get? b>>ob)(n:H b=none)(hx:b∉ex):∃sl,h1.get? b=some { ob with slots:=sl }:=by
 by_cases hb:b∈fs
 .exact u.slot b ob q n hb hx
 .exact#[ob.slots,u.keep b ob q n hb hx]
theorem Un.kept(k:∀b u,h.get? b>>u->h'.get? b>>u):Un fs ex H H h h':=
 #[λb ob q _ _ _=>k b ob q,λb ob q _ _ _=>#[ob.slots,k b ob q],λ_ _ _ n _=>n,λb ob q _=>#[ob,k b ob q],λ_ _ q=>q,λ_ _ _ q=>q,λ_ ps q=>#[#[],by rw[q];simp]]
theorem Un.refl:Un fs ex H H h h:=Un.kept λ_ _ q=>q
theorem Un.laid(k:∀b u,h.get? b>>u->h'.get? b>>u)(hp:h.objs.size<=a)(hn:H a=none):Un fs ex H (upd H a o) h h' where
 keep:=λb u q _ _ _=>k b u q
 slot:=λb u q _ _ _=>#[u.slots,k b u q]
 free:=λb u q n _=>[aI (aZ (bX (aX q) hp))]▸n
 there:=λb u q _=>#[u,k b u q]
 tups:=λb xs q=>[aI (bu q hn)]▸q
 sx:=λb u xs q=>[aI (bu q hn)]▸q
 yH:=λb ps q=>#[#[],by rw[aI (bu q hn),q];simp]
theorem Un.write(mu:XG (H x))(he:e=x\/H e>>(.own x))(k:∀b u,b≠e->h.get? b>>u->h'.get? b>>u)(Mv:∃u,h'.get? e>>u):Un fs ex H (upd H x o) h h':=by
 let hx:∀b,H b=none->b≠x:=λb n z=>by subst z;rw[n]at mu;exact mu
 let hb:∀b,H b=none->b≠e:=λb n z=>by
  subst z;rcases he with r|r
  .exact hx b n r
  .rw[n]at r;cases r
 let hm:∀b u,H b>>u->¬XG (some u)->b≠x:=λb u q nm z=>by subst z;rw[q]at mu;exact nm mu
 refine#[λb u q n _ _=>k b u (hb b n) q,λb u q n _ _=>#[u.slots,k b u (hb b n) q],λb u q n _=>[aI (hx b n)]▸n,λb u q _=>?_,
  λb xs q=>[aI (hm b _ q λz=>z)]▸q,λb u xs q=>[aI (hm b _ q λz=>z)]▸q,λb ps q=>#[#[],by rw[aI (hm b _ q λz=>z),q];simp]];by_cases UL:b=e
 .subst UL;exact Mv
 .exact#[u,k b u UL q]
end
def trk(h:dv)(H:Hp):!J:=(cv h.objs.size).filter λa=>(H a).isSome
def Ky(h:dv)(H:Hp):dv:=PySem.W.hideAll h (trk h H)
theorem Kz(h:dv)(H:Hp):(Ky h H).objs.size=h.objs.size:=PySem.W.hideAll_size _ _
theorem MJ(e:h.get? b>>o)(n:H b=none):(Ky h H).get? b>>o:=
 PySem.W.hideAll_get _ e λhm=>by let q:=(List.mem_filter.mp hm).2;rw[n]at q;simp at q
theorem Qo(e:(Ky h H).get? b>>o):h.get? b>>o/\H b=none:=by
 let e':=PySem.W.of_hideAll _ e;refine#[e',?_];cases q:H b with
 |none=>rfl
 |some x=>let z:(Ky h H).get? b=none:=PySem.W.hideAll_none _ (List.mem_filter.mpr #[gb.mpr (aX e'),by simp[q]]);rw[z]at e;cases e
structure Mod(K:ai)(mg:O->Option M)(base:dv):Prop where
 XJ:K.In base
 glob:base.Ns mainGlobals mg
 blt:∃mb,base.Ns builtinsNs mb/\∀x:O,x≠"__name__"->mb x=bootBuiltins x
 nolimit:base.NoLimit
structure Cx where
 prog:bW
 w:cP
 K:ai
 mg:O->Option M
 base:dv
 A:g7
 N:!O
 s₀:aU
 H₀:Hp
 env:Env
 outer:!Env
 stack:!Env
 ex:!J
 fn:O->Bool
 calm:Bool
 pn:!(J×Obj)
 xe:M->aU->Prop
variable{X:Cx}
def Mw(l:!Env):!J:=l.filterMap (·.frame)
abbrev Cx.fs(X:Cx):!J:=Mw X.outer
def Vis(sc:nT)(x:O):Prop:=sc.names.lookup x>>.local\/sc.names.lookup x>>.cell\/sc.names.lookup x>>.free
def Loc(sc:nT)(x:O):Prop:=sc.names.lookup x>>.local\/sc.names.lookup x>>.cell
def Look(env:Env)(h:dv)(m:O->Option M)(x:O)(u:M):Prop:=
 (env.kindOf x>>.local/\m x>>u)\/((env.kindOf x>>.cell\/env.kindOf x>>.free)/\∃c,env.cells.lookup x>>c/\h.IsCell c (some u))
abbrev uZ(x:O):Prop:=(x==("__debug__":O))=false
abbrev NCd(x:O):Prop:=(x==("__classdict__":O))=false
abbrev lF(X:Cx)(e:bY)(es:!bY):Prop:=starEach (e::es) X.env=(false,eval e X.env)::starEach es X.env
abbrev rQ(X:Cx)(p:Pos)(es:!bY):Prop:=(backTo p (starEach es X.env)).any (·.1)=false
abbrev Mx(X:Cx)(p:Pos)(es:!bY):Prop:=((backTo p (starEach es X.env)).all (λx=>not x.1)&&(backToKw p (keywordEach [] X.env)).all (λx=>x.1.isSome)&&decide (es.length+([]:!Keyword).length+(if([]:!Keyword).isEmpty then 0 else 1)<30))=true
abbrev zC(X:Cx)(x:O):Prop:=X.fn x=true\/X.env.scope.names.lookup x>>.local
abbrev Jf(X:Cx)(e:bY):Prop:=∀x,foldedSetIterable e X.env x=pure x
abbrev y6(X:Cx)(o:bY)(x:O):Prop:=attributeBase o x X.env (eval o X.env)=eval o X.env
abbrev XM(X:Cx)(p:Pos)(e:bY):Prop:=swapsWith e none p.line X.env=pure false
abbrev CN(X:Cx)(p:Pos)(e t:bY):Prop:=swapsWith e (some t) p.line X.env=pure false
def u5(X:Cx)(i:Nat)(x:O):Prop:=X.N[i]?>>x/\Vis X.env.scope x/\uZ x/\NCd x
structure Cx.Ok(X:Cx):Prop where
 mod:Mod X.K X.mg X.base
 kind:X.env.scope.kind=.function
 glob:X.env.globals=mainGlobals
 blt:X.env.builtins=builtinsNs
 above:X.s₀.heap.objs.size<=X.env.locals
 inj:∀x y c,X.env.cells.lookup x>>c->X.env.cells.lookup y>>c->x=y
 has:∀x,(X.env.kindOf x>>.cell\/X.env.kindOf x>>.free)->∃c,X.env.cells.lookup x>>c
 cab:∀x c,X.fn x=true->X.env.cells.lookup x>>c->X.s₀.heap.objs.size<=c
 hd:X.calm=true->X.A.handled=none
 frames:X.A.frames>>X.stack
 stk:X.stack=X.outer\/(X.stack=X.env::X.outer/\X.env.frame>>X.env.locals)
 exf:∀b∈X.ex,b≠X.env.locals/\∀x c,X.env.cells.lookup x>>c->c≠b
 bs:∀b o,X.base.get? b>>o->X.s₀.heap.get? b>>o/\X.H₀ b=none
 S5:X.base.objs.size<=X.s₀.heap.objs.size
 MK:∀b o,X.base.get? b>>o->b∉X.ex
 Qp:∀b∈X.ex,b∉X.fs
 yI:X.s₀.heap.FunFrames X.base X.outer
 UM:∀b∈X.fs,X.H₀ b=none
structure Inv(X:Cx)(pins:!(J×Obj))(σ:!(Option V))(H:Hp)(s:aU):Prop where
 ok:X.Ok
 os:s.os=X.s₀.os
 bare:uT s.gens
 base:Un X.fs X.ex X.H₀ H X.s₀.heap s.heap
 loc:∃m,s.heap.Ns X.env.locals m/\∀(i:Nat)(x:O)(v:V),X.N[i]?>>x->σ[i]?>>(some v)->Vis X.env.scope x->∃u,RelV v u/\Look X.env s.heap m x u
 cell:∀x c,X.env.cells.lookup x>>c->∃v,s.heap.IsCell c v
 free:H X.env.locals=none
 og:∀x c,X.env.cells.lookup x>>c->H c=none
 pin:∀p∈X.pn++pins,s.heap.get? p.1>>p.2/\H p.1=none/\p.1≠X.env.locals/\p.1∉X.fs/\∀v,p.2.data≠.cell v
 hok:vO X.prog X.w H s.heap
 len:σ.length=X.N.length
section
variable{X:Cx}{pins:!(J×Obj)}{σ:!(Option V)}{H H':Hp}{s:aU}{h':dv}
theorem Cx.Ok.zbV(ok:X.Ok)(e:X.base.get? b>>o):b∉X.fs:=λhb=>by let:=(ok.yI.mem hb).1;rw[e]at this;cases this
theorem Inv.bs(I:Inv X pins σ H s):∀b o,X.base.get? b>>o->s.heap.get? b>>o/\H b=none:=λb o e=>#[I.base.keep b o (I.ok.bs b o e).1 (I.ok.bs b o e).2 (I.ok.zbV e) (I.ok.MK b o e),I.base.free b o (I.ok.bs b o e).1 (I.ok.bs b o e).2 (I.ok.MK b o e)]
theorem Inv.bk(I:Inv X pins σ H s):∀b o,X.base.get? b>>o->s.heap.get? b>>o:=λb o e=>(I.bs b o e).1
theorem Inv.mod(I:Inv X pins σ H s):Mod X.K X.mg X.base:=I.ok.mod
theorem Inv.Be(I:Inv X pins σ H s):X.K.In s.heap:=I.ok.mod.XJ.keeps I.bk
theorem Inv.lt(I:Inv X pins σ H s):X.env.locals<s.heap.objs.size:=let#[_,hn,_]:=I.loc;hn.lt
theorem Inv.sz(I:Inv X pins σ H s):X.s₀.heap.objs.size<=s.heap.objs.size:=bZ I.ok.above (yz I.lt)
theorem Inv.zbW(I:Inv X pins σ H s)(h:s.heap.objs.size<=a):a∉X.fs:=λhb=>by let#[_,o,ho,_]:=I.ok.yI.mem hb;exact qQ7 (bX (aX ho) (bZ I.sz h)) ()
theorem Inv.UN(I:Inv X pins σ H s):∀x c,X.env.cells.lookup x>>c->c≠X.env.locals:=λx c e z=>by let#[v,o,ho,hd]:=I.cell x c e;let#[m,#[o',es,ep,CP,XO,_],_]:=I.loc;rw[z,CP]at ho;cases ho;rw[XO]at hd;cases hd
theorem Inv.yI(I:Inv X pins σ H s):s.heap.FunFrames X.base X.outer:=by
 let all:∀(l:!Env),(∀b∈Mw l,b∈X.fs)->X.s₀.heap.FunFrames X.base l->s.heap.FunFrames X.base l:=by
  intro l;induction l with
  |nil=>intro _ _;trivial
  |cons env r ih=>intro hs hl;let#[hk,#[La,o,hf,hn,ho,hd],hr]:=hl;let hL:=hs La (by unfold Mw;rw[kJ,hf];exact aB);let#[sl,e]:=I.base.slot La o ho (I.ok.UM La hL) hL λz=>I.ok.Qp La z hL;exact#[hk,#[La,_,hf,hn,e,hd],ih (λb hb=>hs b (by unfold Mw;rw[kJ,hf];exact aD _ hb)) hr]
 exact all X.outer (λ_ hb=>hb) I.ok.yI
theorem Inv.stack(I:Inv X pins σ H s):s.heap.FunFrames X.base X.stack:=by
 rcases I.ok.stk with e|⟨e,hf⟩
 .rw[e];exact I.yI
 .rw[e];let#[m,hn,_]:=I.loc;exact .cons (by rw[I.ok.kind];decide) hf hn (dv.get?_none_of_le (bZ I.ok.S5 I.ok.above)) I.yI
theorem Inv.CQ(I:Inv X pins σ H s):∀b∈Mw X.stack,b∈X.env.locals::X.fs:=λb hb=>by
 rcases I.ok.stk with e|⟨e,hf⟩
 .rw[e]at hb;exact aD _ hb
 .rw[e]at hb;unfold Mw at hb;rwa[kJ,hf]at hb
theorem Inv.Jg(I:Inv X pins σ H s):∀b∈Mw X.stack,H b=none:=λb hb=>by
 rcases au.mp (I.CQ b hb)with e|hb
 .rw[e];exact I.free
 .let#[_,o,ho,_]:=I.ok.yI.mem hb;exact I.base.free b o ho (I.ok.UM b hb) λz=>I.ok.Qp b z hb
theorem Inv.step{g':Array A5}{d':Drawn}{ch:!J}(I:Inv X pins σ H s)
  (My:∀b∈ch,(b∈X.ex\/X.s₀.heap.objs.size<=b)/\b≠X.env.locals/\(∀x c,X.env.cells.lookup x>>c->c≠b)/\∀p∈X.pn++pins,p.1≠b)
  (keep:∀b o,b≠X.env.locals->b∉X.fs->b∉ch->s.heap.get? b>>o->H b=none->h'.get? b>>o)
  (slot:∀b o,b≠X.env.locals->b∈X.fs->b∉ch->s.heap.get? b>>o->H b=none->∃sl,h'.get? b=some { o with slots:=sl })(free:∀b o,b∉ch->s.heap.get? b>>o->H b=none->H' b=none)
  (there:∀b o,b∉ch->s.heap.get? b>>o->∃o',h'.get? b>>o')
  (tups:∀b xs,H b>>(.tup xs)->H' b>>(.tup xs))(sx:∀b o u,H b>>(.jx o u)->H' b>>(.jx o u))(yH:∀b ps,H b>>(.UK ps)->∃more,H' b>>(.UK (ps++more)))
  (ns:∀m,s.heap.Ns X.env.locals m->h'.Ns X.env.locals m)(hok:vO X.prog X.w H' h')(hg:uT g'):
  Inv X pins σ H' { s with heap:=h',gens:=g',drawn:=d',toks:=t' }:=by
 let neL:∀b o,X.s₀.heap.get? b>>o->b≠X.env.locals:=λb o e=>aZ (bX (aX e) I.ok.above);let W_:∀b o,X.s₀.heap.get? b>>o->b∉X.ex->b∉ch:=λb o e hx hb=>by
  rcases(My b hb).1 with z|z
  .exact hx z
  .exact qQ7 (bX (aX e) z) ()
 let cellK:∀x c,X.env.cells.lookup x>>c->∀v,s.heap.IsCell c v->h'.IsCell c v:=λx c e v #[o,ho,hd]=>by
  let XQ:=λz=>(My c z).2.2.1 x c e Y;by_cases hc:c∈X.fs
  .let#[sl,q]:=slot c o (I.UN x c e) hc XQ ho (I.og x c e);exact#[_,q,hd]
  .exact#[o,keep c o (I.UN x c e) hc XQ ho (I.og x c e),hd]
 refine#[I.ok,I.os,hg,#[λb o e n hb hx=>?_,λb o e n hb hx=>?_,λb o e n hx=>?_,λb o e hx=>?_,λb xs e=>tups b xs (I.base.tups b xs e),λb o xs e=>sx b o xs (I.base.sx b o xs e),λb ps e=>?_],?_,λx c e=>?_,?_,λx c e=>?_,λp hp=>?_,hok,I.len]
 .exact keep b o (neL b o e) hb (W_ b o e hx) (I.base.keep b o e n hb hx) (I.base.free b o e n hx)
 .let#[sl,e1]:=I.base.slot b o e n hb hx;let#[UO,e2]:=slot b _ (neL b o e) hb (W_ b o e hx) e1 (I.base.free b o e n hx);exact#[UO,e2]
 .let#[o',e1]:=I.base.there b o e hx;exact free b o' (W_ b o e hx) e1 (I.base.free b o e n hx)
 .let#[o',e1]:=I.base.there b o e hx;exact there b o' (W_ b o e hx) e1
 .let#[m1,e1]:=I.base.yH b ps e;let#[m2,e2]:=yH b _ e1;exact#[_,by rw[e2,Array.append_assoc]]
 .let#[m,hn,hl]:=I.loc;refine#[m,ns m hn,λi x v e1 e2 e3=>?_];let#[u,r,l]:=hl i x v e1 e2 e3;refine#[u,r,?_];rcases l with l|⟨k,c,e,z⟩
  .exact .inl l
  .exact .inr #[k,c,e,cellK x c e _ z]
 .let#[v,z]:=I.cell x c e;exact#[v,cellK x c e v z]
 .let#[m,#[o,_,_,ho,_],_]:=I.loc;exact free _ o (λz=>(My _ z).2.1 Y) ho I.free
 .let#[v,o,ho,hd]:=I.cell x c e;exact free c o (λz=>(My c z).2.2.1 x c e Y) ho (I.og x c e)
 .let#[e,n,ne,nf,d]:=I.pin p hp;let XQ:=λz=>(My p.1 z).2.2.2 p hp Y;exact#[keep p.1 p.2 ne nf XQ e n,free p.1 p.2 XQ e n,ne,nf,d]
theorem Inv.un(I:Inv X pins σ H s)(u:Un X.fs [] H H' s.heap h')(hok:vO X.prog X.w H' h'):Inv X pins σ H' { s with heap:=h',toks:=t' }:=by
 let#[m,#[o,es,ep,ho,r],_]:=id I.loc;let#[sl,hL]:=u.any ho I.free ∅;exact I.step (ch:=[]) (λ_ z=>nomatch z) (λb o _ hb _ e n=>u.keep b o e n hb ∅) (λb o _ hb _ e n=>u.slot b o e n hb ∅) (λb o _ e n=>u.free b o e n ∅) (λb o _ e=>u.there b o e ∅) u.tups u.sx u.yH (λm' hm=>by let#[o',Qq,Qr,CP,r']:=hm;rw[ho]at CP;cases CP;exact#[_,Qq,Qr,hL,r']) hok I.bare
theorem Inv.call(I:Inv X pins σ H s)(u:Un (Mw X.stack) ch H H' s.heap h')(hok:vO X.prog X.w H' h')(hg:uT g')
  (My:∀b∈ch,(b∈X.ex\/X.s₀.heap.objs.size<=b)/\b≠X.env.locals/\(∀x c,X.env.cells.lookup x>>c->c≠b)/\∀p∈X.pn++pins,p.1≠b):
  Inv X pins σ H' { s with heap:=h',gens:=g',drawn:=d',toks:=t' }:=by
 let#[m,#[o,es,ep,ho,r],_]:=id I.loc;let#[sl,hL]:=u.any ho I.free λz=>(My _ z).2.1 Y;exact I.step My (λb o hL hb hc e n=>u.keep b o e n (λz=>(au.mp (I.CQ b z)).elim hL hb) hc) (λb o _ _ hc e n=>u.any e n hc) (λb o hc e n=>u.free b o e n hc) (λb o hc e=>u.there b o e hc) u.tups u.sx u.yH (λm' hm=>by let#[o',Qq,Qr,CP,r']:=hm;rw[ho]at CP;cases CP;exact#[_,Qq,Qr,hL,r']) hok hg
theorem Inv.turned(I:Inv X pins σ H s)(k:∀b o,b≠it->s.heap.get? b>>o->h'.get? b>>o)(hn:H it=none)(hL:it≠X.env.locals)
  (h1:it∈X.ex\/X.s₀.heap.objs.size<=it)(h2:∀x c,X.env.cells.lookup x>>c->c≠it)(h3:∀p∈X.pn++pins,p.1≠it):Inv X pins σ H { s with heap:=h',toks:=t' }:=by
 let XR:∀b u,H b>>u->b≠it:=λb u e z=>by rw[z,hn]at e;cases e
 refine I.step (ch:=[it]) (λb hb=>?_) (λb o _ _ hc e _=>k b o (λz=>hc (by simp[z])) e) (λb o _ _ hc e _=>#[o.slots,k b o (λz=>hc (by simp[z])) e]) (λ_ _ _ _ n=>n)
  (λb o hc e=>#[o,k b o (λz=>hc (by simp[z])) e]) (λ_ _ e=>e) (λ_ _ _ e=>e) (λb ps e=>#[#[],by rw[e];simp]) (λm hm=>?_) (λb u e=>?_) I.bare
 .let e:b=it:=by simpa using hb
  subst e;exact#[h1,hL,h2,h3]
 .let#[o,es,ep,ho,r]:=hm;exact#[o,es,ep,k _ o (bD hL) ho,r]
 .refine(I.hok b u e).stay (λc v hc q=>k c v ?_ q) (λ_ q=>q) λ_ _ q=>q;rcases hc with z|z
  .rw[z];exact XR b u e
  .exact XR c _ z
theorem Inv.tok(I:Inv X pins σ H s)(t:Nat):Inv X pins σ H { s with toks:=t }:=I.un Un.refl I.hok
theorem Inv.kept(I:Inv X pins σ H s)(k:∀b u,s.heap.get? b>>u->h'.get? b>>u):Inv X pins σ H { s with heap:=h',toks:=t' }:=I.un (Un.kept k) (I.hok.kept k)
theorem Inv.laid{o:HO}(I:Inv X pins σ H s)(k:∀b u,s.heap.get? b>>u->h'.get? b>>u)(hp:s.heap.objs.size<=a)(new:gf X.prog X.w (upd H a o) h' a o):
  Inv X pins σ (upd H a o) { s with heap:=h',toks:=t' }:=I.un (Un.laid k hp (I.hok.fresh hp)) (I.hok.laid k hp new)
theorem Inv.write{x e:J}{o:HO}(I:Inv X pins σ H s)(mu:XG (H x))(he:e=x\/H e>>(.own x))(k:∀b u,b≠e->s.heap.get? b>>u->h'.get? b>>u)(Mv:∃u,h'.get? e>>u)
  (new:gf X.prog X.w (upd H x o) h' x o):Inv X pins σ (upd H x o) { s with heap:=h',toks:=t' }:=I.un (Un.write mu he k Mv) (I.hok.write mu he k Mv new)
theorem Inv.Jh(I:Inv X pins σ H s)(h:∀p∈XS,s.heap.get? p.1>>p.2/\H p.1=none/\p.1≠X.env.locals/\p.1∉X.fs/\∀v,p.2.data≠.cell v):Inv X XS σ H s:=
 #[I.ok,I.os,I.bare,I.base,I.loc,I.cell,I.free,I.og,λp hp=>(aT.mp hp).elim (λz=>I.pin p (bH _ z)) (h p),I.hok,I.len]
theorem Em(hN:N.Nodup){i j:Nat}{x:O}(a:N[i]?>>x)(b:N[j]?>>x):i=j:=by let#[h1,e1]:=aq.mp a;let#[h2,e2]:=aq.mp b;exact(rA hN).mp (e1.trans e2.symm)
theorem BJ{i:Nat}{x:O}{v:V}{Q:Unit->aU->Prop}(I:Inv X pins σ H s)(hN:X.N.Nodup)(hi:X.N[i]?>>x)(hx:Loc X.env.scope x)(r:RelV v u)
  (h:∀s',Inv X pins (σ.set i (some v)) H s'->(∃a,dA a s.heap s'.heap/\(a=X.env.locals\/X.env.cells.lookup x>>a))->Q .unit s')(hf:zC X x:=by left):wpAny Ma A (storeName X.env x u) Q E s:=by
 let#[m,hn,hl]:=id I.loc;let zbX:(X.env.scope.kind == .class||(X.env.scope.kind == .module&&X.env.locals != X.env.globals))=false:=by rw[I.ok.kind];rfl
 let hiσ:i < σ.length:=[I.len]▸(aq.mp hi).1;let UN:=I.UN;let tracked:∀{a:J}{h':dv},(∃o,s.heap.get? a>>o/\H a=none)->dA a s.heap h'->vO X.prog X.w H h':=λ{a h'}ha hs b ob e=>by
  let#[_,_,S6]:=ha;refine(I.hok b ob e).stay (λc w' hc q=>(hs.2 c ?_).trans q) (λ_ q=>q) λ_ _ q=>q;rintro rfl;rcases hc with rfl|hc
  .rw[S6]at e;cases e
  .rw[S6]at hc;cases hc
 rcases hx with hk|hk
 .refine wpAny_storeName_local hk hn (λh' hn' hs=>?_) zbX;let#[oL,_,_,hoL,_]:=id hn;refine h _ #[I.ok,I.os,I.bare,#[λb o e n hb hx=>?_,λb o e n hb hx=>?_,I.base.free,λb o e hx=>?_,I.base.tups,I.base.sx,I.base.yH],#[_,hn',λj y v' e1 e2 e3=>?_],λy c e=>?_,I.free,I.og,λp hp=>?_,tracked #[oL,hoL,I.free] hs,by simpa using I.len] #[_,hs,.inl Y]
  .exact(hs.2 b (aZ (bX (aX e) I.ok.above))).trans (I.base.keep b o e n hb hx)
  .let#[sl,e1]:=I.base.slot b o e n hb hx;exact#[sl,(hs.2 b (aZ (bX (aX e) I.ok.above))).trans e1]
  .let#[o',e1]:=I.base.there b o e hx;exact#[o',(hs.2 b (aZ (bX (aX e) I.ok.above))).trans e1]
  .by_cases hj:j=i
   .subst hj;rw[hi]at e1;cases e1;rw[aR hiσ]at e2;cases e2;exact#[u,r,.inl #[hk,∅]]
   .rw[aO (bD hj)]at e2;let#[u',r',q]:=hl j y v' e1 e2 e3;refine#[u',r',?_];rcases q with⟨k,e⟩|⟨k,c,e,z⟩
    .refine .inl #[k,?_];let:y≠x:=λe=>hj (Em hN e1 (e▸hi));simp[this,e]
    .exact .inr #[k,c,e,z.sameBut hs (UN y c e)]
  .let#[w',z]:=I.cell y c e;exact#[w',z.sameBut hs (UN y c e)]
  .let#[e,n,ne,nf,d]:=I.pin p hp;exact#[(hs.2 p.1 ne).trans e,n,ne,nf,d]
 .let hfn:X.fn x=true:=by
   rcases hf with z|z
   .exact z
   .rw[z]at hk;cases hk
  let#[c,hc]:=I.ok.has x (.inl hk);let#[w',z]:=I.cell x c hc;refine wpAny_storeName_cell I.ok.kind hk hc z (λh' W' hs=>?_);let#[oc,hoc,zbZ]:=id z;refine h { s with heap:=h' } #[I.ok,I.os,I.bare,#[λb o e n hb hx=>?_,λb o e n hb hx=>?_,I.base.free,λb o e hx=>?_,I.base.tups,I.base.sx,I.base.yH],#[m,hn.sameBut hs (bD (UN x c hc)),λj y v' e1 e2 e3=>?_],λy c' e=>?_,I.free,I.og,λp hp=>?_,tracked #[oc,hoc,I.og x c hc] hs,by simpa using I.len] #[c,hs,.inr hc]
  .exact(hs.2 b (aZ (bX (aX e) (I.ok.cab x c hfn hc)))).trans (I.base.keep b o e n hb hx)
  .let#[sl,e1]:=I.base.slot b o e n hb hx;exact#[sl,(hs.2 b (aZ (bX (aX e) (I.ok.cab x c hfn hc)))).trans e1]
  .let#[o',e1]:=I.base.there b o e hx;exact#[o',(hs.2 b (aZ (bX (aX e) (I.ok.cab x c hfn hc)))).trans e1]
  .by_cases hj:j=i
   .subst hj;rw[hi]at e1;cases e1;rw[aR hiσ]at e2;cases e2;exact#[u,r,.inr #[.inl hk,c,hc,W']]
   .rw[aO (bD hj)]at e2;let#[u',r',q]:=hl j y v' e1 e2 e3;refine#[u',r',?_];rcases q with q|⟨k,c',e,z'⟩
    .exact .inl q
    .refine .inr #[k,c',e,z'.sameBut hs ?_];rintro rfl;exact hj (Em hN e1 (I.ok.inj _ _ _ e hc▸hi))
  .by_cases hcc:c'=c
   .subst hcc;exact#[_,W']
   .let#[w2,z2]:=I.cell y c' e;exact#[w2,z2.sameBut hs hcc]
  .let#[e,n,ne,nf,d]:=I.pin p hp;refine#[(hs.2 p.1 ?_).trans e,n,ne,nf,d];intro q;rw[q,hoc]at e;exact d w' ([<-(bK e)]▸zbZ)
theorem oh{i:Nat}{x:O}{v:V}{Q:Unit->aU->Prop}(I:Inv X pins σ H s)(hN:X.N.Nodup)(hi:X.N[i]?>>x)(hx:Loc X.env.scope x)(r:RelV v u)
  (h:∀s',Inv X pins (σ.set i (some v)) H s'->Q .unit s')(hf:zC X x:=by left):wpAny Ma A (storeName X.env x u) Q E s:=
 BJ I hN hi hx r (λs' I' _=>h s' I') hf
theorem Inv.call'(I:Inv X pins σ H s)(ho:s'.os=s.os)(u:Un (Mw X.stack) ch H H' s.heap s'.heap)(hok:vO X.prog X.w H' s'.heap)(hg:uT s'.gens)
  (My:∀b∈ch,(b∈X.ex\/X.s₀.heap.objs.size<=b)/\b≠X.env.locals/\(∀x c,X.env.cells.lookup x>>c->c≠b)/\∀p∈X.pn++pins,p.1≠b):Inv X pins σ H' s':=by let#[h',g',d',t',o']:=s';let e:=ho;subst e;exact I.call u hok hg My
end
abbrev XK:=M->Option J->Hp->Prop
abbrev St:=!(Option V)
variable{σ:St}
abbrev VK:=V->Hp->Prop
abbrev TE:=St->Hp->VK->Prop
variable{t:TE}
abbrev TT:=St->Hp->(Bool->Hp->Prop)->Prop
abbrev TA:=St->Hp->(!V->Hp->Prop)->Prop
structure Ends where
 nx:St->Hp->Prop
 rt:VK
 bk:St->Hp->Prop:=λ_ _=>False
 ct:St->Hp->Prop:=λ_ _=>False
abbrev TS:=Ends->St->Hp->Prop
def EP(X:Cx)(pins:!(J×Obj))(σ:St)(Q:VK)(u:M)(s':aU):Prop:=∃v H',Inv X pins σ H' s'/\RelV v u/\Q v H'
def TP(X:Cx)(pins:!(J×Obj))(σ:St)(Q:Bool->Hp->Prop)(b:Bool)(s':aU):Prop:=∃H',Inv X pins σ H' s'/\Q b H'
def AP(X:Cx)(pins:!(J×Obj))(σ:St)(Q:!V->Hp->Prop)(us:!M)(s':aU):Prop:=∃vs H',Inv X pins σ H' s'/\dw vs us/\Q vs H'
def SP(X:Cx)(pins:!(J×Obj))(D:Ends)(f:Flow)(s':aU):Prop:=
 match f with
 | .next=>∃σ' H',Inv X pins σ' H' s'/\D.nx σ' H'
 | .brk=>∃σ' H',Inv X pins σ' H' s'/\D.bk σ' H'
 | .cont=>∃σ' H',Inv X pins σ' H' s'/\D.ct σ' H'
 | .ret u=>∃v σ' H',Inv X pins σ' H' s'/\RelV v u/\D.rt v H'
def PE(X:Cx)(e:bY)(t:TE):Prop:=
 ∀(pins:!(J×Obj))(s:aU)(σ:St)(H:Hp)(Q:VK),Inv X pins σ H s->t σ H Q->wpAny (model X.prog X.w) X.A (eval e X.env) (EP X pins σ Q) X.xe s
def PT(X:Cx)(e:bY)(t:TT):Prop:=
 ∀(pins:!(J×Obj))(s:aU)(σ:St)(H:Hp)(Q:Bool->Hp->Prop),Inv X pins σ H s->t σ H Q->wpAny (model X.prog X.w) X.A (isTrue e X.env (eval e X.env)) (TP X pins σ Q) X.xe s
def PW(X:Cx)(e:bY)(t:TT):Prop:=
 ∀(whole:Sem M)(pins:!(J×Obj))(s:aU)(σ:St)(H:Hp)(Q:Bool->Hp->Prop),Inv X pins σ H s->t σ H Q->wpAny (model X.prog X.w) X.A (isTrue e X.env whole) (TP X pins σ Q) X.xe s
theorem PW.pt{t:TT}(h:PW X e t):PT X e t:=h _
def PA(X:Cx)(es:!bY)(t:TA):Prop:=
 ∀(pos:Pos)(pins:!(J×Obj))(s:aU)(σ:St)(H:Hp)(Q:!V->Hp->Prop),Inv X pins σ H s->t σ H Q->wpAny (model X.prog X.w) X.A (spliced (backTo pos (starEach es X.env))) (AP X pins σ Q) X.xe s
def PS(X:Cx)(st:kr)(t:TS):Prop:=
 ∀(pins:!(J×Obj))(s:aU)(σ:St)(H:Hp)(D:Ends),Inv X pins σ H s->t D σ H->wpAny (model X.prog X.w) X.A (exec st X.env) (SP X pins D) X.xe s
def Ji(X:Cx)(st:!kr)(t:TS):Prop:=
 ∀(pins:!(J×Obj))(s:aU)(σ:St)(H:Hp)(D:Ends),Inv X pins σ H s->t D σ H->wpAny (model X.prog X.w) X.A (execs st X.env) (SP X pins D) X.xe s
theorem fV{α:Type}{t:Sem α}{Q Q':α->aU->Prop}(h:wpAny Ma A t Q E s)(hQ:∀a s,Q a s->Q' a s):wpAny Ma A t Q' E s:=iw h hQ λ_ _ x=>x
section
variable{X:Cx}
theorem bin{a b:bY}{ta tb:TE}(ha:PE X a ta)(hb:PE X b tb)(I:Inv X pins σ H s)(h:ta σ H λx H1=>tb σ H1 λy H2=>R x y H2)
  {α:Type}{Q:α->aU->Prop}{f:M->M->Sem α}
  (hf:∀v u s2 x y H2,Inv X pins σ H2 s2->RelV x v->RelV y u->R x y H2->wpAny (model X.prog X.w) X.A (f v u) Q X.xe s2):
  wpAny (model X.prog X.w) X.A (eval a X.env) (λv s₁=>wpAny (model X.prog X.w) X.A (eval b X.env) (λu s₂=>wpAny (model X.prog X.w) X.A (f v u) Q X.xe s₂) X.xe s₁) X.xe s:=by exact fV (ha pins s σ H _ I h) λv s1 #[x,H1,I1,r1,q1]=>(fV (hb pins s1 σ H1 _ I1 q1) λu s2 #[y,H2,I2,r2,q2]=>(hf v u s2 x y H2 I2 r1 r2 q2))
def UQ(i:Nat):TE:=λσ H Q=>∃v,σ[i]?>>(some v)/\Q v H
def tC(v:V):TE:=λ_ H Q=>Q v H
theorem UT{i:Nat}{x:O}{pos:Pos}(hN:X.N[i]?>>x)(hv:Vis X.env.scope x)(hd:uZ x:=by decide)(Qs:NCd x:=by decide):PE X (.Name x pos) (UQ i):=by
 intro pins s σ H Q I h;let#[v,e,h]:=h;let#[m,hn,hl]:=I.loc;let#[u,r,l]:=hl i x v hN e hv;let fin:EP X pins σ Q u s:=#[v,H,I,r,h];rcases l with⟨hk,hm⟩|⟨hk,c,hc,S7⟩
 .exact wpAny_Name (wpAny_loadName_local I.ok.kind hk hn hm fin) hd
 .rcases hk with hk|hk
  .exact wpAny_Name (wpAny_loadName_cell I.ok.kind hk hc S7 fin) hd
  .exact wpAny_Name (wpAny_loadName_free I.ok.kind hk hc S7 fin Qs) hd
theorem xZ(h:u5 X i x):PE X (.Name x pos) (UQ i):=UT h.1 h.2.1 h.2.2.1 h.2.2.2
theorem UU{i j pos}:PE X (.Constant (.int i) j pos) (tC (.int i)):=λ_ _ _ H _ I h=>wpAny_Constant_int #[.int i,H,I.tok _,#[_,Y],h]
theorem XU{b j pos}:PE X (.Constant (.bool b) j pos) (tC (.bl b)):=λ_ _ _ H _ I h=>Constant_bool #[.bl b,H,I,Y,h]
theorem UW{j pos}:PE X (.Constant .none j pos) (tC .non):=λ_ _ _ H _ I h=>Constant_none #[.non,H,I,Y,h]
theorem UX{x j pos}:PE X (.Constant (.str x) j pos) (tC (.str x)):=λ_ _ _ H _ I h=>Calls.Constant_str #[.str x,H,I.tok _,#[_,Y],h]
def Gl(X:Cx)(x:O):Prop:=X.env.kindOf x>>.globalImplicit
theorem CT(I:Inv X pins σ H s)(hg:Gl X x)(hm:X.mg x>>u)(h:Q u s)
  (hd:uZ x:=by decide):wpAny (model X.prog X.w) X.A (eval (.Name x pos) X.env) Q E s:=
 A6 I.ok.kind hg (Calls.loadGlobal_global ([I.ok.glob]▸I.mod.glob.keeps I.bk) hm h) hd
theorem wW{x:O}{pos:Pos}(I:Inv X pins σ H s)(hg:Gl X x)(hm:X.mg x=none)(hv:bootBuiltins x>>u)(h:Q u s)
  (hn:x≠"__name__":=by decide)(hd:uZ x:=by decide):wpAny (model X.prog X.w) X.A (eval (.Name x pos) X.env) Q E s:=by let#[mb,h1,h2]:=I.mod.blt;exact A6 I.ok.kind hg (Calls.loadGlobal_builtin ([I.ok.glob]▸I.mod.glob.keeps I.bk) hm ([I.ok.blt]▸h1.keeps I.bk) ((h2 x hn).trans hv) h) hd
theorem y8(hg:Gl X x)(hm:X.mg x>>u)(r:RelV v u)(hd:uZ x:=by decide):PE X (.Name x pos) (tC v):=
 λ_ _ _ H _ I h=>CT I hg hm #[v,H,I,r,h] hd
theorem CV{x:O}{v:V}{pos:Pos}(hg:Gl X x)(hm:X.mg x=none)(hv:bootBuiltins x>>u)(r:RelV v u)(hn:x≠"__name__":=by decide)(hd:uZ x:=by decide):PE X (.Name x pos) (tC v):=
 λ_ _ _ H _ I h=>wW I hg hm hv #[v,H,I,r,h] hn hd
variable{a b:bY}{ta tb:TE}{pos:Pos}
def PC(X:Cx)(op:CmpOp)(a b:bY)(t:TE):Prop:=
 ∀(pins:!(J×Obj))(s:aU)(σ:St)(H:Hp)(Q:VK),Inv X pins σ H s->t σ H Q->
  wpAny (model X.prog X.w) X.A (eval a X.env) (λv s₁=>wpAny (model X.prog X.w) X.A (eval b X.env) (λu s₂=>wpAny (model X.prog X.w) X.A (compareOp op v u) (EP X pins σ Q) X.xe s₂) X.xe s₁) X.xe s
def tB(t:TE):TT:=λσ H Q=>t σ H λx H1=>∃c,x=.bl c/\Q c H1
theorem GL{op:CmpOp}(h:PC X op a b t)(h1:behindInMarks op b=false:=by first|exact ML _ (by decide) (by decide)|rfl):PE X (.Compare a [op] [b] pos) t:=λpins s σ H Q I hw=>wpAny_Compare1 (h pins s σ H Q I hw) h1
theorem UY{op:CmpOp}(h:PC X op a b t)(h1:behindInMarks op b=false:=by first|exact ML _ (by decide) (by decide)|rfl):PT X (.Compare a [op] [b] pos) (tB t):=by intro pins s σ H Q I hw;refine wpAny_isTrue_Compare1 (fV (h pins s σ H _ I hw) λv s1 h1=>fV h1 λu s2 h2=>fV h2 λc s3 #[x,H1,I1,r1,q1]=>?_) h1;let#[d,rfl,q]:=q1;cases r1;exact fB #[H1,I1,q]
variable{tA tB':TT}{rest:!bY}
def zb0(t u:TT):TT:=λσ H Q=>t σ H λc H1=>if c=true then u σ H1 Q else Q false H1
def tOr(t u:TT):TT:=λσ H Q=>t σ H λc H1=>if c=true then Q true H1 else u σ H1 Q
def zb1(t:TT):TT:=λσ H Q=>t σ H λc H1=>Q (not c) H1
theorem pw_and1(ha:PT X a tA):PW X (.BoolOp .And [a] pos) tA:=by
 intro wh pins s σ H Q I h;refine isTrue_and (fV (ha pins s σ H Q I h) λc s1 e=>?_);cases c with
 |true=>exact isTrue_and_nil e
 |false=>exact e
theorem pw_or1(ha:PT X a tA):PW X (.BoolOp .Or [a] pos) tA:=by
 intro wh pins s σ H Q I h;refine isTrue_or (fV (ha pins s σ H Q I h) λc s1 e=>?_);cases c with
 |false=>exact isTrue_or_nil e
 |true=>exact e
theorem pw_and(ha:PT X a tA)(hb:PW X (.BoolOp .And (b::rest) pos) tB'):PW X (.BoolOp .And (a::b::rest) pos) (zb0 tA tB'):=by
 intro wh pins s σ H Q I h;refine isTrue_and (fV (ha pins s σ H _ I h) λc s1 #[H1,I1,q1]=>?_);cases c with
 |true=>exact hb wh pins s1 σ H1 Q I1 q1
 |false=>exact#[H1,I1,q1]
theorem pw_or(ha:PT X a tA)(hb:PW X (.BoolOp .Or (b::rest) pos) tB'):PW X (.BoolOp .Or (a::b::rest) pos) (tOr tA tB'):=by
 intro wh pins s σ H Q I h;refine isTrue_or (fV (ha pins s σ H _ I h) λc s1 #[H1,I1,q1]=>?_);cases c with
 |true=>exact#[H1,I1,q1]
 |false=>exact hb wh pins s1 σ H1 Q I1 q1
theorem UZ(ha:PT X a tA):PT X (.UnaryOp .Not a pos) (zb1 tA):=by intro pins s σ H Q I h;exact isTrue_not (ha pins s σ H (λc H1=>Q (not c) H1) I h)
def XW(ta tb:TE):TE:=λσ H Q=>ta σ H λx H1=>∃c,x=.bl c/\if c=true then tb σ H1 Q else Q (.bl false) H1
def zb2(ta tb:TE):TE:=λσ H Q=>ta σ H λx H1=>∃c,x=.bl c/\if c=true then Q (.bl true) H1 else tb σ H1 Q
def XX(ta:TE):TE:=λσ H Q=>ta σ H λx H1=>∃c,x=.bl c/\Q (.bl (not c)) H1
theorem U0{op}(h:PE X a t):PE X (.BoolOp op [a] pos) t:=λpins s σ H Q I hw=>BoolOp_one (h pins s σ H Q I hw)
theorem MN(ha:PE X a ta)(hb:PE X (.BoolOp .And (b::rest) pos) tb):PE X (.BoolOp .And (a::b::rest) pos) (XW ta tb):=by
 intro pins s σ H Q I h;refine BoolOp_and (fV (ha pins s σ H _ I h) λv s1 #[x,H1,I1,r1,q1]=>?_);let#[c,rfl,q1]:=q1;cases r1;refine fB ?_;cases c with
 |true=>exact hb pins s1 σ H1 Q I1 q1
 |false=>exact#[.bl false,H1,I1,Y,q1]
theorem S8(ha:PE X a ta)(hb:PE X (.BoolOp .Or (b::rest) pos) tb):PE X (.BoolOp .Or (a::b::rest) pos) (zb2 ta tb):=by
 intro pins s σ H Q I h;refine BoolOp_or (fV (ha pins s σ H _ I h) λv s1 #[x,H1,I1,r1,q1]=>?_);let#[c,rfl,q1]:=q1;cases r1;refine fB ?_;cases c with
 |false=>exact hb pins s1 σ H1 Q I1 q1
 |true=>exact#[.bl true,H1,I1,Y,q1]
theorem U1(ha:PE X a ta):PE X (.UnaryOp .Not a pos) (XX ta):=by intro pins s σ H Q I h;refine UnaryOp_ (fV (ha pins s σ H _ I h) λv s1 #[x,H1,I1,r1,q1]=>?_);let#[c,rfl,q1]:=q1;cases r1;exact not_of (fB #[.bl (not c),H1,I1,Y,q1])
def tIf(t:TT)(ta tb:TE):TE:=λσ H Q=>t σ H λc H1=>if c=true then ta σ H1 Q else tb σ H1 Q
theorem MP(hc:PT X c tA)(ha:PE X a ta)(hb:PE X b tb):PE X (.IfExp c a b pos) (tIf tA ta tb):=by
 intro pins s σ H Q I h;refine wpAny_IfExp (fV (hc pins s σ H _ I h) λd s1 #[H1,I1,q1]=>?_);cases d with
 |true=>exact ha pins s1 σ H1 Q I1 q1
 |false=>exact hb pins s1 σ H1 Q I1 q1
end
def jY(K:ai)(H:Hp)(a:J)(xs:!V):Prop:=
 Rd H a (.lst xs)\/
  ∃(o:Obj)(its:Array M)(n:Nat),K.lookup a>>o/\o.cls=.type "list"/\o.dict=none/\o.data=.seq its n/\its.size<=sizeLine/\dw xs its.toList
def nG(K:ai)(H:Hp)(a:J)(xs:!V):Prop:=
 Rd H a (.tup xs)\/
  ∃(o:Obj)(its:Array M)(n:Nat),K.lookup a>>o/\o.cls=.type "tuple"/\o.data=.seq its n/\its.size<=sizeLine/\dw xs its.toList
def zb3:M->Option V
 | .none=>some .non
 | .bool b=>some (.bl b)
 | .int i _=>some (.int i)
 | .str x _=>some (.str x)
 | .bytes b _=>some (.W9 b)
 | .float b _=>some (.flt b)
 | .ref a=>some (.ref a)
 | .type n=>some (.ty n)
 |_=>none
theorem RelV.abs(r:RelV x u):zb3 u>>x:=by
 cases x with
 |non=>cases r;rfl
 |bl _=>cases r;rfl
 |int _=>let#[t,rfl]:=r;rfl
 |str _=>let#[t,rfl]:=r;rfl
 |W9 _=>let#[t,rfl]:=r;rfl
 |flt _=>let#[t,rfl]:=r;rfl
 |ref _=>cases r;rfl
 |ty _=>cases r;rfl
theorem RelV.inj(r:RelV x u)(q:RelV y u):x=y:=bK (r.abs.symm.trans q.abs)
theorem dw.inj:∀{xs ys:!V}{us:!M},dw xs us->dw ys us->xs=ys
 |_,_,_,.nil,.nil=>rfl
 |_,_,_,.cons r t,.cons r' t'=>by rw[r.inj r',dw.inj t t']
section
theorem jY.of(h:H a>>(.lst xs)):jY K H a xs:=.inl (.inl h)
theorem nG.of(h:H a>>(.tup xs)):nG K H a xs:=.inl (.inl h)
theorem Inv.list(I:Inv X pins σ H s)(h:jY X.K H a xs):∃its:!M,dw xs its/\PlainL s.heap a its.toArray/\xs.length<=sizeLine:=by
 rcases h with h|⟨o,its,n,hk,hc,hd,hs,hz,r⟩
 .let#[z,its,n,r,e]:=h.ok I.hok;exact#[its,r,#[_,n,e,Y,Y,Y],z]
 .refine#[_,r,#[o,n,I.Be a o hk,hc,hd,by simpa using hs],?_];let e:=r.length;simp only[cu]at e;omega
theorem Inv.tuple(I:Inv X pins σ H s)(h:nG X.K H a xs):∃its:!M,dw xs its/\IsTup s.heap a its.toArray/\xs.length<=sizeLine:=by
 rcases h with h|⟨o,its,n,hk,hc,hs,hz,r⟩
 .let#[z,its,r,p]:=h.ok I.hok;exact#[its,r,p,z]
 .refine#[_,r,#[o,I.Be a o hk,hc,n,by simpa using hs],?_];let e:=r.length;simp only[cu]at e;omega
theorem Inv.zD(I:Inv X pins σ H s)(h:jY X.K H a xs)(h':jY X.K H a ys):xs=ys:=by
 let#[its,r,#[o,n,e,_,_,d],_]:=I.list h;let#[yJ,r',#[o',n',e',_,_,d'],_]:=I.list h';rw[e]at e';cases e';rw[d]at d';injection d' with d1 _
 let:its=yJ:=by simpa using qQ6 Array.toList d1
 subst this;exact r.inj r'
theorem Inv.BK(I:Inv X pins σ H s)(h:nG X.K H a xs)(h':nG X.K H a ys):xs=ys:=by
 let#[its,r,#[o,e,_,n,d],_]:=I.tuple h;let#[yJ,r',#[o',e',_,n',d'],_]:=I.tuple h';rw[e]at e';cases e';rw[d]at d';injection d' with d1 _
 let:its=yJ:=by simpa using qQ6 Array.toList d1
 subst this;exact r.inj r'
end
abbrev Cx.wish(X:Cx)(E:M->aU->Prop):Cx:={ X with xe:=E }
abbrev Cx.S9(X:Cx):Cx:=X.wish λ_ _=>False
theorem Cx.Ok.wish(ok:X.Ok)(E:M->aU->Prop):(X.wish E).Ok:=
 #[ok.mod,ok.kind,ok.glob,ok.blt,ok.above,ok.inj,ok.has,ok.cab,ok.hd,ok.frames,ok.stk,ok.exf,ok.bs,ok.S5,ok.MK,ok.Qp,ok.yI,ok.UM]
theorem Cx.Ok.sy(ok:(X.wish E).Ok):X.Ok:=
 #[ok.mod,ok.kind,ok.glob,ok.blt,ok.above,ok.inj,ok.has,ok.cab,ok.hd,ok.frames,ok.stk,ok.exf,ok.bs,ok.S5,ok.MK,ok.Qp,ok.yI,ok.UM]
section
variable{X:Cx}{E:M->aU->Prop}
theorem Inv.wish(I:Inv X pins σ H s)(E:M->aU->Prop):Inv (X.wish E) pins σ H s:=#[I.ok.wish E,I.os,I.bare,I.base,I.loc,I.cell,I.free,I.og,I.pin,I.hok,I.len]
theorem Inv.sy(I:Inv (X.wish E) pins σ H s):Inv X pins σ H s:=#[I.ok.sy,I.os,I.bare,I.base,I.loc,I.cell,I.free,I.og,I.pin,I.hok,I.len]
theorem SP.sy{pins:!(J×Obj)}{D:Ends}{f:Flow}(h:SP (X.wish E) pins D f s'):SP X pins D f s':=by
 cases f with
 |next=>let#[σ',H',I,q]:=h;exact#[σ',H',I.sy,q]
 |brk=>let#[σ',H',I,q]:=h;exact#[σ',H',I.sy,q]
 |cont=>let#[σ',H',I,q]:=h;exact#[σ',H',I.sy,q]
 |ret u=>let#[v,σ',H',I,r,q]:=h;exact#[v,σ',H',I.sy,r,q]
theorem Ji.S9{st:!kr}{t:TS}(h:Ji X.S9 st t):Ji X st t:=λpins s σ H D I hw=>iw (h pins s σ H D (I.wish _) hw) (λ_ _ q=>q.sy) λ_ _ z=>gU z
end
section
variable{X:Cx}{st:kr}{t u:TS}{pos:Pos}
def XY:TS:=λD σ H=>D.nx σ H
def zb4(t u:TS):TS:=λD σ H=>t { D with nx:=u D } σ H
theorem Jj:Ji X [] XY:=λ_ _ σ H _ I h=>Ei #[σ,H,I,h]
theorem k9{rest:!kr}(h1:PS X st t)(h2:Ji X rest u):Ji X (st::rest) (zb4 t u):=by
 intro pins s σ H D I h;refine wpAny_execs_cons (fV (h1 pins s σ H { D with nx:=u D } I h) λf s1 q=>?_);cases f with
 |next=>let#[σ',H',I',q]:=q;exact h2 pins s1 σ' H' D I' q
 |ret v=>exact q
 |brk=>exact q
 |cont=>exact q
theorem CW(h1:PS X st t):Ji X [st] t:=by
 intro pins s σ H D I h;refine wpAny_execs_cons (fV (h1 pins s σ H D I h) λf s1 q=>?_);cases f with
 |next=>exact Ei q
 |ret v=>exact q
 |brk=>exact q
 |cont=>exact q
theorem Inv.quiet(I:Inv X pins σ H s):interactive X.env=false:=by simp[interactive,I.ok.kind]
def XZ(te:TE):TS:=λD σ H=>te σ H λ_ H1=>D.nx σ H1
theorem oV(he:PE X e te)(hs:XM X pos e:=by rfl):PS X (.Expr e pos) (XZ te):=by intro pins s σ H D I h;exact wpAny_Expr_any (fV (he pins s σ H _ I h) λv s1 #[x,H1,I1,r1,q1]=>#[σ,H1,I1,q1]) I.quiet hs
def zb5(te:TE):TS:=λD σ H=>te σ H D.rt
theorem wX(he:PE X e te):PS X (.Return (some e) pos) (zb5 te):=by intro pins s σ H D I h;exact wpAny_Return_some (fV (he pins s σ H _ I h) λv s1 #[x,H1,I1,r1,q1]=>#[x,σ,H1,I1,r1,q1])
def zb6(c:TT)(t u:TS):TS:=λD σ H=>c σ H λb H1=>if b=true then t D σ H1 else u D σ H1
theorem x3{a b:!kr}{tc:TT}(hc:PT X c tc)(ha:Ji X a t)(hb:Ji X b u):PS X (.If c a b pos) (zb6 tc t u):=by
 intro pins s σ H D I h;refine wpAny_If (fV (hc pins s σ H _ I h) λd s1 #[H1,I1,q1]=>?_);cases d with
 |true=>exact ha pins s1 σ H1 D I1 q1
 |false=>exact hb pins s1 σ H1 D I1 q1
def U2:TS:=λ_ _ _=>False
theorem jZ:Ji X sts U2:=λ_ _ _ _ _ _ h=>h.elim
end
abbrev TG:=V->St->Hp->(St->Hp->Prop)->Prop
abbrev S_:=!V->St->Hp->(St->Hp->Prop)->Prop
def PG(X:Cx)(target:bY)(t:TG):Prop:=
 ∀(pins:!(J×Obj))(s:aU)(σ:St)(H:Hp)(v:V)(u:M)(Q:St->Hp->Prop),Inv X pins σ H s->RelV v u->t v σ H Q->
  wpAny (model X.prog X.w) X.A (assign target X.env u) (λ_ s'=>∃σ' H',Inv X pins σ' H' s'/\Q σ' H') X.xe s
def PGs(X:Cx)(ts:!bY)(t:S_):Prop:=
 ∀(pins:!(J×Obj))(s:aU)(σ:St)(H:Hp)(vs:!V)(us:!M)(Q:St->Hp->Prop),Inv X pins σ H s->dw vs us->t vs σ H Q->
  wpAny (model X.prog X.w) X.A (assignInOrder ((assignEach ts X.env).map (·.2)) us) (λ_ s'=>∃σ' H',Inv X pins σ' H' s'/\Q σ' H') X.xe s
abbrev U3:=V->V->V->Hp->(Hp->Prop)->Prop
def X1(X:Cx)(t:U3):Prop:=
 ∀(pins:!(J×Obj))(s:aU)(σ:St)(H:Hp)(o i v:V)(ov iv u:M)(Q:Hp->Prop),Inv X pins σ H s->RelV o ov->RelV i iv->RelV v u->t o i v H Q->
  wpAny (model X.prog X.w) X.A (setItem ov iv u) (λ_ s'=>∃H',Inv X pins σ H' s'/\Q H') X.xe s
section
variable{X:Cx}{pos:Pos}
def BL(i:Nat):TG:=λv σ H Q=>Q (σ.set i (some v)) H
theorem Qt(hN:X.N.Nodup)(hi:X.N[i]?>>x)(hx:Loc X.env.scope x)(hf:zC X x:=by left):PG X (.Name x pos) (BL i):=by intro pins s σ H v u Q I r h;exact wpAny_assign_Name (oh I hN hi hx r (λs' I'=>#[_,H,I',h]) hf)
theorem fP(i:Nat)(hN:X.N.Nodup)(hi:X.N[i]?>>x:=by rfl)(hx:Loc X.env.scope x:=by left)(hf:zC X x:=by left):PG X (.Name x pos) (BL i):=Qt hN hi hx hf
def X2:S_:=λvs σ H Q=>vs=[]/\Q σ H
def Ta(t:TG)(u:S_):S_:=λvs σ H Q=>∃v r,vs=v::r/\t v σ H λσ' H'=>u r σ' H' Q
theorem dU:PGs X [] X2:=by intro pins s σ H vs us Q I r h;obtain⟨e,h⟩:=h;subst e;cases r;exact A7 #[σ,H,I,h]
theorem bx{t:TG}{u:S_}(h1:PG X e t)(h2:PGs X es u)
  (hs:(assignEach (e::es) X.env).map (·.2)=assign e X.env::(assignEach es X.env).map (·.2):=by rfl):PGs X (e::es) (Ta t u):=by
 intro pins s σ H vs us Q I r h;obtain⟨v,vr,e1,h⟩:=h;subst e1;cases r with
 |cons r rr=>rw[hs];exact jK (fV (h1 pins s σ H _ _ _ I r h) λ_ s1 #[σ1,H1,I1,q1]=>(h2 pins s1 σ1 H1 _ _ Q I1 rr q1))
def X3(K:ai)(n:Nat)(t:S_):TG:=λv σ H Q=>∃a xs,v=.ref a/\nG K H a xs/\xs.length=n/\t xs σ H Q
theorem fh{t:S_}{n:Nat}(hc:X.calm=true)(h:PGs X es t)
  (hn:(assignEach es X.env).length=n:=by rfl)(KC:(assignEach es X.env).findIdx? (·.1)=none:=by rfl):PG X (.Tuple es k pos) (X3 X.K n t):=by intro pins s σ H v u Q I r hw;obtain⟨a,xs,e1,hq,hl,hw⟩:=hw;subst e1;cases r;obtain⟨its,rv,ht,hz⟩:=I.tuple hq;refine assign_Tuple_tuple (I.ok.hd hc) ht (by simp[hn,<-hl,rv.length]) KC λh' hx=>?_;exact h pins _ σ H xs _ Q (I.kept λb o e=>hx b o (aZ (aX e)) e) ↑rv hw
def zb7(to ti:TE)(t:U3):TG:=λv σ H Q=>to σ H λo H1=>ti σ H1 λi H2=>t o i v H2 λH3=>Q σ H3
theorem GN{o i:bY}{to ti:TE}{t:U3}(ho:PE X o to)(hi:PE X i ti)(hs:X1 X t)
  (ha:∀v,assign (.Subscript o i pos) X.env v=(do
   let ov <-holding [v] (eval o X.env)
   let iv <-holding [v,ov] (eval i X.env)
   standAt pos
   holding [v,ov,iv] (setItem ov iv v)
   release [v,ov,iv] []):=by intro _;rfl):PG X (.Subscript o i pos) (zb7 to ti t):=by intro pins s σ H v u Q I r h;rw[ha];refine L (hV (fV (ho pins s σ H _ I h) λov s1 #[x,H1,I1,r1,q1]=>?_));refine L (hV (fV (hi pins s1 σ H1 _ I1 q1) λiv s2 #[y,H2,I2,r2,q2]=>?_));refine L (rX (L (hV (fV (hs pins s2 σ H2 x y v ov iv u _ I2 r1 r2 r q2) λ_ s3 #[H3,I3,q3]=>?_))));exact wpAny_release #[σ,H3,I3,q3]
def U4(te:TE)(g:TG):TS:=λD σ H=>te σ H λx H1=>g x σ H1 D.nx
theorem MQ{te:TE}{g:TG}(he:PE X e te)(hg:PG X tg g)(hs:swapsWithSole [tg] e pos.line X.env=pure false:=by rfl)(hw:swappedStores [tg] e X.env=pure none:=by rfl)
  (h1:(assignEach [tg] X.env).map (·.2)=[assign tg X.env]:=by rfl):PS X (.Assign [tg] e pos) (U4 te g):=by intro pins s σ H D I h;refine wpAny_Assign_stores (fV (he pins s σ H _ I h) λv s1 #[x,H1,I1,r1,q1]=>?_) hs hw;rw[h1];exact fV (hg pins s1 σ H1 x v _ I1 r1 q1) λ_ s2 q=>q
theorem u6(hN:X.N.Nodup)(hi:X.N[i]?>>x)(hx:Loc X.env.scope x)(he:PE X e te)(hs:CN X pos e (.Name x pos'):=by rfl)(hf:zC X x:=by left):
  PS X (.Assign [.Name x pos'] e pos) (U4 te (BL i)):=by intro pins s σ H D I h;exact wpAny_Assign_Name (fV (he pins s σ H _ I h) λv s1 #[y,H1,I1,r1,q1]=>(oh I1 hN hi hx r1 (λs2 I2=>#[_,H1,I2,q1]) hf)) hs
def zb8(i j:Nat)(ta:TA):TS:=λD σ H=>ta σ H λvs H1=>∃v w,vs=[v,w]/\D.nx ((σ.set i (some v)).set j (some w)) H1
theorem MR{i j:Nat}{x y:O}{a b:bY}{ta:TA}{px py pt:Pos}{kt k2 En}(hc:X.calm=true)(hN:X.N.Nodup)(hi:X.N[i]?>>x)(hj:X.N[j]?>>y)(yK:i≠j)
  (hx:X.env.scope.names.lookup x>>.local)(hy:X.env.scope.names.lookup y>>.local)(ha:PA X [a,b] ta)
  (hw:swappedStores [.Tuple [.Name x px,.Name y py] kt pt] (.Tuple [a,b] k2 En) X.env=pure (some [x,y]))
  (hs:swapsWithSole [.Tuple [.Name x px,.Name y py] kt pt] (.Tuple [a,b] k2 En) pos.line X.env=pure false:=by rfl):
  PS X (.Assign [.Tuple [.Name x px,.Name y py] kt pt] (.Tuple [a,b] k2 En) pos) (zb8 i j ta):=by
 intro pins s σ H D I h;refine L (rX ?_);rw[hs];refine L (aM ?_);refine L (Tuple_ (fV (ha _ pins s σ H _ I h) λus s1 #[vs,H1,I1,r1,q1]=>?_));obtain⟨v,w,e1,q1⟩:=q1;subst e1;obtain⟨u1,u2,rfl,rv,pZ⟩:∃u1 u2,us=[u1,u2]/\RelV v u1/\RelV w u2:=by
  cases r1 with
  |cons p q=>
   cases q with
   |cons p' q'=>cases q';exact#[_,_,Y,p,p']
 refine cR ?_ (by show 2<=sizeLine;decide);let I2:Inv X pins σ H1 { s1 with heap:=s1.heap.push { cls:=.type "tuple",data:=.seq [u1,u2].toArray } }:=I1.kept λb o e=>av _ e;rw[hw];refine L (aM ?_);refine L (uU (L (unpackItems_tuple (items:=(bf [u1,u2])) (I.ok.hd hc) (uG s1.heap _) λh' hx'=>?_)));refine L (jK (qz (oh (I2.kept (t':=s1.toks) λb o e=>hx' b o (aZ (aX e)) e) hN hj (.inl hy) pZ (λs2 I4=>?_) (.inr hy))));refine jK (qz (oh I4 hN hi (.inl hx) rv (λs3 I5=>A7 (aM ?_)) (.inr hx)));rw[vQ _ _ (bD yK)]at I5;exact#[_,H1,I5,q1]
end
structure It where
 go:Nat->Hp->Prop
 X4:Nat->Hp->V->Hp->Prop
 stop:Nat->Hp->Prop
def uD(X:Cx)(pins:!(J×Obj))(H:Hp)(b:J):Prop:=
 H b=none/\b≠X.env.locals/\b∉X.fs/\(b∈X.ex\/X.s₀.heap.objs.size<=b)/\(∀x c,X.env.cells.lookup x>>c->c≠b)/\∀p∈X.pn++pins,p.1≠b
theorem Inv.uE{H': Hp}{b:J}(I:Inv X pins σ H s)(hb:s.heap.objs.size<=b)(hn:H' b=none):uD X pins H' b:=by
 refine#[hn,eG (bX I.lt hb),I.zbW hb,.inr (bZ I.sz hb),λx c e z=>?_,λp hp z=>?_]
 .let#[v,q]:=I.cell x c e;exact qQ7 (bX q.lt ([z]▸hb)) (Nat.lt_irrefl _)
 .exact qQ7 (bX (aX (I.pin p hp).1) ([z]▸hb)) (Nat.lt_irrefl _)
structure Turn(P:bW)(w:cP)(K:ai)(tg:bY)(Ja:It)(fp:!J)(it:J)(tn:Nat->dv->Prop):Prop where
 mem:it∈fp
 obj:∀i h,tn i h->∀b∈fp,∃o,h.get? b>>o/\∀v,o.data≠.cell v
 keep:∀i h h',tn i h->(∀b∈fp,∀o,h.get? b>>o->h'.get? b>>o)->tn i h'
 item:∀(X:Cx),X.prog=P->X.w=w->X.K=K->X.calm=true->∀(i:Nat)(pins:!(J×Obj))(s:aU)(σ:St)(H:Hp)(E:M->aU->Prop),Inv X pins σ H s->(∀b∈fp,uD X pins H b)->tn i s.heap->Ja.go i H->
  wpAny (model P w) X.A (pyNext (.ref it)) (λr s1=>∃u,r>>u/\
   wpAny (model P w) X.A (letOwnedTupleGo tg (.ref it) u) (λ_ s2=>∃x H',Inv X pins σ H' s2/\RelV x u/\Ja.X4 i H x H'/\tn (i+1) s2.heap/\∀b∈fp,H' b=none) E s1) E s
 done:∀(X:Cx),X.prog=P->X.w=w->X.K=K->X.calm=true->∀(i:Nat)(pins:!(J×Obj))(s:aU)(σ:St)(H:Hp)(E:M->aU->Prop),Inv X pins σ H s->(∀b∈fp,uD X pins H b)->tn i s.heap->Ja.stop i H->
  wpAny (model P w) X.A (pyNext (.ref it)) (λr s1=>r=none/\Inv X pins σ H s1) E s
 self:∀(A:g7)(i:Nat)(s:aU)(Q:M->aU->Prop)(E:M->aU->Prop),tn i s.heap->Q (.ref it) s->wpAny (model P w) A (pyIter (.ref it)) Q E s
abbrev TI:=St->Hp->(It->Hp->Prop)->Prop
def PIE(X:Cx)(pins:!(J×Obj))(σ:St)(tg:bY)(R:It->Hp->Prop)(itv:M)(s2:aU):Prop:=
 ∃(it:J)(fp:!J)(tn:Nat->dv->Prop)(Ja:It)(H':Hp),itv=.ref it/\Inv X pins σ H' s2/\Turn X.prog X.w X.K tg Ja fp it tn/\tn 0 s2.heap/\(∀b∈fp,uD X pins H' b)/\R Ja H'
def PI(X:Cx)(tg iter:bY)(wi:TI):Prop:=
 ∀(pins:!(J×Obj))(s:aU)(σ:St)(H:Hp)(R:It->Hp->Prop),Inv X pins σ H s->wi σ H R->
  wpAny (model X.prog X.w) X.A (eval iter X.env) (λv s1=>wpAny (model X.prog X.w) X.A (pyIter v) (PIE X pins σ tg R) X.xe s1) X.xe s
theorem BM{n:String}{vs:Array M}{Q:Unit->aU->Prop}(ho:s.heap.get? it>>o)(hc:o.cls=.type n)(hd:o.data=.fields vs)
    (hn:["enumerate","zip","dict_itemiterator","dict_reverseitemiterator","odict_iterator","itertools.zip_longest","itertools.pairwise"].contains n=false)(hQ:Q .unit s):wpAny Ma A (letOwnedTupleGo tg (.ref it) u) Q E s:=by
  cases tg<;>first
    | exact aM hQ
    | (cases u<;>first
        | exact aM hQ
        | (refine L (wpAny_load ho ?_)
           rw[hc,hd];show wpAny Ma A (if(["enumerate","zip","dict_itemiterator","dict_reverseitemiterator","odict_iterator","itertools.zip_longest","itertools.pairwise"].contains n&&vs[0]?==some (rawInt _))=true then _ else _) Q E s;rw[qQ2 (by intro h;rw[hn,Bool.false_and]at h;cases h)];exact aM hQ))
def Itl(K:ai)(a:J):It:=
 #[λi H=>∃xs x,jY K H a xs/\xs[i]?>>x,λi H x H'=>H'=H/\∀xs,jY K H a xs->xs[i]?>>x,λi H=>∃xs,jY K H a xs/\xs.length<=i]
def Itt(K:ai)(a:J):It:=
 #[λi H=>∃xs x,nG K H a xs/\xs[i]?>>x,λi H x H'=>H'=H/\∀xs,nG K H a xs->xs[i]?>>x,λi H=>∃xs,nG K H a xs/\xs.length<=i]
def Itr(lo:Int)(n:Nat):It:=#[λi _=>i<n,λi H x H'=>H'=H/\x=.int (lo+i),λi _=>n<=i]
theorem KD(a it:J):Turn P w K tg (Itl K a) [it] it (λi h=>h.IsListIter it a i) where
 mem:=∅
 obj:=λi h st b hb=>by
  let e:b=it:=by simpa using hb
  subst e;let#[o,e,c,d]:=st;exact#[o,e,λv z=>by rw[d]at z;cases z]
 keep:=λi h h' st k=>st.at λo e=>k it ∅ o e
 item:=by intro X hP hw hK hc i pins s σ H E I hf st hg;subst hP hw hK;let#[xs,x,hq,hx]:=hg;let#[its,rv,p,hz]:=I.list hq;let#[u,hu,ru]:=rv.get hx;let#[f0,f1,f2,f3,f4,f5]:=hf it ∅;refine wpAny_pyNext_list_item st p.isList ↑hu λh' vU sb=>?_;let#[o,e,c,d]:=id vU;exact#[u,Y,BM e c d ⋯ #[x,H,I.turned (λb o hb e=>(sb.2 b hb).trans e) f0 f1 f3 f4 f5,ru,#[Y,λys hy=>[I.zD hy hq]▸hx],vU,λb hb=>(hf b hb).1]]
 done:=by intro X hP hw hK hc i pins s σ H E I hf st hg;subst hP hw hK;let#[xs,hq,hx]:=hg;let#[its,rv,p,hz]:=I.list hq;let#[f0,f1,f2,f3,f4,f5]:=hf it ∅;let hl:=rv.length;exact wpAny_pyNext_list_end (I.ok.hd hc) st p.isList (by simp;omega) λh' eb=>#[Y,I.turned (λb o hb e=>eb b o hb e) f0 f1 f3 f4 f5]
 self:=λ_ _ _ _ _ st h=>wpAny_pyIter_listiter st h
theorem GO(a it:J):Turn P w K tg (Itt K a) [it] it (λi h=>h.IsTupleIter it a i) where
 mem:=∅
 obj:=λi h st b hb=>by
  let e:b=it:=by simpa using hb
  subst e;let#[o,e,c,d]:=st;exact#[o,e,λv z=>by rw[d]at z;cases z]
 keep:=λi h h' st k=>st.at λo e=>k it ∅ o e
 item:=by intro X hP hw hK hc i pins s σ H E I hf st hg;subst hP hw hK;let#[xs,x,hq,hx]:=hg;let#[its,rv,p,hz]:=I.tuple hq;let#[u,hu,ru]:=rv.get hx;let#[f0,f1,f2,f3,f4,f5]:=hf it ∅;refine wpAny_pyNext_tuple_item st p ↑hu λh' vU sb=>?_;let#[o,e,c,d]:=id vU;exact#[u,Y,BM e c d ⋯ #[x,H,I.turned (λb o hb e=>(sb.2 b hb).trans e) f0 f1 f3 f4 f5,ru,#[Y,λys hy=>[I.BK hy hq]▸hx],vU,λb hb=>(hf b hb).1]]
 done:=by intro X hP hw hK hc i pins s σ H E I hf st hg;subst hP hw hK;let#[xs,hq,hx]:=hg;let#[its,rv,p,hz]:=I.tuple hq;let#[f0,f1,f2,f3,f4,f5]:=hf it ∅;let hl:=rv.length;exact wpAny_pyNext_tuple_end (I.ok.hd hc) st p (by simp;omega) λh' eb=>#[Y,I.turned (λb o hb e=>eb b o hb e) f0 f1 f3 f4 f5]
 self:=λ_ _ _ _ _ st h=>wpAny_pyIter_tupleiter st h
theorem GP(it:J)(lo:Int)(n:Nat):Turn P w K tg (Itr lo n) [it] it (λi h=>IsRangeIter h it (lo+(i:Nat)*1) ((n:Int)-(i:Nat)) 1) where
 mem:=∅
 obj:=λi h st b hb=>by
  let e:b=it:=by simpa using hb
  subst e;exact#[_,st,λv z=>by let z':=z;cases z']
 keep:=λi h h' st k=>k it ∅ _ st
 item:=by intro X hP hw hK hc i pins s σ H E I hf st hg;subst hP hw hK;let#[f0,f1,f2,f3,f4,f5]:=hf it ∅;refine (Walks.range (I.ok.hd hc) it lo 1 n).item i s _ _ hg st λv h' tk hv vU kk=>?_;let#[t,rfl]:=hv;let I1:Inv X pins σ H { s with heap:=h',toks:=tk }:=I.turned (λb o hb e=>kk b o ↑hb e) f0 f1 f3 f4 f5;refine#[_,Y,BM vU Y Y ⋯ #[.int (lo+i),H,I1,#[t,?_],#[Y,Y],vU,λb hb=>(hf b hb).1]];rw[Int.mul_one]
 done:=by intro X hP hw hK hc i pins s σ H E I hf st hg;subst hP hw hK;let#[f0,f1,f2,f3,f4,f5]:=hf it ∅;exact wpAny_pyNext_range_end (I.ok.hd hc) st (by let:n<=i:=hg;omega) λh' eb=>#[Y,I.turned (λb o hb e=>eb b o hb e) f0 f1 f3 f4 f5]
 self:=λ_ _ _ _ _ st h=>wpAny_pyIter_rangeiter st h
section
variable{X:Cx}{tg:bY}
def X5(K:ai)(tl:TE):TI:=λσ H R=>tl σ H λx H1=>∃a,x=.ref a/\(∃xs,jY K H1 a xs)/\R (Itl K a) H1
def zcc(K:ai)(tl:TE):TI:=λσ H R=>tl σ H λx H1=>∃a,x=.ref a/\(∃xs,nG K H1 a xs)/\R (Itt K a) H1
theorem Jk(hl:PE X l tl):PI X tg l (X5 X.K tl):=by
 intro pins s σ H R I h;refine fV (hl pins s σ H _ I h) λv s1 #[x,H1,I1,r1,q1]=>?_;let#[a,e,#[xs,hq],q]:=q1;subst e;cases r1;let#[its,rv,p,hz]:=I1.list hq;refine m9 p.isList ?_;refine#[s1.heap.objs.size,_,_,_,H1,Y,I1.kept λb o e=>av _ e,KD a _,#[_,aV _ Y,Y,Y],λb hb=>?_,q];let e:b=s1.heap.objs.size:=by simpa using hb
 subst e;exact I1.uE () (I1.hok.fresh ())
theorem U5(hl:PE X l tl):PI X tg l (zcc X.K tl):=by
 intro pins s σ H R I h;refine fV (hl pins s σ H _ I h) λv s1 #[x,H1,I1,r1,q1]=>?_;let#[a,e,#[xs,hq],q]:=q1;subst e;cases r1;let#[its,rv,p,hz]:=I1.tuple hq;refine zy p ?_;refine#[s1.heap.objs.size,_,_,_,H1,Y,I1.kept λb o e=>av _ e,GO a _,#[_,aV _ Y,Y,Y],λb hb=>?_,q];let e:b=s1.heap.objs.size:=by simpa using hb
 subst e;exact I1.uE () (I1.hok.fresh ())
theorem MS{R:It->Hp->Prop}{lo hi:Int}{t u v:Tok}{tk:Nat}(I:Inv X pins σ H s)(h1:-(2^62)<=lo)(h2:lo<2^62)(h3:-(2^62)<=hi)(h4:hi<2^62)
  (q:R (Itr lo (hi-lo).toNat) H):wpAny (model X.prog X.w) X.A (pyIter (.ref s.heap.objs.size)) (PIE X pins σ tg R) E { s with heap:=s.heap.push { cls:=.type "range",data:=.fields (bf [.int lo t,.int hi u,.int 1 v]) },toks:=tk }:=by
 refine wpAny_pyIter_range (IsRange.new ..) (small_one h1 h2 h3 h4) ?_;let I1:Inv X pins σ H { s with heap:=s.heap.push { cls:=.type "range",data:=.fields (bf [.int lo t,.int hi u,.int 1 v]) },toks:=tk }:=I.kept λb o e=>av _ e;refine#[(s.heap.push { cls:=.type "range",data:=.fields (bf [.int lo t,.int hi u,.int 1 v]) }).objs.size,_,_,_,H,Y,
  I1.kept λb o e=>av _ e,GP _ lo (hi-lo).toNat,?_,λb hb=>?_,q]
 .let e1:lo+((0:Nat))*1=lo:=∅
  let e2:(((hi-lo).toNat))-((0:Nat))=rV.Range.rangeSize lo hi 1:=by rw[rangeSize_one];split<;>omega
  rw[e1,e2];exact aV _ Y
 .let e:b=(s.heap.push { cls:=.type "range",data:=.fields (bf [.int lo t,.int hi u,.int 1 v]) }).objs.size:=by simpa using hb
  subst e;exact I1.uE (aE _) (I1.hok.fresh (aE _))
def X6(ta:TA):TI:=λσ H R=>ta σ H λvs H1=>∃j:Int,vs=[.int j]/\-(2^62)<=j/\j<2^62/\R (Itr 0 j.toNat) H1
theorem BO{a:bY}{ta:TA}{p pos:Pos}(hg:Gl X "range")(hm:X.mg "range"=none)(ha:PA X [a] ta)(hs:starEach [a] X.env=[(false,eval a X.env)]:=by rfl):PI X tg (.Call (.Name "range" p) [a] [] pos) (X6 ta):=by
 intro pins s σ H R I h;refine Call_ (wW I hg hm boot_range (iT (fV (ha pos pins s σ H _ I h) λus s1 #[vs,H1,I1,r1,q1]=>?_) hs Y));obtain⟨j,e,q1,q2,q⟩:=q1;subst e;cases r1 with
 |cons r rr=>cases rr;obtain⟨t,rfl⟩:=r;exact call_range_1 (MS I1 () () q1 q2 ↑q)
def zcd(wi:TI)(g:TG)(tb:TS):TS:=λD σ H=>wi σ H λJa H1=>∃W:Nat->Nat->St->Hp->Prop,(∃m,W 0 m σ H1)/\∀i m σ H,W i m σ H->
 (Ja.stop i H/\D.nx σ H)\/(Ja.go i H/\∃N:St->Hp->Prop,(∀σ' H',N σ' H'->∃m',m'<m/\W (i+1) m' σ' H')/\∀x H',Ja.X4 i H x H'->g x σ H' λσ2 H2=>tb { D with nx:=N,ct:=N,bk:=D.nx } σ2 H2)
def CY(fp:!J)(h:dv):!(J×Obj):=fp.filterMap λb=>(h.get? b).map λo=>(b,o)
theorem qD(hb:b∈fp)(e:h.get? b>>o):(b,o)∈CY fp h:=jl.mpr #[b,hb,by rw[e];rfl]
theorem KG(hp:p∈CY fp h):p.1∈fp/\h.get? p.1>>p.2:=by
 let#[b,hb,e]:=jl.mp hp;cases q:h.get? b with
 |none=>rw[q]at e;cases e
 |some o=>rw[q]at e;let e':=bK e;subst e';exact#[hb,q]
theorem Inv.pinned(I:Inv X pins σ H s)(hf:∀b∈fp,uD X pins H b)(ho:∀b∈fp,∃o,s.heap.get? b>>o/\∀v,o.data≠.cell v):Inv X (pins++CY fp s.heap) σ H s:=
 I.Jh λp hp=>(aT.mp hp).elim (λz=>I.pin p (bt _ z)) λz=>by let#[hb,e]:=KG z;let#[f0,f1,f2,_]:=hf p.1 hb;let#[o,e',d]:=ho p.1 hb;rw[e]at e';cases e';exact#[e,f0,f1,f2,d]
theorem Inv.sA{pl: !(J×Obj)}(I:Inv X (pins++pl) σ H s):Inv X pins σ H s:=I.Jh λp hp=>I.pin p (bt _ (bH _ hp))
theorem zE{iter:bY}{wi:TI}{g:TG}{tb:TS}{pos:Pos}(hp:uz (model X.prog X.w) X.A X.env X.xe)(hc:X.calm=true)(hi:PI X tg iter wi)(hg:PG X tg g)(hb:Ji X body tb)
  (hs:Jf X iter:=by intro _;rfl):PS X (.For tg iter body [] pos) (zcd wi g tb):=by
 intro pins s σ H D I h;refine wpAny_For (fV (hi pins s σ H _ I h) λv s1 h1=>fV h1 λitv s2 h2=>?_) hs;let#[it,fp,tn,Ja,H2,e,I2,T,X7,f2,W,#[m0,w0],turn]:=h2;subst e;let stat:∀{H':Hp},(∀b∈fp,H' b=none)->∀b∈fp,uD X pins H' b:=λhn b hb=>#[hn b hb,(f2 b hb).2];refine codeAny_forLoop_any (λn s'=>∃i σ' H',Inv X pins σ' H' s'/\tn i s'.heap/\(∀b∈fp,H' b=none)/\W i n σ' H') ?_ m0 #[0,σ,H2,I2,X7,λb hb=>(f2 b hb).1,w0];rintro n s3 ⟨i,σ3,H3,I3,st3,fr3,w3⟩;rcases turn i n σ3 H3 w3 with⟨stop,qn⟩|⟨go,N,hN,step⟩
 .refine pD hp (fV (T.done X Y Y Y hc i pins s3 σ3 H3 X.xe I3 (stat fr3) st3 stop) λr s4 #[hr,I4]=>?_);subst hr;exact Ei #[σ3,H3,I4,qn]
 .refine pD hp (fV (T.item X Y Y Y hc i pins s3 σ3 H3 X.xe I3 (stat fr3) st3 go) λr s4 #[u,hr,h4]=>?_);subst hr;refine pD hp (fV h4 λ_ s5 #[x,H5,I5,r5,y5,st5,fr5]=>?_);refine pD hp (fV (hg _ s5 σ3 H5 x u _ (I5.pinned (stat fr5) (T.obj _ _ st5)) r5 (step x H5 y5)) λ_ s6 #[σ6,H6,I6,q6]=>?_);refine pD hp (fV (hb _ s6 σ6 H6 _ I6 q6) λf s7 q7=>?_);let again:∀{σ7:St}{H7:Hp},Inv X _ σ7 H7 s7->N σ7 H7->∃m,m<n/\∃i σ' H',Inv X pins σ' H' s7/\tn i s7.heap/\(∀b∈fp,H' b=none)/\W i m σ' H':=λ{σ7 H7}I7 n7=>by let#[m',hm,w7]:=hN σ7 H7 n7;refine#[m',hm,i+1,σ7,H7,I7.sA,T.keep _ _ _ st5 λb hb o e=>(I7.pin (b,o) (bt _ (bt _ (qD hb e)))).1,λb hb=>?_,w7];let#[o,e,d]:=T.obj _ _ st5 b hb;exact(I7.pin (b,o) (bt _ (bt _ (qD hb e)))).2.1
  cases f with
  |next=>let#[σ7,H7,I7,n7]:=q7;exact again I7 n7
  |cont=>let#[σ7,H7,I7,n7]:=q7;exact again I7 n7
  |brk=>let#[σ7,H7,I7,q7]:=q7;exact#[σ7,H7,I7.sA,q7]
  |ret v=>let#[x7,σ7,H7,I7,r7,q7]:=q7;exact#[x7,σ7,H7,I7.sA,r7,q7]
end
abbrev R2:=V->V->Hp->VK->Prop
variable{r:R2}
def uj(X:Cx)(f:M->M->Sem M)(r:R2):Prop:=
 ∀(pins:!(J×Obj))(s:aU)(σ:St)(H:Hp)(x y:V)(v u:M)(Q:VK),Inv X pins σ H s->RelV x v->RelV y u->r x y H Q->
  wpAny (model X.prog X.w) X.A (f v u) (EP X pins σ Q) X.xe s
def iS(X:Cx)(f:M)(r:!V->Hp->VK->Prop):Prop:=
 ∀(pins:!(J×Obj))(s:aU)(σ:St)(H:Hp)(xs:!V)(us:!M)(Q:VK),Inv X pins σ H s->dw xs us->r xs H Q->
  wpAny (model X.prog X.w) X.A (call f us) (EP X pins σ Q) X.xe s
def zcf(X:Cx)(r:V->Hp->(Bool->Hp->Prop)->Prop):Prop:=
 ∀(pins:!(J×Obj))(s:aU)(σ:St)(H:Hp)(x:V)(v:M)(Q:Bool->Hp->Prop),Inv X pins σ H s->RelV x v->r x H Q->
  wpAny (model X.prog X.w) X.A (truthy v) (TP X pins σ Q) X.xe s
def Xa(r:R2)(ta tb:TE):TE:=λσ H Q=>ta σ H λx H1=>tb σ H1 λy H2=>r x y H2 Q
def rI(C:Int->Int->Prop)(g:Int->Int->V):R2:=λx y H Q=>∃i j,x=.int i/\y=.int j/\C i j/\Q (g i j) H
def Qu(g:Int->Int->V):R2:=λx y H Q=>∃i j,x=.int i/\y=.int j/\Q (g i j) H
section
variable{X:Cx}{a b:bY}{ta tb:TE}{pos:Pos}
theorem U6(ha:PE X a ta)(hb:PE X b tb)(I:Inv X pins σ H s)
  (h:ta σ H λx H1=>tb σ H1 λy H2=>R x y H2)
  (hf:∀v u s2 x y H2,Inv X pins σ H2 s2->RelV x v->RelV y u->R x y H2->wpAny (model X.prog X.w) X.A (f v u) Q X.xe s2):
  wpAny (model X.prog X.w) X.A (eval a X.env) (λv s₁=>wpAny (model X.prog X.w) X.A (eval b X.env) (λu s₂=>wpAny (model X.prog X.w) X.A (f v u) Q X.xe s₂) X.xe s₁) X.xe s:=by exact fV (ha pins s σ H _ I h) λv s1 #[x,H1,I1,r1,q1]=>(fV (hb pins s1 σ H1 _ I1 q1) λu s2 #[y,H2,I2,r2,q2]=>(hf v u s2 x y H2 I2 r1 r2 q2))
theorem Eo{op:Operator}(ho:uj X (binaryOp op) r)(ha:PE X a ta)(hb:PE X b tb):PE X (.BinOp a op b pos) (Xa r ta tb):=by intro pins s σ H Q I h;exact wpAny_BinOp (U6 ha hb I h λv u s2 x y H2 I2 rx ry q=>ho pins s2 σ H2 x y v u Q I2 rx ry q)
theorem opI{C:Int->Int->Prop}
  (rule:∀(i j:Int)(t u:Tok)(s:aU)(Q:M->aU->Prop)(E:M->aU->Prop),C i j->Q (.int (g i j) s.toks) { s with toks:=s.toks+1 }->wpAny (model X.prog X.w) X.A (f (.int i t) (.int j u)) Q E s):
  uj X f (rI C λi j=>.int (g i j)):=by intro pins s σ H x y v u Q I rx ry h;let#[i,j,rfl,rfl,hc,q]:=h;let#[t,rfl]:=rx;let#[t',rfl]:=ry;exact rule i j t t' s _ _ hc #[.int (g i j),H,I.tok _,#[_,Y],q]
theorem zch
  (rule:∀(i j:Int)(t u:Tok)(s:aU)(Q:M->aU->Prop)(E:M->aU->Prop),Q (.int (g i j) s.toks) { s with toks:=s.toks+1 }->wpAny (model X.prog X.w) X.A (f (.int i t) (.int j u)) Q E s):
  uj X f (Qu λi j=>.int (g i j)):=by intro pins s σ H x y v u Q I rx ry h;let#[i,j,rfl,rfl,q]:=h;let#[t,rfl]:=rx;let#[t',rfl]:=ry;exact rule i j t t' s _ _ #[.int (g i j),H,I.tok _,#[_,Y],q]
theorem Qv{g:Int->Int->Bool}
  (rule:∀(i j:Int)(t u:Tok)(s:aU)(Q:M->aU->Prop)(E:M->aU->Prop),Q (.bool (g i j)) s->wpAny (model X.prog X.w) X.A (f (.int i t) (.int j u)) Q E s):
  uj X f (Qu λi j=>.bl (g i j)):=by intro pins s σ H x y v u Q I rx ry h;let#[i,j,rfl,rfl,q]:=h;let#[t,rfl]:=rx;let#[t',rfl]:=ry;exact rule i j t t' s _ _ #[.bl (g i j),H,I,Y,q]
def X8(i j:Int):Prop:=0<j/\j<1073741824
def Qw(i j:Int):Prop:=(-(2^64)<i/\i<2^64)\/(-(2^64)<j/\j<2^64)
theorem Qw.ok(h:Qw i j):IntMulOk i j:=by
 rcases h with⟨h1,h2⟩|⟨h1,h2⟩
 .exact .of_left (intBits_le_64 h1 h2)
 .exact .of_right (intBits_le_64 h1 h2)
theorem oj:uj X (binaryOp .Add) (Qu λi j=>.int (i+j)):=zch λ_ _ _ _ _ _ _ q=>add_int q
theorem U7:uj X (binaryOp .Mult) (rI Qw λi j=>.int (i*j)):=opI λ_ _ _ _ _ _ _ hc q=>mul_int q hc.ok
theorem Qx:uj X (binaryOp .FloorDiv) (rI X8 λi j=>.int (i/j)):=opI λi j _ _ _ _ _ hc q=>by let h1:=hc.1;let h2:=hc.2;exact floordiv_int () ([Int.fdiv_eq_ediv_of_nonneg i ()]▸q) (.inl (PyProof.noPylong_small ()))
theorem U8:uj X (binaryOp .Mod) (rI (λ_ j=>0<j) λi j=>.int (i%j)):=opI λi j _ _ _ _ _ hc q=>by let h1:=hc;exact mod_int' () ([Int.fmod_eq_emod_of_nonneg i ()]▸q)
end
section
variable{X:Cx}{a b c:bY}{ta tb tc:TE}{pos:Pos}
theorem MT{Q:VK}{k k':Bool}(I:Inv X pins σ H s)(q:Q (.bl k) H)(e:k=k'):EP X pins σ Q (.bool k') s:=by subst e;exact#[.bl k,H,I,Y,q]
theorem X9:uj X (compareOp .Lt) (Qu λi j=>.bl (decide (i<j))):=Qv λ_ _ _ _ _ _ _ q=>lt_int q
theorem Jl:uj X (compareOp .LtE) (Qu λi j=>.bl (decide (i<=j))):=Qv λ_ _ _ _ _ _ _ q=>le_int q
theorem Tb:uj X (compareOp .Gt) (Qu λi j=>.bl (decide (j<i))):=Qv λ_ _ _ _ _ _ _ q=>gt_int q
theorem X_:uj X (compareOp .GtE) (Qu λi j=>.bl (decide (j<=i))):=Qv λ_ _ _ _ _ _ _ q=>ge_int q
theorem KH:uj X (compareOp .In) (λx y H Q=>∃i j,x=.str i/\y=.str j/\Q (.bl (not (rV.Str.occurrences j i 0 j.length 1).isEmpty)) H):=by intro pins s σ H x y v u Q I rx ry h;let#[i,j,rfl,rfl,q]:=h;let#[t,rfl]:=rx;let#[t',rfl]:=ry;exact in_str (MT I q Y)
theorem jM:uj X (compareOp .Is) (λx y H Q=>y=.non/\Q (.bl (decide (x=.non))) H):=by
 intro pins s σ H x y v u Q I rx ry h;let#[rfl,q]:=h;cases ry;refine is_none_gen (MT I q ?_);cases x<;>first
  |(cases rx;rfl)
  |(let#[t,rfl]:=rx;rfl)
theorem fX(b:bY)(h:op≠.In:=by decide)(h2:op≠.NotIn:=by decide):behindInMarks op b=false:=by
 let e1:(op==CmpOp.In)=false:=by cases op<;>first|rfl|exact qQ7 Y h
 let e2:(op==CmpOp.NotIn)=false:=by cases op<;>first|rfl|exact qQ7 Y h2
 cases b<;>simp[behindInMarks,e1,e2]
theorem Qy{op:CmpOp}(ho:uj X (compareOp op) r)(ha:PE X a ta)(hb:PE X b tb)(hm:behindInMarks op b=false):PE X (.Compare a [op] [b] pos) (Xa r ta tb):=by intro pins s σ H Q I h;exact wpAny_Compare1 (U6 ha hb I h λv u s2 x y H2 I2 rx ry q=>ho pins s2 σ H2 x y v u Q I2 rx ry q) hm
def X'(t:TE):TT:=λσ H Q=>t σ H λx H'=>∃k,x=.bl k/\Q k H'
theorem CZ{op:CmpOp}(ho:uj X (compareOp op) r)(ha:PE X a ta)(hb:PE X b tb)(hm:behindInMarks op b=false):PT X (.Compare a [op] [b] pos) (X' (Xa r ta tb)):=by
 intro pins s σ H Q I h;refine wpAny_isTrue_Compare1 (fV (ha pins s σ H _ I h) λv s1 #[x,H1,I1,r1,q1]=>fV (hb pins s1 σ H1 _ I1 q1) λu s2 #[y,H2,I2,r2,q2]=>fV (ho pins s2 σ H2 x y v u _ I2 r1 r2 q2) λc s3 #[z,H3,I3,r3,k,e,q3]=>?_) hm;subst e;cases r3;exact fB #[H3,I3,q3]
def U9(r r':R2)(ta tb tc:TE):TE:=λσ H Q=>ta σ H λx H1=>tb σ H1 λy H2=>r x y H2 λz H3=>∃k,z=.bl k/\
 (if k=true then tc σ H3 λw' H4=>r' y w' H4 Q else Q (.bl false) H3)
theorem Ep{op op':CmpOp}{r': R2}(ho:uj X (compareOp op) r)(CP:uj X (compareOp op') r')(ha:PE X a ta)(hb:PE X b tb)(hc:PE X c tc)
  (hm:lastMarks [op,op'] [b,c]=false:=by with_unfolding_all rfl):PE X (.Compare a [op,op'] [b,c] pos) (U9 r r' ta tb tc):=by
 intro pins s σ H Q I h;refine Compare_chain (fV (ha pins s σ H _ I h) λv s1 #[x,H1,I1,r1,q1]=>chain_link (fV (hb pins s1 σ H1 _ I1 q1) λu s2 #[y,H2,I2,r2,q2]=>fV (ho pins s2 σ H2 x y v u _ I2 r1 r2 q2) λd s3 #[z,H3,I3,r3,k,e,q3]=>?_)) hm;subst e;cases r3;refine fB ?_;cases k with
 |false=>exact ite_ff #[.bl false,H3,I3,Y,q3]
 |true=>exact ite_tt (chain_last (fV (hc pins s3 σ H3 _ I3 q3) λw' s4 #[z',H4,I4,r4,q4]=>CP pins s4 σ H4 y z' u w' Q I4 r2 r4 q4))
def Yb(K:ai)(x:V)(H:Hp)(k:Bool):Prop:=
 match x with
 | .non=>k=false
 | .bl b=>k=b
 | .int i=>k=(i != 0)
 | .str y=>y.length<=sizeLine/\k=((y.length:Int) != 0)
 | .W9 y=>y.size<=sizeLine/\k=((y.size:Int) != 0)
 | .ref p=>(∃xs,jY K H p xs/\k=not xs.isEmpty)\/(∃xs,nG K H p xs/\k=not xs.isEmpty)\/∃kvs,H p>>(.dK kvs)/\k=not kvs.isEmpty
 |_=>False
theorem GQ{κ:Type}{kvs:!(κ×V)}{vs:!(κ×M)}(r:KV kvs vs):(not vs.isEmpty)=not kvs.isEmpty:=by cases r<;>rfl
theorem zF(r:dw xs its):(not its.toArray.isEmpty)=not xs.isEmpty:=by cases r<;>simp
theorem sC:(sizeLine:Nat)<2^63:=by rw[cL];decide
theorem U_:zcf X (λx H Q=>∃k,Yb X.K x H k/\Q k H):=by
 intro pins s σ H x v Q I rx h;let#[k,e,q]:=h;let hl:=sC;let hs:=cL;cases x with
 |non=>cases rx;let e':k=false:=e;subst e';exact truthy_none #[H,I,q]
 |bl b=>cases rx;let e':k=b:=e;subst e';exact fB #[H,I,q]
 |int i=>let#[t,rfl]:=rx;let e':=e;subst e';exact PySem.P.truthy_int #[H,I,q]
 |str y=>let#[t,rfl]:=rx;obtain⟨hy,e'⟩:y.length<=sizeLine/\k=((y.length:Int) != 0):=e;subst e';exact PySem.P.truthy_str () #[H,I.tok _,q]
 |W9 y=>let#[t,rfl]:=rx;obtain⟨hy,e'⟩:y.size<=sizeLine/\k=((y.size:Int) != 0):=e;subst e';exact PySem.W.truthy_bytes () #[H,I.tok _,q]
 |ref p=>
  cases rx;let e':=e;rcases e' with⟨xs,hx,e'⟩|⟨xs,hx,e'⟩|⟨kvs,hx,e'⟩
  .subst e';let#[its,r,pl,hz]:=I.list hx;let hlen:=r.length;exact wpAny_truthy_list pl.isList (by simp;omega) #[H,I.tok _,[zF r]▸q]
  .subst e';let#[its,r,pl,hz]:=I.tuple hx;let hlen:=r.length;exact truthy_tuple pl (by simp;omega) #[H,I.tok _,[zF r]▸q]
  .subst e';obtain⟨hz,hS,vs,r,m⟩:kvs.length<=sizeLine/\(p==sysModules)=false/\∃vs,KV kvs vs/\s.heap.DictOf _ p vs:=I.hok p _ hx;let hlen:=uS r;exact wpAny_truthy_dict hS m () #[H,I.tok _,[GQ r]▸q]
 |_=>exact(show False from e).elim
theorem MV(ha:PE X a ta)(he:∀whole,isTrue a X.env whole=(do let v <-whole;standAt a.pos;holding [v] (truthy v))):
  PT X a (λσ H Q=>ta σ H λx H'=>∃k,Yb X.K x H' k/\Q k H'):=by intro pins s σ H Q I h;exact isTrue_plain (fV (ha pins s σ H _ I h) λv s1 #[x,H1,I1,r1,q1]=>U_ pins s1 σ H1 x v Q I1 r1 q1) (he _)
theorem GR:uj X (binaryOp .Add) (λx y H Q=>∃i j,x=.str i/\y=.str j/\i.length+j.length<=sizeLine/\Q (.str (i++j)) H):=by intro pins s σ H x y v u Q I rx ry h;let#[i,j,rfl,rfl,hz,q]:=h;let#[t,rfl]:=rx;let#[t',rfl]:=ry;exact add_str (λt' tk=>#[.str (i++j),H,I.tok _,#[_,Y],q]) hz
theorem vals1(r:dw [x] us):∃u,us=[u]/\RelV x u:=by
 cases r with
 |cons r1 r2=>cases r2;exact#[_,Y,r1]
theorem vals2(r:dw [x,y] us):∃u w',us=[u,w']/\RelV x u/\RelV y w':=by
 cases r with
 |cons r1 r2=>
  cases r2 with
  |cons r3 r4=>cases r4;exact#[_,_,Y,r1,r3]
theorem KJ:iS X (.type "int") (λxs H Q=>(∃i,xs=[.int i]/\Q (.int i) H)\/∃k,xs=[.bl k]/\Q (.int (if k then 1 else 0)) H):=by
 intro pins s σ H xs us Q I r h;rcases h with⟨i,rfl,q⟩|⟨k,rfl,q⟩
 .let#[u,rfl,t,rfl]:=vals1 r;exact call_int_int #[.int i,H,I,#[_,Y],q]
 .let#[u,rfl,r1]:=vals1 r;cases r1;exact call_int_bool #[.int (if k then 1 else 0),H,I.tok _,#[_,Y],q]
theorem C5:iS X (.type "str") (λxs H Q=>∃i,xs=[.int i]/\i.natAbs.log2<1920/\Q (.str (toString i)) H):=by intro pins s σ H xs us Q I r h;let#[i,rfl,hz,q]:=h;let#[u,rfl,t,rfl]:=vals1 r;exact PySem.P.str_of_int hz #[.str _,H,I.tok _,#[_,Y],q]
end
structure KL(h:dv)(x dx C:J)(mA:O->Option M):Prop where
 obj:h.get? x>>(hU C dx)
 ns:h.Ns1 dx mA
 ne:dx≠x
theorem KN(n:h.Ns1 dx mA):∃od,h.get? dx>>od/\∀name,zz name od>>(mA name):=by
 let#[o,es,ep,ho,hd,hk,_,hm]:=n;refine#[o,ho,λname=>?_];let e:=hm name;unfold nsFind findBy at e;rw[<-Array.find?_toList]at e;unfold zz;rw[hd];dsimp only;split
 .rename_i y q
  rw[q]at e;exact qQ6 some e
 .rename_i q
  rw[q]at e;let a:es.toList.any (·.refKey)=false:=by rw[xX];intro y hy;let#[z,t,MX]:=hk y (Gz.mp hy);simp[fq.refKey,MX]
  rw[qQ2 ([a]▸gV)];exact qQ6 some e
theorem KL.look(I:KL h x dx C mA):∃od,PySem.W.InstAt h x (hU C dx) C (some od)/\∀name,zz name od>>(mA name):=
 let#[od,ho,hl]:=KN I.ns
 #[od,#[I.obj,Y,Y,ho],hl]
section
variable{prog:bW}{w:cP}{A:g7}{E:M->aU->Prop}{s:aU}{K:ai}{x dx C f:J}{mA:O->Option M}{name:O}{v:M}
theorem get_map{expr:Bool}(X:K.In s.heap)(I:KL s.heap x dx C mA)(hg:pW K C name=true)(hh:oT K C=true)
  (ha:c7 K (.ref C) name>>none)(hv:mA name>>v)(Qz:PySem.W.handedIn v=true)(h:Q v { s with toks:=s.toks+1 }):
  wpAny (model prog w) A (getAttr (.ref x) name expr) Q E s:=by let#[od,Ja,hl]:=I.look;exact PySem.W.get_value X Ja (PySem.W.plainGet_of hg).1 (PySem.W.findObj_own hh ha Y (by rw[hl,hv])) Qz h
theorem QB{ns:!O}{Q:Unit->aU->Prop}(X:K.In s.heap)(I:KL s.heap x dx C mA)
  (hs:c7 K (.ref C) "__setattr__"=some (some (.builtin "object.__setattr__")))(hp:vR K C=true)(ht:yA K C name>>none)(hh:oT K C=true)
  (hw:Eh mA ns)(yL:ns.length<=sizeLine)
  (h:∀h',KL h' x dx C (λy=>if y=name then some v else mA y)->dA dx s.heap h'->Q .unit { s with heap:=h',toks:=s.toks+2 }):
  wpAny (model prog w) A (setAttr (.ref x) name v) Q E s:=by let#[od,Ja,hl]:=I.look;refine PySem.W.set_plain X Ja hs (PySem.W.osa_open X Ja hp ht λb=>?_);let#[cd,hc,XO]:=PySem.W.any_some hh;refine L (aM (L (L (wpAny_loadPart I.obj (L (PySem.W.Looks.here (PySem.W.looks_clsIn X hc) ?_))))));rw[XO];refine aM (L (aM (L ?_)));refine wpAny_nsSet1 I.ns λh' hn2 lP=>?_;let#[oD,esD,epD,hoD,hdD,hcD]:=hn2.count (Eh.cons name v hw);exact L (wpAny_lookBehind hoD ([hdD]▸pastItsLine_dict (bZ hcD (by rw[bj];omega))) (aM (h _ #[(lP.2 _ (bD I.ne)).trans I.obj,hn2,I.ne] lP)))
theorem MY{kw:!(O×M)}{R:GA->aU->Prop}{vs:!M}(X:K.In s.heap)(hm:yB K C=true)
  (hi:c7 K (.ref C) "__init__"=some (some (.ref f)))(hf:PySem.W.typeIn K (.ref f)>>(.type "function"))
  (h:codeAny (model prog w) (A.under (.builtin "type.__call__" #[.ref C::vs,kw])) (.call (.ref f) #[.ref (s.heap.objs.size+1)::vs,kw]) (PySem.W.InitBack (s.heap.objs.size+1) R)
   { s with heap:=(s.heap.push h8).push (hU C s.heap.objs.size) }) :
  codeAny (model prog w) A (.call (.ref C) #[vs,kw]) R s:=by exact PySem.W.make_core (PySem.W.makes_of X hm) (PySem.W.looks_findIn X hi) (λself=>PySem.W.bind_fn X self hf) (.inl Y) h
end
def rR(f:O)(v:V):!(O×V)->!(O×V)
 | []=>[(f,v)]
 |(g,x)::r=>if g=f then(g,v)::r else(g,x)::rR f v r
theorem x4(f g:O)(v:V):∀fs:!(O×V),(rR f v fs).lookup g=if g=f then some v else fs.lookup g
 | []=>by
  show k7 g [(f,v)]=_;by_cases h:g=f
  .let hb:=beq_iff_eq.mpr h;simp[k7,hb,qQ3 h]
  .let hb:=beq_eq_false_iff_ne.mpr h;simp[k7,hb,qQ2 h]
 |(k,x)::r=>by
  rw[show rR f v ((k,x)::r)=(if k=f then(k,v)::r else(k,x)::rR f v r)from Y];by_cases hk:k=f
  .rw[qQ3 hk];by_cases h:g=k
   .let hb:=beq_iff_eq.mpr h;simp[k7,hb,qQ3 (h.trans hk)]
   .let hb:=beq_eq_false_iff_ne.mpr h;simp[k7,hb,qQ2 (λe:g=f=>h (e.trans hk.symm))]
  .rw[qQ2 hk];by_cases h:g=k
   .let hb:=beq_iff_eq.mpr h;simp[k7,hb,qQ2 (λe:g=f=>hk (h.symm.trans e))]
   .let hb:=beq_eq_false_iff_ne.mpr h;simp[k7,hb];exact x4 f g v r
theorem wY(f:O)(v:V):∀fs:!(O×V),f∈(rR f v fs).map (·.1)/\∀g,g∈fs.map (·.1)->g∈(rR f v fs).map (·.1)
 | []=>#[by simp[rR],λg h=>by simp at h]
 |(k,x)::r=>by
  let#[i1,i2]:=wY f v r;rw[show rR f v ((k,x)::r)=(if k=f then(k,v)::r else(k,x)::rR f v r)from Y];by_cases hk:k=f
  .rw[qQ3 hk];subst hk;exact#[∅,λg h=>by simpa using h]
  .rw[qQ2 hk];refine#[?_,λg h=>?_]
   .rw[ao];exact aD _ i1
   .rw[ao]at h ⊢;rcases au.mp h with e|e
    .exact au.mpr (.inl e)
    .exact aD _ (i2 g e)
theorem x5(f:O)(v:V):∀fs:!(O×V),(rR f v fs).length<=fs.length+1
 | []=>by simp[rR]
 |(k,x)::r=>by
  let ih:=x5 f v r;rw[show rR f v ((k,x)::r)=(if k=f then(k,v)::r else(k,x)::rR f v r)from Y];by_cases hk:k=f
  .rw[qQ3 hk,bj,bj];omega
  .rw[qQ2 hk,bj,bj];omega
theorem uC.some_of{v:V}{o:Option M}(r:uC (some v) o):∃u,o>>u/\RelV v u:=by
 cases o with
 |none=>exact(show False from r).elim
 |some u=>exact#[u,Y,r]
theorem KP(r:RelV v u):PySem.W.handedIn u=true:=by
 cases v with
 |non=>cases(show u=iJ from r);rfl
 |bl b=>cases(show u=M.bool b from r);rfl
 |int i=>let#[t,e]:=r;cases e;rfl
 |str x=>let#[t,e]:=r;cases e;rfl
 |W9 b=>let#[t,e]:=r;cases e;rfl
 |flt b=>let#[t,e]:=r;cases e;rfl
 |ref a=>cases(show u=ck a from r);rfl
 |ty n=>cases(show u=vP n from r);rfl
section
theorem Jm(hok:vO P w H h)(e:H a>>(.ins C dx fs)):∃mA,KL h a dx C mA/\(∀f,uC (fs.lookup f) (mA f))/\Eh mA (fs.map (·.1))/\fs.length<=1000/\H dx>>(.own a):=by let#[d,z,ne,ob,mA,n,r,q]:=(hok a _ e);exact#[mA,#[ob,n,ne],r,q,z,d]
end
structure Ec(K:ai)(C:J):Prop where
 pg:pW K C fW=true
 hd:oT K C=true
 po:vR K C=true
 sa:c7 K (.ref C) "__setattr__"=some (some (.builtin "object.__setattr__"))
theorem Ec.get(c:Ec K C)(f:O):pW K C f=true:=c.pg
def jN(K:ai)(C:J)(f:O):Prop:=c7 K (.ref C) f>>none
theorem jN.taker{f:O}(n:jN K C f):yA K C f>>none:=by unfold yA;rw[show c7 K _ f>>none from n];rfl
section
variable{X:Cx}{pins:!(J×Obj)}{σ:St}{H:Hp}{s:aU}{a C dx:J}{fs:!(O×V)}{f:O}{A:g7}{E:M->aU->Prop}
theorem GU{v:V}{b:Bool}(I:Inv X pins σ H s)(e:H a>>(.ins C dx fs))(c:Ec X.K C)(n:jN X.K C f)(l:fs.lookup f>>v)
  (h:∀u s',Inv X pins σ H s'->RelV v u->Q u s'):wpAny (model X.prog X.w) A (getAttr (.ref a) f b) Q E s:=by obtain⟨mA,Oa,r,_,_,_⟩:=Jm I.hok e;obtain⟨u,hu,ru⟩:=uC.some_of ([<-l]▸r f);exact get_map I.Be Oa (c.get f) c.hd n hu (KP ru) (h u _ (I.tok _) ru)
theorem GV{y:V}{Q:Unit->aU->Prop}(I:Inv X pins σ H s)(e:H a>>(.ins C dx fs))(c:Ec X.K C)(n:jN X.K C f)(hl:fs.length<1000)(ry:RelV y u)
  (h:∀s',Inv X pins σ (upd H a (.ins C dx (rR f y fs))) s'->Q .unit s'):wpAny (model X.prog X.w) A (setAttr (.ref a) f u) Q E s:=by
 let#[mA,Oa,r,wi,_,ho]:=Jm I.hok e;let hz:(fs.map (·.1)).length<=sizeLine:=by rw[ae,cL];omega
 refine QB I.Be Oa c.sa c.po n.taker c.hd wi hz λh' O' sb=>h _ ?_;let hd:∃o,h'.get? dx>>o:=let#[o,_,_,e',_]:=O'.ns;#[o,e'];refine I.write ([e]▸fQ) (.inr ho) (λb q hb z=>(sb.2 b hb).trans z) hd ?_;refine#[[aI Oa.ne]▸ho,?_,Oa.ne,O'.obj,_,O'.ns,λg=>?_,λg hg=>?_]
 .let:=x5 f y fs;omega
 .show uC ((rR f y fs).lookup g) (if g=f then some u else mA g);rw[x4];by_cases q:g=f
  .rwa[qQ3 q,qQ3 q]
  .rw[qQ2 q,qQ2 q];exact r g
 .by_cases q:g=f
  .rw[q];exact(wY f y fs).1
  .refine(wY f y fs).2 g (wi g λz=>hg ?_);show(if g=f then some u else mA g)=none;rwa[qQ2 q]
theorem Inv.made(I:Inv X pins σ H s):Inv X pins σ (upd (upd H s.heap.objs.size (.own (s.heap.objs.size+1))) (s.heap.objs.size+1) (.ins C s.heap.objs.size []))
  { s with heap:=(s.heap.push h8).push (hU C s.heap.objs.size) }:=by
 let e1:(s.heap.push h8).get? s.heap.objs.size>>h8:=aV s.heap Y;let e2:((s.heap.push h8).push (hU C s.heap.objs.size)).get? (s.heap.objs.size+1)>>(hU C s.heap.objs.size):=by
  let:=aV (s.heap.push h8) (o:=hU C s.heap.objs.size) Y
  rwa [gW]at this
 let I1:=I.laid (o:=.own (s.heap.objs.size+1)) (t':=s.toks) (λb u q=>av _ q) () #[_,e1];refine I1.laid (λb u q=>av _ q) (Nat.le_of_eq (gW _ _)) ?_;let ne:s.heap.objs.size≠s.heap.objs.size+1:=aZ ();refine#[by rw[aI ne,aP],aY _,ne,e2,λ_=>none,(dv.Ns1.of_empty (#[h8,#[],_,e1,Y,(λe he=>qQ7 he ∅),λ_=>rfl])).at λo q=>av _ q,λ_=>fQ,λy hy=>qQ7 Y hy]
theorem QC{prog:bW}{env:Env}{f:O}{pos:Pos}(hb:attributeBase e f env (eval e env)=eval e env)
  (h:wpAny (model prog w) A (eval e env) (λo s₁=>wpAny (model prog w) A (getAttr o f true) Q E s₁) E s):wpAny (model prog w) A (eval (.Attribute e f pos) env) Q E s:=
 Attribute_any_ h (by rw[arm_eval_Attribute,hb])
end
def zci(K:ai)(ta:TE)(f:O):TE:=λσ H Q=>ta σ H λx H1=>∃a C dx fs v,x=.ref a/\H1 a>>(.ins C dx fs)/\Ec K C/\jN K C f/\fs.lookup f>>v/\Q v H1
def zcj(K:ai)(ta tv:TE)(f:O):TS:=λD σ H=>tv σ H λy H1=>ta σ H1 λx H2=>∃a C dx fs,x=.ref a/\H2 a>>(.ins C dx fs)/\Ec K C/\jN K C f/\fs.length<1000/\
 D.nx σ (upd H2 a (.ins C dx (rR f y fs)))
section
variable{X:Cx}{o e value:bY}{f:O}{pos pos':Pos}{ta tv:TE}
theorem u9(he:PE X e ta)(hb:y6 X e f):PE X (.Attribute e f pos) (zci X.K ta f):=by intro pins s σ H Q I h;refine QC hb (fV (he pins s σ H _ I h) λu s1 #[x,H1,I1,rx,a,C,dx,fs,v,ex,ea,c,n,l,q]=>?_);subst ex;obtain rfl:u=ck a:=rx;exact GU I1 ea c n l λu' s2 I2 ru=>#[v,H1,I2,ru,q]
theorem u_(ha:PE X o ta)(hv:PE X value tv)(hs:CN X pos value (.Attribute o f pos')):PS X (.Assign [.Attribute o f pos'] value pos) (zcj X.K ta tv f):=by intro pins s σ H D I h;refine plainObj_wpAny_Assign_Attribute (fV (hv pins s σ H _ I h) λu s1 #[y,H1,I1,ry,q]=>fV (ha pins s1 σ H1 _ I1 q) λov s2 #[x,H2,I2,rx,a,C,dx,fs,ex,ea,c,n,l,q2]=>?_) hs;subst ex;obtain rfl:ov=ck a:=rx;exact GV I2 ea c n l ry λs3 I3=>#[σ,_,I3,q2]
end
section
variable{H:Hp}
inductive zG(K:ai)(H:Hp):V->M->Prop where
 |non:zG K H .non (.type "NoneType")
 |bl (x:Bool):zG K H (.bl x) (.type "bool")
 |int (i:Int):zG K H (.int i) (.type "int")
 |str (x:O):zG K H (.str x) (.type "str")
 |flt (x:UInt64):zG K H (.flt x) (.type "float")
 |lst {a:J} {xs:!V} (e:H a>>(.lst xs)):zG K H (.ref a) (.type "list")
 |jx {a:J} {o:Obj} {xs:!V} (e:H a>>(.jx o (.lst xs))):zG K H (.ref a) (.type "list")
 |tup {a:J} {xs:!V} (e:H a>>(.tup xs)):zG K H (.ref a) (.type "tuple")
 |dK {a:J} {kvs:!(Key×V)} (e:H a>>(.dK kvs)):zG K H (.ref a) (.type "dict")
 |dT {a:J} {kvs:!(!Key×V)} (e:H a>>(.dT kvs)):zG K H (.ref a) (.type "dict")
 |ins {a C dx:J} {fs:!(O×V)} (e:H a>>(.ins C dx fs)) (cl:Ec K C) (ha:c7 K (.ref C) "__class__"=some (some (.builtin "object.__class__")))
   (hn:PySem.W.specialIn K (.builtin "object.__class__") "__get__"=some (some (.builtin "getset_descriptor.__get__"))) (Xb:PySem.W.takesIn K (.builtin "object.__class__")>>true)
   (hm:PySem.W.mroIn K C (.type "object")>>true):zG K H (.ref a) (.ref C)
end
structure eL(k:Nat)(A:g7):Prop where
 hd:A.handled=none
 dp:A.depth+3*k+5<recursionLimit
 un:A.units+16*k+200<cLine
theorem eL.mono(r:eL k A)(h:j<=k):eL j A:=#[r.hd,by let:=r.dp;omega,by let:=r.un;omega]
theorem eL.deeper(r:eL (k+1) A)(env:Env):eL k (A.deeper env):=
 #[r.hd,by let:=r.dp;show A.depth+1+3*k+5<_;omega,by let:=r.un;show A.units+3+16*k+200<_;omega]
theorem GW:(A.under (.builtin "type.__call__" #[.ref C::us,kw])).depth=A.depth+1:=by first|rfl|simp[D6,Code.weight,Code.isCreation,Code.isGuard,Code.isCaller,Code.frames,Gj,guardIds]
theorem GX:(A.under (.builtin "type.__call__" #[.ref C::us,kw])).units=A.units+1:=by first|rfl|simp[D6,Code.cUnits,Code.frames,Gj]
theorem eL.make(r:eL (k+1) A)(C:J)(us:!M)(kw:!(O×M)):eL k (A.under (.builtin "type.__call__" #[.ref C::us,kw])):=
 #[r.hd,by let:=r.dp;rw[GW];omega,by let:=r.un;rw[GX];omega]
theorem eL.depth(r:eL k A):A.depth<recursionLimit:=by let:=r.dp;omega
def Yc:TA:=λ_ H Q=>Q [] H
def Yd(ta:TE)(tr:TA):TA:=λσ H Q=>ta σ H λx H1=>tr σ H1 λxs H2=>Q (x::xs) H2
section
variable{X:Cx}{e:bY}{es:!bY}{te:TE}{t:TA}{pos:Pos}
theorem dP:PA X [] Yc:=λ_ _ _ _ H Q I h=>wL #[[],H,I,.nil,h]
theorem cC(ha:PE X e te)(hr:PA X es t)(hs:lF X e es:=by rfl):PA X (e::es) (Yd te t):=by intro pos pins s σ H Q I h;rw[hs];exact k0 (fV (ha pins s σ H _ I h) λu s1 #[x,H1,I1,r1,q1]=>(fV (hr pos pins s1 σ H1 _ I1 q1) λus s2 #[xs,H2,I2,r2,q2]=>#[_,H2,I2,.cons r1 r2,q2]))
def zck(t:TA):TE:=λσ H Q=>t σ H λxs H1=>xs.length<=sizeLine/\∀p,H1 p=none->Q (.ref p) (upd H1 p (.tup xs))
def zcl(t:TA):TE:=λσ H Q=>t σ H λxs H1=>xs.length<=sizeLine/\∀p,H1 p=none->Q (.ref p) (upd H1 p (.lst xs))
theorem zH{x1}(h:PA X es t):PE X (.Tuple es x1 pos) (zck t):=by intro pins s σ H Q I hq;refine wpAny_Tuple_spliced (fV (h pos pins s σ H _ I hq) λus s1 #[xs,H1,I1,r,z,q]=>#[[<-r.length]▸z,?_]);refine#[.ref s1.heap.objs.size,_,I1.laid (λb u e=>av _ e) () ?_,Y,q _ (I1.hok.fresh ())];exact#[z,us,r,#[_,aV _ Y,Y,_,Y]]
theorem wZ(h:PA X es t):PE X (.List es pos) (zcl t):=by intro pins s σ H Q I hq;refine wpAny_List_spliced (fV (h pos pins s σ H _ I hq) λus s1 #[xs,H1,I1,r,z,q]=>#[[<-r.length]▸z,?_]);refine#[.ref s1.heap.objs.size,_,I1.laid (λb u e=>av _ e) () ?_,Y,q _ (I1.hok.fresh ())];exact#[z,us,0,r,aV _ Y]
end
abbrev Sp:=!V->Hp->VK->XK->Prop
abbrev Tc:=!Env->Hp->aU->XK->M->aU->Prop
variable{CX:Tc}
structure KQ(P:bW)(w:cP)(K:ai)(mg:O->Option M)(base:dv)(A:g7)(outer:!Env)(s:aU)(H:Hp):Prop where
 frames:A.frames>>outer
 mod:Mod K mg base
 bs:∀b o,base.get? b>>o->s.heap.get? b>>o/\H b=none
 S5:base.objs.size<=s.heap.objs.size
 yI:s.heap.FunFrames base outer
 UM:∀b∈Mw outer,H b=none
 hok:vO P w H s.heap
 bare:uT s.gens
def CE(outer:!Env)(P:bW)(w:cP)(H:Hp)(s:aU)(Q:VK)(u:M)(s':aU):Prop:=
 ∃v H',s'.os=s.os/\uT s'.gens/\Un (Mw outer) [] H H' s.heap s'.heap/\vO P w H' s'.heap/\RelV v u/\Q v H'
def CR(CX:Tc)(outer:!Env)(P:bW)(w:cP)(H:Hp)(s:aU)(Q:VK)(E:XK)(r:GA)(s':aU):Prop:=
 match r with
 | .ok (.ret u)=>CE outer P w H s Q u s'
 | .ok _=>False
 | .error e=>CX outer H s E e s'
structure dW(P:bW)(w:cP)(K:ai)(mg:O->Option M)(base:dv)(CX:Tc)(k:Nat)(f:J)(fd:iu)(ps:!O)(sp:Sp):Prop where
 len:∀vs H Q E,sp vs H Q E->vs.length=ps.length
 run:∀(A:g7)(outer:!Env)(s:aU)(H:Hp)(args:Args)(us:!M)(vs:!V)(Q:VK)(E:XK),eL k A->KQ P w K mg base A outer s H->BindsTo s fd args (ps.zip us)->dw vs us->sp vs H Q E->
  codeAny (model P w) A (.call (.ref f) args) (CR CX outer P w H s Q E) s
theorem dW.imp{f:J}{sp sp':Sp}(F:dW P w K mg base CX k f fd ps sp)
  (h:∀vs H Q E,sp' vs H Q E->sp vs H Q E):dW P w K mg base CX k f fd ps sp':=
 #[λvs H Q E q=>F.len vs H Q E (h _ _ _ _ q),λA outer s H args us vs Q E hr he hb hv hs=>F.run A outer s H args us vs Q E hr he hb hv (h _ _ _ _ hs)]
theorem KQ.make(e:KQ P w K mg base A outer s H)(C:J)(us:!M)(kw:!(O×M)):
  KQ P w K mg base (A.under (.builtin "type.__call__" #[.ref C::us,kw])) outer s H:=#[by first|exact e.frames|(simpa[D6,Code.envs,Gj,pushEnvs]using e.frames),e.mod,e.bs,e.S5,e.yI,e.UM,e.hok,e.bare]
section
theorem Inv.env0(I:Inv X pins σ H s):KQ X.prog X.w X.K X.mg X.base X.A X.stack s H:=
 #[I.ok.frames,I.ok.mod,I.bs,bZ I.ok.S5 I.sz,I.stack,I.Jg,I.hok,I.bare]
theorem Inv.after{pins:!(J×Obj)}{s s':aU}{H:Hp}{X:Cx}{σ:St}{Q:VK}(I:Inv X pins σ H s)(h:CE X.stack X.prog X.w H s Q u s'):EP X pins σ Q u s':=by let#[v,H',os,bare,un,hok,r,q]:=h;let#[hh,g,d,t,Xc]:=s';obtain rfl:Xc=s.os:=os;exact#[v,H',I.call un hok bare (λb z=>qQ7 z ∅),r,q]
end
def Ye(sp:Sp)(KR:!V)(E:XK)(t:TA):TE:=λσ H Q=>t σ H λvs H1=>sp (vs++KR) H1 Q E
def Yf(C:J)(sp:Sp)(KR:!V)(E:XK)(t:TA):TE:=λσ H Q=>t σ H λvs H1=>∀x dx,H1 x=none->H1 dx=none->dx≠x->
 sp (.ref x::(vs++KR)) (upd (upd H1 dx (.own x)) x (.ins C dx [])) (λv H2=>v=.non/\Q (.ref x) H2) E
def Binds(K:ai)(fd:iu)(ps:!O)(ds:!M):Prop:=
 ∀(s:aU)(us:!M),K.In s.heap->(us++ds).length=ps.length->BindsTo s fd #[us,[]] (ps.zip (us++ds))
theorem Binds.all(h:∀us:!M,us.length=ps.length->bindArgs fd #[us,[]]=pure (ps.zip us)):Binds K fd ps []:=λs us _ hl=>by rw[bC]at hl ⊢;exact .of_eq (h us hl)
def zI(CX:Tc)(X:Cx)(E:XK):Prop:=∀(pins:!(J×Obj))(σ:St)(H:Hp)(s:aU)(e:M)(s':aU),Inv X pins σ H s->CX X.stack H s E e s'->X.xe e s'
section
variable{X:Cx}{CX:Tc}{k:Nat}{f C:J}{fd:iu}{ps:!O}{sp:Sp}{KR:!V}{ds:!M}{E:XK}{x:O}{p pos:Pos}{e:bY}{t:TA}
theorem Va{Q:VK}(F:dW X.prog X.w X.K X.mg X.base CX k f fd ps sp)(hr:eL k X.A)(hb:Binds X.K fd ps ds)(hd:dw KR ds)(hx:zI CX X E)
  (I:Inv X pins σ H s)(r:dw vs us)(h:sp (vs++KR) H Q E):wpAny (model X.prog X.w) X.A (call (.ref f) us) (EP X pins σ Q) X.xe s:=by
 let r2:=r.append hd;let hl:(us++ds).length=ps.length:=[<-r2.length]▸F.len _ _ _ _ h;refine wpAny_call (pX (F.run X.A X.stack s H #[us,[]] _ _ Q E hr I.env0 (hb s us I.Be hl) r2 h) λr s' hq=>?_);cases r with
 |error e=>exact hx pins σ H s e s' I hq
 |ok fl=>
  cases fl with
  |ret u=>exact I.after hq
  |next=>exact gU hq
  |brk=>exact gU hq
  |cont=>exact gU hq
theorem qE{es:!bY}(F:dW X.prog X.w X.K X.mg X.base CX k f fd ps sp)(hr:eL k X.A)(hg:Gl X x)(hm:X.mg x>>(.ref f))(hk:iL X.K (.ref f)=true)(hb:Binds X.K fd ps ds)(hd:dw KR ds)(hx:zI CX X E)
  (ha:PA X (e::es) t)(p5:uZ x:=by decide)(he:lF X e es:=by rfl)(mw:rQ X pos es:=by rfl):
  PE X (.Call (.Name x p) (e::es) [] pos) (Ye sp KR E t):=by intro pins s σ H Q I h;exact qA (CT I hg hm (PySem.W.callWith_K (h₀:=X.base) I.ok.mod.XJ hk (fV (ha pos pins s σ H _ I h) λus s1 #[vs,H1,I1,r,q]=>#[I1.Be,(Va F hr hb hd hx I1 r q)]) he mw) p5)
structure Mk(K:ai)(C f:J):Prop where
 makes:yB K C=true
 init:c7 K (.ref C) "__init__"=some (some (.ref f))
 fn:PySem.W.isFn K (.ref f)=true
 kp:iL K (.ref C)=true
theorem MZ{Q:VK}(Ma:Mk X.K C f)(F:dW X.prog X.w X.K X.mg X.base CX k f fd ps sp)(hr:eL (k+1) X.A)(hb:Binds X.K fd ps ds)(hd:dw KR ds)
  (hx:zI CX X E)(I:Inv X pins σ H s)(r:dw vs us)
  (h:∀x dx,H x=none->H dx=none->dx≠x->sp (.ref x::(vs++KR)) (upd (upd H dx (.own x)) x (.ins C dx [])) (λv H2=>v=.non/\Q (.ref x) H2) E):
  wpAny (model X.prog X.w) X.A (call (.ref C) us) (EP X pins σ Q) X.xe s:=by
 let hq:=h (s.heap.objs.size+1) s.heap.objs.size (I.hok.fresh ()) (I.hok.fresh ()) (aZ ());let I2:=Inv.made (C:=C) I;let r2:dw (V.ref (s.heap.objs.size+1)::(vs++KR)) (ck _::(us++ds)):=.cons Y (r.append hd);let hl:(ck (s.heap.objs.size+1)::us++ds).length=ps.length:=by let e:=r2.length;rw[F.len _ _ _ _ hq]at e;exact e.symm
 refine wpAny_call (MY I.Be Ma.makes Ma.init (beq_iff_eq.mp Ma.fn) (pX (F.run _ X.stack _ _ #[_,[]] (ck _::(us++ds)) _ _ E (hr.make C us [])
  (I2.env0.make C us []) (hb _ (ck _::us) I2.Be hl) r2 hq) λr s' GY=>?_));cases r with
 |error e=>exact hx pins σ _ _ e s' I2 GY
 |ok fl=>
  cases fl with
  |ret u=>let#[v,H',I3,rv,ev,q3]:=I2.after GY;subst ev;exact#[rv,#[V.ref _,H',I3,Y,q3]]
  |next=>exact gU GY
  |brk=>exact gU GY
  |cont=>exact gU GY
theorem M0(Ma:Mk X.K C f)(F:dW X.prog X.w X.K X.mg X.base CX k f fd ps sp)(hr:eL (k+1) X.A)(hg:Gl X x)(hm:X.mg x>>(.ref C))(hb:Binds X.K fd ps ds)(hd:dw KR ds)(hx:zI CX X E)
  (p5:uZ x:=by decide):PE X (.Call (.Name x p) [] [] pos) (Yf C sp KR E Yc):=by intro pins s σ H Q I h;exact qA (CT I hg hm (PySem.W.callWith_K0 I.Be Ma.kp (MZ Ma F hr hb hd hx I .nil h)) p5)
end
structure cg(N P:!O)(sc:nT):Prop where
 kind:sc.kind=.function
 co:sc.isCoroutine=false
 gen:sc.isGenerator=false
 nd:N.Nodup
 pre:N.take P.length=P
 par:∀x∈P,sc.names.lookup x>>.local\/sc.names.lookup x>>.cell
 Vb:∀y∈sc.names,y.2≠.free
theorem BP{x:O}:∀{binds:!(O×M)}{m:O->Option M},(∀v,(x,v)∉binds)->bindL kindOf binds m x=m x
 | [],_,_=>rfl
 |(n,v)::r,m,h=>by
  unfold bindL;rw[BP λw hw=>h w (aD _ hw)];split
  .let:x≠n:=by rintro rfl;exact h v aB
   simp[this]
  .rfl
theorem BQ{x:O}:∀{binds:!(O×M)}{m:O->Option M},(∀v,(x,v)∉binds)->bindC kindOf binds m x=m x
 | [],_,_=>rfl
 |(n,v)::r,m,h=>by
  unfold bindC;rw[BQ λw hw=>h w (aD _ hw)];split
  .rfl
  .let:x≠n:=by rintro rfl;exact h v aB
   simp[this]
theorem BR{kindOf:O->Option oQ}{x:O}{v:M}:∀{P:!O}{vs:!M}{i:Nat}{m:O->Option M},P.Nodup->P[i]?>>x->vs[i]?>>v->kindOf x>>.local->
  bindL kindOf (P.zip vs) m x>>v
 | [],_,_,_,_,h,_,_=>by simp at h
 |_::_,[],_,_,_,_,h,_=>by simp at h
 |p::P,w::vs,0,m,nd,h1,h2,hk=>by simp at h1 h2;subst h1;subst h2;show bindL kindOf ((p,w)::P.zip vs) m p=_;unfold bindL;rw[BP λv hv=>(cD.mp nd).1 (nU hv).1,qQ3 hk];simp
 |p::P,w::vs,i+1,m,nd,h1,h2,hk=>by unfold bindL;exact BR (cD.mp nd).2 ↑h1 ↑h2 hk
theorem BU{kindOf:O->Option oQ}{x:O}{v:M}:∀{P:!O}{vs:!M}{i:Nat}{m:O->Option M},P.Nodup->P[i]?>>x->vs[i]?>>v->kindOf x≠some .local->
  bindC kindOf (P.zip vs) m x>>v
 | [],_,_,_,_,h,_,_=>by simp at h
 |_::_,[],_,_,_,_,h,_=>by simp at h
 |p::P,w::vs,0,m,nd,h1,h2,hk=>by simp at h1 h2;subst h1;subst h2;show bindC kindOf ((p,w)::P.zip vs) m p=_;unfold bindC;rw[BQ λv hv=>(cD.mp nd).1 (nU hv).1,qQ2 hk];simp
 |p::P,w::vs,i+1,m,nd,h1,h2,hk=>by unfold bindC;exact BU (cD.mp nd).2 ↑h1 ↑h2 hk
def start(N:!O)(vs:!V):St:=vs.map some++bo (N.length-vs.length) none
def C6(CX:Tc)(P:bW)(w:cP)(K:ai)(mg:O->Option M)(base:dv)(N:!O)(qual:O)(scope:nT)(f:J)(cd:M)(A:g7)(outer:!Env)(s:aU)(H:Hp)(E:XK):Cx where
 prog:=P
 w:=w
 K:=K
 mg:=mg
 base:=base
 A:=A.deeper (envOfC qual scope s.heap.objs.size f cd)
 N:=N
 s₀:=s
 H₀:=H
 env:=envOfC qual scope s.heap.objs.size f cd
 outer:=outer
 stack:=envOfC qual scope s.heap.objs.size f cd::outer
 ex:=[]
 calm:=true
 fn:=λ_=>true
 pn:=[]
 xe:=λe s'=>wpAny (model P w) (A.deeper (envOfC qual scope s.heap.objs.size f cd)) (leaving (envOfC qual scope s.heap.objs.size f cd) e) (λ_ Td=>CX outer H s E e Td) (λe' Td=>CX outer H s E e' Td) s'
theorem Er{sc:nT}{n:Nat}{x:O}(h:sc.names.lookup x>>.cell):∃c,(cellsFrom n sc.names []).lookup x>>c:=by exact Option.isSome_iff_exists.mp (CG sc.names n [] (.inl h))
theorem KS{qual:O}{f:J}{cd:M}{s1: aU}{E:XK}
  (S:cg N ps scope)(hd:A.handled=none)(e0:KQ P w K mg base A outer s H)(hl:vs.length=ps.length)(r:dw vs us)
  (x:InCallC s s.heap.objs.size (bindL (envOfC qual scope s.heap.objs.size f cd).kindOf (ps.zip us) λ_=>none) (cellsFrom (s.heap.objs.size+1) scope.names []) (bindC (envOfC qual scope s.heap.objs.size f cd).kindOf (ps.zip us) λ_=>none) s1):
  Inv (C6 CX P w K mg base N qual scope f cd A outer s H E) [] (start N vs) H s1:=by
 let mw:ps.length<=N.length:=by let:=qQ6 dq S.pre;rw[bU]at this;omega
 obtain⟨h1,tk,rfl,hk⟩:=x.done;let Yg:∀b:J,b∉(C6 CX P w K mg base N qual scope f cd A outer s H E).ex:=λb z=>qQ7 (show b∈([])from z) ∅;refine#[#[e0.mod,S.kind,Y,Y,aE _,λy z c h1 h2=>?_,λy hy=>?_,λy c _ h=>?_,λ_=>hd,g7.frames_deeper e0.frames,.inr #[Y,Y],λb z=>qQ7 z (Yg b),e0.bs,e0.S5,λb _ _=>Yg b,λb z=>qQ7 z (Yg b),e0.yI,e0.UM],
  rfl,e0.bare,Un.kept hk,#[_,x.toInCall.ns,λi y v h1 h2 h3=>?_],λy c h=>#[_,x.cell y c h],e0.hok.fresh (aE _),λy c h=>?_,λp hp=>qQ7 (show p∈([])from hp) ∅,e0.hok.kept hk,?_]
 .exact name_of_addr x.apart (iP h1) (iP h2)
 .let hy:=hy;rcases hy with hy|hy
  .exact Er hy
  .exact qQ7 Y (S.Vb _ (iP hy))
 .exact yz (x.above y c (iP h))
 .let hi:i<vs.length:=by
   unfold start at h2;by_cases hi:i<vs.length
   .exact hi
   .rw[bF ↑hi]at h2;rw[cK]at h2;split at h2<;>cases h2
  let ha:vs[i]?>>v:=by
   unfold start at h2;rw[bN ↑hi,ay]at h2;cases e:vs[i]? with
   |none=>rw[e]at h2;cases h2
   |some a=>rw[e]at h2;cases h2;rfl
  obtain⟨u,hu,rv⟩:=r.get ha;let hp:ps[i]?>>y:=by rwa[<-S.pre,List.getElem?_take_of_lt ()]
  let ndP:ps.Nodup:=[<-S.pre]▸S.nd.sublist (xY _ _);refine#[u,rv,?_];rcases S.par y (aF hp)with k|k
  .exact .inl #[k,BR ndP hp hu k]
  .obtain⟨c,e⟩:=Er k;refine .inr #[.inl k,c,e,?_];let q:=x.cell y c e;rwa[BU ndP hp hu (by show scope.names.lookup y≠_;rw[k];decide)]at q
 .exact e0.hok.fresh (yz (x.above y c (iP h)))
 .unfold start;show _=N.length;rw[aN,ae,dY];omega
theorem Yh{f:J}{name qual:O}{params:Arguments}{dV kV doc pm gk ct oc:M}{an od:Option J}
  {M3:Array (Option M)}{sp:Sp}(lk:K.lookup f>>#[oc,od,.func (iU name qual params body scope dV kV doc pm an gk ct),M3])(Qs:nY K gk qual=true)(S:cg N ps scope)
  (len:∀vs H Q E,sp vs H Q E->vs.length=ps.length)
  (M4:∀(A:g7)(outer:!Env)(s:aU)(H:Hp)(vs:!V)(Q:VK)(E:XK),eL k (A.deeper (envOfC qual scope s.heap.objs.size f gk))->sp vs H Q E->
   ∃t,Ji (C6 CX P w K mg base N qual scope f gk A outer s H E) body t/\t { nx:=λ_ H'=>Q .non H',rt:=Q } (start N vs) H) :
  dW P w K mg base CX (k+1) f (iU name qual params body scope dV kV doc pm an gk ct) ps sp:=by
 refine#[len,λA outer s H args us vs Q E hr e0 hb r y9=>?_];let hl:=len _ _ _ _ y9;let KX:=e0.mod.XJ.keeps λb o e=>(e0.bs b o e).1;let Es:∀y∈ps.zip us,scope.names.lookup y.1>>.local\/(scope.names.lookup y.1>>.cell/\((cellsFrom (s.heap.objs.size+1) scope.names []).lookup y.1).isSome=true):=λ#[n,v] hy=>by
  rcases S.par n (nU hy).1 with q|q
  .exact .inl q
  .exact .inr #[q,CG _ _ _ (.inl q)]
 refine codeAny_call_function hr.depth (KX _ _ lk) Y S.co S.gen Y (PySem.W.codeRec_of KX Qs) (hb _ _ _ _ ?_);refine wpAny_newFunctionEnv_cells S.kind Es λenv he s1 x=>?_;subst he;refine#[(e0.mod.nolimit.keeps λb o e=>(e0.bs b o e).1).keeps x.toInCall.keep,codeAny_func ?_];let#[t,ht,hq]:=M4 A outer s H vs Q E (hr.deeper _) y9;refine iw (ht [] s1 _ H _ (KS S hr.hd e0 hl r x) hq) (λfl s' hs=>?_) λe s' hs=>hs;let fin:∀{σ':St}{H':Hp}{v:V}{u:M},Inv (C6 CX P w K mg base N qual scope f gk A outer s H E) [] σ' H' s'->RelV v u->Q v H'->CE outer P w H s Q u s':=
  λ{σ' H' v u}Ja rv q=>#[v,H',Ja.os,Ja.bare,Ja.base,Ja.hok,rv,q];cases fl with
 |ret u=>let#[v,σ',H',Ja,rv,q]:=hs;exact fin Ja rv q
 |next=>let#[σ',H',Ja,q]:=hs;exact fin (v:=V.non) Ja Y q
 |brk=>let#[_,_,_,q]:=hs;exact gU q
 |cont=>let#[_,_,_,q]:=hs;exact gU q
section
variable{X:Cx}{x:O}{p pos:Pos}{e:bY}{es:!bY}{t:TA}{id T:String}{r:!V->Hp->VK->Prop}
def tCB(r:!V->Hp->VK->Prop)(t:TA):TE:=λσ H Q=>t σ H λvs H1=>r vs H1 Q
theorem sD(hc:iS X (.builtin id) r)(hg:Gl X x)(hm:X.mg x=none)(hv:bootBuiltins x>>(.builtin id))(ha:PA X (e::es) t)(hn:x≠"__name__":=by decide)(p5:uZ x:=by decide)
  (he:lF X e es:=by rfl)(mw:rQ X pos es:=by rfl):PE X (.Call (.Name x p) (e::es) [] pos) (tCB r t):=by intro pins s σ H Q I h;exact qA (wW I hg hm hv (PyProof.Rows.callWith_builtin1 (fV (ha pos pins s σ H _ I h) λus s1 #[vs,H1,I1,r1,q1]=>hc pins s1 σ H1 vs us Q I1 r1 q1) he mw) hn p5)
theorem lQ(hc:iS X (.type T) r)(hg:Gl X x)(hm:X.mg x=none)(hv:bootBuiltins x>>(.type T))(ha:PA X (e::es) t)(hn:x≠"__name__":=by decide)(p5:uZ x:=by decide)
  (he:lF X e es:=by rfl)(mw:rQ X pos es:=by rfl):PE X (.Call (.Name x p) (e::es) [] pos) (tCB r t):=by intro pins s σ H Q I h;exact qA (wW I hg hm hv (iT (fV (ha pos pins s σ H _ I h) λus s1 #[vs,H1,I1,r1,q1]=>hc pins s1 σ H1 vs us Q I1 r1 q1) he mw) hn p5)
end
end L2
namespace HT
open PySem PyProof.Rows
section
open PySem.SeqAt
open PySem.AutoSeq1 (wpAny_loadPart')
open PySem.MeetsSeq PySem.MeetsSeq2 PySem.MeetsSeq3
end
section
variable{prog:bW}{w:cP}{A:g7}{E:M->aU->Prop}{s:aU}
theorem QD(ht:IsTup s.heap t vs.toArray)(hb:IsTup s.heap b ws.toArray)(hv:vs≠[])
  (h1:ws=[]->Q (.ref t) s)(h2:ws≠[]->Q (.ref s.heap.objs.size) { s with heap:=s.heap.push { cls:=.type "tuple",data:=.seq (vs++ws).toArray } })
  (yL:vs.length+ws.length<=sizeLine):wpAny (model prog w) A (binaryOp .Add (.ref t) (.ref b)) Q E s:=by
 let#[#[cls,dd,data,sl],ho,hc,n,hd]:=id ht;let#[#[zcm,dd2,data2,sl2],Xd,hc2,n2,hd2]:=id hb;subst hc hd hc2 hd2;let e:vs.toArray++ws.toArray=(vs++ws).toArray:=∅
 by_cases hw:ws=[]
 .exact concat_meets #[_,ho,Y] #[_,Xd,Y] noFill_tuple_add seq_tuple_add CH Bx (A8 _ _)
   (tuple_addW1 t b vs.toArray ws.toArray n n2 dd dd2 sl sl2 ↑hv (by simp[hw])) #[ho,Xd,h1 hw]
 .refine concat_meets #[_,ho,Y] #[_,Xd,Y] noFill_tuple_add seq_tuple_add CH Bx (A8 _ _)
   (tuple_addW2 t b vs.toArray ws.toArray n n2 dd dd2 sl sl2 ↑hv ↑hw ([bJ,bJ]▸yL)) #[ho,Xd,?_];rw[e];exact h2 hw
def oW(n d:Nat):Option Int->Nat
 |none=>d
 |some v=>if v<0 then(v+(n:Int)).toNat else min v.toNat n
theorem Et(n d:Nat):oW n d none=d:=Y
theorem nH(n d k:Nat):oW n d (some (k:Int))=min k n:=by show(if(k:Int)<0 then(k+(n:Int)).toNat else min (k:Int).toNat n)=min k n;rw[qQ2 (),cN]
theorem Jn(v:Int)(n d:Nat):(if v<0 then max (v+(n:Int)) 0 else min v (n:Int))=((oW n d (some v):Nat):Int):=by
 show(if v<0 then max _ 0 else min v n)=(((if v<0 then(v+n).toNat else min v.toNat n):Nat));by_cases hv:v<0
 .simp only[qQ3 hv];omega
 .simp only[qQ2 hv];omega
theorem GZ(lo hi:Option Int)(n:Nat):wG lo hi 1 (n:Int)=(((oW n 0 lo:Nat):Int),((oW n n hi:Nat):Int)):=by
 refine Prod.ext ?_ ?_
 .cases lo with
  |none=>rfl
  |some v=>exact Jn v n 0
 .cases hi with
  |none=>rfl
  |some v=>exact Jn v n n
theorem G_(i j:Nat):jw (i:Int) (j:Int) 1=j-i:=by unfold jw;split<;>omega
theorem zJ(p:CJ v o)(h:Q o s):wpAny (model prog w) A (rV.Slice.slicePartIndex v) Q E s:=by
 cases p with
 |none=>exact slicePart_none h
 |int i t=>exact slicePart_int h
theorem w8{sl:J}{vl vu:M}{lo hi:Option Int}{n:Nat}{Q:Int×Int×Nat->aU->Prop}(hs:s.heap.IsSliceOf sl vl vu .none)(pl:CJ vl lo)(pu:CJ vu hi)
  (h:Q (((oW n 0 lo:Nat):Int),1,oW n n hi-oW n 0 lo) s):wpAny (model prog w) A (rV.Slice.sliceApplied (.ref sl) (pure (n:Int))) Q E s:=by let#[os,Yi,Yj,Qb]:=id hs;refine L (L (dM Yi Qb Y (L (dM Yi Qb Y (L (dM Yi Qb Y (aM ?_)))))));refine L (slicePart_none ?_);refine L (zJ pl (L (zJ pu (L (aM ?_)))));show wpAny _ _ (match wG lo hi 1 (n:Int)with|(lo,hi)=>pure (lo,(1:Int),jw lo hi 1)) _ _ s;rw[GZ lo hi n];show wpAny _ _ (pure (((oW n 0 lo):Int),1,jw ((oW n 0 lo)) ((oW n n hi)) 1)) _ _ s;rw[G_];exact aM h
theorem M5(xs:Array M)(i k:Nat):((cv k).filterMap λ(m:Nat)=>xs[((i:Int)+(m:Int)*1).toNat]?).toArray=((xs.toList.drop i).take k).toArray:=by
 let e:(λ(m:Nat)=>xs[(i+(m:Int)*1).toNat]?)=λm=>xs[i+m]?:=by funext m;let:(i+(m:Int)*1).toNat=i+m:=();rw[this]
 rw[e];let:=pick_run xs i k;rw[cO]at this;let e2:((λx=>xs[x]?)∘λx=>i+x)=λm=>xs[i+m]?:=Y;rw[e2]at this;rw[this]
theorem vV{Q:M->aU->Prop}{t sl:J}{items:Array M}{vl vu:M}{lo hi:Option Int}(ht:IsTup s.heap t items)(hs:s.heap.IsSliceOf sl vl vu .none)(pl:CJ vl lo)(pu:CJ vu hi)
  (hw:¬(oW items.size 0 lo=0/\oW items.size items.size hi=items.size))
  (h:Q (.ref s.heap.objs.size) { s with heap:=s.heap.push { cls:=.type "tuple",data:=.seq ((items.toList.drop (oW items.size 0 lo)).take (oW items.size items.size hi-oW items.size 0 lo)).toArray } })
  (yL:items.size<=sizeLine):wpAny (model prog w) A (getItem (.ref t) (.ref sl)) Q E s:=by
 let Jo:sizeOk (.seq ((items.toList.drop (oW items.size 0 lo)).take (oW items.size items.size hi-oW items.size 0 lo)).toArray):=by show((items.toList.drop _).take _).toArray.size<=sizeLine;rw[bJ,bU,iQ,cu];omega
 let#[os,Yi,Yj,Qb]:=id hs;unfold getItem
 try with_reducible refine hV ?_
 first|refine L (aM ?_)|skip
 refine L (wpAny_sequenceKey ht.typeIs ⋯ ?_);refine L (dE ht.typeIs kX
  (eN kX ht.typeIs entry_tuple_getitem ?_ (args_tuple_getitem _ _)));show wpAny _ _ (rV.Tuple.tupleItemsOf _ >>= _) _ _ s;refine L (tupleItemsOf_ ht ?_);refine L (wpAny_typeOf (#[os,Yi,Yj]) ?_);refine L (w8 hs pl pu ?_);let w_:¬((((oW items.size 0 lo):Int)==0&&(1:Int)==1&&(oW items.size items.size hi-oW items.size 0 lo)==items.size)=true):=by
  intro q;rw[gT,gT]at q;let q1:=eq_of_beq q.1.1;let q2:=eq_of_beq q.2;exact hw #[(),()]
 show wpAny _ _ (if(((oW items.size 0 lo):Int)==0&&1==1&&(oW items.size items.size hi-oW items.size 0 lo)==items.size)=true then _ else _) _ _ s;rw[qQ2 w_,M5]
 first
  |exact L (cR (aM #[_,Y,aM h]) Jo)
  |exact L (cR (L (aM (aM #[_,Y,aM h]))) Jo)
  |exact L (L (cR (aM (aM #[_,Y,aM h])) Jo))
  |exact L (L (cR (aM #[_,Y,aM h]) Jo))
end
end HT
namespace L2
open PySem PySem.Spec PyProof.Rows
variable{p:J}{H:Hp}{pins:!(J×Obj)}{xs:!V}{its:!M}{n t':Nat}{s:aU}{σ:St}
abbrev TO:=St->Hp->(Option Int->Hp->Prop)->Prop
def PO(X:Cx)(e:Option bY)(t:TO):Prop:=
 ∀(pins:!(J×Obj))(s:aU)(σ:St)(H:Hp)(Q:Option Int->Hp->Prop),Inv X pins σ H s->t σ H Q->
  wpAny (model X.prog X.w) X.A (evalPart e X.env) (λu s'=>∃o H',Inv X pins σ H' s'/\CJ u o/\Q o H') X.xe s
def QF:TO:=λ_ H Q=>Q none H
def Yk(t:TE):TO:=λσ H Q=>t σ H λx H1=>∃i,x=.int i/\Q (some i) H1
theorem intsAre_of:∀{us:!M},dw (ns.map V.int) us->A9 us ns:=by
 induction ns with
 |nil=>intro us r;rw[eC]at r;cases r;exact .nil
 |cons n ns ih=>
  intro us r;cases r with
  |cons r1 r2=>let#[t,e]:=r1;subst e;exact .cons n t (ih r2)
section
variable{e:bY}{te:TE}{lo hi:Option bY}{tl th:TO}{p2:Pos}
theorem QG:PO X none QF:=by intro pins s σ H Q I h;exact aM #[none,H,I,.none,h]
theorem QH(h:PE X e te):PO X (some e) (Yk te):=by intro pins s σ H Q I hw;refine fV (h pins s σ H _ I hw) λu s1 #[x,H1,I1,r1,q1]=>?_;let#[i,rfl,q]:=q1;let#[t,rfl]:=r1;exact#[_,H1,I1,.int i t,q]
def SlR(X:Cx)(r:V->Option Int->Option Int->Hp->VK->Prop):Prop:=
 ∀(pins:!(J×Obj))(s:aU)(σ:St)(H:Hp)(x:V)(v vl vu:M)(lo hi:Option Int)(sl:J)(Q:VK),Inv X pins σ H s->RelV x v->s.heap.IsSliceOf sl vl vu .none->CJ vl lo->CJ vu hi->r x lo hi H Q->
  ∃T id,typeLookup (.type T) "__getitem__"=pure (some (.builtin id))/\s.TypeIs v T/\wpAny (model X.prog X.w) X.A (getItem v (.ref sl)) (EP X pins σ Q) X.xe s
def tSl(r:V->Option Int->Option Int->Hp->VK->Prop)(te:TE)(tl th:TO):TE:=λσ H Q=>te σ H λx H1=>tl σ H1 λl H2=>th σ H2 λu H3=>r x l u H3 Q
theorem zK{X:Cx}{pos:Pos}{r:V->Option Int->Option Int->Hp->VK->Prop}(hr:SlR X r)(he:PE X e te)(hl:PO X lo tl)(hu:PO X hi th):PE X (.Subscript e (.Slice lo hi none p2) pos) (tSl r te tl th):=by intro pins s σ H Q I h;refine Subscript_ (fV (he pins s σ H _ I h) λv s1 #[x,H1,I1,r1,q1]=>?_);refine wpAny_Slice (fV (hl pins s1 σ H1 _ I1 q1) λvl s2 #[l,H2,I2,pl,q2]=>fV (hu pins s2 σ H2 _ I2 q2) λvu s3 #[u,H3,I3,pu,q3]=>?_);refine aM ?_;let I4:Inv X pins σ H3 { s3 with heap:=s3.heap.push { cls:=.type "slice",data:=.fields (bf [vl,vu,.none]) } }:=I3.kept λb ob q=>av _ q;let#[T,id,hT,ht,hg]:=hr pins { s3 with heap:=s3.heap.push { cls:=.type "slice",data:=.fields (bf [vl,vu,.none]) } } σ H3 x v vl vu l u s3.heap.objs.size Q I4 r1 (dv.IsSliceOf.new ..) pl pu q3;exact tail_any ht hT hg (by with_unfolding_all rfl)
def KW(xs:!V)(lo hi:Option Int):!V:=(xs.drop (HT.oW xs.length 0 lo)).take (HT.oW xs.length xs.length hi-HT.oW xs.length 0 lo)
theorem x6(xs:!V)(lo hi:Option Int):(KW xs lo hi).length<=xs.length:=by unfold KW;rw[bU,iQ];omega
def zco(K:ai):V->Option Int->Option Int->Hp->VK->Prop:=λx lo hi H Q=>∃a xs,x=.ref a/\nG K H a xs/\
 ¬(HT.oW xs.length 0 lo=0/\HT.oW xs.length xs.length hi=xs.length)/\∀p,H p=none->Q (.ref p) (upd H p (.tup (KW xs lo hi)))
theorem Vc:SlR X (zco X.K):=by intro pins s σ H x v vl vu lo hi sl Q I rx hs pl pu h;let#[a,xs,rfl,hx,hw,q]:=h;cases rx;let#[its,r,ht,hz]:=I.tuple hx;let hlen:its.toArray.size=xs.length:=[bJ]▸r.length.symm;refine#[_,_,kX.lookup,ht.typeIs,?_];refine HT.vV ht hs pl pu ([hlen]▸hw) ?_ ([hlen]▸hz);rw[hlen];refine#[.ref s.heap.objs.size,_,I.laid (λb ob q=>av _ q) () ?_,Y,q _ (I.hok.fresh ())];exact#[bZ (x6 xs lo hi) hz,_,(r.drop _).take _,uG _ _]
def Yl(K:ai):R2:=λx y H Q=>∃a b xs ys,x=.ref a/\y=.ref b/\nG K H a xs/\nG K H b ys/\xs≠[]/\xs.length+ys.length<=sizeLine/\
 (ys=[]->Q (.ref a) H)/\(ys≠[]->∀p,H p=none->Q (.ref p) (upd H p (.tup (xs++ys))))
theorem dw.y_(r:dw xs us):us=[]↔xs=[]:=by
 cases r with
 |nil=>simp
 |cons _ _=>simp
theorem QI:uj X (binaryOp .Add) (Yl X.K):=by intro pins s σ H x y v u Q I rx ry h;let#[a,b,xs,ys,rfl,rfl,ha,hb,hx,hz,q1,q2]:=h;cases rx;cases ry;let#[its,r1,p1,_]:=I.tuple ha;let#[QJ,r2,p2,_]:=I.tuple hb;refine HT.QD p1 p2 (λz=>hx (r1.y_.mp z)) (λz=>#[.ref a,H,I,Y,q1 (r2.y_.mp z)]) (λz=>?_) ([<-r1.length,<-r2.length]▸hz);refine#[.ref s.heap.objs.size,_,I.laid (λb ob q=>av _ q) () ?_,Y,q2 (λw=>z (r2.y_.mpr w)) _ (I.hok.fresh ())];exact#[[aN]▸hz,_,r1.append r2,uG _ _]
end
def Mz(n:Nat)(i:Int):Option Nat:=if 0<=i then(if i<n then some i.toNat else none)else if -(n:Int)<=i then some (i+n).toNat else none
def uk{α:Type}(xs:!α)(i:Int):Option α:=(Mz xs.length i).bind λj=>xs[j]?
theorem Jp(h:Mz n i>>j):seqIndex? i n>>j/\j<n/\-(n:Int)<=i/\i<n:=by
 unfold Mz at h;by_cases h0:0<=i
 .rw[qQ3 h0]at h;by_cases h1:i<n
  .rw[qQ3 h1]at h;let e:=bK h;exact#[by rw[seqIndex_of h0 h1,e],(),(),h1]
  .rw[qQ2 h1]at h;cases h
 .rw[qQ2 h0]at h;by_cases h1:-n<=i
  .rw[qQ3 h1]at h;let e:=bK h;exact#[by rw[seqIndex_neg () h1,e],(),h1,()]
  .rw[qQ2 h1]at h;cases h
theorem C7{α:Type}{xs:!α}{i:Int}{v:α}(h:uk xs i>>v):∃j,seqIndex? i xs.length>>j/\xs[j]?>>v/\j<xs.length/\-(xs.length:Int)<=i/\i<xs.length:=by
 unfold uk at h;cases e:Mz xs.length i with
 |none=>rw[e]at h;cases h
 |some j=>rw[e]at h;let#[h1,h2,h3,h4]:=Jp e;exact#[j,h1,h,h2,h3,h4]
theorem cJ{α:Type}{xs:!α}{j:Nat}{v:α}(h:xs[j]?>>v):uk xs (j:Int)>>v:=by
 let hj:=(aq.mp h).1;let e:Mz xs.length j>>j:=by unfold Mz;rw[qQ3 (),qQ3 ()];simp
 unfold uk;rwa[e]
def oX(b:bY):Prop:=∀o i,subscripted b false o i=operate [o,i] (getItem o i)
def M6(X:Cx)(r:R2):Prop:=
 ∀(value slice:bY)(pins:!(J×Obj))(s:aU)(σ:St)(H:Hp)(x y:V)(v u:M)(Q:VK),Inv X pins σ H s->RelV x v->RelV y u->r x y H Q->
  subscripted slice false v u=operate [v,u] (getItem v u)->wpAny (model X.prog X.w) X.A (subscriptTail value slice v u) (EP X pins σ Q) X.xe s
def MtR(X:Cx)(id:String)(r:V->!V->Hp->VK->Prop):Prop:=
 ∀(pins:!(J×Obj))(s:aU)(σ:St)(H:Hp)(x:V)(xs:!V)(v:M)(us:!M)(Q:VK),Inv X pins σ H s->RelV x v->dw xs us->r x xs H Q->
  wpAny (model X.prog X.w) X.A (call (.builtin id) (v::us)) (EP X pins σ Q) X.xe s
section
variable{X:Cx}{a:bY}
theorem M6.or(h:M6 X r)(h':M6 X r'):M6 X (λx y H Q=>r x y H Q\/r' x y H Q):=by
 intro value slice pins s σ H x y v u Q I rx ry q hs;rcases q with q|q
 .exact h value slice pins s σ H x y v u Q I rx ry q hs
 .exact h' value slice pins s σ H x y v u Q I rx ry q hs
theorem M7(hr:M6 X r)(ha:PE X a ta)(hb:PE X b tb)(hs:oX b):PE X (.Subscript a b pos) (Xa r ta tb):=by intro pins s σ H Q I h;exact Subscript_ (U6 ha hb I h λv u s2 x y H2 I2 rx ry q=>hr a b pins s2 σ H2 x y v u Q I2 rx ry q (hs _ _))
def Ym(K:ai):R2:=λx y H Q=>∃p xs i v,x=.ref p/\y=.int i/\jY K H p xs/\uk xs i>>v/\Q v H
def Yn(K:ai):R2:=λx y H Q=>∃p xs i v,x=.ref p/\y=.int i/\nG K H p xs/\uk xs i>>v/\Q v H
def Yo:R2:=λx y H Q=>∃z i c,x=.str z/\y=.int i/\z.length<=sizeLine/\uk z.cps.toList i>>c/\Q (.str #[(bf [c])]) H
theorem QK:M6 X (Ym X.K):=by
 intro value slice pins s σ H x y v u Q I rx ry h hs;let#[p,xs,i,z,rfl,rfl,hq,he,q]:=h;cases rx;let#[t,rfl]:=ry;let#[its,r,pl,hz]:=I.list hq;let#[j,h1,h2,h3,h4,h5]:=C7 he;let#[w,ew,pZ]:=r.get h2;let hl:=r.length;let hn:=sC;let fin:EP X pins σ Q w s:=#[z,H,I,pZ,q];by_cases h0:0<=i
 .let hj:i.toNat=j:=by rw[seqIndex_of h0 h5]at h1;exact bK h1
  exact item_listR pl.isList h0 () (by rw[hj];simpa using ew) fin hs
 .let hj:(i+its.toArray.size).toNat=j:=by rw[seqIndex_neg () h4]at h1;rw[bJ,<-hl];exact bK h1
  exact subscriptTail_builtinR pl.isList.typeIs slot_list_getitem.lookup
   (wpAny_getItem_list_neg pl.isList () (by rw[bJ]<;>omega) () (by rw[hj];simpa using ew) #[Y,fin]) hs
theorem Vd:M6 X (Yn X.K):=by
 intro value slice pins s σ H x y v u Q I rx ry h hs;let#[p,xs,i,z,rfl,rfl,hq,he,q]:=h;cases rx;let#[t,rfl]:=ry;let#[its,r,pl,hz]:=I.tuple hq;let#[j,h1,h2,h3,h4,h5]:=C7 he;let#[w,ew,pZ]:=r.get h2;let hl:=r.length;let hn:=sC;exact subscriptTail_builtinR pl.typeIs slot_tuple_getitem.lookup
  (getItem_tuple pl () () ([bJ,<-hl]▸h1) ↑ew #[Y,(#[z,H,I,pZ,q])]) hs
theorem Ve:M6 X Yo:=by
 intro value slice pins s σ H x y v u Q I rx ry h hs;let#[z,i,c,rfl,rfl,hz,he,q]:=h;let#[t,rfl]:=rx;let#[t',rfl]:=ry;let#[j,h1,h2,h3,h4,h5]:=C7 he;let hl:z.cps.toList.length=z.length:=by simp[Str.length]
 rw[hl]at h1 h4 h5;let hn:=sC;exact tail_any (uV s z t) slot_str_getitem.lookup (getItem_str (by rw[qQ0 (),qQ0 (),Bool.or_false]) (by rw[h1];simpa using h2) #[.str #[(bf [c])],H,I.tok _,#[_,Y],q]) hs
def rIx(K:ai):R2:=λx y H Q=>Ym K x y H Q\/Yn K x y H Q\/Yo x y H Q
theorem pK:M6 X (rIx X.K):=QK.or (Vd.or Ve)
theorem Hg(its:!M)(n j:Nat)(u:M):wM (·.setIfInBounds j u) { cls:=.type "list",data:=.seq its.toArray n }={ cls:=.type "list",data:=.seq (its.set j u).toArray n }:=by simp[wM]
theorem Inv.lst(I:Inv X pins σ H s)(h:H p>>(.lst xs)):
  ∃(its:!M)(n:Nat),dw xs its/\s.heap.get? p=some { cls:=.type "list",data:=.seq its.toArray n }/\xs.length<=sizeLine:=by let#[z,its,n,r,e]:=I.hok p _ h;exact#[its,n,r,e,z]
theorem Inv.Vf{ys: !V}{yJ: !M}{n': Nat}{f:Obj->Obj}(I:Inv X pins σ H s)(h:H p>>(.lst xs))
  (ho:s.heap.get? p=some { cls:=.type "list",data:=.seq its.toArray n })(hf:f { cls:=.type "list",data:=.seq its.toArray n }={ cls:=.type "list",data:=.seq yJ.toArray n' })(r:dw ys yJ)(hz:ys.length<=sizeLine)(t:Nat):
  Inv X pins σ (upd H p (.lst ys)) { s with heap:=s.heap.update p f,toks:=t }:=by
 let e:(s.heap.update p f).get? p=some { cls:=.type "list",data:=.seq yJ.toArray n' }:=by rw[ug f ho (by rw[hf]<;>rfl),hf]
 refine I.write (x:=p) (e:=p) (by rw[h];trivial) (.inl Y) (λb u hb q=>(Gk _ _ (bD hb)).trans q) #[_,e] ?_;exact#[hz,yJ,n',r,e]
def Yp:V->V->V->Hp->(Hp->Prop)->Prop:=λo i v H Q=>∃p xs k j,o=.ref p/\i=.int k/\H p>>(.lst xs)/\Mz xs.length k>>j/\Q (upd H p (.lst (xs.set j v)))
theorem set_list:X1 X Yp:=by
 intro pins s σ H o i v ov iv u Q I ro ri rv h;let#[p,xs,k,j,rfl,rfl,hp,hj,q]:=h;cases ro;let#[t,rfl]:=ri;let#[its,n,r,ho,hz]:=I.lst hp;let#[h1,h2,h3,h4]:=Jp hj;let hl:=r.length;let hn:=sC;let I':Inv X pins σ (upd H p (.lst (xs.set j v))) { s with heap:=s.heap.update p (wM (·.setIfInBounds j u)) }:=
  I.Vf hp ho (Hg its n j u) (r.set rv j) ([eT]▸hz) s.toks;by_cases h0:0<=k
 .let hk:k.toNat=j:=by rw[seqIndex_of h0 h4]at h1;exact bK h1
  exact PySem.W.ki_setAt ho h0 () ([bJ,<-hl]▸h4) ([hk]▸#[_,I',q])
 .let hk:(k+(its.toArray.size:Int)).toNat=j:=by rw[seqIndex_neg () h3]at h1;rw[bJ,<-hl];exact bK h1
  exact PySem.W.ki_setBack ho () ([bJ,<-hl]▸h3) () ([hk]▸#[_,I',q])
theorem C8(lo hi:Option Int)(n:Nat):(sliceBounds lo hi none n).1=((HT.oW n 0 lo:Nat):Int)/\(sliceBounds lo hi none n).2.1=((HT.oW n n hi:Nat):Int)/\(sliceBounds lo hi none n).2.2=1:=by
 refine#[?_,?_,Y]
 .cases lo with
  |none=>simp[sliceBounds,HT.oW]
  |some i=>
   simp[sliceBounds,HT.oW,Option.getD_none,show(1:Int)>0 by decide,if_true];by_cases h:i<0
   .simp[h,if_true]<;>omega
   .simp[h,if_false]<;>omega
 .cases hi with
  |none=>simp[sliceBounds,HT.oW]
  |some i=>
   simp[sliceBounds,HT.oW,Option.getD_none,show(1:Int)>0 by decide,if_true];by_cases h:i<0
   .simp[h,if_true]<;>omega
   .simp[h,if_false]<;>omega
theorem Bf(its:!M)(lo hi:Option Int):slicePick its.toArray lo hi none=((its.drop (HT.oW its.length 0 lo)).take (HT.oW its.length its.length hi-HT.oW its.length 0 lo)).toArray:=by let#[h1,h2,h3]:=C8 lo hi its.toArray.size;unfold slicePick;rw[h1,h2,h3];simp only[sliceRange_one,pick_run,bJ]<;>rfl
def zcp(K:ai):V->Option Int->Option Int->Hp->VK->Prop:=λx lo hi H Q=>∃a xs,x=.ref a/\jY K H a xs/\∀p,H p=none->Q (.ref p) (upd H p (.lst (KW xs lo hi)))
theorem QL:SlR X (zcp X.K):=by intro pins s σ H x v vl vu lo hi sl Q I rx hs pl pu h;let#[a,xs,rfl,hx,q]:=h;cases rx;let#[its,r,ht,hz]:=I.list hx;let hlen:=r.length;refine#[_,_,slot_list_getitem.lookup,ht.isList.typeIs,?_];refine wpAny_getItem_list_slice ht.isList hs pl pu .none ∅ ?_ (by rw[bJ]<;>omega);rw[Bf,<-hlen];refine#[.ref s.heap.objs.size,_,I.laid (λb ob q=>av _ q) () ?_,Y,q _ (I.hok.fresh ())];exact#[bZ (x6 xs lo hi) hz,_,0,(r.drop _).take _,aV _ Y]
theorem vW:iS X (.builtin "len") (λxs H Q=>∃p ys,xs=[.ref p]/\(jY X.K H p ys\/nG X.K H p ys)/\Q (.int ys.length) H):=by
 intro pins s σ H xs us Q I r h;let#[p,ys,rfl,hq,q]:=h;let#[u,rfl,rx]:=vals1 r;cases rx;let hn:=sC;rcases hq with hq|hq
 .let#[its,r',pl,hz]:=I.list hq;let hlen:=r'.length;exact Calls.call_len_list pl.isList (by simp<;>omega) #[.int ys.length,H,I.tok _,#[_,by rw[bJ,hlen]],q]
 .let#[its,r',pl,hz]:=I.tuple hq;let hlen:=r'.length;exact len_tuple pl (by simp<;>omega) #[.int ys.length,H,I.tok _,#[_,by rw[bJ,hlen]],q]
theorem C9:iS X (.builtin "len") (λxs H Q=>∃z,xs=[.str z]/\z.length<=sizeLine/\Q (.int z.length) H):=by intro pins s σ H xs us Q I r h;let#[z,rfl,hz,q]:=h;let#[u,rfl,t,rfl]:=vals1 r;let hn:=sC;exact len_str () #[.int z.length,H,I.tok _,#[_,Y],q]
theorem nI:iS X (.type "list") (λxs H Q=>∃p ys,xs=[.ref p]/\(jY X.K H p ys\/nG X.K H p ys)/\∀l,H l=none->Q (.ref l) (upd H l (.lst ys))):=by
 intro pins s σ H xs us Q I r h;let#[p,ys,rfl,hq,q]:=h;let#[u,rfl,rx]:=vals1 r;cases rx;let fin:∀(its:!M),dw ys its->ys.length<=sizeLine->∀(h':dv)(c':Nat),(∀b o',s.heap.get? b>>o'->h'.get? b>>o')->
   h'.get? s.heap.objs.size=some { cls:=.type "list",dict:=none,data:=.seq its.toArray c',slots:=#[] }->EP X pins σ Q _ { s with heap:=h' }:=λits r' hz h' c' kp e=>
  #[.ref s.heap.objs.size,_,I.laid kp () (show gf X.prog X.w _ h' _ (.lst ys) from#[hz,its,c',r',e]),Y,q _ (I.hok.fresh ())];rcases hq with hq|hq
 .let#[its,r',pl,hz]:=I.list hq;let hlen:=r'.length;let#[o,ho,hc,n,hd]:=pl.isList;exact call_list_seq p (.inl Y) ho hc hd (λh' c' kp e=>fin its r' hz h' c' kp e) (by simp<;>omega)
 .let#[its,r',pl,hz]:=I.tuple hq;let hlen:=r'.length;let#[o,ho,hc,n,hd]:=pl;exact call_list_seq p (.inr Y) ho hc hd (λh' c' kp e=>fin its r' hz h' c' kp e) (by simp<;>omega)
theorem mx:iS X (.type "tuple") (λxs H Q=>∃p ys,xs=[.ref p]/\((jY X.K H p ys/\∀l,H l=none->Q (.ref l) (upd H l (.tup ys)))\/(nG X.K H p ys/\Q (.ref p) H))):=by
 intro pins s σ H xs us Q I r h;let#[p,ys,rfl,h]:=h;let#[u,rfl,rx]:=vals1 r;cases rx;rcases h with⟨hq,q⟩|⟨hq,q⟩
 .let#[its,r',pl,hz]:=I.list hq;let hlen:=r'.length;refine call_tuple_list pl.isList (λh' kp=>?_) (by simp<;>omega);let I1:Inv X pins σ H { s with heap:=h' }:=I.kept kp;let I2:Inv X pins σ (upd H h'.objs.size _) { s with heap:=h'.push { cls:=.type "tuple",data:=.seq its.toArray } }:=
   I1.laid (λb o e=>av _ e) (aE _) (show gf X.prog X.w _ _ _ (.tup ys) from#[hz,its,r',uG _ _]);exact#[.ref h'.objs.size,_,I2,Y,q _ (I1.hok.fresh (aE _))]
 .let#[its,r',pl,hz]:=I.tuple hq;exact call_tuple_same pl #[.ref p,H,I,Y,q]
def tyV(K:ai)(T:String)(x:V)(H:Hp):Prop:=match x with
 | .str _=>T="str"
 | .int _=>T="int"
 | .ref p=>(T="list"/\∃xs,jY K H p xs)\/(T="tuple"/\∃o,K.lookup p>>o/\o.cls=.type "tuple"/\o.dict=none)\/
   (T="dict"/\((∃kvs,H p>>(.dK kvs))\/∃kvs,H p>>(.dT kvs)))\/(T="set"/\∃S n,H p>>(.set S n))
 |_=>False
theorem Vg{T:String}{x:V}{v:M}(I:Inv X pins σ H s)(r:RelV x v)(ty:tyV X.K T x H):
  s.TypeIs v T/\∀a,v=.ref a->∃ob,s.heap.get? a>>ob/\ob.dict=none:=by
 cases x with
 |str z=>
  let#[t,rfl]:=r
  cases(show T="str" from ty)
  exact#[uV s z t,λ_ e=>nomatch e]
 |int i=>
  let#[t,rfl]:=r
  cases(show T="int" from ty)
  exact#[typeIs_int s i t,λ_ e=>nomatch e]
 |ref p=>
  cases r;rcases ty with⟨rfl,xs,hq⟩|⟨rfl,o,hk,hc,hd⟩|⟨rfl,hk⟩|⟨rfl,S,n,hk⟩
  .let#[its,_,pl,_]:=I.list hq;refine#[pl.isList.typeIs,λa e=>?_];cases e;let#[o,n,e,c,hd,_]:=pl;exact#[o,e,hd]
  .refine#[#[o,I.Be p o hk,hc],λa e=>?_];cases e;exact#[o,I.Be _ o hk,hd]
  .let z:∃o,s.heap.get? p>>o/\o.ExactDict:=by
    rcases hk with⟨kvs,hk⟩|⟨kvs,hk⟩
    .let#[_,_,_,_,o,_,_,e,ex,_]:=I.hok p _ hk;exact#[o,e,ex]
    .let#[_,_,_,_,o,_,_,e,ex,_]:=I.hok p _ hk;exact#[o,e,ex]
   let#[o,e,ex]:=z;refine#[#[o,e,ex.1],λa e2=>?_];cases e2;exact#[o,e,ex.2.1]
  .let#[o,_,_,_,e,ex,_]:=I.hok p _ hk;refine#[#[o,e,ex.1],λa e2=>?_];cases e2;exact#[o,e,ex.2.1]
 |_=>exact gU ty
def tBM(K:ai)(T:String)(r:V->!V->Hp->VK->Prop)(to:TE)(t:TA):TE:=λσ H Q=>to σ H λx H1=>tyV K T x H1/\t σ H1 λxs H2=>r x xs H2 Q
variable{o e:bY}{to:TE}{t:TA}{name:O}{apos k6:Pos}{T id:String}{r:V->!V->Hp->VK->Prop}
theorem sE{es:!bY}(pa:PlainAttrs T)(slot:Slot T name id)(hty:typeOf (.builtin id)=pure (.type "method_descriptor"))(hm:MtR X id r)(ho:PE X o to)(ha:PA X (e::es) t)
  (gM:y6 X o name:=by rfl)
  (om:((backTo k6 (starEach (e::es) X.env)).all (λx=>not x.1)&&(backToKw k6 (keywordEach [] X.env)).all (λx=>x.1.isSome)
   && decide ((e::es).length+([]:!Keyword).length+(if([]:!Keyword).isEmpty then 0 else 1)<30))=true:=by rfl)
  (hline:(apos.endLine==k6.line)=true:=by rfl) (hs:lF X e es:=by rfl) (gN:rQ X k6 es:=by rfl) :
  PE X (.Call (.Attribute o name apos) (e::es) [] k6) (tBM X.K T r to t):=by intro pins s σ H Q I h;refine wpAny_Call_method_late gM om hline Y (fV (ho pins s σ H _ I h) λv s1 #[x,H1,I1,r1,ty,q1]=>?_);let#[h1,h2]:=Vg I1 r1 ty;refine#[T,id,pa,slot,hty,h1,h2,?_];let hA:=ha k6 pins s1 σ H1 _ I1 q1;rw[hs]at hA ⊢;exact rM (by show(false||(backTo k6 (starEach es X.env)).any (·.1))=false;rw[gN]<;>rfl) (uA (fV hA λus s2 #[vs,H2,I2,r2,q2]=>hm pins s2 σ H2 x vs v us Q I2 r1 r2 q2))
end
def Yq(X:Cx)(id:String)(r:V->!V->Hp->VK->Prop):Prop:=
 ∀(pins:!(J×Obj))(s:aU)(σ:St)(H:Hp)(x:V)(xs:!V)(v:M)(us:!M)(Q:VK),Inv X pins σ H s->RelV x v->dw xs us->r x xs H Q->
  wpAny (model X.prog X.w) X.A (call (.builtin id) (v::us)) (EP X pins σ Q) X.xe s
theorem dw.one:∀{x:V}{us:!M},dw [x] us->∃u,us=[u]/\RelV x u
 |_,_,.cons r .nil=>#[_,Y,r]
theorem dw.two:∀{x y:V}{us:!M},dw [x,y] us->∃u v,us=[u,v]/\RelV x u/\RelV y v
 |_,_,_,.cons r (.cons q .nil)=>#[_,_,Y,r,q]
theorem dw.rep(h:dw xs us):∀k:Nat,dw (bo k xs).flatten (bo k us).flatten
 |0=>.nil
 |k+1=>by exact dw.append h (dw.rep h k)
theorem foldl_rep(its:!M):∀(k:Nat)(acc:!M),
  List.foldl (λx1 x2=>x1++x2) acc.toArray (bo k its.toArray)=(acc++(bo k its).flatten).toArray
 |0,acc=>∅
 |k+1,acc=>by
  let e:acc.toArray++its.toArray=(acc++its).toArray:=∅
  let e2:(acc++its)++(bo k its).flatten=acc++(bo (k+1) its).flatten:=by rw[eM,ft,bS]
  rw[<-e2,<-foldl_rep its k _,<-e,eM,dN]
section
variable{X:Cx}{pins:!(J×Obj)}{σ:St}{H:Hp}{s:aU}{l:J}{xs ys:!V}
theorem Inv.Yr{yJ: !M}{f:Array M->Array M}(I:Inv X pins σ H s)(hH:H l>>(.lst xs))
  (e:s.heap.get? l=some { cls:=.type "list",data:=.seq its.toArray n })(hf:f its.toArray=yJ.toArray)(hv:dw ys yJ)(hz:ys.length<=sizeLine):
  Inv X pins σ (upd H l (.lst ys)) { s with heap:=s.heap.update l (wM f),toks:=t' }:=by let q:=PySem.IsL.update e f;rw[hf]at q;refine I.write ([hH]▸trivial) (.inl Y) (λb' u hb hu=>(Gk s.heap (wM f) (bD hb)).trans hu) #[_,q] ?_;exact#[hz,yJ,_,hv,q]
theorem Inv.zcq(I:Inv X pins σ H s)(hv:dw ys its)(hz:ys.length<=sizeLine):
  Inv X pins σ (upd H s.heap.objs.size (.lst ys)) { s with heap:=s.heap.push { cls:=.type "list",data:=.seq its.toArray },toks:=t' }:=
 I.laid (λ_ _ q=>av _ q) () #[hz,its,0,hv,aV _ Y]
theorem Inv.fresh(I:Inv X pins σ H s):H s.heap.objs.size=none:=I.hok.fresh ()
theorem Inv.Ys(I:Inv X pins σ H s)(hH:H l>>(.lst xs)):xs.length<=sizeLine/\∃(its:!M)(n:Nat),dw xs its/\xs.length=its.length/\s.heap.get? l=some { cls:=.type "list",data:=.seq its.toArray n }:=by let#[z,its,n,r,e]:=I.hok l _ hH;exact#[z,its,n,r,r.length,e]
end
section
def QM:V->!V->Hp->VK->Prop:=λx vs H Q=>∃l xs y,x=.ref l/\vs=[y]/\H l>>(.lst xs)/\xs.length<sizeLine/\Q .non (upd H l (.lst (xs ++ [y])))
theorem lS:Yq X "list.append" QM:=by intro pins s σ H x vs v us Q I rx rv h;let#[l,xs,y,rfl,rfl,hH,hz,q]:=h;cases rx;let#[u,rfl,ru]:=rv.one;let#[z,its,n,r,hl,e]:=I.Ys hH;refine lM F.slot_list_append #[_,e,Y] F.entry_list_append (F.args_list_append_2 _ _) (PySem.list_append l its.toArray n u (by rw[bJ];omega)) #[e,?_];refine#[.non,_,I.Yr hH e ∅ (r.append (.cons ru .nil)) ?_,Y,q];rw[aN,jH];omega
theorem len_rep{α:Type}(xs:!α)(k:Nat):(bo k xs).flatten.length=k*xs.length:=by
 induction k with
 |zero=>simp
 |succ k ih=>rw[eM,ft,aN,ih,GB,Nat.add_comm]
end
end L2
namespace Att
open PySem PySem.W PySem.Calls PyProof.Rows
variable{l:OpenLaw}
theorem yM:∀(ns:!Int)(vs:!M),WellAll P h vs (ns.map WData.int)->A9 vs ns:=by
 intro ns;induction ns with
 |nil=>intro vs w;cases w;exact .nil
 |cons n ns ih=>
  intro vs w;cases w with
  |cons a b=>cases a;exact .cons _ _ (ih _ b)
theorem KY{h:dv}{P:GC}{n:Nat}(hn:l.most>>n){args:!WData}{vals:!M}
  (QN:l.row.toRowW.claim.pre args=true)(Yt:WellAll P h vals args):
  ∃a vs ns,vals=[ck a]/\args=[WData.list (ns.map WData.int)]/\h.get? a=some { cls:=.type "list",data:=.seq vs.toArray }/\A9 vs ns/\ns.length<=n:=by
 let#[d,r,rfl,h1,h2]:=hasAllW_cons ((pre_splitW QN).1);obtain rfl:=hasAllW_nil h2;let#[xs,rfl,h3]:=hasW_list h1;let#[ns,rfl]:=items_int h3;let hlen:ns.length<=n:=by
  let h4:(WTm.not (.lt (.lit (.int n)) (.len (.arg 0)))).holds [] { args:=[.list (ns.map .int)] }=true:=by let h4:=(holds_andW ((pre_splitW QN).2)).1;rwa[hn]at h4
  let h5:=condW_of h4 (w_not (w_lt w_lit (w_len_list (w_arg Y))));refine eI λq=>?_
  first
   |(rw[qQ1 q']at h5;exact qQ7 h5 ⋯)
   |(simp at h5;omega)
 cases Yt with
 |cons w1 w2=>
  cases w2;cases w1 with
  |list ho Eu=>exact#[_,_,ns,Y,Y,ho,yM ns _ Eu,hlen]
theorem KZ(l:OpenLaw)(args:!WData):l.row.toRowW.claim.post args (.bool true) args=true:=
 postW_of
  (show WShape.has [] _ .bool=true by first|rfl|decide|simp[WShape.has,WShape.arms,WShape.armsAll])
  (show(WTm.eq .res _).value [] { args:=args,res:=some _,after:=args }>>(.bool (true==true))from w_eq_bool (w_res Y) w_lit) Y
theorem Ew{n:Nat}{q:bW}{loose:!O}{XP:(O->Option M)->dv->Prop}{YP:cP->dv->Prop}{d:DefRec}
  (hn:l.most>>n)(Yu:d.params.defaults=[])
  (call:∀(w:cP)(s₀ s₁:aU)(mg mb:O->Option M)(fa:J)(o:Obj)(pm cd doc:M)(a:J)(vs:!M)(ns:!Int),
   Ground q loose [] XP w s₀ mg mb s₁.heap->YP w s₁.heap->
   s₁.heap.get? fa>>o->o.data=.func (docDef d.name d.params d.body d.scope pm cd doc)->s₁.heap.CodeRec cd d.name->mg d.name>>(.ref fa)->
   s₁.heap.get? a=some { cls:=.type "list",data:=.seq vs.toArray }->A9 vs ns->ns.length<=n->s₁.gens=#[]->
   codeAny (model l.prog w) callerA (.call (.ref fa) #[[.ref a],[]]) (λr s'=>r=.ok (.ret (.bool true))/\OldK s₁.heap s'.heap/\s'.os=s₁.os/\uT s'.gens) s₁) :
  WalkO q loose XP YP l.row.toRowW d [] (λf vs=>PySem.call f vs):=by intro w s₀ s₁ mg mb G Ya fa o pm cd doc dV kV ho hd Qs hD MA hg args vals as QN hlay hrd Yt hlo;obtain rfl:dV=.none:=Dflts.none hD Yu;obtain rfl:kV=.none:=Dflts.noKw hD;let#[a,vs,ns,rfl,rfl,Vh,hints,hlen]:=KY hn QN Yt;refine enter_call (pX (call w s₀ s₁ mg mb fa o pm cd doc a vs ns G Ya ho (fd_plain hd) Qs MA Vh hints hlen hg) λr s' hq=>?_);let#[rfl,h2,h3,h4]:=hq;exact#[.inl #[_,_,[],Y,λ_=>rfl,.bool true,KZ l _,λ_=>#[List.Pairwise.nil,λ_ hm=>(nomatch hm)]],h2,h3,h4]
end Att
namespace L2
open PySem PySem.Spec PyProof.Rows
variable{a b f:J}{X:Cx}{fd:iu}{h':dv}{H H':Hp}{pins:!(J×Obj)}{kvs:!(!Key×V)}{o:Option V}{pos:Pos}{P:bW}{K:ai}{s:aU}{st:kr}{qual x:O}{y:V}{u:M}{Q:M->aU->Prop}{w:cP}
theorem BV:∀{vs:!M}{ns:!Int},A9 vs ns->dw (ns.map V.int) vs
 |_,_,.nil=>.nil
 |_,_,.cons n t h=>.cons #[t,Y] (BV h)
def Only(H:Hp):Prop:=∀b,H b=none\/∃o xs,H b>>(.jx o (.lst xs))
theorem M8
  (KX:K.In s₁.heap)(M9:s₁.heap.Ns mainGlobals mg)(hb:s₁.heap.Ns builtinsNs mb)(hbb:∀x:O,x≠"__name__"->mb x=bootBuiltins x)(zcr:s₁.heap.NoLimit)(hg:s₁.gens=#[])
  (ha:s₁.heap.get? a=some { cls:=.type "list",data:=.seq vs.toArray })(hi:A9 vs ns)(hl:ns.length<=sizeLine)(hr:eL k callerA)
  (F:∀base:dv,K.In base->base.Ns mainGlobals mg->dW P w K mg base CX k fa fd [x] sp)(Yv:∀(s:aU)(u:M),BindsTo s fd #[[u],[]] [(x,u)])
  (y9:∀H:Hp,Only H->jY K H a (ns.map V.int)->sp [.ref a] H (λv _=>v=.bl true) λ_ _ _=>False)
  (hCX:∀H e s',CX [] H s₁ (λ_ _ _=>False) e s'->False):
  codeAny (model P w) callerA (.call (.ref fa) #[[.ref a],[]]) (λr s'=>r=.ok (.ret (.bool true))/\OldK s₁.heap s'.heap/\s'.os=s₁.os/\uT s'.gens) s₁:=by
 let rv:=BV hi;let zct:=hi.length;let core:∀H:Hp,Only H->jY K H a (ns.map V.int)->vO P w H s₁.heap->(∀b,H b≠none->b=a)->(H a≠none->K.lookup a=none)->
   codeAny (model P w) callerA (.call (.ref fa) #[[.ref a],[]]) (λr s'=>r=.ok (.ret (.bool true))/\OldK s₁.heap s'.heap/\s'.os=s₁.os/\uT s'.gens) s₁:=by
  intro H hO hS hok hA hK;let Jq:∀{b:J}{o:Obj},s₁.heap.get? b>>o->H b=none->(Ky s₁.heap H).get? b>>o:=λe n=>MJ e n;let Yg:∀{b:J}{o:Obj}{es:Array fq}{ep:Nat},s₁.heap.get? b>>o->o.data=.dict es ep->H b=none:=λ{b o es ep}e d=>by
   cases q:H b with
   |none=>rfl
   |some u=>let e':=hA b (by rw[q];simp);subst e';rw[ha]at e;cases e;let d':=d;cases d'
  let nsK:∀{b:J}{m:O->Option M},s₁.heap.Ns b m->(Ky s₁.heap H).Ns b m:=λ{b m}#[o,es,ep,e,d,r]=>#[o,es,ep,Jq e (Yg e d),d,r];let hKb:=λb o e=>Jq (KX b o e) (by
   cases q:H b with
   |none=>rfl
   |some u=>let e':=hA b (by rw[q];simp);subst e';rw[hK (by rw[q];simp)]at e;cases e);refine pX ((F _ hKb (nsK M9)).run callerA [] s₁ H #[_,[]] [.ref a] [.ref a] _ _ hr (#[Y,#[hKb,nsK M9,#[mb,nsK hb,hbb],let#[mc,h1,h2]:=zcr;#[mc,nsK h1,h2]],λb o e=>Qo e,Nat.le_of_eq (Kz _ _),trivial,λb hb=>qQ7 (show b∈([])from hb) ∅,hok,.of_eq hg]) (Yv s₁ (.ref a)) (.cons Y .nil) (y9 H hO hS)) λr s' h=>?_;cases r with
  |error e=>exact(hCX H e s' h).elim
  |ok fl=>
   cases fl with
   |next=>exact gU h
   |brk=>exact gU h
   |cont=>exact gU h
   |ret u=>
    let#[v,H',os,bare,un,zcu,r',q]:=h;let q':=q;subst q';obtain rfl:u=M.bool true:=r';refine#[Y,OldK.of_keep λb o e=>?_,os,bare];cases q:H b with
    |none=>exact un.keep b o e q (by intro z;exact qQ7 (show b∈([])from z) ∅) ∅
    |some u=>
     rcases hO b with z|⟨ob,xs,z⟩
     .rw[q]at z;cases z
     .let z2:=un.sx b ob _ z;let#[e1,_]:=hok b _ z;let#[e2,_]:=zcu b _ z2;rw[e]at e1;cases e1;exact e2
 cases hk:K.lookup a with
 |some o=>let e:=KX a o hk;rw[ha]at e;cases e;refine core (λ_=>none) (λ_=>.inl Y) (.inr #[_,_,_,hk,Y,Y,Y,[bJ,zct]▸hl,by simpa using rv]) (λb u z=>by let z':none>>u:=z;cases z') (λb z=>qQ7 Y z) λz=>qQ7 Y z
 |none=>
  refine core (λb=>if b=a then some (.jx { cls:=.type "list",data:=.seq vs.toArray } (.lst _))else none) (λb=>?_) (.inl (.inr #[_,qQ3 Y])) (λb u z=>?_) (λb z=>?_) λ_=>hk
  .by_cases hb:b=a
   .exact .inr #[_,_,qQ3 hb]
   .exact .inl (qQ2 hb)
  .by_cases hb:b=a
   .let z':=(qQ3 hb).symm.trans z;cases z';subst hb;exact#[ha,[ae]▸hl,vs,_,rv,ha]
   .let z':=(qQ2 hb).symm.trans z;cases z'
  .by_cases hb:b=a
   .exact hb
   .exact qQ7 (qQ2 hb) z
theorem QO{l:PySem.W.OpenLaw}{n k:Nat}{q:bW}{loose:!O}{XP:(O->Option M)->dv->Prop}{YP:cP->dv->Prop}{d:DefRec}{K:GC->ai}{CX:cP->Tc}{sp:cP->Sp}
  (hn:l.most>>n)(hn2:n<=sizeLine)(Yu:d.params.defaults=[])(hr:eL k callerA)
  (hY:∀(w:cP)(h:dv),YP w h->(K w.params).In h)
  (F:∀(w:cP)(mg:O->Option M)(fa:J)(h:dv),(K w.params).In h->h.Ns mainGlobals mg->mg d.name>>(.ref fa)->
   ∃fd:iu,(∀(s:aU)(u:M),BindsTo s fd #[[u],[]] [(x,u)])/\
    ∀base:dv,(K w.params).In base->base.Ns mainGlobals mg->dW l.prog w (K w.params) mg base (CX w) k fa fd [x] (sp w))
  (y9:∀(w:cP)(H:Hp)(a:J)(ns:!Int),ns.length<=n->Only H->jY (K w.params) H a (ns.map V.int)->sp w [.ref a] H (λv _=>v=.bl true) λ_ _ _=>False)
  (hCX:∀(w:cP)(H:Hp)(s:aU)(e:M)(s':aU),CX w [] H s (λ_ _ _=>False) e s'->False) :
  PySem.W.WalkO q loose XP YP l.row.toRowW d [] (λf vs=>PySem.call f vs):=by refine Att.Ew hn Yu λw s₀ s₁ mg mb fa o pm cd doc a vs ns G Ya ho hd Qs MA Vh hints hlen hg=>?_;let KX:=hY w _ Ya;let#[fd,hb,hF]:=F w mg fa _ KX G.T.g MA;exact M8 KX G.T.g G.T.b G.T.builtins G.T.nolimit hg Vh hints () hr hF hb (λH hO hS=>y9 w H a ns hlen hO hS) λH e s'=>hCX w H s₁ e s'
def inClass(s:kr)(j:Nat):kr:=match s with
 | .ClassDef _ _ _ body _ _ _ _ _ _ _=>body.getD j (.Pass #[0,0,0,0])
 |_=>.Pass #[0,0,0,0]
def qG(s:kr):Arguments:=match s with
 | .FunctionDef _ a _ _ _ _ _ _ _ _=>a
 |_=>{ posonlyargs:=[],args:=[],vararg:=none,kwonlyargs:=[],kw_defaults:=[],kwarg:=none,defaults:=[] }
def my(s:kr):!kr:=match s with
 | .FunctionDef _ _ b _ _ _ _ _ _ _=>b
 |_=>[]
def bA(s:kr):nT:=match s with
 | .FunctionDef _ _ _ _ _ _ sc _ _ _=>sc
 |_=>{ kind:=.function,names:=[],isGenerator:=false,isCoroutine:=false }
abbrev jO:Tc:=λ_ _ _ _ _ _=>False
abbrev E0:XK:=λ_ _ _=>False
theorem x8:zI jO X E0:=λ_ _ _ _ _ _ _ h=>h.elim
structure kz(K:ai)(x qual:O)(st:kr)(f:J)(fd:iu):Prop where
 ex:∃(oc:M)(od:Option J)(kV doc pm:M)(an:Option J)(gk ct:M)(M3:Array (Option M)),
  fd=iU x qual (qG st) (my st) (bA st) .none kV doc pm an gk ct/\K.lookup f>>#[oc,od,.func fd,M3]/\nY K gk qual=true
 kp:iL K (.ref f)=true
section
theorem kz.ok(F:kz K x qual st f fd)(S:cg N ps (bA st))(len:∀vs H Q E,sp vs H Q E->vs.length=ps.length)
  (M4:∀(gk:M)(A:g7)(outer:!Env)(s:aU)(H:Hp)(vs:!V)(Q:VK)(E:XK),eL k (A.deeper (envOfC qual (bA st) s.heap.objs.size f gk))->sp vs H Q E->
   ∃t,Ji (C6 jO P w K mg base N qual (bA st) f gk A outer s H E).S9 (my st) t/\t { nx:=λ_ H'=>Q .non H',rt:=Q } (start N vs) H):dW P w K mg base jO (k+1) f fd ps sp:=by let#[oc,od,kV,doc,pm,an,gk,ct,M3,rfl,lk,Qs]:=F.ex;refine Yh lk Qs S len λA outer s H vs Q E hr y9=>?_;let#[t,h,q]:=M4 gk A outer s H vs Q E hr y9;exact#[t,h.S9,q]
theorem kz.binds(F:kz K x qual st f fd)
  (h:∀(kV doc pm:M)(an:Option J)(gk ct:M)(us:!M),us.length=ps.length->bindArgs (iU x qual (qG st) (my st) (bA st) .none kV doc pm an gk ct) #[us,[]]=pure (ps.zip us)):Binds K fd ps []:=by let#[oc,od,kV,doc,pm,an,gk,ct,M3,rfl,lk,Qs]:=F.ex;exact .all (h kV doc pm an gk ct)
theorem M_{K:ai}{oc:M}{od an:Option J}{M3:Array (Option M)}{kV doc pm gk ct:M}(l:K.lookup f>>#[oc,od,.func (iU x qual (qG st) (my st) (bA st) .none kV doc pm an gk ct),M3])
  (c:nY K gk qual=true)(k:iL K (.ref f)=true):kz K x qual st f (iU x qual (qG st) (my st) (bA st) .none kV doc pm an gk ct):=#[#[oc,od,kV,doc,pm,an,gk,ct,M3,Y,l,c],k]
end
section
theorem pv(i:Nat)(hN:u5 X i x:=by ac_rfl):PE X (.Name x pos) (UQ i):=xZ hN
end
theorem QP{A B:Prop}(h:B):if false=true then A else B:=by exact h
theorem QQ{A B:Prop}(h:A):if true=true then A else B:=by exact h
def cy(H H':Hp):Prop:=∀b o,H b>>o->H' b>>o
theorem cy.refl(H:Hp):cy H H:=λ_ _ h=>h
theorem cy.trans(a:cy H H1)(b:cy H1 H2):cy H H2:=λc o h=>b c o (a c o h)
theorem cy.free(e:cy H H')(h:H' l=Option.none):H l=Option.none:=by
 cases q:H l with
 |none=>rfl
 |some o=>rw[e l o q]at h;cases h
theorem cy.seq(e:cy H H')(h:jY K H a xs):jY K H' a xs:=by
 rcases h with(h|⟨o,h⟩)|h
 .exact .inl (.inl (e _ _ h))
 .exact .inl (.inr #[o,e _ _ h])
 .exact .inr h
section
variable{κ:Type}[DecidableEq κ]
def iW(kvs:!(κ×V))(k:κ):Option V:=(kvs.find? λkv=>decide (kv.1=k)).map (·.2)
def putK(kvs:!(κ×V))(k:κ)(v:V):!(κ×V):=
 if(kvs.any λkv=>decide (kv.1=k))=true then kvs.map (λkv=>if kv.1=k then(kv.1,v)else kv)else kvs ++ [(k,v)]
theorem mN{p:κ×V}{r:!(κ×V)}{k:κ}(e:p.1=k):iW (p::r) k>>p.2:=by simp[iW,eA,e]
theorem jd{p:κ×V}{r:!(κ×V)}{k:κ}(e:¬p.1=k):iW (p::r) k=iW r k:=by simp[iW,eA,e]
theorem zL(k:κ):∀kvs:!(κ×V),(kvs.any λkv=>decide (kv.1=k))=(iW kvs k).isSome
 | []=>rfl
 |p::r=>by
  rw[m_];by_cases e:p.1=k
  .simp[mN e,qQ1 e,Bool.true_or,Option.isSome_some]
  .rw[jd e,qQ0 e,Bool.false_or];exact zL k r
theorem mO(kvs:!(κ×V))(k:κ)(v:V):(putK kvs k v).length<=kvs.length+1:=by
 unfold putK;split
 .rw[ae];omega
 .rw[aN,bj,cx];omega
theorem p7{kvs:!(κ×V)}{k:κ}(v:V)(h:iW kvs k=none):putK kvs k v=kvs ++ [(k,v)]:=by unfold putK;rw[zL,h];exact qQ2 ⋯
theorem uC.p8{u:Option M}(r:uC o u):o.isSome=u.isSome:=by
 cases o with
 |none=>cases u with
  |none=>rfl
  |some _=>exact(show False from r).elim
 |some _=>cases u with
  |none=>exact(show False from r).elim
  |some _=>rfl
theorem uC.getD{u:Option M}{d:V}{d':M}(r:uC o u)(rd:RelV d d'):RelV (o.getD d) (u.getD d'):=by
 cases o with
 |none=>cases u with
  |none=>exact rd
  |some _=>exact(show False from r).elim
 |some _=>cases u with
  |none=>exact(show False from r).elim
  |some _=>exact r
theorem KV.val{kvs:!(κ×V)}{vs:!(κ×M)}(r:KV kvs vs)(k:κ):uC (iW kvs k) (valueAt vs k):=by
 induction r with
 |nil=>exact fQ
 | @cons p q ps qs h t ih=>
  let#[h1,h2]:=h;by_cases e:p.1=k
  .let e':=h1.symm.trans e;let b:valueAt (q::qs) k>>q.2:=by simp[valueAt,eA,e']
   rwa[mN e,b]
  .let e':¬q.1=k:=λz=>e (h1.trans z);let b:valueAt (q::qs) k=valueAt qs k:=by simp[valueAt,eA,e']
   rwa[jd e,b]
theorem KV.any{kvs:!(κ×V)}{vs:!(κ×M)}(r:KV kvs vs)(k:κ):(kvs.any λkv=>decide (kv.1=k))=vs.any λkv=>decide (kv.1=k):=by
 induction r with
 |nil=>rfl
 |cons h t ih=>rw[m_,m_,ih,h.1]
theorem KV.repl{kvs:!(κ×V)}{vs:!(κ×M)}(r:KV kvs vs)(k:κ)(ry:RelV y u):
  KV (kvs.map λkv=>if kv.1=k then(kv.1,y)else kv) (vs.map λkv=>if kv.1=k then(kv.1,u)else kv):=by
 induction r with
 |nil=>exact .nil
 | @cons p q ps qs h t ih=>
  rw[ao,ao];refine .cons ?_ ih;let#[h1,h2]:=h;by_cases e:p.1=k
  .rw[qQ3 e,qQ3 (h1.symm.trans e)];exact#[h1,ry]
  .rw[qQ2 e,qQ2 (λz=>e (h1.trans z))];exact#[h1,h2]
theorem KV.put{kvs:!(κ×V)}{vs:!(κ×M)}(r:KV kvs vs)(k:κ)(ry:RelV y u):KV (putK kvs k y) (stored vs k u):=by
 unfold putK stored;rw[r.any k];by_cases e:(vs.any λkv=>decide (kv.1=k))=true
 .rw[qQ3 e,qQ3 e];exact r.repl k ry
 .rw[qQ2 e,qQ2 e];exact wK.snoc r #[Y,ry]
theorem KV.keys{kvs:!(κ×V)}{vs:!(κ×M)}(r:KV kvs vs):kvs.map (·.1)=vs.map (·.1):=by
 induction r with
 |nil=>rfl
 |cons h t ih=>rw[ao,ao,ih,h.1]
theorem KV.length{kvs:!(κ×V)}{vs:!(κ×M)}(r:KV kvs vs):kvs.length=vs.length:=uS r
end
theorem sF(r:RelV (kV k) u):(eB P w).is k u=true:=by
 cases k with
 |inl i=>let#[t,e]:=r;subst e;exact El P w i t
 |inr x=>let#[t,e]:=r;subst e;exact sv P w x t
theorem xg:∀{ks:!Key}{us:!M},dw (ks.map kV) us->ItemsAre (eB P w) ks us
 | [],_,r=>by rw[eC]at r;cases r;exact .nil
 |k::ks,_,r=>by
  cases r with
  |cons h t=>exact .cons (sF h) (xg t)
abbrev KT(H:Hp):!(!Key×V)->!(!Key×J×M)->Prop:=wK λp q=>p.1=q.1/\H q.2.1>>(.tup (p.1.map kV))/\RelV p.2 q.2.2
theorem KT.val(r:KT H kvs xs)(k:!Key):uC (iW kvs k) ((atKey xs k).map (·.2)):=by
 induction r with
 |nil=>exact fQ
 | @cons p q ps qs h t ih=>
  let#[h1,_,h2]:=h;by_cases e:p.1=k
  .let e':=h1.symm.trans e;let b:atKey (q::qs) k>>q.2:=by simp[atKey,eA,e']
   rwa[mN e,b]
  .let e':¬q.1=k:=λz=>e (h1.trans z);let b:atKey (q::qs) k=atKey qs k:=by simp[atKey,eA,e']
   rwa[jd e,b]
theorem KT.repl(r:KT H kvs xs)(k:!Key)(ry:RelV y u):
  KT H (kvs.map λkv=>if kv.1=k then(kv.1,y)else kv) (xs.map (putAt k u)):=by
 induction r with
 |nil=>exact .nil
 | @cons p q ps qs h t ih=>
  rw[ao,ao];refine .cons ?_ ih;let#[h1,h2,h3]:=h;unfold putAt;by_cases e:p.1=k
  .rw[qQ3 e,qQ3 (h1.symm.trans e)];exact#[h1,h2,ry]
  .rw[qQ2 e,qQ2 (λz=>e (h1.trans z))];exact#[h1,h2,h3]
theorem KT.put(r:KT H kvs xs)(k:!Key)(hb:H b>>(.tup (k.map kV)))(ry:RelV y u):
  KT H (putK kvs k y) (storedH xs k b u):=by
 let e:(kvs.any λkv=>decide (kv.1=k))=(atKey xs k).isSome:=by rw[zL,(r.val k).p8,wH]
 unfold putK storedH;rw[e];by_cases q:(atKey xs k).isSome=true
 .rw[qQ3 q,qQ3 q];exact r.repl k ry
 .rw[qQ2 q,qQ2 q];exact wK.snoc r #[Y,hb,ry]
theorem KT.keeps(r:KT H kvs xs)(ht:∀b ys,H b>>(.tup ys)->H' b>>(.tup ys)):KT H' kvs xs:=
 wK.Qn r λ_ _ z=>#[z.1,ht _ _ z.2.1,z.2.2]
section
variable{P:bW}{w:cP}{H:Hp}{h:dv}{a:J}
theorem Te{u:HO}(ok:vO P w H h)(e:Rd H a u):gf P w H h a u:=e.ok ok
theorem x9{kvs:!(Key×V)}(ok:vO P w H h)(e:Rd H a (.dK kvs)):kvs.length<=sizeLine/\(a==sysModules)=false/\∃vs,KV kvs vs/\h.DictOf (eB P w) a vs:=
 show gf P w H h a (.dK kvs)from Te ok e
theorem Ex{kvs:!(Key×V)}(ok:vO P w H h)(e:H a>>(.dK kvs)):kvs.length<=sizeLine/\(a==sysModules)=false/\∃vs,KV kvs vs/\h.DictOf (eB P w) a vs:=x9 ok (.inl e)
theorem xh(ok:vO P w H h)(e:H a>>(.tup (ks.map kV))):(tupleKind (eB P w)).is h ks a:=by let#[_,its,r,o,h1,h2,n,h3]:=(ok a _ e);exact#[o,_,n,h1,h2,h3,by simpa using xg r]
theorem yb(ok:vO P w H h)(e:Rd H a (.dT kvs)):kvs.length<=sizeLine/\(a==sysModules)=false/\
  ∃xs,KT H kvs xs/\h.DictOfH (tupleKind (eB P w)) a xs:=by
 let#[z,y,xs,r,o,es,ep,h1,h2,h3,h4,h5]:=(Te ok e);refine#[z,y,xs,r,o,es,ep,h1,h2,h3,h4,λx hx=>?_,h5];let all:∀{l:!(!Key×V)}{m:!(!Key×J×M)},KT H l m->∀x∈m,(tupleKind (eB P w)).is h x.1 x.2.1:=by
  intro l m q;induction q with
  |nil=>intro x hx;exact nomatch hx
  | @cons p q ps qs hq t ih=>
   intro x hx;rcases au.mp hx with e|hx
   .subst e;exact xh ok ([<-hq.1]▸hq.2.1)
   .exact ih x hx
 exact all r x hx
theorem Yw(ok:vO P w H h)(e:H a>>(.dT kvs)):kvs.length<=sizeLine/\(a==sysModules)=false/\
  ∃xs,KT H kvs xs/\h.DictOfH (tupleKind (eB P w)) a xs:=yb ok (.inl e)
end
def sG(H:Hp)(a:J)(y:V)(r:Option V):Prop:=
 (∃kvs k,Rd H a (.dK kvs)/\y=kV k/\r=iW kvs k)\/∃kvs k b,Rd H a (.dT kvs)/\y=.ref b/\H b>>(.tup (k.map kV))/\r=iW kvs k
def Bg(H:Hp)(a:J)(y v:V)(H':Hp):Prop:=
 (∃kvs k,H a>>(.dK kvs)/\y=kV k/\kvs.length<sizeLine/\H'=upd H a (.dK (putK kvs k v)))\/
 ∃kvs k b,H a>>(.dT kvs)/\y=.ref b/\H b>>(.tup (k.map kV))/\kvs.length<sizeLine/\H'=upd H a (.dT (putK kvs k v))
theorem sG.k{kvs:!(Key×V)}{k:Key}(e:H a>>(.dK kvs)):sG H a (kV k) (iW kvs k):=.inl #[kvs,k,.inl e,Y,Y]
theorem sG.t{k:!Key}(e:H a>>(.dT kvs))(eb:H b>>(.tup (k.map kV))):sG H a (.ref b) (iW kvs k):=.inr #[kvs,k,b,.inl e,Y,eb,Y]
theorem Bg.k{kvs:!(Key×V)}{k:Key}{v:V}(e:H a>>(.dK kvs))(hl:kvs.length<sizeLine):Bg H a (kV k) v (upd H a (.dK (putK kvs k v))):=.inl #[kvs,k,e,Y,hl,Y]
theorem Bg.t{k:!Key}{v:V}(e:H a>>(.dT kvs))(eb:H b>>(.tup (k.map kV)))(hl:kvs.length<sizeLine):
  Bg H a (.ref b) v (upd H a (.dT (putK kvs k v))):=.inr #[kvs,k,b,e,Y,eb,hl,Y]
section
variable{X:Cx}{pins:!(J×Obj)}{σ:St}{H:Hp}{s:aU}{a:J}{y v:V}{u r:M}{o:Option V}{A:g7}{E:M->aU->Prop}
theorem Inv.big(I:Inv X pins σ H s):sysModules<s.heap.objs.size:=by exact yC ⋯ ((I.mod.glob.keeps I.bk).lt)
theorem K0(hu:A.units+1<cLine)(I:Inv X pins σ H s)(g:sG H a y (some v))(ry:RelV y u)(h:∀w' s',Inv X pins σ H s'->RelV v w'->Q w' s'):
  wpAny (model X.prog X.w) A (getItem (.ref a) u) Q E s:=by
 rcases g with⟨kvs,k,e,ey,l⟩|⟨kvs,k,b,e,ey,eb,l⟩
 .subst ey;obtain⟨z,hd,vs,rel,dd⟩:=x9 I.hok e;obtain⟨w',hw,pZ⟩:=uC.some_of ([l]▸rel.val k);exact wpAny_getItem_of (sF ry) dd.mapOf hw (h w' _ (I.tok _) pZ)
 .subst ey
  cases(show u=ck b from ry)
  obtain⟨z,hd,xs,rel,dd⟩:=yb I.hok e;obtain⟨w',hw,pZ⟩:=uC.some_of ([l]▸rel.val k);obtain⟨p,hp,Yx⟩:=rB.mp hw;refine wpAny_getItem_heap (jL hu) (xh I.hok eb) dd hp ?_;rw[Yx];exact h w' _ (I.tok _) pZ
theorem zcv(hu:A.units+1<cLine)(I:Inv X pins σ H s)(g:sG H a y o)(ry:RelV y u)(h:∀s',Inv X pins σ H s'->Q (.bool o.isSome) s'):
  wpAny (model X.prog X.w) A (compareOp .In u (.ref a)) Q E s:=by
 rcases g with⟨kvs,k,e,ey,l⟩|⟨kvs,k,b,e,ey,eb,l⟩
 .subst ey;let#[z,hd,vs,rel,dd]:=x9 I.hok e;refine wpAny_in_of (sF ry) hd dd.mapOf ?_;rw[<-(rel.val k).p8,<-l];exact h _ (I.tok _)
 .subst ey
  cases(show u=ck b from ry)
  let#[z,hd,xs,rel,dd]:=yb I.hok e;refine wpAny_in_heap (jL hu) (xh I.hok eb) hd dd ?_;let q:=(rel.val k).p8;rw[wH]at q;rw[<-q,<-l];exact h _ (I.tok _)
theorem QR(hu:A.units+1<cLine)(I:Inv X pins σ H s)(g:sG H a y o)(ry:RelV y u)(h:∀s',Inv X pins σ H s'->Q (.bool (not o.isSome)) s'):
  wpAny (model X.prog X.w) A (compareOp .NotIn u (.ref a)) Q E s:=by
 rcases g with⟨kvs,k,e,ey,l⟩|⟨kvs,k,b,e,ey,eb,l⟩
 .subst ey;let#[z,hd,vs,rel,dd]:=x9 I.hok e;refine wpAny_notIn_of (sF ry) hd dd.mapOf ?_;rw[<-(rel.val k).p8,<-l];exact h _ (I.tok _)
 .subst ey
  cases(show u=ck b from ry)
  let#[z,hd,xs,rel,dd]:=yb I.hok e;refine wpAny_notIn_heap (jL hu) (xh I.hok eb) hd dd ?_;let q:=(rel.val k).p8;rw[wH]at q;rw[<-q,<-l];exact h _ (I.tok _)
theorem za{t':Nat}{ob:HO}(I:Inv X pins σ H s)(mu:XG (H a))(hs:dA a s.heap h')(he:∃q,h'.get? a>>q)(new:gf X.prog X.w (upd H a ob) h' a ob):
  Inv X pins σ (upd H a ob) { s with heap:=h',toks:=t' }:=
 I.write mu (.inl Y) (λb q hb z=>(hs.2 b hb).trans z) he new
theorem zM{kvs:!(Key×V)}{vs:!(Key×M)}(z:kvs.length<=sizeLine)(hd:(a==sysModules)=false)(rel:KV kvs vs)(dd:h'.DictOf (eB P w) a vs):
  gf P w H' h' a (.dK kvs):=#[z,hd,vs,rel,dd]
theorem K1{Q:Unit->aU->Prop}(hu:A.units+1<cLine)(I:Inv X pins σ H s)(g:Bg H a y v H')(ry:RelV y u)(rv:RelV v r)(h:∀s',Inv X pins σ H' s'->Q .unit s'):
  wpAny (model X.prog X.w) A (setItem (.ref a) u r) Q E s:=by
 rcases g with⟨kvs,k,e,ey,l,eH⟩|⟨kvs,k,b,e,ey,eb,l,eH⟩
 .subst ey eH;let#[z,hd,vs,rel,dd]:=Ex I.hok e;let hz:vs.length<=sizeLine:=[<-rel.length]▸z;refine wpAny_setItem_pairs (sF ry) dd λh' Jr hs=>h _ ?_;let he:∃q,h'.get? a>>q:=let#[q,_,_,hq,_]:=Jr;#[q,hq];exact za I ([e]▸fQ) hs he (zM (by let:=mO kvs k v;omega) hd (rel.put k rv) Jr)
 .subst ey eH
  cases(show u=ck b from ry)
  let#[z,hd,xs,rel,dd]:=Yw I.hok e;let hz:xs.length<=sizeLine:=[<-uS rel]▸z;refine wpAny_setItem_heap (jL hu) (xh I.hok eb) dd λh' Jr hs=>h _ ?_;let#[q,es,ep,hq,h2,h3,h4,_,h5]:=Jr;refine za I ([e]▸fQ) hs #[q,hq] #[(by let:=mO kvs k v;omega),hd,_,(rel.put k eb rv).keeps λc ys ec=>?_,q,es,ep,hq,h2,h3,h4,h5];rwa[aI (XF ec e (λz=>nomatch z))]
end
def Ey(i:bY):Prop:=∀ov iv,subscripted i false ov iv=operate [ov,iv] (getItem ov iv)
theorem C_{prog:bW}{A:g7}{E:M->aU->Prop}{env:Env}{value slice:bY}{T id:String}
  (hl:typeLookup (.type T) "__getitem__"=pure (some (.builtin id)))(hs:Ey slice)
  (h:wpAny (model prog w) A (eval value env) (λo s₁=>wpAny (model prog w) A (eval slice env) (λi s₂=>s₂.TypeIs o T/\wpAny (model prog w) A (getItem o i) Q E s₂) E s₁) E s):
  wpAny (model prog w) A (eval (.Subscript value slice pos) env) Q E s:=by
 refine Subscript_ (iw h (λo s₁ h₁=>iw h₁ (λi s₂ h₂=>?_) λ_ _ x=>x) λ_ _ x=>x);let#[hT,h₂]:=h₂;refine L ?_;refine L (wpAny_specialOf hT hl ?_);let fin:wpAny (model prog w) A (subscripted slice false o i) (λr s₃=>wpAny (model prog w) A (letTemporaryGo value o r >>= λ_=>pure r) Q E s₃) E s₂:=by rw[hs o i];exact wpAny_operating (iw h₂ (λr s₃ h₃=>L (wpAny_letTemporaryGo (aM h₃))) λ_ _ x=>x)
 first
  |exact aM (L fin)
  |exact L (aM (L fin))
  |exact L fin
theorem Ez{σ:St}(I:Inv X pins σ H s)(g:sG H a y o):s.TypeIs (.ref a) "dict":=by
 rcases g with⟨kvs,k,e,_,_⟩|⟨kvs,k,b,e,_,_,_⟩
 .let#[_,_,vs,_,dd]:=x9 I.hok e;exact dd.typeIs
 .let#[_,_,xs,_,dd]:=yb I.hok e;exact dd.typeIs
def Yy(td ty:TE):TE:=λσ H Q=>td σ H λx H1=>ty σ H1 λy H2=>∃a v,x=.ref a/\sG H2 a y (some v)/\Q v H2
def zcw(ty td:TE):TE:=λσ H Q=>ty σ H λy H1=>td σ H1 λx H2=>∃a o,x=.ref a/\sG H2 a y o/\Q (.bl o.isSome) H2
def QS(ty td:TE):TE:=λσ H Q=>ty σ H λy H1=>td σ H1 λx H2=>∃a o,x=.ref a/\sG H2 a y o/\Q (.bl (not o.isSome)) H2
def Yz(td ty tv:TE):TS:=λD σ H=>tv σ H λv H1=>td σ H1 λx H2=>ty σ H2 λy H3=>∃a H4,x=.ref a/\Bg H3 a y v H4/\D.nx σ H4
section
variable{X:Cx}{o i value:bY}{pos pos':Pos}{td ty tv:TE}
theorem Js(hu:X.A.units+1<cLine)(ho:PE X o td)(hi:PE X i ty)(hs:Ey i):PE X (.Subscript o i pos) (Yy td ty):=by intro pins s σ H Q I h;refine C_ oS.lookup hs (fV (ho pins s σ H _ I h) λu s1 #[x,H1,I1,rx,q1]=>fV (hi pins s1 σ H1 _ I1 q1) λiv s2 #[y,H2,I2,ry,a,v,ex,g,q2]=>?_);subst ex;obtain rfl:u=ck a:=rx;exact#[Ez I2 g,K0 hu I2 g ry λw' s3 I3 pZ=>#[v,H2,I3,pZ,q2]]
theorem Nb(hu:X.A.units+1<cLine)(hi:PE X i ty)(ho:PE X o td):PC X .In i o (zcw ty td):=by intro pins s σ H Q I h;refine fV (hi pins s σ H _ I h) λiv s1 #[y,H1,I1,ry,q1]=>fV (ho pins s1 σ H1 _ I1 q1) λu s2 #[x,H2,I2,rx,a,ov,ex,g,q2]=>?_;subst ex;obtain rfl:u=ck a:=rx;exact zcv hu I2 g ry λs3 I3=>#[.bl ov.isSome,H2,I3,Y,q2]
theorem K2(hu:X.A.units+1<cLine)(hi:PE X i ty)(ho:PE X o td):PC X .NotIn i o (QS ty td):=by intro pins s σ H Q I h;refine fV (hi pins s σ H _ I h) λiv s1 #[y,H1,I1,ry,q1]=>fV (ho pins s1 σ H1 _ I1 q1) λu s2 #[x,H2,I2,rx,a,ov,ex,g,q2]=>?_;subst ex;obtain rfl:u=ck a:=rx;exact QR hu I2 g ry λs3 I3=>#[.bl (not ov.isSome),H2,I3,Y,q2]
theorem zc(hu:X.A.units+1<cLine)(ho:PE X o td)(hi:PE X i ty)(hv:PE X value tv)(hs:CN X pos value (.Subscript o i pos')):
  PS X (.Assign [.Subscript o i pos'] value pos) (Yz td ty tv):=by intro pins s σ H D I h;refine wpAny_Assign_Subscript (fV (hv pins s σ H _ I h) λr s1 #[v,H1,I1,rv,q1]=>fV (ho pins s1 σ H1 _ I1 q1) λu s2 #[x,H2,I2,rx,q2]=>fV (hi pins s2 σ H2 _ I2 q2) λiv s3 #[y,H3,I3,ry,a,H4,ex,g,q3]=>?_) hs;subst ex;obtain rfl:u=ck a:=rx;exact K1 hu I3 g ry rv λs4 I4=>#[σ,H4,I4,q3]
end
theorem EA(h:dv)(hb:sysModules<h.objs.size):gf P w H (h.push { cls:=.type "dict",data:=.dict #[] }) h.objs.size (.dK []):=
 #[aY _,beq_eq_false_iff_ne.mpr (bD (aZ hb)),[],.nil,dv.DictOf.new h]
theorem Nc(h:dv)(hb:sysModules<h.objs.size):gf P w H (h.push { cls:=.type "dict",data:=.dict #[] }) h.objs.size (.dT []):=
 #[aY _,beq_eq_false_iff_ne.mpr (bD (aZ hb)),[],.nil,_,#[],0,aV _ Y,#[Y,Y,Y],Y,Y,gX]
def Vi:TE:=λ_ H Q=>∀p,H p=none->Q (.ref p) (upd H p (.dK []))
def Vj:TE:=λ_ H Q=>∀p,H p=none->Q (.ref p) (upd H p (.dT []))
section
theorem sH:PE X (.Dict [] [] pos) Vi:=λpins s σ H Q I h=>wpAny_Dict_empty #[.ref s.heap.objs.size,_,I.laid (λ_ _ q=>av _ q) () (EA s.heap I.big),Y,h _ (I.hok.fresh ())]
theorem EB:PE X (.Dict [] [] pos) Vj:=λpins s σ H Q I h=>wpAny_Dict_empty #[.ref s.heap.objs.size,_,I.laid (λ_ _ q=>av _ q) () (Nc s.heap I.big),Y,h _ (I.hok.fresh ())]
end
def Dc:!(TE×TE)->St->Hp->(!(V×V)->Hp->Prop)->Prop
 | [],_,H,Q=>Q [] H
 |(tk,tv)::r,σ,H,Q=>tk σ H λx H1=>tv σ H1 λy H2=>Dc r σ H2 λps H3=>Q ((x,y)::ps) H3
abbrev VV:!(V×V)->!(M×M)->Prop:=wK λp q=>RelV p.1 q.1/\RelV p.2 q.2
def YB(X:Cx)(pos:Pos)(keys:!(Option bY))(values:!bY)(MB:!(TE×TE)):Prop:=
 ∀(pins:!(J×Obj))(s:aU)(σ:St)(H:Hp)(Q:!(V×V)->Hp->Prop),Inv X pins σ H s->Dc MB σ H Q->
  wpAny (model X.prog X.w) X.A (evalPairs (pairTrees keys values X.env pos)) (λvs s'=>∃ps H',Inv X pins σ H' s'/\VV ps vs/\Q ps H') X.xe s
theorem QT:YB X pos [] [] []:=λpins s σ H Q I h=>pairTrees_nil_walk #[[],H,I,.nil,h]
theorem Nf(hk:PE X k tk)(hv:PE X v tv)(hr:YB X pos ks vs MB):
  YB X pos (some k::ks) (v::vs) ((tk,tv)::MB):=λpins s σ H Q I h=>
 pairTrees_cons_walk (fV (hk pins s σ H _ I h) λu s1 #[x,H1,I1,rx,q1]=>fV (hv pins s1 σ H1 _ I1 q1) λw2 s2 #[y,H2,I2,ry,q2]=>fV (hr pins s2 σ H2 _ I2 q2) λws s3 #[ps,H3,I3,rel,q3]=>#[_,H3,I3,.cons #[rx,ry] rel,q3])
def sI(kvs more:!(Key×V)):!(Key×V):=more.foldl (λacc kv=>putK acc kv.1 kv.2) kvs
theorem KV.merge:∀{more:!(Key×V)}{rs:!(Key×M)}{kvs:!(Key×V)}{vs:!(Key×M)},KV more rs->KV kvs vs->KV (sI kvs more) (merged vs rs):=by
 intro more rs kvs vs r;induction r generalizing kvs vs with
 |nil=>intro q;exact q
 | @cons p q ps qs h t ih=>
  intro r0;let e:KV (putK kvs p.1 p.2) (stored vs q.1 q.2):=by let:=r0.put p.1 h.2;rwa[<-h.1]
  exact ih e
theorem uJ:∀(more kvs:!(Key×V)),(sI kvs more).length<=kvs.length+more.length
 | [],kvs=>by show kvs.length<=kvs.length+0;omega
 |p::r,kvs=>by let h1:=uJ r (putK kvs p.1 p.2);let h2:=mO kvs p.1 p.2;show(sI (putK kvs p.1 p.2) r).length<=_;rw[bj];omega
theorem zN:∀{kvs:!(Key×V)}{ws:!(M×M)},VV (kvs.map λkv=>(kV kv.1,kv.2)) ws->∃rs,Carries (eB P w) ws rs/\KV kvs rs
 | [],_,r=>by rw[eC]at r;cases r;exact#[[],fQ,.nil]
 |p::kvs,_,r=>by
  cases r with
  | @cons a b as bs h t=>obtain⟨rs,c,q⟩:=zN t;obtain⟨b1,b2⟩:=b;exact#[(p.1,b2)::rs,#[sF h.1,Y,c],.cons #[Y,h.2] q]
def YC(MB:!(TE×TE)):TE:=λσ H Q=>∀p,H p=none->Dc MB σ (upd H p (.dK [])) λps H2=>H2 p>>(.dK [])/\∃kvs:!(Key×V),ps=kvs.map (λkv=>(kV kv.1,kv.2))/\kvs.length<=15/\Q (.ref p) (upd H2 p (.dK (sI [] kvs)))
theorem QV(h:YB X pos keys values MB)(Eu:keys.all (·.isSome)=true)(hl:keys.length=values.length)(h0:keys≠[])
  (h15:keys.length<=15):PE X (.Dict keys values pos) (YC MB):=by
 intro pins s σ H Q I q;let I1:=I.laid (t':=s.toks) (λ_ _ q=>av _ q) () (EA s.heap I.big);refine wpAny_Dict_walk (knd:=eB X.prog X.w) Eu hl h0 h15 (fV (h pins _ σ _ _ I1 (q _ (I.hok.fresh (aE s.heap.objs.size)))) λws s2 #[ps,H2,I2,rel,e,kvs,ep,lk,q2]=>?_);subst ep;obtain⟨rs,c,rk⟩:=zN rel;obtain⟨z,hd,vs0,r0,dd⟩:=Ex I2.hok e;cases r0;refine#[rs,c,dd,λh' Jr hs=>#[.ref s.heap.objs.size,_,?_,Y,q2]];let hz:(sI [] kvs).length<=sizeLine:=by let h1:=uJ kvs [];rw[cx]at h1;rw[cL];omega
 let he:∃q,h'.get? s.heap.objs.size>>q:=let#[q,_,_,hq,_]:=Jr;#[q,hq];exact za I2 ([e]▸fQ) hs he (zM hz hd (rk.merge .nil) Jr)
structure M2(X:Cx)(o:bY)(m:O)(apos:Pos)(e f:bY)(k6:Pos):Prop where
 base:y6 X o m
 few:Mx X k6 [e,f]
 line:(apos.endLine==k6.line)=true
 trees:backTo k6 (starEach [e,f] X.env)=[(false,eval e X.env),(false,eval f X.env)]
def IsD(H:Hp)(a:J):Prop:=(∃kvs,Rd H a (.dK kvs))\/∃kvs,Rd H a (.dT kvs)
theorem Ng{σ:St}(I:Inv X pins σ H s)(d:IsD H a):
  s.TypeIs (.ref a) "dict"/\(∀b,ck a=.ref b->∃ob,s.heap.get? b>>ob/\ob.dict=none)/\(a==sysModules)=false:=by
 rcases d with⟨kvs,e⟩|⟨kvs,e⟩
 .let#[_,hd,vs,_,dd]:=x9 I.hok e;refine#[dd.typeIs,λb q=>?_,hd];cases q;let#[ob,_,_,h1,h2,_]:=dd;exact#[ob,h1,h2.2.1]
 .let#[_,hd,xs,_,dd]:=yb I.hok e;refine#[dd.typeIs,λb q=>?_,hd];cases q;let#[ob,_,_,h1,h2,_]:=dd;exact#[ob,h1,h2.2.1]
section
variable{X:Cx}{d:V}{o:Option V}
theorem Vk{a:J}{H:Hp}{pins:!(J×Obj)}{s:aU}{y:V}{u r:M}{σ:St}{A:g7}{E:M->aU->Prop}(hu:A.units+1<cLine)(I:Inv X pins σ H s)(g:sG H a y o)(ry:RelV y u)(rd:RelV d r)(h:∀w' s',Inv X pins σ H s'->RelV (o.getD d) w'->Q w' s'):
  wpAny (model X.prog X.w) A (call (.builtin "dict.get") [.ref a,u,r]) Q E s:=by
 rcases g with⟨kvs,k,e,ey,l⟩|⟨kvs,k,b,e,ey,eb,l⟩
 .subst ey;let#[z,hd,vs,rel,dd]:=x9 I.hok e;refine call_meetsIn rN dd.typeIs CK (Bz _ _ _) (meets_dict_get_default _ a (sF ry) hd r) #[_,dd.mapOf,h _ _ (I.tok _) ?_];rw[l];exact(rel.val k).getD rd
 .subst ey
  cases(show u=ck b from ry)
  let#[z,hd,xs,rel,dd]:=yb I.hok e;refine call_meetsIn rN dd.typeIs CK (Bz _ _ _) (meetsH_dict_get_default (tupleKind _) a b hd r) #[jL hu,k,xs,xh I.hok eb,dd,h _ _ (I.tok _) ?_];rw[l];exact(rel.val k).getD rd
end
def Vl(td ty tx:TE):TE:=λσ H Q=>td σ H λx H1=>∃a,x=.ref a/\IsD H1 a/\ty σ H1 λy H2=>tx σ H2 λz H3=>∃o,sG H3 a y o/\Q (o.getD z) H3
section
variable{o e f:bY}{apos k6:Pos}{td ty tx:TE}
theorem Nh{X:Cx}(hu:X.A.units+1<cLine)(ho:PE X o td)(he:PE X e ty)(hf:PE X f tx)(m:M2 X o "get" apos e f k6):PE X (.Call (.Attribute o "get" apos) [e,f] [] k6) (Vl td ty tx):=by
 intro pins s σ H Q I h;refine rU m.base m.few m.line BD rN PySem.F.type_dict_get (fV (ho pins s σ H _ I h) λu s1 #[x,H1,I1,rx,a,ex,d,q1]=>?_);subst ex;obtain rfl:u=ck a:=rx;let#[t1,t2,_]:=Ng I1 d;refine#[t1,t2,?_];rw[m.trees];refine rM Y (uA (k0 (fV (he pins s1 σ H1 _ I1 q1) λiv s2 #[y,H2,I2,ry,q2]=>k0 (fV (hf pins s2 σ H2 _ I2 q2) λfv s3 #[z,H3,I3,rz,ov,g,q3]=>wL ?_))));exact Vk hu I3 g ry rz λw' s4 I4 pZ=>#[_,H3,I4,pZ,q3]
end
section
variable{X:Cx}{H:Hp}{kvs:!(Key×V)}
theorem Ni{a:J}{pins:!(J×Obj)}{s:aU}{σ:St}{A:g7}{E:M->aU->Prop}(I:Inv X pins σ H s)(e:Rd H a (.dK kvs))(h:∀p s',H p=none->Inv X pins σ (upd H p (.dK kvs)) s'->Q (.ref p) s'):wpAny (model X.prog X.w) A (call (.type "dict") [.ref a]) Q E s:=by let#[z,hd,vs,rel,dd]:=x9 I.hok e;refine kt_call_dict hd dd ([<-rel.length]▸z) λh' Jr hs=>?_;refine h _ _ (I.hok.fresh (aE _)) (I.laid (a:=s.heap.objs.size) (o:=.dK kvs) (t':=s.toks) (λb q hq=>?_) (aE _) (zM z (beq_eq_false_iff_ne.mpr (bD (aZ I.big))) rel Jr));exact(hs.2 b (aZ (aX hq))).trans (av _ hq)
end
section
variable{prog:bW}{w:cP}
theorem Nj{P:Nat->M->Prop}{A:g7}{R:GA->aU->Prop}{I:J}{fp wr:!J}{G:Array A5->Array A5->Prop}{n:Nat}{St:Nat->aU->Prop}(W:WalksS prog w A.in1 I fp wr G n P St)(S:J)(Vm:S∉fp)(T:Nat->dv->Prop)(keep:∀i h h',T i h->(∀b o,b∉wr->h.get? b>>o->h'.get? b>>o)->T i h')
  (add:∀i v (s:aU) (Q:Bool->aU->Prop) (E:M->aU->Prop),i<n->P i v->T i s.heap->(∀h' tk b,s.toks<=tk->dA S s.heap h'->T (i+1) h'->Q b { s with heap:=h',toks:=tk })->wpAny (model prog w) A.in1 (setAdd S v) Q E s):
  ∀(k i:Nat)(s:aU),n-i=k->i<=n->St i s->T i s.heap->(∀s',Moved (S::wr) G s s'->T n s'.heap->R (.ok (.ret .none)) s')->
   codeAny (model prog w) A (.builtin "set.update.loop" #[[.ref S,.ref I],[]]) R s:=by
 let Hi:∀b∈wr,b∈S::wr:=λb hb=>aD _ hb;intro k;induction k with
 |zero=>intro i s hk hi KC hS hR;let Xe:i=n:=();subst Xe;refine lI I0 ?_;exact L (W.done s _ _ KC λs' hm=>(aM (hR s' (hm.mono Hi) (keep _ _ _ hS λb o hb e=>hm.heap b o hb e))))
 |succ k ih=>
  intro i s hk hi KC hS hR;let ng:i<n:=();refine lI I0 ?_;refine L (W.item i s _ _ ng KC λv s' hP Vn hm=>?_);refine L (hV ?_);refine add i v s' _ _ ng hP (keep _ _ _ hS λb o hb e=>hm.heap b o hb e) λh' tk b Xb Vo hT=>?_;refine aM #[yW F.plain_set_update_loop _,ih (i+1) _ () ng (W.frame _ s' _ _ Vn Xb λb hb o e=>?_) hT λTd Vp Vq=>?_]
  .rwa[Vo.2 b (λh:b=S=>Vm ([<-h]▸hb))]
  .refine hR Td (Moved.trans W.gtrans ((hm.mono Hi).then_heap Xb λb o hb e=>?_) Vp) Vq;rwa[Vo.2 b (λh:b=S=>hb ([h]▸aB))]
end
section
abbrev jP(led:Bool):Obj:={ cls:=.type "set",dict:=none,data:=.set #[] 0 (.fresh 0 0 led) }
end
end L2
namespace L2
open PySem
end L2
namespace L2
open PySem PySem.Spec PyProof.Rows
variable{a:J}{b k1 k2:Bool}{op:CmpOp}{X:Cx}{env:Env}{o:HO}{H H' H0:Hp}{g:Int->Int->Int}{cl:!(O×J)}{elts:!bY}{cap:!Nat}{R:!U->!U->Prop}{own:!O}{xs:!V}{r:!V->Hp->VK->Prop}{i n:Nat}{p p2 pos tp:Pos}{P:bW}{d:U}{K:ai}{sc:nT}{s:aU}{σ:St}{x:O}{id:String}{w:cP}
abbrev QW:M->aU->Prop:=λ_ _=>False
abbrev testsOf(ifs:!bY)(env:Env):Sem Bool:=
 forIn ifs true λc r=>if r=true then(do let ok <-isTrue c env (eval c env);pure (qp ok))else pure (qp r)
theorem K3{A:g7}{R:GA->aU->Prop}{elt tg iter:bY}{ifs:!bY}{it acc:M}(Ja:Nat->aU->Prop)
  (turn:∀n s,Ja n s->wpAny (model P w) A (pyNext it) (λr s1=>match r with
   |none=>R (.ok .next) s1
   |some v=>wpAny (model P w) A (letOwnedTupleGo tg it v) (λ_ s2=>wpAny (model P w) A (assign tg env v) (λ_ s3=>
     wpAny (model P w) A (testsOf ifs env) (λok s4=>if ok=true then wpAny (model P w) A (eval elt env) (λx s5=>
       wpAny (model P w) A (call (.builtin "list.append") [acc,x]) (λ_ s6=>∃m,m<n/\Ja m s6) QW s5) QW s4
      else ∃m,m<n/\Ja m s4) QW s3) QW s2) QW s1) QW s)
  (h:Ja n s):codeAny (model P w) A (.compLoop (.ListComp elt [#[tg,iter,ifs,0]] sc pos) 0 it acc env) R s:=by
 refine codeAny_loop Y Ja (λn s hJ=>?_) n h;refine wpAny_noted ?_;refine L (rX (L (iw (turn n s hJ) (λr s1 h1=>?_) λ_ _ f=>f.elim)));cases r with
 |none=>exact aM h1
 |some v=>
  refine L (iw h1 (λ_ s2 h2=>?_) λ_ _ f=>f.elim);refine L (iw h2 (λ_ s3 h3=>?_) λ_ _ f=>f.elim);refine L (iw h3 (λok s4 h4=>?_) λ_ _ f=>f.elim);cases ok with
  |false=>exact aM #[Y,h4]
  |true=>exact L (L (iw h4 (λx s5 h5=>(L (iw h5 (λ_ s6 h6=>aM (aM #[Y,h6])) λ_ _ f=>f.elim))) λ_ _ f=>f.elim))
def p9(env:Env):!(O×oQ)->!(O×J)->Option (!(O×J))
  | [],acc=>some acc
  | (n,k)::r,acc=>if(k==dI)=true then(match env.cells.lookup n with
      | some c=>p9 env r ((n,c)::acc)
      | none=>none)else p9 env r acc
theorem Dd(env:Env):∀(names:!(O×oQ))(acc cl:!(O×J)),p9 env names acc>>cl->
  (forIn names acc λ(x:O×oQ)(r:!(O×J))=>if(x.2==dI)=true then(do let c <-cellOf env x.1;pure (qp ((x.1,c)::r)))else pure (qp r):Sem (!(O×J)))=pure cl
 | [],acc,cl,h=>by simp[p9,eY]at h;subst h;rfl
 |(n,k)::r,acc,cl,h=>by
  rw[List.forIn_cons];unfold p9 at h;by_cases hk:(k==dI)=true
  .rw[qQ3 hk]at h;rw[qQ3 (show((n,k).2==dI)=true from hk)];cases e:env.cells.lookup n with
   |none=>rw[e]at h;cases h
   |some c=>
    rw[e]at h;let e2:cellOf env (n,k).1=pure c:=by unfold cellOf;rw[show k7 (n,k).1 env.cells>>c from e]
    rw[e2,pure_bind,pure_bind];exact Dd env r _ cl h
  .rw[qQ2 hk]at h;rw[qQ2 hk,pure_bind];exact Dd env r acc cl h
theorem Jt(h:p9 env sc.names []>>cl):closureFor sc env=pure cl:=by unfold closureFor;let:=Dd env sc.names [] cl h;simp only[bind_pure];exact this
theorem vX:∀{names:!(O×oQ)}{acc cl:!(O×J)},p9 env names acc>>cl->(∀x c,acc.lookup x>>c->env.cells.lookup x>>c)->∀x c,cl.lookup x>>c->env.cells.lookup x>>c
 | [],acc,cl,h,ha=>by simp[p9,eY]at h;subst h;exact ha
 |(n,k)::r,acc,cl,h,ha=>by
  unfold p9 at h;by_cases hk:(k==dI)=true
  .rw[qQ3 hk]at h;cases e:env.cells.lookup n with
   |none=>rw[e]at h;cases h
   |some c=>
    rw[e]at h;refine vX h λx d hx=>?_;rw[dR]at hx;cases hxn:x==n with
    |true=>
     rw[hxn]at hx;let:x=n:=by simpa using hxn
     subst this;rwa[e]
    |false=>rw[hxn]at hx;exact ha x d hx
  .rw[qQ2 hk]at h;exact vX h ha
theorem vY:∀{names:!(O×oQ)}{acc cl:!(O×J)},p9 env names acc>>cl->∀x,((x,dI)∈names\/∃c,acc.lookup x>>c)->∃c,cl.lookup x>>c
 | [],acc,cl,h,x,hx=>by
  simp[p9,eY]at h;subst h;rcases hx with hx|hx
  .exact qQ7 hx ∅
  .exact hx
 |(n,k)::r,acc,cl,h,x,hx=>by
  unfold p9 at h;by_cases hk:(k==dI)=true
  .rw[qQ3 hk]at h;cases e:env.cells.lookup n with
   |none=>rw[e]at h;cases h
   |some c=>
    rw[e]at h;refine vY h x ?_;rcases hx with hx|⟨d,hx⟩
    .rcases au.mp hx with hx|hx
     .cases hx;exact .inr #[c,by simp[dR]]
     .exact .inl hx
    .refine .inr ?_;rw[dR];cases hxn:x==n with
     |true=>exact#[_,Y]
     |false=>exact#[d,hx]
  .rw[qQ2 hk]at h;refine vY h x ?_;rcases hx with hx|hx
   .rcases au.mp hx with hx|hx
    .cases hx;exact qQ7 Y hk
    .exact .inl hx
   .exact .inr hx
theorem vZ{env:Env}:∀{names:!(O×oQ)}{x:O},names.lookup x>>.free->
  (names.map λ(n,k)=>if(k==dI&&env.scope.kind == .function&&env.kindOf n==some .cell) then(n,lN) else(n,k)).lookup x>>.cell\/
   (names.map λ(n,k)=>if(k==dI&&env.scope.kind == .function&&env.kindOf n==some .cell) then(n,lN) else(n,k)).lookup x>>.free
 | [],x,h=>by simp at h
 |(n,k)::r,x,h=>by
  let ih:=@vZ env r x;rw[ao];dsimp only;by_cases hb:(k==dI&&env.scope.kind == .function&&env.kindOf n==some .cell)=true
  .rw[qQ3 hb];cases hx:x==n with
   |true=>simp[dR,hx]
   |false=>simp only[dR,hx]at h ⊢;exact ih h
  .rw[qQ2 hb];cases hx:x==n with
   |true=>simp[dR,hx]at h ⊢;exact .inr h
   |false=>simp only[dR,hx]at h ⊢;exact ih h
theorem yc{env:Env}:∀{names:!(O×oQ)}{x:O},(∀y∈names,y.2≠lN)->
  ((names.map λ(n,k)=>if(k==dI&&env.scope.kind == .function&&env.kindOf n==some .cell) then(n,lN) else(n,k)).lookup x>>.cell\/
   (names.map λ(n,k)=>if(k==dI&&env.scope.kind == .function&&env.kindOf n==some .cell) then(n,lN) else(n,k)).lookup x>>.free)->(x,dI)∈names
 | [],x,_,h=>by simp at h
 |(n,k)::r,x,hc,h=>by
  let ih:=@yc env r x λy hy=>hc y (aD _ hy);let hk0:=hc (n,k) aB;rw[ao]at h;dsimp only at h;by_cases hb:(k==dI&&env.scope.kind == .function&&env.kindOf n==some .cell)=true
  .let hk:k=dI:=by simp only[gT]at hb;simpa using hb.1.1
   rw[qQ3 hb]at h;cases hx:x==n with
   |true=>
    let:x=n:=by simpa using hx
    subst this;rw[hk];exact aB
   |false=>simp only[dR,hx]at h;exact aD _ (ih h)
  .rw[qQ2 hb]at h;cases hx:x==n with
   |true=>
    let:x=n:=by simpa using hx
    subst this;simp[dR,beq_self_eq_true,eY]at h;rcases h with h|h
    .exact qQ7 h hk0
    .rw[h];exact aB
   |false=>simp only[dR,hx]at h;exact aD _ (ih h)
def eZ(X:Cx)(sc:nT)(N:!O)(cl:!(O×J))(fp:!J)(s:aU)(H:Hp):Cx where
 prog:=X.prog
 w:=X.w
 K:=X.K
 mg:=X.mg
 base:=X.base
 A:=X.A
 N:=N
 s₀:=s
 H₀:=H
 env:=compEnvC sc cl s.heap.objs.size X.env
 outer:=X.stack
 stack:=X.stack
 ex:=fp
 fn:=λ_=>false
 calm:=X.calm
 pn:=[]
 xe:=QW
structure iM(X:Cx)(sc:nT)(own:!O)(cap:!Nat)(N:!O)(cl:!(O×J)):Prop where
 kind:sc.kind=.function
 Nk:∀y∈sc.names,y.2≠lN
 loc:∀y∈sc.names,y.2=.local->sc.names.lookup y.1>>.local
 clos:p9 X.env sc.names []>>cl
 names:N=own++cap.map λi=>X.N.getD i fW
 YD:∀i∈cap,i<X.N.length/\(X.env.kindOf (X.N.getD i fW)>>.cell\/X.env.kindOf (X.N.getD i fW)>>.free)/\sc.names.lookup (X.N.getD i fW)>>.free
def kP(own:!O)(cap:!Nat)(σ:St):St:=bo own.length none++cap.map λi=>σ.getD i none
section
variable{s:aU}
theorem Nn(CS:iM X sc own cap N cl)(I:Inv X pins σ H s)(T:Turn X.prog X.w X.K tg Ja fp it tn)(st:tn 0 s.heap)(hf:∀b∈fp,uD X pins H b)
  (D:J)(hD:D=s.heap.objs.size)(s3:aU)(h3:s3={ s with heap:=s.heap.push { cls:=.type "list",dict:=none,data:=.seq ([]:!M).toArray } })
  (M9:h4.Ns s3.heap.objs.size (λ_=>none))(hk:∀b o,s3.heap.get? b>>o->h4.get? b>>o):
  Inv (eZ X sc N cl fp s3 (upd H D (.lst []))) [] (kP own cap σ) (upd H D (.lst [])) { s3 with heap:=h4,toks:=t4 }:=by
 subst hD;let k3:∀b o,s.heap.get? b>>o->s3.heap.get? b>>o:=λb o e=>[h3]▸av _ e;let z3:s3.heap.objs.size=s.heap.objs.size+1:=[h3]▸gW ..;let I3:Inv X pins σ (upd H s.heap.objs.size (.lst [])) s3:=by rw[h3];exact I.laid (λb o e=>av _ e) () #[aY _,[],0,.nil,aV _ Y]
 let QX:∀b∈fp,b<s.heap.objs.size:=λb hb=>by let#[o,e,_]:=T.obj 0 _ st b hb;exact aX e
 let QY:∀b,b<s.heap.objs.size->b≠s3.heap.objs.size:=λb hb=>[z3]▸aZ ();let qH:=vX CS.clos λx c h=>by simp at h
 let ok:(eZ X sc N cl fp s3 (upd H s.heap.objs.size (.lst []))).Ok:=by
  refine#[I.ok.mod,CS.kind,I.ok.glob,I.ok.blt,aE _,λx y c hx hy=>I.ok.inj x y c (qH x c hx) (qH y c hy),λx hx=>?_,λx c hx _=>qQ7 hx gV,I.ok.hd,I.ok.frames,.inl Y,λb hb=>#[?_,λx c hx=>?_],λb o e=>?_,?_,λb o e hb=>?_,λb hb hs=>?_,?_,?_]
  .exact vY CS.clos x (.inl (yc CS.Nk hx))
  .exact QY b (QX b hb)
  .exact(hf b hb).2.2.2.2.1 x c (qH x c hx)
  .exact I3.bs b o e
  .exact bZ I.ok.S5 (bZ I.sz (by show s.heap.objs.size<=s3.heap.objs.size;rw[z3];exact Nat.le_succ _))
  .rcases(hf b hb).2.2.2.1 with z|z
   .exact I.ok.MK b o e z
   .exact qQ7 (bX (aX (I.ok.bs b o e).1) z) ()
  .rcases au.mp (I.CQ b hs)with z|z
   .exact(hf b hb).2.1 z
   .exact(hf b hb).2.2.1 z
  .exact I3.stack
  .exact I3.Jg
 let frC:∀b,s.heap.objs.size<b->(upd H s.heap.objs.size (.lst [])) b=none:=λb hb=>by rw[aI (eG hb)];exact I.hok.fresh ()
 refine#[ok,?_,I3.bare,Un.kept hk,#[_,M9,λi x v e1 e2 e3=>?_],λx c hx=>?_,?_,λx c hx=>?_,λp hp=>qQ7 (show p∈([])from hp) ∅,I3.hok.kept hk,?_]
 .rfl
 .let Vr:=e2;let YF:N[i]?>>x:=e1;unfold kP at Vr;by_cases hi:i<own.length
  .rw[bN ↑hi,cK]at Vr;split at Vr<;>cases Vr
  .rw[bF ↑(eI hi),dY,ay]at Vr;rw[CS.names,bF (),ay]at YF;cases ec:cap[i-own.length]? with
   |none=>rw[ec]at YF;cases YF
   |some j=>
    rw[ec]at YF Vr;let ex:X.N.getD j fW=x:=by simpa using YF
    let ev:σ.getD j none>>v:=by simpa using Vr
    let#[hj,Es,Hj]:=CS.YD j (aF ec);rw[ex]at Es Hj;let#[m,hn,hl]:=I.loc;let hxj:X.N[j]?>>x:=by rw[<-ex,aQ,ax hj];rfl
    let hvj:σ[j]?>>(some v):=by let:j < σ.length:=[I.len]▸hj;rw[aQ,ax this]at ev;rw[ax this];exact qQ6 some ev
    let#[u,r,l]:=hl j x v hxj hvj (by
     rcases Es with z|z
     .exact .inr (.inl z)
     .exact .inr (.inr z));refine#[u,r,?_];rcases l with⟨k,_⟩|⟨k,c,e,z⟩
    .rcases Es with z|z<;>(rw[z]at k;cases k)
    .let#[c',ec']:=vY CS.clos x (.inl (iP Hj));let:c'=c:=by let:=qH x c' ec';rw[e]at this;exact(bK this).symm
     subst this;refine .inr #[?_,c',ec',?_]
     .exact vZ Hj
     .let#[o,ho,hd]:=z;exact#[o,hk _ _ (k3 _ _ ho),hd]
 .let#[v,o,ho,hd]:=I.cell x c (qH x c hx);exact#[v,o,hk _ _ (k3 _ _ ho),hd]
 .exact frC _ (by show s.heap.objs.size<s3.heap.objs.size;rw[z3];exact Nat.lt_succ_self _)
 .let#[v,o,ho,hd]:=I.cell x c (qH x c hx);rw[aI (aZ (aX ho))];exact I.og x c (qH x c hx)
 .show(kP own cap σ).length=N.length;unfold kP;rw[CS.names];simp
theorem Inv.oY{X:Cx}{H:Hp}{pins:!(J×Obj)}{σ:St}{h':dv}{t':Nat}{ch:!J}(I:Inv X pins σ H s)(k:∀b o,b∉ch->s.heap.get? b>>o->h'.get? b>>o)(hf:∀b∈ch,uD X pins H b):Inv X pins σ H { s with heap:=h',toks:=t' }:=by
 let XR:∀b u,H b>>u->b∉ch:=λb u e z=>by rw[(hf b z).1]at e;cases e
 refine I.step (λb hb=>#[(hf b hb).2.2.2.1,(hf b hb).2.1,(hf b hb).2.2.2.2.1,(hf b hb).2.2.2.2.2]) (λb o _ _ hc e _=>k b o hc e) (λb o _ _ hc e _=>#[o.slots,k b o hc e]) (λ_ _ _ _ n=>n)
  (λb o hc e=>#[o,k b o hc e]) (λ_ _ e=>e) (λ_ _ _ e=>e) (λb ps e=>#[#[],by rw[e];simp]) (λm hm=>?_) (λb u e=>?_) I.bare
 .let#[o,es,ep,ho,r]:=hm;exact#[o,es,ep,k _ o (λz=>(hf _ z).2.1 Y) ho,r]
 .refine(I.hok b u e).stay (λc v hc q=>k c v ?_ q) (λ_ q=>q) λ_ _ q=>q;rcases hc with z|z
  .rw[z];exact XR b u e
  .exact XR c _ z
theorem Inv.track(I:Inv X pins σ H s)(f:uD X pins H a)(new:gf X.prog X.w (upd H a o) s.heap a o):Inv X pins σ (upd H a o) s:=by
 let#[f0,f1,f2,f3,f4,f5]:=f;let ne:∀b u,H b>>u->b≠a:=λb u e=>bu e f0;refine#[I.ok,I.os,I.bare,#[I.base.keep,I.base.slot,λb ob e n hx=>?_,I.base.there,λb xs e=>?_,λb ob u e=>?_,λb ps e=>?_],I.loc,I.cell,?_,λx c e=>?_,λp hp=>?_,λb u e=>?_,I.len]
 .let nb:b≠a:=λz=>by
   subst z;rcases f3 with z|z
   .exact hx z
   .exact qQ7 (bX (aX e) z) ()
  rw[aI nb];exact I.base.free b ob e n hx
 .let q:=I.base.tups b xs e;rwa[aI (ne _ _ q)]
 .let q:=I.base.sx b ob u e;rwa[aI (ne _ _ q)]
 .let#[more,q]:=I.base.yH b ps e;exact#[more,[aI (ne _ _ q)]▸q]
 .rw[aI (bD f1)];exact I.free
 .rw[aI (f4 x c e)];exact I.og x c e
 .let#[e,n,r]:=I.pin p hp;exact#[e,[aI (f5 p hp)]▸n,r]
 .by_cases hb:b=a
  .subst hb;rw[aP]at e;cases e;exact new
  .rw[aI hb]at e;exact(I.hok b u e).stay (λ_ _ _ q=>q) (λc q=>[aI (ne _ _ q)]▸q) λc xs q=>[aI (ne _ _ q)]▸q
end
def YG(X:Cx)(ifs:!bY)(t:TT):Prop:=
 ∀(pins:!(J×Obj))(s:aU)(σ:St)(H:Hp)(Q:Bool->Hp->Prop),Inv X pins σ H s->t σ H Q->wpAny (model X.prog X.w) X.A (testsOf ifs X.env) (TP X pins σ Q) X.xe s
def K4:TT:=λ_ H Q=>Q true H
theorem De:YG X [] K4:=λ_ _ _ H _ I h=>wpAny_tests_nil #[H,I,h]
theorem QZ(h:PT X c t):YG X [c] t:=λpins s σ H Q I q=>wpAny_tests_one (h pins s σ H Q I q)
def xi(Ja:It)(g:TG)(tc:TT)(te:TE)(σ:St)(H:Hp)(Q:VK):Prop:=
 ∀D,H D=none->∃W:Nat->Nat->!V->St->Hp->Prop,(∃m,W 0 m [] σ (upd H D (.lst [])))/\∀i m ys σ' H',W i m ys σ' H'->
  (Ja.stop i H'/\Q (.ref D) H')\/(Ja.go i H'/\∀x H2,Ja.X4 i H' x H2->g x σ' H2 λσ3 H3=>tc σ3 H3 λb H4=>if b=true then te σ3 H4 λy H5=>
   H5 D>>(.lst ys)/\ys.length<sizeLine/\∃m',m'<m/\W (i+1) m' (ys ++ [y]) σ3 (upd H5 D (.lst (ys ++ [y])))else ∃m',m'<m/\W (i+1) m' ys σ3 H4)
def Nq(own:!O)(cap:!Nat)(wi:TI)(g:TG)(tc:TT)(te:TE):TE:=λσ H Q=>wi σ H λJa H1=>xi Ja g tc te (kP own cap σ) H1 Q
section
variable{X:Cx}{σ:St}{sc:nT}{own N:!O}{cap:!Nat}{cl:!(O×J)}{tg elt iter:bY}{ifs:!bY}{it:J}{g:TG}{tc:TT}{te:TE}{wi:TI}{pos:Pos}
theorem BW{H:Hp}{pins:!(J×Obj)}{s:aU}{fp:!J}{Ja:It}{tn:Nat->dv->Prop}{RR:M->J->GA->aU->Prop}{E:M->aU->Prop}{Q:VK}(hc:X.calm=true)(CS:iM X sc own cap N cl)(I:Inv X pins σ H s)(T:Turn X.prog X.w X.K tg Ja fp it tn)(st:tn 0 s.heap)(hf:∀b∈fp,uD X pins H b)
  (hg:∀f s3 H3,PG (eZ X sc N cl f s3 H3) tg g)(ht:∀f s3 H3,YG (eZ X sc N cl f s3 H3) ifs tc)(he:∀f s3 H3,PE (eZ X sc N cl f s3 H3) elt te)
  (h:xi Ja g tc te (kP own cap σ) H Q)
  (fin:∀D C H' s',Inv X pins σ H' s'->(∃m,s'.heap.Ns C m)->uD X pins H' C->Q (.ref D) H'->RR (.ref D) C (.ok .next) s'):
  wpAny (model X.prog X.w) X.A (newList []) (λacc s₃=>wpAny (model X.prog X.w) X.A (newFunctionEnv sc X.env.globals cl [] X.env.qual none .none (some X.env)) (λYH s₄=>
   codeAny (model X.prog X.w) X.A (.compStart (.ListComp elt [#[tg,iter,ifs,0]] sc pos) 0 (.ref it) acc { YH with scope:=relabel sc X.env }) (RR acc YH.locals) s₄) E s₃) E s:=by
 refine cR (wpAny_newFunctionEnv CS.Nk (λy hy=>qQ7 hy ∅) (λh4 M9 Vo=>?_) CS.kind);let hD:=I.fresh;let#[W,#[m0,w0],turn]:=h s.heap.objs.size hD;generalize hs3:({ s with heap:=s.heap.push { cls:=.type "list",dict:=none,data:=.seq ([]).toArray } })=s3 at *;let h3:=hs3.symm;let z3:s3.heap.objs.size=s.heap.objs.size+1:=[h3]▸gW ..;let k3:∀b o,s.heap.get? b>>o->s3.heap.get? b>>o:=λb o e=>[h3]▸av _ e;let k4:=λb o e=>Vo.extBut b o (aZ (aX e)) (av _ e);let QX:∀b∈fp,b<s.heap.objs.size:=λb hb=>by let#[o,e,_]:=T.obj 0 _ st b hb;exact aX e
 let Ic:=λt4=>
  Nn (t4:=t4) CS I T st hf _ Y s3 h3 ↑M9 k4;let st4:=T.keep _ _ _ st λb hb o e=>k4 b o (k3 b o e);let fr4:∀b∈fp,(upd H s.heap.objs.size (.lst [])) b=none:=λb hb=>by
  rw[aI (aZ (QX b hb))];exact(hf b hb).1
 let stat:∀{H':Hp},(∀b∈fp,H' b=none)->∀b∈fp,uD (eZ X sc N cl fp s3 (upd H s.heap.objs.size (.lst []))) [] H' b:=λ{H'}hn b hb=>by
  refine#[hn b hb,?_,λhs=>?_,.inl hb,λx c hx=>?_,λp hp=>qQ7 (show p∈([])from hp) ∅]
  .show b≠s3.heap.objs.size;rw[z3];exact aZ (qu (QX b hb))
  .rcases au.mp (I.CQ b hs)with z|z
   .exact(hf b hb).2.1 z
   .exact(hf b hb).2.2.1 z
  .exact(hf b hb).2.2.2.2.1 x c (vX CS.clos (λx c h=>by simp at h) x c hx)
 let loop:∀s5:aU,(∃t4,s5={ s3 with heap:=h4,toks:=t4 })->codeAny (model X.prog X.w) X.A (.compLoop (.ListComp elt [#[tg,iter,ifs,0]] sc pos) 0 (.ref it) (.ref s.heap.objs.size) (compEnvC sc cl s3.heap.objs.size X.env))
   (RR (.ref s.heap.objs.size) s3.heap.objs.size) s5:=by
  rintro s5 ⟨t4,rfl⟩;refine K3 (λn s'=>∃i ys σ' H',Inv _ [] σ' H' s'/\tn i s'.heap/\(∀b∈fp,H' b=none)/\W i n ys σ' H') ?_
   #[0,[],_,_,Ic t4,st4,fr4,w0];rintro n s' ⟨i,ys,σ',H',I',vU,fr',w'⟩;rcases turn i n ys σ' H' w' with⟨stop,q⟩|⟨go,step⟩
  .refine fV (T.done (eZ X sc N cl fp s3 _) Y Y Y hc i [] s' σ' H' QW I' (stat fr') vU stop) λr s6 #[hr,I6]=>?_;subst hr;let bs:=I6.base;let un:Un (Mw X.stack) fp H H' s.heap s6.heap:=by
    let neD:∀b o,s.heap.get? b>>o->b≠s.heap.objs.size:=λb o e=>aZ (aX e);refine#[λb o e n hb hx=>bs.keep b o (k3 b o e) (by show upd H _ _ b=none;rw[aI (neD b o e)];exact n) hb hx,λb o e n hb hx=>bs.slot b o (k3 b o e) (by show upd H _ _ b=none;rw[aI (neD b o e)];exact n) hb hx,
     λb o e n hx=>bs.free b o (k3 b o e) (by show upd H _ _ b=none;rw[aI (neD b o e)];exact n) hx,λb o e hx=>bs.there b o (k3 b o e) hx,
     λb xs e=>bs.tups b xs (by show upd H _ _ b=_;rw[aI (bu e hD)];exact e),λb o u e=>bs.sx b o u (by show upd H _ _ b=_;rw[aI (bu e hD)];exact e),λb ps e=>bs.yH b ps (by show upd H _ _ b=_;rw[aI (bu e hD)];exact e)]
   let I7:=I.call' (by rw[I6.os];show s3.os=s.os;rw[h3]) un I6.hok I6.bare λb hb=>#[(hf b hb).2.2.2.1,(hf b hb).2.1,(hf b hb).2.2.2.2.1,(hf b hb).2.2.2.2.2];let#[mC,nC,_]:=I6.loc;exact fin _ _ H' s6 I7 #[mC,nC] (I.uE ([z3]▸Nat.le_succ _) I6.free) q
  .refine fV (T.item (eZ X sc N cl fp s3 _) Y Y Y hc i [] s' σ' H' QW I' (stat fr') vU go) λr s6 #[u,hr,h6]=>?_;subst hr;refine fV h6 λ_ s7 #[x,H7,I7,r7,y7,st7,fr7]=>?_;let back:∀{σ8:St}{H8:Hp}{s8:aU},Inv (eZ X sc N cl fp s3 (upd H s.heap.objs.size (.lst []))) ([]++CY fp s7.heap) σ8 H8 s8->tn (i+1) s8.heap/\∀b∈fp,H8 b=none:=λ{σ8 H8 s8}I8=>by refine#[T.keep _ _ _ st7 λb hb o e=>(I8.pin (b,o) (bt _ (bt _ (qD hb e)))).1,λb hb=>?_];let#[o,e,d]:=T.obj _ _ st7 b hb;exact(I8.pin (b,o) (bt _ (bt _ (qD hb e)))).2.1
   refine fV (hg _ _ _ _ s7 σ' H7 x u _ (I7.pinned (stat fr7) (T.obj _ _ st7)) r7 (step x H7 y7)) λ_ s8 #[σ8,H8,I8,q8]=>?_;refine fV (ht _ _ _ _ s8 σ8 H8 _ I8 q8) λok s9 #[H9,I9,q9]=>?_;cases ok with
   |false=>let#[m',hm,w9]:=q9;exact#[m',hm,i+1,ys,σ8,H9,I9.sA,(back I9).1,(back I9).2,w9]
   |true=>refine fV (he _ _ _ _ s9 σ8 H9 _ I9 q9) λxv s10 #[y,H10,I10,r10,Xf,hz,m',hm,w10]=>?_;refine fV (lS _ s10 σ8 H10 (.ref s.heap.objs.size) [y] _ [xv] (λ_ wJ=>wJ=upd H10 s.heap.objs.size _) I10 Y (.cons r10 .nil) #[_,ys,y,Y,Y,Xf,hz,Y]) λ_ s11 #[_,H11,I11,_,e11]=>?_;subst e11;exact#[m',hm,i+1,_,σ8,_,I11.sA,(back I11).1,(back I11).2,w10]
 exact codeAny_compStart_list (loop _ #[_,Y]) (T.self _ 0 _ _ _ st4 (loop _ #[_,Y]))
theorem Ju(hc:X.calm=true)(CS:iM X sc own cap N cl)(hi:PI X tg iter wi)(hg:∀f s3 H3,PG (eZ X sc N cl f s3 H3) tg g)(ht:∀f s3 H3,YG (eZ X sc N cl f s3 H3) ifs tc)(he:∀f s3 H3,PE (eZ X sc N cl f s3 H3) elt te)
  (hs:Jf X iter:=by intro _;rfl):PE X (.ListComp elt [#[tg,iter,ifs,0]] sc pos) (Nq own cap wi g tc te):=by intro pins s σ H Q I h;refine wpAny_comprehension_free Y hs (Jt CS.clos) CS.kind CS.loc (fV (hi pins s σ H _ I h) λv s1 h1=>fV h1 λitv s2 h2=>?_);let#[it,fp,tn,Ja,H2,e,I2,T,X7,f2,q2]:=h2;subst e;refine BW hc CS I2 T X7 f2 hg ht he q2 ?_;intro D C H' s' I' #[m,hn] fC q;exact#[m,hn,λh' sb=>#[.ref D,H',I'.turned (λb o hb e=>(sb.2 b hb).trans e) fC.1 fC.2.1 fC.2.2.2.1 fC.2.2.2.2.1 fC.2.2.2.2.2,Y,q]]
theorem qI{px sJ:Pos}(hN:X.N.Nodup)(Nr:X.N[i]?>>x)(hx:Loc X.env.scope x)(hc:X.calm=true)(CS:iM X sc own cap N cl)(hi:PI X tg iter wi)(hg:∀f s3 H3,PG (eZ X sc N cl f s3 H3) tg g)
  (ht:∀f s3 H3,YG (eZ X sc N cl f s3 H3) ifs tc)(he:∀f s3 H3,PE (eZ X sc N cl f s3 H3) elt te)(pL:swapsWith (.ListComp elt [#[tg,iter,ifs,0]] sc pos) (some (.Name x px)) sJ.line X.env=pure true:=by rfl)
  (hs:Jf X iter:=by intro _;rfl)(hf:zC X x:=by left):
  PS X (.Assign [.Name x px] (.ListComp elt [#[tg,iter,ifs,0]] sc pos) sJ) (U4 (Nq own cap wi g tc te) (BL i)):=by
 intro pins s σ H D I h;rw[exec_Assign_Name_used _ _ _ _ pL];refine L (rX (L ?_));refine L (iw (wpAny_comprehension_free Y hs (Jt CS.clos) CS.kind CS.loc
  (fV (hi pins s σ H _ I h) λv s1 h1=>fV h1 λitv s2 h2=>?_)) (λ_ s' hq=>aM (aM hq)) λ_ _ e=>e);let#[it,fp,tn,Ja,H2,e,I2,T,X7,f2,q2]:=h2;subst e;refine BW hc CS I2 T X7 f2 hg ht he q2 ?_;intro D' C H' s' I' #[m,hn] fC q;refine wpAny_assign_Name (BJ I' hN Nr hx (v:=.ref D') Y (λTd I'' #[a,sb,ha]=>?_) hf);let W_:C≠a:=by
  rcases ha with z|z
  .rw[z];exact fC.2.1
  .exact λy=>fC.2.2.2.2.1 x a z y.symm
 exact#[m,hn.sameBut sb W_,λh' sb'=>#[_,H',I''.turned (λb o hb e=>(sb'.2 b hb).trans e) fC.1 fC.2.1 fC.2.2.2.1 fC.2.2.2.2.1 fC.2.2.2.2.2,q]]
end
def Ite(K:ai)(a:J):It:=
 #[λi H=>∃xs x,jY K H a xs/\xs[i]?>>x,λi H v H'=>∃t x,v=.ref t/\H t=none/\H'=upd H t (.tup [.int i,x])/\∀xs,jY K H a xs->xs[i]?>>x,λi H=>∃xs,jY K H a xs/\xs.length<=i]
theorem K5{k}(a e it:J)(Xg:e≠it):Turn P w K (.Tuple elts k tp) (Ite K a) [e,it] e (λi h=>(∃old,IsEnum h e it (i:Nat) old)/\h.IsListIter it a i) where
 mem:=∅
 obj:=λi h st b hb=>by
  let#[#[old,he],#[o,ho,c,d]]:=st;rcases au.mp hb with z|z
  .subst z;exact#[_,he,λv z=>by cases z]
  .let z':b=it:=by simpa using z
   subst z';exact#[o,ho,λv z=>by rw[d]at z;cases z]
 keep:=λi h h' st kp=>#[let#[old,he]:=st.1;#[old,kp e ∅ _ he],st.2.at λo q=>kp it ∅ o q]
 item:=by
  intro X hP hw hK hc i pins s σ H E I hf st hg;subst hP hw hK;let#[#[old,he],hit]:=st;let#[xs,x,hq,hx]:=hg;let#[its,rv,p,hz]:=I.list hq;let#[u,hu,ru]:=rv.get hx;refine wpAny_pyNext_enum_item he hit p.isList ↑hu Xg λh1 Mv zcD Q5 hz1 Jv=>?_;refine#[_,Y,wpAny_letOwnedTupleGo_enum Mv λh2 Nt lP=>?_];let elt:=aX he;let Vs:it<s.heap.objs.size:=by let#[o,ho,_]:=_root_.id hit;exact aX ho
  let k2:∀b o,b∉[e,it]->s.heap.get? b>>o->h2.get? b>>o:=λb o hb q=>by let n1:b≠e:=λz=>hb (by simp[z]);exact(lP.2 b n1).trans (Jv b o n1 (λz=>hb (by simp[z])) q)
  let fT:uD X pins H s.heap.objs.size:=I.uE (aE _) I.fresh;let I3:Inv X pins σ (upd H s.heap.objs.size (.tup [.int i,x])) { s with heap:=h2,toks:=s.toks+1 }:=
   (I.oY k2 hf).track fT #[by show 2<=sizeLine;rw[cL];decide,_,.cons #[_,Y] (.cons ru .nil),#[_,(lP.2 _ (eG elt)).trans Q5,Y,_,Y]]
  refine#[.ref s.heap.objs.size,_,I3,Y,#[_,x,Y,I.fresh,Y,λys hy=>[I.zD hy hq]▸hx],#[#[_,by simpa using Nt],zcD.at λo q=>(lP.2 it Xg.symm).trans q],λb hb=>?_];rcases au.mp hb with z|z
  .subst z;rw[aI (aZ elt)];exact(hf b hb).1
  .let z':b=it:=by simpa using z
   subst z';rw[aI (aZ Vs)];exact(hf b hb).1
 done:=by intro X hP hw hK hc i pins s σ H E I hf st hg;subst hP hw hK;let#[#[old,he],hit]:=st;let#[xs,hq,hx]:=hg;let#[its,rv,p,hz]:=I.list hq;let hl:=rv.length;exact wpAny_pyNext_enum_end (I.ok.hd hc) he hit p.isList (by simp;omega) λh' eb=>#[Y,I.oY (λb o hb q=>eb b o (λz=>hb (by simp[z])) q) hf]
 self:=λ_ _ _ _ _ st h=>let#[#[_,he],_]:=st;wpAny_pyIter_enum he h
def YJ(K:ai)(ta:TA):TI:=λσ H R=>ta σ H λvs H1=>∃a,vs=[.ref a]/\(∃xs,jY K H1 a xs)/\R (Ite K a) H1
theorem Q6{a:bY}{ta:TA}{k}(hg:Gl X "enumerate")(hm:X.mg "enumerate"=none)(ha:PA X [a] ta)(hs:starEach [a] X.env=[(false,eval a X.env)]:=by rfl):
  PI X (.Tuple elts k tp) (.Call (.Name "enumerate" p) [a] [] pos) (YJ X.K ta):=by
 intro pins s σ H R I h;refine Call_ (wW I hg hm boot_enumerate (iT (fV (ha pos pins s σ H _ I h) λus s1 #[vs,H1,I1,r1,q1]=>?_) hs Y));let#[l,e,#[xs,hq],q]:=q1;subst e;let#[u,rfl,rx]:=vals1 r1;cases rx;let#[its,rv,pl,hz]:=I1.list hq;refine call_enumerate_list pl.isList λh' he hit yL hk=>wpAny_pyIter_enum he ?_;refine#[_,_,_,_,H1,Y,I1.kept hk,K5 l _ _ (Nat.succ_ne_self _),#[#[_,he],hit],λb hb=>?_,q];rcases au.mp hb with z|z
 .subst z;exact I1.uE () (I1.hok.fresh ())
 .let z':b=s1.heap.objs.size:=by simpa using z
  subst z';exact I1.uE () I1.fresh
def nJ:Key->U
 | .inl i=>.int i
 | .inr x=>.str x
mutual
inductive Rep(K:ai)(H:Hp):V->U->Prop
 |non:Rep K H .non .none
 |bl (b:Bool):Rep K H (.bl b) (.bool b)
 |int (i:Int):Rep K H (.int i) (.int i)
 |str (x:O):Rep K H (.str x) (.str x)
 |lst {a:J} {xs:!V} {ds:!U}:jY K H a xs->bQ K H xs ds->Rep K H (.ref a) (.list ds)
 |tup {a:J} {xs:!V} {ds:!U}:nG K H a xs->bQ K H xs ds->Rep K H (.ref a) (.tuple ds)
 |dct {a:J} {kvs:!(Key×V)} {ds:!(U×U)}:H a>>(.dK kvs)->ds.map (·.1)=kvs.map (λp=>nJ p.1)->bQ K H (kvs.map (·.2)) (ds.map (·.2))->Rep K H (.ref a) (.dict ds)
 |Tf {a:J} {kvs:!(!Key×V)} {ds:!(U×U)}:H a>>(.dT kvs)->ds.map (·.1)=kvs.map (λp=>dg (p.1.map nJ))->bQ K H (kvs.map (·.2)) (ds.map (·.2))->Rep K H (.ref a) (.dict ((.none,.bool true)::ds))
 |obj {a C dx:J} {fs:!(O×V)} {ds:!(U×U)}:H a>>(.ins C dx fs)->Ec K C->(∀f∈fs.map (·.1),jN K C f)->ds.map (·.1)=fs.map (λp=>aJ p.1)->bQ K H (fs.map (·.2)) (ds.map (·.2))->Rep K H (.ref a) (.dict ((.none,.none)::ds))
 |Xh {a:J} {o:Obj} {kvs:!(Key×V)} {ds:!(U×U)}:H a>>(.jx o (.dK kvs))->ds.map (·.1)=kvs.map (λp=>nJ p.1)->bQ K H (kvs.map (·.2)) (ds.map (·.2))->Rep K H (.ref a) (.dict ((.none,.int 1)::ds))
 |obm {a C dx:J} {fs:!(O×V)} {ds:!(U×U)}:H a>>(.ins C dx fs)->Ec K C->(∀f∈fs.map (·.1),jN K C f)->ds.map (·.1)=fs.map (λp=>aJ p.1)->bQ K H (fs.map (·.2)) (ds.map (·.2))->Rep K H (.ref a) (.dict ((.bool true,.int (Int.ofNat C))::ds))
 |Xi {a:J} {o:Obj} {kvs:!(!Key×V)} {es:Array fq} {ep:Nat} {ts:!J} {ds:!(U×U)}:H a>>(.jx o (.dT kvs))->o.data=.dict es ep->es.toList.map (·.key)=ts.map ck->(∀(i:Nat)(t:J)(q:!Key×V),ts[i]?>>t->kvs[i]?>>q->H t>>(.tup (q.1.map kV)))->ds.map (·.1)=kvs.map (λp=>dg (p.1.map nJ))->bQ K H (kvs.map (·.2)) (ds.map (·.2))->Rep K H (.ref a) (.dict ((.none,.int 2)::ds))
inductive bQ(K:ai)(H:Hp):!V->!U->Prop
 |nil:bQ K H [] []
 |cons {x:V} {d:U} {xs:!V} {ds:!U}:Rep K H x d->bQ K H xs ds->bQ K H (x::xs) (d::ds)
end
theorem cy.oo(e:cy H H')(h:nG K H a xs):nG K H' a xs:=by
 rcases h with(h|⟨o,h⟩)|h
 .exact .inl (.inl (e _ _ h))
 .exact .inl (.inr #[o,e _ _ h])
 .exact .inr h
theorem Rep.mono(s:cy H H')(r:Rep K H v d):Rep K H' v d:=
 Rep.rec (motive_1:=λv d _=>Rep K H' v d) (motive_2:=λxs ds _=>bQ K H' xs ds) .non (λb=>.bl b) (λi=>.int i) (λx=>.str x) (λh _ t=>.lst (s.seq h) t) (λh _ t=>.tup (s.oo h) t) (λh k _ t=>.dct (s _ _ h) k t) (λh k _ t=>.Tf (s _ _ h) k t) (λh c n k _ t=>.obj (s _ _ h) c n k t) (λh k _ t=>.Xh (s _ _ h) k t) (λh c n k _ t=>.obm (s _ _ h) c n k t) (λh e m g k _ t=>.Xi (s _ _ h) e m (λi t' q a b=>s _ _ (g i t' q a b)) k t) .nil (λ_ _ a t=>.cons a t) r
theorem bQ.mono(s:cy H H'):∀{ds:!U}{xs:!V},bQ K H xs ds->bQ K H' xs ds
 | [],_,r=>by cases r;exact .nil
 |d::ds,_,r=>by cases r with|cons a t=>exact .cons (a.mono s) (bQ.mono s t)
section
theorem bQ.length:∀{xs:!V}{ds:!U},bQ K H xs ds->xs.length=ds.length
 | [],_,r=>by cases r;rfl
 |x::xs,_,r=>by cases r with|cons a t=>simp[bQ.length t]
theorem bQ.get:∀{xs:!V}{ds:!U}{i:Nat}{d:U},bQ K H xs ds->ds[i]?>>d->∃x,xs[i]?>>x/\Rep K H x d
 | [],_,_,_,r,e=>by cases r;simp at e
 |x::xs,_,i,d,r,e=>by
  cases r with
  |cons a t=>
   cases i with
   |zero=>simp at e;subst e;exact#[x,Y,a]
   |succ i=>simpa using bQ.get t ↑e
theorem bQ.at{H:Hp}{K:ai}{ds:!U}{x:V}(r:bQ K H xs ds)(e:ds[i]?>>d)(h:xs[i]?>>x):Rep K H x d:=by let#[y,h1,h2]:=r.get e;rw[h]at h1;cases h1;exact h2
theorem bQ.append:∀{xs ys:!V}{ds es:!U},bQ K H xs ds->bQ K H ys es->bQ K H (xs++ys) (ds++es)
 | [],_,_,_,r,s=>by cases r;exact s
 |x::xs,_,_,_,r,s=>by cases r with|cons a t=>exact .cons a (bQ.append t s)
theorem bQ.take:∀{xs:!V}{ds:!U}(n:Nat),bQ K H xs ds->bQ K H (xs.take n) (ds.take n)
 |_,_,0,_=>by simpa using bQ.nil
 | [],_,_+1,r=>by cases r;exact .nil
 |x::xs,_,n+1,r=>by cases r with|cons a t=>exact .cons a (bQ.take n t)
theorem bQ.drop:∀{xs:!V}{ds:!U}(n:Nat),bQ K H xs ds->bQ K H (xs.drop n) (ds.drop n)
 |_,_,0,r=>r
 | [],_,_+1,r=>by cases r;exact .nil
 |x::xs,_,n+1,r=>by cases r with|cons a t=>exact bQ.drop n t
end
mutual
theorem kA(I:Inv X pins σ H s):∀(d:U){v:V}{u:M},d.canLay0=true->Rep X.K H v d->RelV v u->∃as,Reads s.heap u d as
 | .none,_,_,_,r,q=>by cases r;cases q;exact#[_,.none]
 | .bool b,_,_,_,r,q=>by cases r;cases q;exact#[_,.bool b]
 | .int i,_,_,_,r,q=>by cases r;let#[t,rfl]:=q;exact#[_,.int i t]
 | .str x,_,_,_,r,q=>by cases r;let#[t,rfl]:=q;exact#[_,.str x t]
 | .list ds,_,_,hc,r,q=>by
  cases r with
  |lst h t=>cases q;let#[its,rv,#[o,n,e,c,_,dt],_]:=I.list h;let#[as,ra]:=oZ I ds hc t rv;exact#[_,.list e c dt ↑ra]
 | .tuple ds,_,_,hc,r,q=>by
  cases r with
  |tup h t=>cases q;let#[its,rv,#[o,e,c,n,dt],_]:=I.tuple h;let#[as,ra]:=oZ I ds hc t rv;exact#[_,.tuple e c dt ↑ra]
 | .dict _,_,_,hc,_,_=>by cases hc
theorem oZ(I:Inv X pins σ H s):∀(ds:!U){xs:!V}{us:!M},pE ds=true->bQ X.K H xs ds->dw xs us->∃as,ReadsAll s.heap us ds as
 | [],_,_,_,r,q=>by cases r;cases q;exact#[_,.nil]
 |d::ds,_,_,hc,r,q=>by
  let W':(d.canLay0&&pE ds)=true:=hc;rw[gT]at W';cases r with
  |cons a t=>
   cases q with
   |cons b w=>let#[as,h1]:=kA I d W'.1 a b;let#[bs,h2]:=oZ I ds W'.2 t w;exact#[_,.cons h1 h2]
end
def Lay(n:Nat)(d:U):Prop:=d.canLay0=true/\d.depth<=n
inductive Slot where
 |un
 |val (d:U)
 |own (ds:!U)
 |ref (a:J)
variable{δ δ':!Slot}
structure di(H0 H c9 H':Hp):Prop where
 big:cy H H'
 eE:cy H0 c9
 sub:cy c9 H'
 new:∀a,c9 a≠none->H0 a≠none\/H a=none
theorem di.refl(s:cy H0 H):di H0 H H0 H:=#[cy.refl _,cy.refl _,s,λ_ h=>.inl h]
theorem cy.ne(s:cy H H')(h:H a≠none):H' a≠none:=by
 cases e:H a with
 |none=>exact qQ7 e h
 |some o=>rw[s a o e];simp
theorem di.trans(x:di A B C D)(y:di C D E F):di A B E F:=
 #[x.big.trans y.big,x.eE.trans y.eE,y.sub,λa h=>(y.new a h).elim (x.new a) λz=>.inr (x.big.free z)]
theorem di.laid(s:cy H0 H){p:J}(h:H p=none):di H0 H (upd H0 p o) (upd H p o):=by
 refine#[λb u e=>?_,λb u e=>?_,λb u e=>?_,λb e=>?_]
 .rwa[aI (bu e h)]
 .rwa[aI (bu e (s.free h))]
 .by_cases hb:b=p
  .subst hb;rw[aP]at e ⊢;exact e
  .rw[aI hb]at e ⊢;exact s b u e
 .by_cases hb:b=p
  .subst hb;exact .inr h
  .rw[aI hb]at e;exact .inl e
theorem di.loose(s:cy H0 H){p:J}(h:H p=none):di H0 H H0 (upd H p o):=
 #[λb u e=>[aI (bu e h)]▸e,cy.refl _,λb u e=>[aI (bu (s b u e) h)]▸s b u e,λ_ e=>.inl e]
def Nu(K:ai)(B H0 H:Hp):Slot->Option (Option V)->Prop
 | .un,_=>True
 | .val d,o=>∃v,o>>(some v)/\Rep K H0 v d
 | .own ds,o=>∃p xs,o>>(some (.ref p))/\H p>>(.lst xs)/\H0 p=none/\B p=none/\bQ K H0 xs ds
 | .ref a,o=>o>>(some (.ref a))
structure fK(K:ai)(B0 B H0 H:Hp)(σ:St)(δ:!Slot):Prop where
 ent:di B0 B H0 H
 len:σ.length=δ.length
 slot:∀(i:Nat)sl,δ[i]?>>sl->Nu K B H0 H sl σ[i]?
 apart:∀(i j:Nat)ds es p,i≠j->δ[i]?>>(.own ds)->δ[j]?>>(.own es)->σ[i]?>>(some (.ref p))->σ[j]?≠some (some (.ref p))
section
variable{K:ai}{B0 B H0 H:Hp}{σ:St}{δ:!Slot}
theorem fK.sub(f:fK K B0 B H0 H σ δ):cy H0 H:=f.ent.sub
theorem fK.grow(f:fK K B0 B H0 H σ δ)(g:di H0 H c9 H'):fK K B0 B c9 H' σ δ:=by
 refine#[f.ent.trans g,f.len,λi sl e=>?_,f.apart];let q:=f.slot i sl e;cases sl with
 |un=>trivial
 |ref a=>exact q
 |val d=>let#[v,h1,h2]:=q;exact#[v,h1,h2.mono g.eE]
 |own ds=>
  let#[p,xs,h1,h2,h3,h4,h5]:=q;refine#[p,xs,h1,g.big _ _ h2,?_,h4,h5.mono g.eE];cases e2:c9 p with
  |none=>rfl
  |some o=>
   rcases g.new p (by rw[e2];simp)with z|z
   .exact qQ7 h3 z
   .rw[h2]at z;cases z
theorem fK.val(f:fK K B0 B H0 H σ δ)(h:δ[i]?>>(.val d)):∃v,σ[i]?>>(some v)/\Rep K H0 v d:=f.slot i _ h
theorem fK.set(f:fK K B0 B H0 H σ δ)(r:Rep K H0 v d):fK K B0 B H0 H (σ.set i (some v)) (δ.set i (.val d)):=by
 refine#[f.ent,by simp[f.len],λj sl e=>?_,λj k ds es p BX e1 e2 e3=>?_]
 .by_cases hj:j=i
  .subst hj;let hl:j < δ.length:=by let:=(aq.mp e).1;simpa using this
   rw[aR hl]at e;cases e;rw[aR ([f.len]▸hl)];exact#[v,Y,r]
  .rw[aO (bD hj)]at e;rw[aO (bD hj)];exact f.slot j sl e
 .let nj:j≠i:=λz=>by
   subst z;let hl:j < δ.length:=by simpa using(aq.mp e1).1
   rw[aR hl]at e1;cases e1
  let nk:k≠i:=λz=>by
   subst z;let hl:k < δ.length:=by simpa using(aq.mp e2).1
   rw[aR hl]at e2;cases e2
  rw[aO (bD nj)]at e1 e3;rw[aO (bD nk)]at e2 ⊢;exact f.apart j k ds es p BX e1 e2 e3
theorem fK.Nv(f:fK K B0 B H0 H σ δ){ds:!U}{p:J}(h1:H p>>(.lst xs))(h2:H0 p=none)(h3:B p=none)(r:bQ K H0 xs ds)(hn:∀(j:Nat)es,δ[j]?>>(.own es)->σ[j]?≠some (some (.ref p))):
  fK K B0 B H0 H (σ.set i (some (.ref p))) (δ.set i (.own ds)):=by
 refine#[f.ent,by simp[f.len],λj sl e=>?_,λj k MC es q BX e1 e2 e3=>?_]
 .by_cases hj:j=i
  .subst hj;let hl:j < δ.length:=by simpa using(aq.mp e).1
   rw[aR hl]at e;cases e;rw[aR ([f.len]▸hl)];exact#[p,xs,Y,h1,h2,h3,r]
  .rw[aO (bD hj)]at e;rw[aO (bD hj)];exact f.slot j sl e
 .let hlj:j < δ.length:=by simpa using(aq.mp e1).1
  let hlk:k < δ.length:=by simpa using(aq.mp e2).1
  by_cases nj:j=i
  .subst nj;rw[aR ([f.len]▸hlj)]at e3;cases e3;rw[aO BX]at e2 ⊢;exact hn k es e2
  .rw[aO (bD nj)]at e1 e3;by_cases nk:k=i
   .subst nk;rw[aR ([f.len]▸hlk)];intro z;cases z;exact hn j MC e1 e3
   .rw[aO (bD nk)]at e2 ⊢;exact f.apart j k MC es q BX e1 e2 e3
theorem fK.push(f:fK K B0 B H0 H σ δ){ds:!U}{p:J}{y:V}(hi:δ[i]?>>(.own ds))(hp:σ[i]?>>(some (.ref p)))(h1:H p>>(.lst xs))(ry:Rep K H0 y d):
  fK K B0 B H0 (upd H p (.lst (xs ++ [y]))) σ (δ.set i (.own (ds ++ [d]))):=by
 let#[p',xs',e1,e2,e3,e4,e5]:=f.slot i _ hi;rw[hp]at e1;cases e1;rw[h1]at e2;cases e2;let hl:=(aq.mp hi).1;refine#[#[λb u e=>?_,f.ent.eE,λb u e=>?_,f.ent.new],by simp[f.len],λj sl e=>?_,λj k MC es q BX a1 a2 a3=>?_]
 .let:b≠p:=bu e e4;rw[aI this];exact f.ent.big b u e
 .let:b≠p:=bu e e3;rw[aI this];exact f.ent.sub b u e
 .by_cases hj:j=i
  .subst hj;rw[aR hl]at e;cases e;exact#[p,_,hp,aP,e3,e4,e5.append (.cons ry .nil)]
  .rw[aO (bD hj)]at e;let q:=f.slot j sl e;cases sl with
   |un=>trivial
   |ref a=>exact q
   |val d=>exact q
   |own MC=>
    let#[p2,Q7,g1,g2,g3,g4,g5]:=q;let:p2≠p:=λz=>by subst z;exact f.apart i j ds MC p2 (bD hj) hi e hp g1
    exact#[p2,Q7,g1,[aI this]▸g2,g3,g4,g5]
 .let c1:∃Gu,δ[j]?>>(.own Gu):=by
   by_cases hj:j=i
   .subst hj;exact#[_,hi]
   .rw[aO (bD hj)]at a1;exact#[_,a1]
  let c2:∃Gu,δ[k]?>>(.own Gu):=by
   by_cases hk:k=i
   .subst hk;exact#[_,hi]
   .rw[aO (bD hk)]at a2;exact#[_,a2]
  let#[d1,c1]:=c1;let#[d2,c2]:=c2;exact f.apart j k d1 d2 q BX c1 c2 a3
theorem fK.freeze(f:fK K B0 B H0 H σ δ){ds:!U}{p:J}(hi:δ[i]?>>(.own ds))(hp:σ[i]?>>(some (.ref p)))(h1:H p>>(.lst xs)):
  fK K B0 B (upd H0 p (.lst xs)) H σ (δ.set i (.val (.list ds)))/\cy H0 (upd H0 p (.lst xs)):=by
 let#[p',xs',e1,e2,e3,e4,e5]:=f.slot i _ hi;rw[hp]at e1;cases e1;rw[h1]at e2;cases e2;let hl:=(aq.mp hi).1;let sm:cy H0 (upd H0 p (.lst xs)):=λb u e=>[aI (bu e e3)]▸e;refine#[#[#[f.ent.big,f.ent.eE.trans sm,λb u e=>?_,λb e=>?_],by simp[f.len],λj sl e=>?_,λj k MC es q BX a1 a2 a3=>?_],sm]
 .by_cases hb:b=p
  .subst hb;rw[aP]at e;rwa[<-e]
  .rw[aI hb]at e;exact f.ent.sub b u e
 .by_cases hb:b=p
  .subst hb;exact .inr e4
  .rw[aI hb]at e;exact f.ent.new b e
 .by_cases hj:j=i
  .subst hj;rw[aR hl]at e;cases e;exact#[_,hp,.lst (jY.of aP) (e5.mono sm)]
  .rw[aO (bD hj)]at e;let q:=f.slot j sl e;cases sl with
   |un=>trivial
   |ref a=>exact q
   |val d=>let#[v,g1,g2]:=q;exact#[v,g1,g2.mono sm]
   |own MC=>
    let#[p2,Q7,g1,g2,g3,g4,g5]:=q;let:p2≠p:=λz=>by subst z;exact f.apart i j ds MC p2 (bD hj) hi e hp g1
    exact#[p2,Q7,g1,g2,[aI this]▸g3,g4,g5.mono sm]
 .let nj:j≠i:=λz=>by subst z;rw[aR hl]at a1;cases a1
  let nk:k≠i:=λz=>by subst z;rw[aR hl]at a2;cases a2
  rw[aO (bD nj)]at a1;rw[aO (bD nk)]at a2;exact f.apart j k MC es q BX a1 a2 a3
end
def cE(X:Cx)(e:bY):TE:=λσ H Q=>∀pins s,Inv X pins σ H s->wpAny (model X.prog X.w) X.A (eval e X.env) (EP X pins σ Q) X.xe s
def cT(X:Cx)(e:bY):TT:=λσ H Q=>∀pins s,Inv X pins σ H s->wpAny (model X.prog X.w) X.A (isTrue e X.env (eval e X.env)) (TP X pins σ Q) X.xe s
def cS(X:Cx)(st:kr):TS:=λD σ H=>∀pins s,Inv X pins σ H s->wpAny (model X.prog X.w) X.A (exec st X.env) (SP X pins D) X.xe s
def Ed(X:Cx)(st:!kr):TS:=λD σ H=>∀pins s,Inv X pins σ H s->wpAny (model X.prog X.w) X.A (execs st X.env) (SP X pins D) X.xe s
theorem cA:PE X e (cE X e):=λpins s _ _ _ I h=>h pins s I
theorem ou:PT X e (cT X e):=λpins s _ _ _ I h=>h pins s I
theorem Nx:PS X e (cS X e):=λpins s _ _ _ I h=>h pins s I
theorem kY:Ji X e (Ed X e):=λpins s _ _ _ I h=>h pins s I
def VE(X:Cx)(e:bY)(δ:!Slot)(d:U):Prop:=∀B0 B σ H0 H Q,fK X.K B0 B H0 H σ δ->(∀v c9 H',di H0 H c9 H'->Rep X.K c9 v d->Q v H')->cE X e σ H Q
def VO(X:Cx)(e:bY)(δ:!Slot)(ds:!U):Prop:=∀B0 B σ H0 H Q,fK X.K B0 B H0 H σ δ->
 (∀p xs c9 H',di H0 H c9 H'->H p=none->c9 p=none->H' p>>(.lst xs)->bQ X.K c9 xs ds->Q (.ref p) H')->cE X e σ H Q
def VT(X:Cx)(e:bY)(δ:!Slot)(b:Bool):Prop:=∀B0 B σ H0 H Q,fK X.K B0 B H0 H σ δ->(∀c9 H',di H0 H c9 H'->Q b H')->cT X e σ H Q
def VA(X:Cx)(es:!bY)(δ:!Slot)(ds:!U):Prop:=∃t,PA X es t/\∀B0 B σ H0 H Q,fK X.K B0 B H0 H σ δ->(∀vs c9 H',di H0 H c9 H'->bQ X.K c9 vs ds->Q vs H')->t σ H Q
theorem VE.of(h:PE X e t)(q:∀B0 B σ H0 H Q,fK X.K B0 B H0 H σ δ->(∀v c9 H',di H0 H c9 H'->Rep X.K c9 v d->Q v H')->t σ H Q):VE X e δ d:=
 λB0 B σ H0 H Q f k pins s I=>h pins s σ H Q I (q B0 B σ H0 H Q f k)
theorem VO.of(h:PE X e t)(q:∀B0 B σ H0 H Q,fK X.K B0 B H0 H σ δ->
  (∀p xs c9 H',di H0 H c9 H'->H p=none->c9 p=none->H' p>>(.lst xs)->bQ X.K c9 xs ds->Q (.ref p) H')->t σ H Q):VO X e δ ds:=
 λB0 B σ H0 H Q f k pins s I=>h pins s σ H Q I (q B0 B σ H0 H Q f k)
theorem VT.of(h:PT X e t)(q:∀B0 B σ H0 H Q,fK X.K B0 B H0 H σ δ->(∀c9 H',di H0 H c9 H'->Q b H')->t σ H Q):VT X e δ b:=
 λB0 B σ H0 H Q f k pins s I=>h pins s σ H Q I (q B0 B σ H0 H Q f k)
theorem VO.ve(h:VO X e δ ds):VE X e δ (.list ds):=λB0 B σ H0 H Q f k=>h B0 B σ H0 H Q f λp xs c9 H' g h1 h2 h3 r=>by
 let sm:cy c9 (upd c9 p (.lst xs)):=λb u e=>[aI (bu e h2)]▸e;refine k _ _ H' #[g.big,g.eE.trans sm,λb u e=>?_,λb e=>?_] (.lst (jY.of aP) (r.mono sm))
 .by_cases hb:b=p
  .subst hb;rw[aP]at e;rwa[<-e]
  .rw[aI hb]at e;exact g.sub b u e
 .by_cases hb:b=p
  .subst hb;exact .inr h1
  .rw[aI hb]at e;exact g.new b e
def zO(K:ai)(r:R2)(d1 d2 d:U):Prop:=∀x y H0 H Q,cy H0 H->Rep K H0 x d1->Rep K H0 y d2->(∀v c9 H',di H0 H c9 H'->Rep K c9 v d->Q v H')->r x y H Q
section
variable{X:Cx}{a b:bY}{δ:!Slot}{d d1 d2:U}{pos:Pos}
theorem pJ(i:Nat)(h:δ[i]?>>(.val d))(hN:u5 X i x:=by ac_rfl):VE X (.Name x pos) δ d:=
 .of (xZ hN) λB0 B σ H0 H Q f k=>let#[v,h1,h2]:=f.val h;#[v,h1,k v H0 H (.refl f.sub) h2]
theorem aK{i:Int}{j}:VE X (.Constant (.int i) j pos) δ (.int i):=.of UU λ_ _ _ _ _ _ f k=>k _ _ _ (.refl f.sub) (.int i)
theorem Tg{i:Bool}{j}:VE X (.Constant (.bool i) j pos) δ (.bool i):=.of XU λ_ _ _ _ _ _ f k=>k _ _ _ (.refl f.sub) (.bl i)
theorem g8{j}:VE X (.Constant .none j pos) δ .none:=.of UW λ_ _ _ _ _ _ f k=>k _ _ _ (.refl f.sub) .non
theorem aW{i:O}{j}:VE X (.Constant (.str i) j pos) δ (.str i):=.of UX λ_ _ _ _ _ _ f k=>k _ _ _ (.refl f.sub) (.str i)
theorem two_d{r:R2}(hd:zO X.K r d1 d2 d)(h1:VE X a δ d1)(h2:VE X b δ d2):∀B0 B σ H0 H Q,fK X.K B0 B H0 H σ δ->(∀v c9 H',di H0 H c9 H'->Rep X.K c9 v d->Q v H')->Xa r (cE X a) (cE X b) σ H Q:=λB0 B σ H0 H Q f k=>h1 B0 B σ H0 H _ f λv H1 cY g1 r1=>h2 B0 B σ H1 cY _ (f.grow g1) λu H2 f9 g2 r2=>hd v u H2 f9 Q g2.sub (r1.mono g2.eE) r2 λw H3 yd g3 r3=>k w H3 yd ((g1.trans g2).trans g3) r3
theorem xj{op:Operator}{r:R2}(ho:uj X (binaryOp op) r)(hd:zO X.K r d1 d2 d)(h1:VE X a δ d1)(h2:VE X b δ d2):VE X (.BinOp a op b pos) δ d:=.of (Eo ho cA cA) (two_d hd h1 h2)
theorem va{r:R2}(ho:uj X (compareOp op) r)(hd:zO X.K r d1 d2 d)(h1:VE X a δ d1)(h2:VE X b δ d2)(hm:behindInMarks op b=false):VE X (.Compare a [op] [b] pos) δ d:=.of (Qy ho cA cA hm) (two_d hd h1 h2)
theorem gO{r:R2}{k:Bool}(ho:uj X (compareOp op) r)(hd:zO X.K r d1 d2 (.bool k))(h1:VE X a δ d1)(h2:VE X b δ d2)(hm:behindInMarks op b=false):VT X (.Compare a [op] [b] pos) δ k:=
 .of (CZ ho cA cA hm) λB0 B σ H0 H Q f q=>two_d hd h1 h2 B0 B σ H0 H _ f λv c9 H' g r=>by cases r;exact#[_,Y,q c9 H' g]
theorem Hn{r:R2}(ho:M6 X r)(hd:zO X.K r d1 d2 d)(h1:VE X a δ d1)(h2:VE X b δ d2)(hs:oX b:=by intro _ _;rfl):VE X (.Subscript a b pos) δ d:=.of (M7 ho cA cA hs) (two_d hd h1 h2)
end
theorem zP(i j:Int):zO K (Qu λi j=>.int (g i j)) (.int i) (.int j) (.int (g i j)):=λx y H0 H Q s r1 r2 k=>by cases r1;cases r2;exact#[_,_,Y,Y,k _ _ _ (.refl s) (.int _)]
theorem EC{g:Int->Int->Bool}(i j:Int):zO K (Qu λi j=>.bl (g i j)) (.int i) (.int j) (.bool (g i j)):=λx y H0 H Q s r1 r2 k=>by cases r1;cases r2;exact#[_,_,Y,Y,k _ _ _ (.refl s) (.bl _)]
theorem Vt{C:Int->Int->Prop}(i j:Int)(h:C i j):zO K (rI C λi j=>.int (g i j)) (.int i) (.int j) (.int (g i j)):=λx y H0 H Q s r1 r2 k=>by cases r1;cases r2;exact#[_,_,Y,Y,h,k _ _ _ (.refl s) (.int _)]
def Vu(K:ai)(n:Nat)(g:U->U->Bool):R2:=λx y H Q=>∃dx dy,Rep K H x dx/\Rep K H y dy/\Lay n dx/\Lay n dy/\Q (.bl (g dx dy)) H
theorem Ho(hu:X.A.units+n+2<cLine):uj X (compareOp .Eq) (Vu X.K n λx y=>df x y):=by intro pins s σ H x y v u Q I rx ry #[dx,dy,r1,r2,l1,l2,q];let#[as,ra]:=kA I dx l1.1 r1 rx;let#[bs,rb]:=kA I dy l2.1 r2 ry;let h1:=l1.2;exact SeqAt.compareEq_reads ra rb l1.1 l2.1 () #[.bl _,H,I,Y,q]
theorem Hq(hu:X.A.units+n+2<cLine):uj X (compareOp .NotEq) (Vu X.K n λx y=>not (df x y)):=by intro pins s σ H x y v u Q I rx ry #[dx,dy,r1,r2,l1,l2,q];let#[as,ra]:=kA I dx l1.1 r1 rx;let#[bs,rb]:=kA I dy l2.1 r2 ry;let h1:=l1.2;exact SeqAt.neOverData X.prog X.w X.A X.xe s v u dx dy as bs _ ra rb l1.1 l2.1 () #[.bl _,H,I,Y,q]
def rG(d:U):U->Bool
 | .list xs=>xs.any λy=>df y d
 | .tuple xs=>xs.any λy=>df y d
 |_=>false
def BZ:U->Bool
 | .list _=>true
 | .tuple _=>true
 |_=>false
def Vv(K:ai)(n:Nat)(neg:Bool):R2:=λx y H Q=>∃dx dy,Rep K H x dx/\Rep K H y dy/\BZ dy=true/\Lay n dx/\Lay n dy/\Q (.bl (if neg then not (rG dx dy) else rG dx dy)) H
theorem Ny(hu:X.A.units+n+2<cLine):uj X (compareOp .In) (Vv X.K n false):=by
 intro pins s σ H x y v u Q I rx ry #[dx,dy,r1,r2,hs,l1,l2,q];let#[as,ra]:=kA I dx l1.1 r1 rx;let#[bs,rb]:=kA I dy l2.1 r2 ry;let h1:=l1.2;cases dy with
 |list ys=>exact SeqAt.in_list_reads rb ra l2.1 l1.1 () #[.bl _,H,I,Y,q]
 |tuple ys=>exact SeqAt.in_tuple_reads rb ra l2.1 l1.1 () #[.bl _,H,I,Y,q]
 |_=>cases hs
theorem B1(hu:X.A.units+n+2<cLine):uj X (compareOp .NotIn) (Vv X.K n true):=by
 intro pins s σ H x y v u Q I rx ry #[dx,dy,r1,r2,hs,l1,l2,q];let#[as,ra]:=kA I dx l1.1 r1 rx;let#[bs,rb]:=kA I dy l2.1 r2 ry;let h1:=l1.2;cases dy with
 |list ys=>exact SeqAt.notIn_list_reads rb ra l2.1 l1.1 () #[.bl _,H,I,Y,q]
 |tuple ys=>exact SeqAt.notIn_tuple_reads rb ra l2.1 l1.1 () #[.bl _,H,I,Y,q]
 |_=>cases hs
theorem ED{g:U->U->Bool}{d1 d2:U}(l1:Lay n d1)(l2:Lay n d2):zO K (Vu K n g) d1 d2 (.bool (g d1 d2)):=λx y H0 H Q s r1 r2 k=>#[d1,d2,r1.mono s,r2.mono s,l1,l2,k _ _ _ (.refl s) (.bl _)]
theorem Q8(hs:BZ d2=true)(l1:Lay n d1)(l2:Lay n d2):zO K (Vv K n neg) d1 d2 (.bool (if neg then not (rG d1 d2) else rG d1 d2)):=λx y H0 H Q s r1 r2 k=>#[d1,d2,r1.mono s,r2.mono s,hs,l1,l2,k _ _ _ (.refl s) (.bl _)]
theorem K6{ds:!U}{i:Int}(h:uk ds i>>d):zO K (rIx K) (.list ds) (.int i) d:=λx y H0 H Q s r1 r2 k=>by
 cases r2;cases r1 with
 |lst hq r=>
  rename_i p xs
  unfold uk at h;cases e:Mz ds.length i with
  |none=>rw[e]at h;cases h
  |some j=>rw[e]at h;let#[v,hv,rv]:=r.get h;exact .inl #[p,xs,i,v,Y,Y,s.seq hq,by unfold uk;rw[r.length,e];exact hv,k v _ _ (.refl s) rv]
theorem YK{ds:!U}{i:Int}(h:uk ds i>>d):zO K (rIx K) (.tuple ds) (.int i) d:=λx y H0 H Q s r1 r2 k=>by
 cases r2;cases r1 with
 |tup hq r=>
  rename_i p xs
  unfold uk at h;cases e:Mz ds.length i with
  |none=>rw[e]at h;cases h
  |some j=>rw[e]at h;let#[v,hv,rv]:=r.get h;exact .inr (.inl #[p,xs,i,v,Y,Y,s.oo hq,by unfold uk;rw[r.length,e];exact hv,k v _ _ (.refl s) rv])
def YL(K:ai):R2:=λx y H Q=>∃l b xs zs,x=.ref l/\y=.ref b/\jY K H l xs/\jY K H b zs/\xs.length+zs.length<=sizeLine/\∀p,H p=none->Q (.ref p) (upd H p (.lst (xs++zs)))
theorem Q9:uj X (binaryOp .Add) (YL X.K):=by intro pins s σ H x y v u Q I rx ry h;let#[l,b,xs,zs,rfl,rfl,hl,hb,hz,q]:=h;cases rx;cases ry;let#[its,r1,#[#[cls,dd,data,sl],n,e1,c1,_,d1],z1]:=I.list hl;let#[QJ,r2,#[#[zcm,dd2,data2,sl2],n2,e2,c2,_,d2],z2]:=I.list hb;subst c1 d1 c2 d2;let l1:=r1.length;let l2:=r2.length;refine concat_meets #[_,e1,Y] #[_,e2,Y] noFill_list_add seq_list_add PySem.F.slot_list_add PySem.F.entry_list_add (PySem.F.args_list_add_2 _ _) (list_addW l b its.toArray QJ.toArray n n2 dd dd2 sl sl2 (by rw[bJ,bJ];omega)) #[e1,e2,?_];rw[show its.toArray++QJ.toArray=(its++QJ).toArray by simp];exact#[.ref _,_,I.zcq (r1.append r2) (by rw[aN];omega),Y,q _ I.fresh]
section
variable{X:Cx}{a b c e:bY}{es:!bY}{δ:!Slot}{d d1 d2:U}{ds:!U}{pos:Pos}{i j:Int}{k:Nat}
theorem fE(h1:VE X a δ (.int i))(h2:VE X b δ (.int j)):VE X (.BinOp a .Add b pos) δ (.int (i+j)):=xj oj (zP i j) h1 h2
theorem vb(h1:VE X a δ (.int i))(h2:VE X b δ (.int j))(h:Qw i j):VE X (.BinOp a .Mult b pos) δ (.int (i*j)):=xj U7 (Vt i j h) h1 h2
theorem fY(h1:VE X a δ (.int i))(h2:VE X b δ (.int j))(h:0<j):VE X (.BinOp a .Mod b pos) δ (.int (i%j)):=xj U8 (Vt i j h) h1 h2
theorem kQ(h1:VE X a δ (.int i))(h2:VE X b δ (.int j))(h:X8 i j):VE X (.BinOp a .FloorDiv b pos) δ (.int (i/j)):=xj Qx (Vt i j h) h1 h2
theorem YM(h1:VE X a δ (.int i))(h2:VE X b δ (.int j)):VE X (.Compare a [.Gt] [b] pos) δ (.bool (decide (j<i))):=va Tb (EC i j) h1 h2 (fX _)
theorem v5(h1:VE X a δ (.int i))(h2:VE X b δ (.int j)):VT X (.Compare a [.Lt] [b] pos) δ (decide (i<j)):=gO X9 (EC i j) h1 h2 (fX _)
theorem Nz(h1:VE X a δ (.int i))(h2:VE X b δ (.int j)):VT X (.Compare a [.Gt] [b] pos) δ (decide (j<i)):=gO Tb (EC i j) h1 h2 (fX _)
theorem YN(h1:VE X a δ (.int i))(h2:VE X b δ (.int j)):VT X (.Compare a [.GtE] [b] pos) δ (decide (j<=i)):=gO X_ (EC i j) h1 h2 (fX _)
theorem zQ(hr:eL k X.A):X.A.units+20+2<cLine:=by let:=hr.un;omega
theorem j9(hr:eL k X.A)(l1:Lay 20 d1)(l2:Lay 20 d2)(h1:VE X a δ d1)(h2:VE X b δ d2):VT X (.Compare a [.Eq] [b] pos) δ (df d1 d2):=gO (Ho (zQ hr)) (ED l1 l2) h1 h2 (fX _)
theorem lL(hr:eL k X.A)(l1:Lay 20 d1)(l2:Lay 20 d2)(h1:VE X a δ d1)(h2:VE X b δ d2):VT X (.Compare a [.NotEq] [b] pos) δ (not (df d1 d2)):=gO (Hq (zQ hr)) (ED l1 l2) h1 h2 (fX _)
theorem nE(hr:eL k X.A)(l1:Lay 20 d1)(l2:Lay 20 d2)(h1:VE X a δ d1)(h2:VE X b δ d2):VE X (.Compare a [.Eq] [b] pos) δ (.bool (df d1 d2)):=va (Ho (zQ hr)) (ED l1 l2) h1 h2 (fX _)
theorem NB(hr:eL k X.A)(hs:BZ d2=true)(l1:Lay 20 d1)(l2:Lay 20 d2)(h1:VE X a δ d1)(h2:VE X b δ d2)(hm:behindInMarks .In b=false:=by with_unfolding_all rfl):VT X (.Compare a [.In] [b] pos) δ (rG d1 d2):=gO (Ny (zQ hr)) (Q8 hs l1 l2) h1 h2 hm
theorem sL(hr:eL k X.A)(hs:BZ d2=true)(l1:Lay 20 d1)(l2:Lay 20 d2)(h1:VE X a δ d1)(h2:VE X b δ d2)(hm:behindInMarks .NotIn b=false:=by with_unfolding_all rfl):VT X (.Compare a [.NotIn] [b] pos) δ (not (rG d1 d2)):=gO (B1 (zQ hr)) (Q8 hs l1 l2) h1 h2 hm
theorem eS(h1:VE X a δ (.list ds))(h2:VE X b δ (.int i))(h:uk ds i>>d)(hs:oX b:=by intro _ _;rfl):VE X (.Subscript a b pos) δ d:=Hn pK (K6 h) h1 h2 hs
theorem dm(h1:VE X a δ (.tuple ds))(h2:VE X b δ (.int i))(h:uk ds i>>d)(hs:oX b:=by intro _ _;rfl):VE X (.Subscript a b pos) δ d:=Hn pK (YK h) h1 h2 hs
theorem Bh{ds:!U}{p0 q: Pos}{c}(i j:Nat)(h:δ[i]?>>(.val (.tuple ds)))(hj:ds[j]?>>d)(hN:u5 X i x:=by ac_rfl)(hs:oX (.Constant (.int (j:Int)) c q):=by intro _ _;rfl):VE X (.Subscript (.Name x p0) (.Constant (.int (j:Int)) c q) pos) δ d:=dm (pJ i h hN) aK (cJ hj) hs
theorem sM:PT X e (λ_ _ _=>False):=λ_ _ _ _ _ _ h=>h.elim
theorem vd{k:Bool}(h:VT X a δ k):VT X (.UnaryOp .Not a pos) δ (not k):=.of (UZ ou) λB0 B σ H0 H Q f q=>h B0 B σ H0 H _ f q
theorem sN(h1:VT X a δ k1)(h2:k1=true->VT X b δ k2):VT X (.BoolOp .And [a,b] pos) δ (k1&&k2):=by
 cases k1 with
 |true=>
  exact .of (pw_and ou (pw_and1 ou)).pt λB0 B σ H0 H Q f q=>h1 B0 B σ H0 H _ f λH1 cY g=>by exact h2 Y B0 B σ H1 cY _ (f.grow g) λH2 f9 g2=>q H2 f9 (g.trans g2)
 |false=>
  exact .of (pw_and ou (pw_and1 sM)).pt λB0 B σ H0 H Q f q=>h1 B0 B σ H0 H _ f λH1 cY g=>by exact q H1 cY g
theorem gY(h1:VT X a δ k1)(h2:k1=false->VT X b δ k2):VT X (.BoolOp .Or [a,b] pos) δ (k1||k2):=by
 cases k1 with
 |false=>
  exact .of (pw_or ou (pw_or1 ou)).pt λB0 B σ H0 H Q f q=>h1 B0 B σ H0 H _ f λH1 cY g=>by exact h2 Y B0 B σ H1 cY _ (f.grow g) λH2 f9 g2=>q H2 f9 (g.trans g2)
 |true=>
  exact .of (pw_or ou (pw_or1 sM)).pt λB0 B σ H0 H Q f q=>h1 B0 B σ H0 H _ f λH1 cY g=>by exact q H1 cY g
theorem Hr{k3: Bool}(h1:VT X a δ k1)(h2:k1=false->VT X b δ k2)(h3:k1=false->k2=false->VT X c δ k3):VT X (.BoolOp .Or [a,b,c] pos) δ (k1||(k2||k3)):=by
 cases k1 with
 |true=>
  exact .of (pw_or ou (pw_or sM (pw_or1 sM))).pt λB0 B σ H0 H Q f q=>h1 B0 B σ H0 H _ f λH1 cY g=>by exact q H1 cY g
 |false=>
  cases k2 with
  |true=>
   exact .of (pw_or ou (pw_or ou (pw_or1 sM))).pt λB0 B σ H0 H Q f q=>h1 B0 B σ H0 H _ f λH1 cY g=>by exact h2 Y B0 B σ H1 cY _ (f.grow g) λH2 f9 g2=>(q H2 f9 (g.trans g2))
  |false=>
   exact .of (pw_or ou (pw_or ou (pw_or1 ou))).pt λB0 B σ H0 H Q f q=>h1 B0 B σ H0 H _ f λH1 cY g=>by exact h2 Y B0 B σ H1 cY _ (f.grow g) λH2 f9 g2=>(h3 Y Y B0 B σ H2 f9 _ ((f.grow g).grow g2) λH3 yd g3=>q H3 yd ((g.trans g2).trans g3))
def zcF:U->Option Bool
 | .none=>some false
 | .bool b=>some b
 | .int i=>some (i != 0)
 | .list ds=>some (not ds.isEmpty)
 | .tuple ds=>some (not ds.isEmpty)
 |_=>none
theorem bQ.empty(r:bQ K H xs ds):xs.isEmpty=ds.isEmpty:=by cases r<;>rfl
theorem e8{t:Bool}(h:VE X a δ d)(ht:zcF d>>t)(he:∀whole,isTrue a X.env whole=(do let v <-whole;standAt a.pos;holding [v] (truthy v)):=by intro _;rfl):VT X a δ t:=
 .of (MV cA he) λB0 B σ H0 H Q f q=>h B0 B σ H0 H _ f λv H1 cY g r=>by
  refine#[t,?_,q H1 cY g];cases r with
  |non=>cases ht;exact(rfl:false=false)
  |bl b=>cases ht;exact(rfl:t=t)
  |int i=>cases ht;exact(rfl:(i != 0)=(i != 0))
  |str x=>cases ht
  |lst hq r=>cases ht;exact .inl #[_,g.sub.seq hq,by rw[r.empty]]
  |tup hq r=>cases ht;exact .inr (.inl #[_,g.sub.oo hq,by rw[r.empty]])
  |dct _ _ _=>cases ht
  |Tf _ _ _=>cases ht
  |obj _ _ _ _ _=>cases ht
  |obm _ _ _ _ _=>cases ht
  |Xh _ _ _=>cases ht
  |Xi _ _ _ _ _ _=>cases ht
theorem qJ{k:Bool}(h:VT X c δ k)(h1:k=true->VE X a δ d)(h2:k=false->VE X b δ d):VE X (.IfExp c a b pos) δ d:=
 .of (MP ou cA cA) λB0 B σ H0 H Q f q=>h B0 B σ H0 H _ f λH1 cY g=>by
  cases k with
  |true=>exact h1 Y B0 B σ H1 cY _ (f.grow g) λv H2 f9 g2 r=>q v H2 f9 (g.trans g2) r
  |false=>exact h2 Y B0 B σ H1 cY _ (f.grow g) λv H2 f9 g2 r=>q v H2 f9 (g.trans g2) r
theorem cZ:VA X [] δ []:=#[_,dP,λ_ _ _ _ _ _ f q=>q _ _ _ (.refl f.sub) .nil]
theorem du(h:VE X e δ d)(hr:VA X es δ ds)(hs:lF X e es:=by rfl):VA X (e::es) δ (d::ds):=by let#[t,p,ht]:=hr;exact#[_,cC cA p hs,λB0 B σ H0 H Q f q=>h B0 B σ H0 H _ f λv H1 cY g r=>ht B0 B σ H1 cY _ (f.grow g) λvs H2 f9 g2 rs=>q _ _ _ (g.trans g2) (.cons (r.mono g2.eE) rs)]
theorem iX{x1}(h:VA X es δ ds)(hz:ds.length<=sizeLine:=by(simp only[dq];rw[cL];decide)):VE X (.Tuple es x1 pos) δ (.tuple ds):=by let#[t,p,ht]:=h;exact .of (zH p) λB0 B σ H0 H Q f q=>ht B0 B σ H0 H _ f λvs H1 cY g r=>#[[r.length]▸hz,λa ha=>q _ _ _ (g.trans (.laid g.sub ha)) (.tup (nG.of aP) (r.mono (di.laid g.sub ha).eE))]
theorem da(h:VA X es δ ds)(hz:ds.length<=sizeLine:=by(simp only[dq];rw[cL];decide)):VO X (.List es pos) δ ds:=by let#[t,p,ht]:=h;exact .of (wZ p) λB0 B σ H0 H Q f q=>ht B0 B σ H0 H _ f λvs H1 cY g r=>#[[r.length]▸hz,λa ha=>q a vs H1 _ (g.trans (.loose g.sub ha)) (g.big.free ha) (g.sub.free ha) aP r]
def cutD{α:Type}(xs:!α)(lo hi:Option Int):!α:=(xs.drop (HT.oW xs.length 0 lo)).take (HT.oW xs.length xs.length hi-HT.oW xs.length 0 lo)
theorem bQ.cut(r:bQ K H xs ds)(lo hi:Option Int):bQ K H (KW xs lo hi) (cutD ds lo hi):=by unfold KW cutD;rw[r.length];exact(r.drop _).take _
inductive uK(X:Cx)(δ:!Slot):Option bY->Option Int->Prop
 |no:uK X δ none none
 |yes {e:bY} {i:Int}:VE X e δ (.int i)->uK X δ (some e) (some i)
theorem uK.ok{o:Option bY}{p:Option Int}(h:uK X δ o p):∃t,PO X o t/\∀B0 B σ H0 H Q,fK X.K B0 B H0 H σ δ->(∀c9 H',di H0 H c9 H'->Q p H')->t σ H Q:=by
 cases h with
 |no=>exact#[_,QG,λ_ _ _ _ _ _ f q=>q _ _ (.refl f.sub)]
 |yes h=>exact#[_,QH cA,λB0 B σ H0 H Q f q=>h B0 B σ H0 H _ f λv H1 cY g r=>by cases r;exact#[_,Y,q _ _ g]]
theorem mP{lo hi:Option bY}{l u:Option Int}(h:VE X a δ (.list ds))(hl:uK X δ lo l)(hh:uK X δ hi u):VO X (.Subscript a (.Slice lo hi none p2) pos) δ (cutD ds l u):=by
 let#[tl,pl,ql]:=hl.ok;let#[th,ph,qh]:=hh.ok;refine .of (zK QL cA pl ph) λB0 B σ H0 H Q f q=>h B0 B σ H0 H _ f λv H1 cY g r=>ql B0 B σ H1 cY _ (f.grow g) λH2 f9 g2=>qh B0 B σ H2 f9 _ ((f.grow g).grow g2) λH3 yd g3=>?_;cases r with
 |lst hq r=>refine#[_,_,Y,g3.sub.seq ((g2.eE.trans g3.eE).seq hq),λp hp=>?_];let gg:=(g.trans g2).trans g3;exact q p _ H3 _ (gg.trans (.loose g3.sub hp)) (gg.big.free hp) (g3.sub.free hp) aP ((r.mono (g2.eE.trans g3.eE)).cut l u)
theorem p_{lo hi:Option bY}{l u:Option Int}(h:VE X a δ (.tuple ds))(hl:uK X δ lo l)(hh:uK X δ hi u)(hw:¬(HT.oW ds.length 0 l=0/\HT.oW ds.length ds.length u=ds.length)):
  VE X (.Subscript a (.Slice lo hi none p2) pos) δ (.tuple (cutD ds l u)):=by
 let#[tl,pl,ql]:=hl.ok;let#[th,ph,qh]:=hh.ok;refine .of (zK Vc cA pl ph) λB0 B σ H0 H Q f q=>h B0 B σ H0 H _ f λv H1 cY g r=>ql B0 B σ H1 cY _ (f.grow g) λH2 f9 g2=>qh B0 B σ H2 f9 _ ((f.grow g).grow g2) λH3 yd g3=>?_;cases r with
 |tup hq r=>exact#[_,_,Y,g3.sub.oo ((g2.eE.trans g3.eE).oo hq),[r.length]▸hw,λp hp=>(q _ _ _ (((g.trans g2).trans g3).trans (.laid g3.sub hp)) (.tup (nG.of aP) (((r.mono (g2.eE.trans g3.eE)).cut l u).mono (di.laid g3.sub hp).eE)))]
def ow(K:ai)(r:!V->Hp->VK->Prop)(ds:!U)(d:U):Prop:=∀vs H0 H Q,cy H0 H->bQ K H0 vs ds->(∀v c9 H',di H0 H c9 H'->Rep K c9 v d->Q v H')->r vs H Q
def Jw(K:ai)(r:!V->Hp->VK->Prop)(ds es:!U):Prop:=∀vs H0 H Q,cy H0 H->bQ K H0 vs ds->
 (∀p xs c9 H',di H0 H c9 H'->H p=none->c9 p=none->H' p>>(.lst xs)->bQ K c9 xs es->Q (.ref p) H')->r vs H Q
theorem gv(hc:iS X (.builtin id) r)(hd:ow X.K r ds d)(ha:VA X (e::es) δ ds)(hm:X.mg x=none)(hv:bootBuiltins x>>(.builtin id))(hg:Gl X x:=by rfl)(hn:x≠"__name__":=by decide)(p5:uZ x:=by decide)
  (he:lF X e es:=by rfl)(mw:rQ X pos es:=by rfl):VE X (.Call (.Name x p) (e::es) [] pos) δ d:=by let#[t,pa,ht]:=ha;exact .of (sD hc hg hm hv pa hn p5 he mw) λB0 B σ H0 H Q f q=>ht B0 B σ H0 H _ f λvs H1 cY g r=>hd vs H1 cY Q g.sub r λv H2 f9 g2 r2=>q v H2 f9 (g.trans g2) r2
theorem kZ(hc:iS X (.type id) r)(hd:ow X.K r ds d)(ha:VA X (e::es) δ ds)(hm:X.mg x=none)(hv:bootBuiltins x>>(.type id))(hg:Gl X x:=by rfl)(hn:x≠"__name__":=by decide)(p5:uZ x:=by decide)
  (he:lF X e es:=by rfl)(mw:rQ X pos es:=by rfl):VE X (.Call (.Name x p) (e::es) [] pos) δ d:=by let#[t,pa,ht]:=ha;exact .of (lQ hc hg hm hv pa hn p5 he mw) λB0 B σ H0 H Q f q=>ht B0 B σ H0 H _ f λvs H1 cY g r=>hd vs H1 cY Q g.sub r λv H2 f9 g2 r2=>q v H2 f9 (g.trans g2) r2
theorem nW{zs:!U}(hc:iS X (.type id) r)(hd:Jw X.K r ds zs)(ha:VA X (e::es) δ ds)(hm:X.mg x=none)(hv:bootBuiltins x>>(.type id))(hg:Gl X x:=by rfl)(hn:x≠"__name__":=by decide)(p5:uZ x:=by decide)
  (he:lF X e es:=by rfl)(mw:rQ X pos es:=by rfl):VO X (.Call (.Name x p) (e::es) [] pos) δ zs:=by let#[t,pa,ht]:=ha;exact .of (lQ hc hg hm hv pa hn p5 he mw) λB0 B σ H0 H Q f q=>ht B0 B σ H0 H _ f λvs H1 cY g r=>hd vs H1 cY Q g.sub r λv xs H2 f9 g2 a1 a2 a3 a4=>q v xs H2 f9 (g.trans g2) (g.big.free a1) a2 a3 a4
theorem bQ.one(r:bQ K H vs [d]):∃v,vs=[v]/\Rep K H v d:=by cases r with|cons a t=>cases t;exact#[_,Y,a]
theorem bQ.two(r:bQ K H vs [d1,d2]):∃v w,vs=[v,w]/\Rep K H v d1/\Rep K H w d2:=by cases r with|cons a t=>cases t with|cons b t=>cases t;exact#[_,_,Y,a,b]
theorem YQ:ow K (λxs H Q=>∃p ys,xs=[.ref p]/\(jY K H p ys\/nG K H p ys)/\Q (.int ys.length) H) [.list ds] (.int ds.length):=λvs H0 H Q s r k=>by let#[v,rfl,r1]:=r.one;cases r1 with|lst hq r=>exact#[_,_,rfl,.inl (s.seq hq),k _ _ _ (.refl s) ([r.length]▸.int _)]
theorem Vw:ow K (λxs H Q=>∃p ys,xs=[.ref p]/\(jY K H p ys\/nG K H p ys)/\Q (.int ys.length) H) [.tuple ds] (.int ds.length):=λvs H0 H Q s r k=>by let#[v,rfl,r1]:=r.one;cases r1 with|tup hq r=>exact#[_,_,rfl,.inr (s.oo hq),k _ _ _ (.refl s) ([r.length]▸.int _)]
theorem zh:ow K (λxs H Q=>∃p ys,xs=[.ref p]/\((jY K H p ys/\∀l,H l=none->Q (.ref l) (upd H l (.tup ys)))\/(nG K H p ys/\Q (.ref p) H))) [.list ds] (.tuple ds):=λvs H0 H Q s r k=>by let#[v,rfl,r1]:=r.one;cases r1 with|lst hq r=>exact#[_,_,rfl,.inl #[s.seq hq,λl hl=>k _ _ _ (.laid s hl) (.tup (nG.of aP) (r.mono (di.laid s hl).eE))]]
theorem iN(h:VE X a δ (.list ds))(hm:X.mg "len"=none)(hg:Gl X "len":=by rfl)(hs:lF X a []:=by rfl):VE X (.Call (.Name "len" p) [a] [] pos) δ (.int ds.length):=gv vW YQ (du h cZ hs) hm uB hg (he:=hs)
theorem mB(h:VE X a δ (.tuple ds))(hm:X.mg "len"=none)(hg:Gl X "len":=by rfl)(hs:lF X a []:=by rfl):VE X (.Call (.Name "len" p) [a] [] pos) δ (.int ds.length):=gv vW Vw (du h cZ hs) hm uB hg (he:=hs)
theorem jt{d1 d2:!U}(h1:VE X a δ (.list d1))(h2:VE X b δ (.list d2))(hz:d1.length+d2.length<=sizeLine):VO X (.BinOp a .Add b pos) δ (d1++d2):=by
 refine .of (Eo Q9 cA cA) λB0 B σ H0 H Q f q=>h1 B0 B σ H0 H _ f λv H1 cY g1 r1=>h2 B0 B σ H1 cY _ (f.grow g1) λu H2 f9 g2 r2=>?_;cases r1 with
 |lst hq r1=>
  cases r2 with
  |lst K7 r2=>let gg:=g1.trans g2;exact#[_,_,_,_,Y,Y,g2.sub.seq (g2.eE.seq hq),g2.sub.seq K7,[r1.length,r2.length]▸hz,λp hp=>(q p _ H2 _ (gg.trans (.loose g2.sub hp)) (gg.big.free hp) (g2.sub.free hp) aP ((r1.mono g2.eE).append r2))]
end
inductive NC where
 |one (i:Nat)
 |tup (is:!Nat)
variable{tgt:NC}
def Hs:!Nat->S_
 | []=>X2
 |i::r=>Ta (BL i) (Hs r)
def Gv(K:ai):NC->TG
 | .one i=>BL i
 | .tup is=>X3 K is.length (Hs is)
def pM:!Nat->!U->!Slot->!Slot
 |i::r,d::ds,δ=>pM r ds (δ.set i (.val d))
 |_,_,δ=>δ
def sO:NC->U->!Slot->Option (!Slot)
 | .one i,d,δ=>some (δ.set i (.val d))
 | .tup is,.tuple ds,δ=>if ds.length=is.length then some (pM is ds δ)else none
 |_,_,_=>none
section
theorem EE:∀{is:!Nat}{xs:!V}{ds:!U}{σ:St}{δ:!Slot}{Q:St->Hp->Prop},fK K B0 B H0 H σ δ->bQ K H0 xs ds->ds.length=is.length->(∀σ',fK K B0 B H0 H σ' (pM is ds δ)->Q σ' H)->Hs is xs σ H Q
 | [],xs,ds,σ,δ,Q,f,r,hl,q=>by let:ds=[]:=nA hl;subst this;cases r;exact#[Y,q σ f]
 |i::is,xs,ds,σ,δ,Q,f,r,hl,q=>by
  cases r with
  |nil=>cases hl
  |cons a t=>exact#[_,_,Y,EE (f.set a) t ↑hl q]
theorem pN(f:fK K B0 B H0 H σ δ)(r:Rep K H0 v d)(h:sO tgt d δ>>δ')(q:∀σ',fK K B0 B H0 H σ' δ'->Q σ' H):Gv K tgt v σ H Q:=by
 cases tgt with
 |one i=>cases h;exact q _ (f.set r)
 |tup is=>
  cases r with
  |tup hq r=>
   rename_i ds
   let h':(if ds.length=is.length then some (pM is ds δ)else none)>>δ':=h;by_cases hl:ds.length=is.length
   .rw[qQ3 hl]at h';cases h';exact#[_,_,Y,f.sub.oo hq,by rw[r.length,hl],EE f r hl q]
   .rw[qQ2 hl]at h';cases h'
  |_=>cases h
end
def ItD(K:ai)(Ja:It)(H0:Hp)(ds:!U):Prop:=∀c9 H',cy H0 c9->cy c9 H'->∀i,(i<ds.length->Ja.go i H')/\(ds.length<=i->Ja.stop i H')/\
 ∀x wJ d,ds[i]?>>d->Ja.X4 i H' x wJ->∃YR,di c9 H' YR wJ/\Rep K YR x d
def VI(X:Cx)(tg iter:bY)(δ:!Slot)(ds:!U):Prop:=∃wi,PI X tg iter wi/\∀B0 B σ H0 H R,fK X.K B0 B H0 H σ δ->(∀Ja c9 H',di H0 H c9 H'->ItD X.K Ja c9 ds->R Ja H')->wi σ H R
def zR(ds:!U):!U:=ds.zipIdx.map λp=>.tuple [.int p.2,p.1]
theorem h_(ds:!U):(zR ds).length=ds.length:=by simp[zR]
theorem um(h:(zR ds)[i]?>>d):∃x,ds[i]?>>x/\d=.tuple [.int i,x]:=by
 unfold zR at h;rw[ay,I_]at h;cases e:ds[i]? with
 |none=>rw[e]at h;simp at h
 |some x=>rw[e]at h;simp at h;exact#[x,Y,h.symm]
def gy(n:Nat):!U:=(cv n).map λ(i:Nat)=>.int (i:Int)
section
variable{X:Cx}{tg a:bY}{δ:!Slot}{ds:!U}{pos:Pos}
theorem dX(h:VE X a δ (.list ds)):VI X tg a δ ds:=#[_,Jk cA,λB0 B σ H0 H R f q=>h B0 B σ H0 H _ f λv H1 cY g r=>by
 cases r with
 |lst hq r=>
  refine#[_,Y,#[_,g.sub.seq hq],q _ H1 cY g λHa Hb s1 s2 i=>?_];let hl:=r.length;let hS:=(s1.trans s2).seq hq;refine#[λhi=>?_,λhi=>#[_,hS,()],λx wJ d hd #[e,y]=>?_]
  .let#[x,hx,_]:=r.get (i:=i) (d:=ds[i]) (by simp[hi]);exact#[_,x,hS,hx]
  .subst e;exact#[Ha,.refl s2,(r.mono s1).at hd (y _ hS)]]
theorem vf(h:VE X a δ (.tuple ds)):VI X tg a δ ds:=#[_,U5 cA,λB0 B σ H0 H R f q=>h B0 B σ H0 H _ f λv H1 cY g r=>by
 cases r with
 |tup hq r=>
  refine#[_,Y,#[_,g.sub.oo hq],q _ H1 cY g λHa Hb s1 s2 i=>?_];let hl:=r.length;let hS:=(s1.trans s2).oo hq;refine#[λhi=>?_,λhi=>#[_,hS,()],λx wJ d hd #[e,y]=>?_]
  .let#[x,hx,_]:=r.get (i:=i) (d:=ds[i]) (by simp[hi]);exact#[_,x,hS,hx]
  .subst e;exact#[Ha,.refl s2,(r.mono s1).at hd (y _ hS)]]
theorem sP{n:Int}(h:VE X a δ (.int n))(hm:X.mg "range"=none)(h1:-(2^62)<=n)(h2:n<2^62)(hg:Gl X "range":=by rfl)(hs:starEach [a] X.env=[(false,eval a X.env)]:=by rfl):VI X tg (.Call (.Name "range" p) [a] [] pos) δ (gy n.toNat):=
 #[_,BO hg hm (cC cA dP hs) hs,λB0 B σ H0 H R f q=>h B0 B σ H0 H _ f λv H1 cY g r=>by
  cases r;refine#[n,Y,h1,h2,q _ H1 cY g λHa Hb s1 s2 i=>#[λhi=>(show i<n.toNat from by simpa[gy]using hi),λhi=>(show n.toNat<=i from by simpa[gy]using hi),λx wJ d hd #[e,y]=>?_]];subst e;subst y;unfold gy at hd;rw[ay]at hd;let hi:i<n.toNat:=by
   rcases Nat.lt_or_ge i n.toNat with z|z
   .exact z
   .rw[eO ↑z]at hd;cases hd
  rw[kK hi]at hd;cases hd;exact#[Ha,.refl s2,[Int.zero_add]▸.int _]]
theorem zj{k}(h:VE X a δ (.list ds))(hm:X.mg "enumerate"=none)(hg:Gl X "enumerate":=by rfl)(hs:starEach [a] X.env=[(false,eval a X.env)]:=by rfl):VI X (.Tuple elts k tp) (.Call (.Name "enumerate" p) [a] [] pos) δ (zR ds):=
 #[_,Q6 hg hm (cC cA dP hs) hs,λB0 B σ H0 H R f q=>h B0 B σ H0 H _ f λv H1 cY g r=>by
  cases r with
  |lst hq r=>
   refine#[_,Y,#[_,g.sub.seq hq],q _ H1 cY g λHa Hb s1 s2 i=>?_];let hl:=r.length;let hS:=(s1.trans s2).seq hq;refine#[λhi=>?_,λhi=>#[_,hS,by rw[h_]at hi;omega],λx wJ d hd #[t,y,e1,e2,e3,e4]=>?_]
   .rw[h_]at hi;let#[x,hx,_]:=r.get (i:=i) (d:=ds[i]) (by simp[hi]);exact#[_,x,hS,hx]
   .let#[z,hz,rfl]:=um hd;subst e1;subst e3;refine#[_,.laid s2 e2,.tup (nG.of aP) (.cons (.int _) (.cons ?_ .nil))];exact((r.mono s1).at hz (e4 _ hS)).mono (di.laid s2 e2).eE]
end
def cTs(X:Cx)(ifs:!bY):TT:=λσ H Q=>∀pins s,Inv X pins σ H s->wpAny (model X.prog X.w) X.A (testsOf ifs X.env) (TP X pins σ Q) X.xe s
def Q_(X:Cx)(ifs:!bY)(δ:!Slot)(b:Bool):Prop:=∀B0 B σ H0 H Q,fK X.K B0 B H0 H σ δ->(∀c9 H',di H0 H c9 H'->Q b H')->cTs X ifs σ H Q
theorem mI:Q_ X [] δ true:=λ_ _ _ _ _ _ f q pins s I=>De pins s _ _ _ I (q _ _ (.refl f.sub))
theorem uo(h:VT X c δ b):Q_ X [c] δ b:=λB0 B σ H0 H Q f q pins s I=>QZ ou pins s σ H Q I (h B0 B σ H0 H Q f q)
def YS:Slot->Slot
 | .val d=>.val d
 |_=>.un
def nF(own:!O)(cap:!Nat)(δ:!Slot):!Slot:=bo own.length .un++cap.map λi=>YS (δ.getD i .un)
section
theorem fK.comp(f:fK K B0 B H0 H σ δ)(own:!O)(cap:!Nat):fK K B0 B H0 H (kP own cap σ) (nF own cap δ):=by
 let noOwn:∀(i:Nat)ds,(nF own cap δ)[i]?≠some (.own ds):=λi ds e=>by
  unfold nF at e;by_cases hi:i<own.length
  .rw[bN ↑hi,cK]at e;split at e<;>cases e
  .rw[bF ↑(eI hi),ay]at e;cases q:cap[i-(bo own.length Slot.un).length]? with
   |none=>rw[q]at e;cases e
   |some j=>rw[q]at e;simp only[dJ,eY]at e;revert e;cases δ.getD j .un<;>(intro e;cases e)
 refine#[f.ent,by simp[kP,nF],λi sl e=>?_,λi j ds es p _ a1=>qQ7 a1 (noOwn i ds)];unfold nF at e;unfold kP;by_cases hi:i<own.length
 .rw[bN ↑hi,cK]at e;split at e<;>cases e<;>trivial
 .rw[bF ↑(eI hi),ay,dY]at e;rw[bF ↑(eI hi),ay,dY];cases q:cap[i-own.length]? with
  |none=>rw[q]at e;cases e
  |some j=>
   rw[q]at e;simp only[dJ,eY]at e ⊢;cases w:δ[j]? with
   |none=>rw[aQ,w]at e;subst e;trivial
   |some UO=>
    rw[aQ,w]at e;cases UO with
    |un=>subst e;trivial
    |ref a=>subst e;trivial
    |own ds=>subst e;trivial
    |val d=>subst e;let#[v,h1,h2]:=f.slot j _ w;exact#[v,by rw[aQ,h1];rfl,h2]
theorem fK.forget(f:fK K B0 B H0 H σ δ)(hl:δ'.length=δ.length)(h:∀(i:Nat)sl,δ'[i]?>>sl->sl=.un\/δ[i]?>>sl):fK K B0 B H0 H σ δ':=by
 refine#[f.ent,[hl]▸f.len,λi sl e=>?_,λi j ds es p yK a1 a2 a3=>?_]
 .rcases h i sl e with rfl|z
  .trivial
  .exact f.slot i sl z
 .rcases h i _ a1 with z|z
  .cases z
  .rcases h j _ a2 with y|y
   .cases y
   .exact f.apart i j ds es p yK z y a3
theorem fK.touch(f:fK K B0 B H0 H σ δ)(h0:H0 D=none)(hB:B D=none)(hn:∀(i:Nat)ds,δ[i]?≠some (.own ds)):fK K B0 B H0 (upd H D o) σ δ:=by
 refine#[#[λb u e=>[aI (bu e hB)]▸f.ent.big b u e,f.ent.eE,λb u e=>[aI (bu e h0)]▸f.ent.sub b u e,f.ent.new],f.len,λi sl e=>?_,f.apart];let q:=f.slot i sl e;cases sl with
 |un=>trivial
 |ref a=>exact q
 |val d=>exact q
 |own ds=>exact qQ7 e (hn i ds)
end
theorem pO:∀(is:!Nat)(ds:!U)(δ:!Slot),(pM is ds δ).length=δ.length
 | [],_,_=>rfl
 |_::_,[],_=>rfl
 |i::is,d::ds,δ=>by show(pM is ds (δ.set i _)).length=_;rw[pO];simp
theorem vg:∀(is:!Nat)(ds:!U)(δ:!Slot)(j:Nat),j∉is->(pM is ds δ)[j]?=δ[j]?
 | [],_,_,_,_=>rfl
 |_::_,[],_,_,_=>rfl
 |i::is,d::ds,δ,j,h=>by show(pM is ds (δ.set i _))[j]?=_;rw[vg is ds _ j λz=>h (aD _ z),aO (λ(z:i=j)=>h ([z]▸aB))]
def qc(n:Nat):NC->Bool
 | .one i=>decide (i<n)
 | .tup is=>is.all λi=>decide (i<n)
theorem comp_back(ht:qc own.length tgt=true)(h:sO tgt d (nF own cap δ)>>δ'):
  δ'.length=(nF own cap δ).length/\∀(i:Nat)sl,(nF own cap δ)[i]?>>sl->sl=.un\/δ'[i]?>>sl:=by
 let low:∀(i:Nat)sl,i<own.length->(nF own cap δ)[i]?>>sl->sl=.un:=λi sl hi e=>by unfold nF at e;rw[bN ↑hi,cK]at e;split at e<;>cases e<;>rfl
 cases tgt with
 |one i=>
  cases h;refine#[∅,λj sl e=>?_];let hi:i<own.length:=by simpa[qc]using ht
  by_cases hj:j<own.length
  .exact .inl (low j sl hj e)
  .exact .inr ((aO ()).trans e)
 |tup is=>
  cases d with
  |tuple ds=>
   let h':(if ds.length=is.length then some (pM is ds _)else none)>>δ':=h;by_cases hl:ds.length=is.length
   .rw[qQ3 hl]at h';cases h';refine#[pO _ _ _,λj sl e=>?_];by_cases hj:j<own.length
    .exact .inl (low j sl hj e)
    .refine .inr ?_;rw[vg _ _ _ _ λz=>hj ?_]
     .exact e
     .let:=cV.mp ht j z;simpa using this
   .rw[qQ2 hl]at h';cases h'
  |_=>cases h
theorem o4(i:Nat)(ds:!U):(nF own cap δ)[i]?≠some (.own ds):=λe=>by
 unfold nF at e;by_cases hi:i<own.length
 .rw[bN ↑hi,cK]at e;split at e<;>cases e
 .rw[bF ↑(eI hi),ay]at e;cases q:cap[i-(bo own.length Slot.un).length]? with
  |none=>rw[q]at e;cases e
  |some j=>rw[q]at e;simp only[dJ,eY]at e;revert e;cases δ.getD j .un<;>(intro e;cases e)
section
variable{X:Cx}{sc:nT}{own:!O}{cap:!Nat}{cl:!(O×J)}{δ:!Slot}
def zS(X:Cx)(sc:nT)(own:!O)(cap:!Nat)(N:!O)(cl:!(O×J))(tgt:NC)(elt:bY)(ifs:!bY)(δ:!Slot)(F:U->Option U)(d:U):Prop:=
 ∃δ',sO tgt d (nF own cap δ)>>δ'/\(∀f s3 H3,Q_ (eZ X sc N cl f s3 H3) ifs δ' (F d).isSome)/\∀r,F d>>r->∀f s3 H3,VE (eZ X sc N cl f s3 H3) elt δ' r
theorem Bi{F:U->Option U}{tgt:NC}{N: !O}{elt:bY}{r: U}(h1:sO tgt d (nF own cap δ)>>δ')(h2:F d>>r)(h3:∀f s3 H3,VE (eZ X sc N cl f s3 H3) elt δ' r):zS X sc own cap N cl tgt elt [] δ F d:=
 #[δ',h1,λf s3 H3=>[h2]▸mI,λr' e f s3 H3=>by rw[h2]at e;cases e;exact h3 f s3 H3]
def teC(X:Cx)(sc:nT)(N:!O)(cl:!(O×J))(elt:bY):TE:=λσ H Q=>∀f s3 H3,cE (eZ X sc N cl f s3 H3) elt σ H Q
def YT(X:Cx)(sc:nT)(N:!O)(cl:!(O×J))(ifs:!bY):TT:=λσ H Q=>∀f s3 H3,cTs (eZ X sc N cl f s3 H3) ifs σ H Q
theorem sQ(ht:qc own.length tgt=true)(hz:ds.length<=sizeLine)(step:∀d∈ds,zS X sc own cap N cl tgt elt ifs δ F d)(f:fK X.K B0 B H0 H σ δ)(it:ItD X.K Ja H0 ds)
  (q:∀p xs c9 H',di H0 H c9 H'->H p=none->c9 p=none->H' p>>(.lst xs)->bQ X.K c9 xs (ds.filterMap F)->Q (.ref p) H'):
  xi Ja (Gv X.K tgt) (YT X sc N cl ifs) (teC X sc N cl elt) (kP own cap σ) H Q:=by
 intro D hD;let hBD:=f.ent.big.free hD;refine#[λi m ys σ' H'=>i<=ds.length/\m=ds.length-i/\ys.length<=i/\∃Ha,di H0 H Ha H'/\fK X.K B0 B Ha H' σ' _/\Ha D=none/\H' D>>(.lst ys)/\bQ X.K Ha ys ((ds.take i).filterMap F),
  #[_,aY _,Y,aE _,H0,.loose f.sub hD,(f.comp own cap).touch (f.sub.free hD) hBD o4,f.sub.free hD,aP,by simpa using bQ.nil],?_];rintro i m ys σ' H' ⟨hi,rfl,hy,Ha,g,fa,Ti,Xf,rs⟩;let#[i1,i2,i3]:=it Ha H' g.eE g.sub i;by_cases ng:i<ds.length
 .refine .inr #[i1 ng,λx H2 y=>?_];let hd:ds[i]?>>ds[i]:=by simp[ng]
  let#[Hb,g2,rx]:=i3 x H2 ds[i] hd y;let#[δ',e1,e2,e3]:=step ds[i] (eD ng);let#[k1,k2]:=comp_back ht e1;let noD:∀{Hx Hy:Hp},di Ha H' Hx Hy->Hx D=none:=λ{Hx Hy}gg=>by
   cases e:Hx D with
   |none=>rfl
   |some o=>
    rcases gg.new D (by rw[e];simp)with z|z
    .exact qQ7 Ti z
    .rw[Xf]at z;cases z
  let tk:(ds.take (i+1)).filterMap F=(ds.take i).filterMap F++(F ds[i]).toList:=by rw[cB,hd,uh];cases eF:F ds[i]<;>simp[kJ,eF]
  refine pN (fa.grow g2) rx e1 λσ3 f3=>?_;intro fp s3 H3;refine e2 fp s3 H3 B0 B σ3 Hb H2 _ f3 λHc H4 g4=>?_;let YV:=g2.trans g4;cases eF:F ds[i] with
  |none=>refine#[_,(),ng,Y,(),Hc,g.trans YV,(f3.grow g4).forget k1.symm k2,noD YV,YV.big _ _ Xf,?_];rw[tk,eF];simpa using rs.mono YV.eE
  |some r=>
   intro fp' s3' yd;refine e3 r eF fp' s3' yd B0 B σ3 Hc H4 _ (f3.grow g4) λw Hd H5 g5 r5=>?_;let Qc:=YV.trans g5;let hD5:=noD Qc;refine#[Qc.big _ _ Xf,(),_,(),ng,Y,by simp;omega,Hd,?_,((f3.grow g4).grow g5 |>.forget k1.symm k2).touch hD5 hBD o4,hD5,aP,?_]
   .let gg:=g.trans Qc;exact#[λb u e=>[aI (bu e hD)]▸gg.big b u e,gg.eE,λb u e=>[aI (bu e hD5)]▸gg.sub b u e,gg.new]
   .rw[tk,eF];exact(rs.mono Qc.eE).append (.cons r5 .nil)
 .let e:i=ds.length:=();subst e;refine .inl #[i2 (),q D ys Ha H' g hD Ti Xf ?_];simpa using rs
theorem dF(hc:X.calm=true)(CS:iM X sc own cap N cl)(hi:VI X tg iter δ ds)(hg:∀f s3 H3,PG (eZ X sc N cl f s3 H3) tg (Gv X.K tgt))(ht:qc own.length tgt=true)(hz:ds.length<=sizeLine)
  (step:∀d∈ds,zS X sc own cap N cl tgt elt ifs δ F d)(hs:Jf X iter:=by intro _;rfl):VO X (.ListComp elt [#[tg,iter,ifs,0]] sc pos) δ (ds.filterMap F):=by let#[wi,pi,qi]:=hi;exact .of (Ju (tc:=YT X sc N cl ifs) (te:=teC X sc N cl elt) hc CS pi hg (λf s3 H3 pins s σ H Q I h=>h f s3 H3 pins s I) (λf s3 H3 pins s σ H Q I h=>h f s3 H3 pins s I) hs) λB0 B σ H0 H Q f q=>(qi B0 B σ H0 H _ f λJa H1 cY g it=>(sQ ht hz step (f.grow g) it λp xs Ha Hb g2 a1 a2 a3 a4=>q p xs Ha Hb (g.trans g2) (g.big.free a1) a2 a3 a4))
end
inductive Out where
 |nx (δ:!Slot)|bk (δ:!Slot)|ct (δ:!Slot)
 |rt (d:U)|ro (ds:!U)|r2 (ds:!U) (d:U)|ru (Ua:Hp->V->Hp->Hp->Prop)
def vh(K:ai)(B0 B H0:Hp)(D:Ends):Out->Prop
 | .nx δ=>∀σ' c9 H',cy H0 c9->fK K B0 B c9 H' σ' δ->D.nx σ' H'
 | .bk δ=>∀σ' c9 H',cy H0 c9->fK K B0 B c9 H' σ' δ->D.bk σ' H'
 | .ct δ=>∀σ' c9 H',cy H0 c9->fK K B0 B c9 H' σ' δ->D.ct σ' H'
 | .rt d=>∀v c9 H',di B0 B c9 H'->Rep K c9 v d->D.rt v H'
 | .ro ds=>∀p xs c9 H',di B0 B c9 H'->B p=none->c9 p=none->H' p>>(.lst xs)->bQ K c9 xs ds->D.rt (.ref p) H'
 | .r2 ds d=>∀t p xs v c9 H',di B0 B c9 H'->B p=none->c9 p=none->H' p>>(.lst xs)->bQ K c9 xs ds->B t=none->c9 t=none->H' t>>(.tup [.ref p,v])->Rep K c9 v d->D.rt (.ref t) H'
 | .ru Ua=>∀v c9 H',di B0 B c9 H'->Ua B v c9 H'->D.rt v H'
def NF:Out->Bool
 | .rt _=>true | .ro _=>true | .r2 _ _=>true | .ru _=>true|_=>false
theorem vh.mono(s:cy H0 c9):∀{o:Out},vh K B0 B H0 D o->vh K B0 B c9 D o
 | .nx _,h=>λσ a b s' f=>h σ a b (s.trans s') f
 | .bk _,h=>λσ a b s' f=>h σ a b (s.trans s') f
 | .ct _,h=>λσ a b s' f=>h σ a b (s.trans s') f
 | .rt _,h=>h
 | .ro _,h=>h
 | .r2 _ _,h=>h
 | .ru _,h=>h
theorem vh.ret(e:D.rt=D'.rt):∀{o:Out},NF o=true->vh K B0 B H0 D o->vh K B0 B c9 D' o
 | .rt _,_,h=>by unfold vh at *;rw[<-e];exact h
 | .ro _,_,h=>by unfold vh at *;rw[<-e];exact h
 | .r2 _ _,_,h=>by unfold vh at *;rw[<-e];exact h
 | .ru _,_,h=>by unfold vh at *;rw[<-e];exact h
 | .nx _,z,_=>by cases z
 | .bk _,z,_=>by cases z
 | .ct _,z,_=>by cases z
def VS(X:Cx)(st:kr)(δ:!Slot)(o:Out):Prop:=∀B0 B σ H0 H D,fK X.K B0 B H0 H σ δ->vh X.K B0 B H0 D o->cS X st D σ H
def qK(X:Cx)(st:!kr)(δ:!Slot)(o:Out):Prop:=∀B0 B σ H0 H D,fK X.K B0 B H0 H σ δ->vh X.K B0 B H0 D o->Ed X st D σ H
section
variable{X:Cx}{st:kr}{rest body orelse:!kr}{δ δ':!Slot}{o:Out}{c e:bY}{d:U}{ds:!U}{pos px:Pos}{x:O}
theorem bw:qK X [] δ (.nx δ):=λ_ _ σ H0 H _ f ok pins s I=>Jj pins s σ H _ I (ok σ H0 H (cy.refl _) f)
theorem aL(h1:VS X st δ (.nx δ'))(h2:qK X rest δ' o):qK X (st::rest) δ o:=λB0 B σ H0 H D f ok pins s I=>k9 Nx kY pins s σ H D I (h1 B0 B σ H0 H _ f λσ' Ha Hb sm f'=>h2 B0 B σ' Ha Hb D f' (ok.mono sm))
theorem dB(h1:VS X st δ o)(hr:NF o=true):qK X (st::rest) δ o:=λB0 B σ H0 H D f ok pins s I=>k9 Nx jZ pins s σ H D I (h1 B0 B σ H0 H _ f (vh.ret (by rfl) hr ok))
theorem a8(h1:VS X st δ o):qK X [st] δ o:=λB0 B σ H0 H D f ok pins s I=>CW Nx pins s σ H D I (h1 B0 B σ H0 H D f ok)
theorem dC(i:Nat)(h:VE X e δ d)(hN:X.N.Nodup)(hi:X.N[i]?>>x:=by rfl)(hx:Loc X.env.scope x:=by left)(hs:CN X pos e (.Name x px):=by rfl)(hf:zC X x:=by left):
  VS X (.Assign [.Name x px] e pos) δ (.nx (δ.set i (.val d))):=λB0 B σ H0 H D f ok pins s I=>u6 hN hi hx cA hs hf pins s σ H D I (h B0 B σ H0 H _ f λv H1 cY g r=>ok _ H1 cY g.eE ((f.grow g).set r))
theorem j0(i:Nat)(h:VO X e δ ds)(hN:X.N.Nodup)(hi:X.N[i]?>>x:=by rfl)(hx:Loc X.env.scope x:=by left)(hs:CN X pos e (.Name x px):=by rfl)(hf:zC X x:=by left):
  VS X (.Assign [.Name x px] e pos) δ (.nx (δ.set i (.own ds))):=λB0 B σ H0 H D f ok pins s I=>
 u6 hN hi hx cA hs hf pins s σ H D I (h B0 B σ H0 H _ f λp xs H1 cY g h1 h2 h3 r=>ok _ H1 cY g.eE ((f.grow g).Nv h3 h2 (f.ent.big.free h1) r λj es e2 e3=>by let#[p',xs',g1,g2,_]:=f.slot j _ e2;rw[e3]at g1;cases g1;rw[h1]at g2;cases g2))
theorem dH(h:VT X c δ true)(h1:qK X body δ o):VS X (.If c body orelse pos) δ o:=λB0 B σ H0 H D f ok pins s I=>x3 ou kY jZ pins s σ H D I (h B0 B σ H0 H _ f λH1 cY g=>QQ (h1 B0 B σ H1 cY D (f.grow g) (ok.mono g.eE)))
theorem bP(h:VT X c δ false)(h1:qK X orelse δ o):VS X (.If c body orelse pos) δ o:=λB0 B σ H0 H D f ok pins s I=>x3 ou jZ kY pins s σ H D I (h B0 B σ H0 H _ f λH1 cY g=>QP (h1 B0 B σ H1 cY D (f.grow g) (ok.mono g.eE)))
theorem b9(h:VE X e δ d):VS X (.Return (some e) pos) δ (.rt d):=λB0 B σ H0 H D f ok pins s I=>wX cA pins s σ H D I (h B0 B σ H0 H _ f λv H1 cY g r=>ok v H1 cY (f.ent.trans g) r)
theorem Jx(h:VO X e δ ds):VS X (.Return (some e) pos) δ (.ro ds):=λB0 B σ H0 H D f ok pins s I=>wX cA pins s σ H D I (h B0 B σ H0 H _ f λp xs H1 cY g a1 a2 a3 a4=>ok p xs H1 cY (f.ent.trans g) (f.ent.big.free a1) a2 a3 a4)
theorem Jy(i:Nat)(h:δ[i]?>>(.own ds))(hN:u5 X i x:=by ac_rfl):
  VS X (.Return (some (.Name x px)) pos) δ (.ro ds):=λB0 B σ H0 H D f ok pins s I=>wX (xZ hN) pins s σ H D I (by let#[p,xs,h1,h2,h3,h4,h5]:=f.slot i _ h;exact#[_,h1,ok p xs H0 H f.ent h4 h3 h2 h5])
theorem fk(i:Nat){ap:Pos}{p0:Pos}(hi:δ[i]?>>(.own ds))(h:VE X e δ d)(hz:ds.length<sizeLine)(hN:u5 X i x:=by ac_rfl)
  (hs:lF X e []:=by rfl)(gM:y6 X (.Name x p0) "append":=by rfl)
  (om:Mx X px [e]:=by rfl)
  (hline:(ap.endLine==px.line)=true:=by rfl)(gN:rQ X px []:=by rfl)(pL:XM X pos (.Call (.Attribute (.Name x p0) "append" ap) [e] [] px):=by rfl):
  VS X (.Expr (.Call (.Attribute (.Name x p0) "append" ap) [e] [] px) pos) δ (.nx (δ.set i (.own (ds ++ [d])))):=λB0 B σ H0 H D f ok pins s I=>by refine oV (sE dZ fM fN lS (xZ hN) (cC cA dP hs) gM om hline hs gN) pL pins s σ H D I ?_;let#[p,xs,h1,h2,h3,h4,h5]:=f.slot i _ hi;refine#[_,h1,.inl #[Y,_,jY.of h2],?_];refine h B0 B σ H0 H _ f λv H1 cY g r=>?_;refine#[p,xs,v,Y,Y,g.big _ _ h2,[h5.length]▸hz,ok σ H1 _ g.eE ((f.grow g).push hi h1 (g.big _ _ h2) r)]
theorem fF(i:Nat)(hi:δ[i]?>>(.own ds))(h:qK X rest (δ.set i (.val (.list ds))) o):qK X rest δ o:=λB0 B σ H0 H D f ok=>by let#[p,xs,h1,h2,h3,h4,h5]:=f.slot i _ hi;let#[f',sm]:=f.freeze hi h1 h2;exact h B0 B σ _ H D f' (ok.mono sm)
def Ra:!Slot->!Slot->Prop
 | [],[]=>True
 |a::l,b::m=>(b=.un\/a=b)/\Ra l m
 |_,_=>False
theorem Ra.len:∀{l m:!Slot},Ra l m->m.length=l.length
 | [],[],_=>rfl
 |_::_,_::_,h=>by simp[Ra.len h.2]
 | [],_::_,h=>h.elim
 |_::_,[],h=>h.elim
theorem Ra.at:∀{l m:!Slot},Ra l m->∀(i:Nat)sl,m[i]?>>sl->sl=.un\/l[i]?>>sl
 | [],[],_,_,_,e=>by simp at e
 |a::l,b::m,h,0,sl,e=>by
  simp at e;subst e;rcases h.1 with z|z
  .exact .inl z
  .exact .inr (by simp[z])
 |a::l,b::m,h,i+1,sl,e=>by simpa using Ra.at h.2 i sl ↑e
 | [],_::_,h,_,_,_=>h.elim
 |_::_,[],h,_,_,_=>h.elim
theorem eW(h:qK X rest δ (.nx δ'))(hf:Ra δ' δ2):qK X rest δ (.nx δ2):=λB0 B σ H0 H D f ok=>h B0 B σ H0 H D f λσ' Ha Hb sm f'=>ok σ' Ha Hb sm (f'.forget hf.len hf.at)
theorem lU{tg iter:bY}(hp:uz (model X.prog X.w) X.A X.env X.xe)(hc:X.calm=true)(hi:VI X tg iter δ ds)(hg:PG X tg (Gv X.K tgt))(δs:Nat->!Slot)(m:Nat)(h0:δs 0=δ)(hm:m<=ds.length)
  (step:∀k d,k<m->ds[k]?>>d->∃δ',sO tgt d (δs k)>>δ'/\qK X body δ' (.nx (δs (k+1))))
  (fin:(m=ds.length/\o=.nx (δs m))\/∃d δ',ds[m]?>>d/\sO tgt d (δs m)>>δ'/\NF o=true/\qK X body δ' o)
  (hs:Jf X iter:=by intro _;rfl):VS X (.For tg iter body [] pos) δ o:=λB0 B σ H0 H D f ok pins s I=>by
 let#[wi,pi,qi]:=hi;refine zE hp hc pi hg kY hs pins s σ H D I ?_;refine qi B0 B σ H0 H _ f λJa H1 cY g it=>?_;refine#[λi mm σ' H'=>i<=m/\mm=m+1-i/\∃Ha,cy H1 Ha/\fK X.K B0 B Ha H' σ' (δs i),#[m+1,aY _,Y,H1,cy.refl _,[h0]▸f.grow g],?_];rintro i mm σ' H' ⟨hi,rfl,Ha,sm,fa⟩;let#[i1,i2,i3]:=it Ha H' sm fa.sub i;by_cases ng:i<m
 .refine .inr #[i1 (),λσ'' wJ=>∃Hb,cy H1 Hb/\fK X.K B0 B Hb wJ σ'' (δs (i+1)),λσ'' wJ #[Hb,z1,z2]=>#[_,(),ng,Y,Hb,z1,z2],λv H2 y=>?_];let hd:ds[i]?>>(ds[i]'()):=∅
  let#[Hb,g2,rx]:=i3 v H2 _ hd y;let#[δ',e1,e2]:=step i _ ng hd;exact pN (fa.grow g2) rx e1 λσ3 f3=>(e2 B0 B σ3 Hb H2 _ f3 λσ4 Hc H4 s4 f4=>#[Hc,(sm.trans g2.eE).trans s4,f4])
 .let e:i=m:=();subst e;rcases fin with⟨e1,e2⟩|⟨d,δ',hd,e1,hr,e2⟩
  .subst e2;exact .inl #[i2 (),ok σ' Ha H' (g.eE.trans sm) fa]
  .let zcH:=(aq.mp hd).1;refine .inr #[i1 zcH,λ_ _=>False,λ_ _ z=>z.elim,λv H2 y=>?_];let#[Hb,g2,rx]:=i3 v H2 _ hd y;exact pN (fa.grow g2) rx e1 λσ3 f3=>(e2 B0 B σ3 Hb H2 _ f3 (vh.ret (D:=D) (by rfl) hr ok))
end
def gi(K:ai)(R:!U->U->Prop):Sp:=λvs H Q _=>∃H0 ds d,cy H0 H/\bQ K H0 vs ds/\R ds d/\∀v c9 H',di H0 H c9 H'->Rep K c9 v d->Q v H'
def Qd(K:ai)(R:!U->!U->Prop):Sp:=λvs H Q _=>∃H0 ds es,cy H0 H/\bQ K H0 vs ds/\R ds es/\
 ∀p xs c9 H',di H0 H c9 H'->H p=none->c9 p=none->H' p>>(.lst xs)->bQ K c9 xs es->Q (.ref p) H'
def a_(P:bW)(w:cP)(K:ai)(mg:O->Option M)(base:dv)(k:Nat)(x:O)(ps:!O)(sp:Sp):Prop:=
 ∃f fd,dW P w K mg base jO k f fd ps sp/\mg x>>(.ref f)/\iL K (.ref f)=true/\Binds K fd ps []
section
variable{X:Cx}{x:O}{e:bY}{p pos:Pos}
theorem bE{d:U}{δ:!Slot}{es:!bY}{ds:!U}{k:Nat}{ps:!O}{R:!U->U->Prop}(C:a_ X.prog X.w X.K X.mg X.base k x ps (gi X.K R))(hr:eL k X.A)(ha:VA X (e::es) δ ds)(hp:R ds d)(hg:Gl X x:=by rfl)(p5:uZ x:=by decide)
  (he:lF X e es:=by rfl)(mw:rQ X pos es:=by rfl):VE X (.Call (.Name x p) (e::es) [] pos) δ d:=by
 let#[f,fd,F,hm,hk,hb]:=C;let#[t,pa,qa]:=ha;exact .of (qE F hr hg hm hk hb .nil x8 pa p5 he mw) λB0 B σ H0 H Q fr q=>qa B0 B σ H0 H _ fr λvs H1 cY g1 rs=>by rw[bC];exact#[H1,ds,d,g1.sub,rs,hp,λv H2 f9 g2 r=>q v H2 f9 (g1.trans g2) r]
theorem zk(C:a_ X.prog X.w X.K X.mg X.base k x ps (Qd X.K R))(hr:eL k X.A)(ha:VA X (e::es) δ ds)(hp:R ds zs)(hg:Gl X x:=by rfl)(p5:uZ x:=by decide)
  (he:lF X e es:=by rfl)(mw:rQ X pos es:=by rfl):VO X (.Call (.Name x p) (e::es) [] pos) δ zs:=by
 let#[f,fd,F,hm,hk,hb]:=C;let#[t,pa,qa]:=ha;exact .of (qE F hr hg hm hk hb .nil x8 pa p5 he mw) λB0 B σ H0 H Q fr q=>qa B0 B σ H0 H _ fr λvs H1 cY g1 rs=>by rw[bC];exact#[H1,ds,zs,g1.sub,rs,hp,λv xs H2 f9 g2 a1 a2 a3 a4=>q v xs H2 f9 (g1.trans g2) (g1.big.free a1) a2 a3 a4]
end
def pP(N:!O)(ds:!U):!Slot:=ds.map .val++bo (N.length-ds.length) .un
theorem fK.start(s:cy H0 H)(r:bQ K H0 vs ds):fK K H0 H H0 H (start N vs) (pP N ds):=by
 let hl:=r.length;refine#[.refl s,by simp[L2.start,pP,hl],λi sl e=>?_,λi j a b p _ e=>?_]
 .unfold pP at e;unfold L2.start;by_cases hi:i<ds.length
  .rw[bN ↑hi,ay]at e;let hd:ds[i]?>>ds[i]:=by simp[hi]
   rw[hd]at e;cases e;let#[v,h1,h2]:=r.get hd;exact#[v,by rw[bN (by simp;omega),ay,h1];rfl,h2]
  .rw[bF ↑(eI hi),cK]at e;split at e<;>cases e;trivial
 .unfold pP at e;by_cases hi:i<ds.length
  .rw[bN ↑hi,ay]at e;let hd:ds[i]?>>ds[i]:=by simp[hi]
   rw[hd]at e;cases e
  .rw[bF ↑(eI hi),cK]at e;split at e<;>cases e
section
variable{P:bW}{w:cP}{K:ai}{mg:O->Option M}{base:dv}{x qual:O}{st:kr}{f:J}{fd:iu}{N ps:!O}{k:Nat}
abbrev sS(P:bW)(w:cP)(K:ai)(mg:O->Option M)(base:dv)(N:!O)(qual:O)(st:kr)(f:J)(k:Nat)(ds:!U)(o:Out):Prop:=
 ∀gk A outer s H E,eL k (A.deeper (envOfC qual (bA st) s.heap.objs.size f gk))->qK (C6 jO P w K mg base N qual (bA st) f gk A outer s H E).S9 (my st) (pP N ds) o
theorem iO{R:!U->U->Prop}(F:kz K x qual st f fd)(S:cg N ps (bA st))(hl:∀ds d,R ds d->ds.length=ps.length)(hb:∀ds d,R ds d->sS P w K mg base N qual st f k ds (.rt d)):dW P w K mg base jO (k+1) f fd ps (gi K R):=by
 refine F.ok S (λvs H Q E h=>?_) (λgk A outer s H vs Q E hr h=>?_)
 .let#[H0,ds,d,_,r,hp,_]:=h;rw[r.length,hl ds d hp]
 .let#[H0,ds,d,sm,r,hp,q]:=h;exact#[_,kY,hb ds d hp gk A outer s H E hr H0 H _ H0 H _ (.start sm r) q]
theorem Rb(F:kz K x qual st f fd)(S:cg N ps (bA st))(hl:∀ds d,R ds d->ds.length=ps.length)(hb:∀ds d,R ds d->sS P w K mg base N qual st f k ds (.ro d)):dW P w K mg base jO (k+1) f fd ps (Qd K R):=by
 refine F.ok S (λvs H Q E h=>?_) (λgk A outer s H vs Q E hr h=>?_)
 .let#[H0,ds,d,_,r,hp,_]:=h;rw[r.length,hl ds d hp]
 .let#[H0,ds,d,sm,r,hp,q]:=h;exact#[_,kY,hb ds d hp gk A outer s H E hr H0 H _ H0 H _ (.start sm r) q]
end
end L2
namespace L2.Srt
open PySem PySem.W PyProof.Rows
end L2.Srt
namespace L2
open PySem PySem.Spec PyProof.Rows PySem.W
theorem bQ.ints{K:ai}{H:Hp}:∀{ns:!Int}{xs:!V},bQ K H xs (ns.map .int)->xs=ns.map V.int
 | [],_,r=>by cases r;rfl
 |n::ns,_,r=>by cases r with|cons a t=>cases a;rw[ao,bQ.ints t]
theorem dw.getD:∀{xs:!V}{us:!M}(i:Nat),dw xs us->RelV (xs.getD i .non) (us.getD i iJ)
 |_,_,_,.nil=>by simp;rfl
 |_,_,0,.cons r _=>by simpa using r
 |_,_,i+1,.cons _ t=>by simpa using dw.getD i t
end L2
namespace L2
open PySem PySem.Spec PyProof.Rows
variable{l:J}{kb:Bool}{H:Hp}{ns:!Int}{K:ai}
section
variable{d:U}
theorem Jz(i:Nat)(hi:δ[i]?>>(.own ds))(h:VT X e (δ.set i (.val (.list ds))) t):VT X e δ t:=λB0 B σ H0 H Q f q=>by let#[p,xs,h1,h2,h3,h4,h5]:=f.slot i _ hi;let#[f',sm]:=f.freeze hi h1 h2;exact h B0 B σ _ H Q f' λHa H' g=>q H0 H' #[g.big,cy.refl _,f.sub.trans g.big,λ_ z=>.inl z]
def o5:U->Bool
 | .none=>true
 | .bool _=>true
 | .int _=>true
 | .str _=>true
 |_=>false
theorem Rep.yN{H': Hp}{v:V}(r:Rep K H v d)(h:o5 d=true):Rep K H' v d:=by
 cases r with
 |non=>exact .non
 |bl b=>exact .bl b
 |int i=>exact .int i
 |str x=>exact .str x
 |_=>cases h
theorem nL(i:Nat)(hi:δ[i]?>>(.own ds))(h:VE X e (δ.set i (.val (.list ds))) d)(hs:o5 d=true):VE X e δ d:=λB0 B σ H0 H Q f q=>by let#[p,xs,h1,h2,h3,h4,h5]:=f.slot i _ hi;let#[f',sm]:=f.freeze hi h1 h2;exact h B0 B σ _ H Q f' λv Ha H' g r=>q v H0 H' #[g.big,cy.refl _,f.sub.trans g.big,λ_ z=>.inl z] (r.yN hs)
def tyD:U->Option String
 | .none=>some "NoneType"
 | .bool _=>some "bool"
 | .int _=>some "int"
 | .str _=>some "str"
 | .list _=>some "list"
 | .tuple _=>some "tuple"
 |_=>none
theorem YW(ht:tyD d>>t)(hk:bp X.K (.type t) (.type tn)>>kb):iS X (.builtin "isinstance") (λxs H Q=>∃x,xs=[x,.ty tn]/\Rep X.K H x d/\Q (.bl kb) H):=by
 intro pins s σ H xs us Q I r h;let#[x,rfl,rx,q]:=h;let#[u,w',rfl,r1,r2]:=vals2 r;cases r2;let fin:∀tk,EP X pins σ Q (.bool kb) { s with toks:=tk }:=λtk=>#[.bl kb,H,I.tok tk,Y,q];cases rx with
 |non=>cases ht;cases r1;exact hX PySem.W.kitx_none I.Be fQ hk (λz=>nomatch z) fin
 |bl b=>cases ht;cases r1;exact hX PySem.W.kitx_bool I.Be fQ hk (λz=>nomatch z) fin
 |int i=>cases ht;let#[t,rfl]:=r1;exact hX PySem.W.kitx_int I.Be fQ hk (λz=>nomatch z) fin
 |str y=>cases ht;let#[t,rfl]:=r1;exact hX PySem.W.kitx_str I.Be fQ hk (λz=>nomatch z) fin
 |lst hq rs=>cases ht;cases r1;let#[its,_,#[o,n,e,c,_],_]:=I.list hq;exact hX PySem.W.kitx_list I.Be #[o,e,c] hk (λz=>nomatch z) fin
 |tup hq rs=>cases ht;cases r1;let#[its,_,#[o,e,c,_],_]:=I.tuple hq;exact hX PySem.W.kitx_tuple I.Be #[o,e,c] hk (λz=>nomatch z) fin
 |dct _ _ _=>cases ht
 |Tf _ _ _=>cases ht
 |obj _ _ _ _ _=>cases ht
 |obm _ _ _ _ _=>cases ht
 |Xh _ _ _=>cases ht
 |Xi _ _ _ _ _ _=>cases ht
theorem fw{X:Cx}{δ:!Slot}{a:bY}{pos:Pos}{x:O}{t tn:String}{p p2:Pos}(h:VE X a δ d)(ht:tyD d>>t)(hk:bp X.K (.type t) (.type tn)>>kb)(hb:bootBuiltins x>>(.type tn))(m1:X.mg "isinstance"=none)(m2:X.mg x=none)(hv:bootBuiltins "isinstance"=some (.builtin "isinstance"))
  (hg:Gl X "isinstance":=by rfl)(Rc:Gl X x:=by rfl)(hn:x≠"__name__":=by decide)(p5:uZ x:=by decide)(hs:starEach [a,.Name x p2] X.env=(false,eval a X.env)::starEach [.Name x p2] X.env:=by rfl)(lP:starEach [.Name x p2] X.env=(false,eval (.Name x p2) X.env)::starEach [] X.env:=by rfl)
  (mw:rQ X pos [.Name x p2]:=by rfl):VE X (.Call (.Name "isinstance" p) [a,.Name x p2] [] pos) δ (.bool kb):=
 .of (sD (YW ht hk) hg m1 hv (cC cA (cC (CV Rc m2 hb (v:=.ty tn) Y hn p5) dP lP) hs) ⋯ ⋯ hs mw) λB0 B σ H0 H Q f q=>h B0 B σ H0 H _ f λv H1 cY g r=>#[v,Y,r.mono g.sub,q _ H1 cY g (.bl _)]
theorem zcI(hh:A.handled=none)(hl:s.heap.IsList l vs.toArray)(hi:A9 vs ns)(zm:ns≠[])
  (h:∀h' Ma (t:Tok) tk,(∀b o,s.heap.get? b>>o->h'.get? b>>o)->Ma∈ns->(∀z,z∈ns->z<=Ma)->Q (.int Ma t) { s with heap:=h',toks:=tk }):wpAny (model P w) A (call (.builtin "max") [.ref l]) Q E s:=by
 let#[xs,ex]:=hi.allInts.items;let M9:ns=xs.toList.map (·.1):=by rw[<-hi.numsOf,<-nums_intItems,<-ex]
 let hz:0<xs.size:=by
  rcases wN xs.size with z|z
  .exfalso;apply zm;rw[M9,Array.eq_empty_of_size_eq_zero z];rfl
  .exact z
 rw[ex]at hl;refine max_intList hh hl hz λv h' tk hv hk=>?_;let#[t,rfl]:=intItems_at hv;let#[g1,g2]:=argBest_gt (numAt xs) (xs.size-1);refine h h' _ t tk hk ?_ λz hzm=>?_
 .rw[M9,numAt_eq];exact getD_mem (by rw[ae,cu];omega)
 .rw[M9]at hzm;let#[j,hj,rfl]:=mem_getD hzm;rw[ae,cu]at hj;rw[<-numAt_eq];exact g2 j ()
theorem K8(hc:X.calm=true):iS X (.builtin "max") (λxs H Q=>∃p ns,xs=[.ref p]/\jY X.K H p (ns.map V.int)/\ns≠[]/\∀Ma,Ma∈ns->(∀z,z∈ns->z<=Ma)->Q (.int Ma) H):=by intro pins s σ H xs us Q I r h;let#[p,ns,rfl,hq,zm,q]:=h;let#[u,rfl,rx]:=vals1 r;cases rx;let#[its,rv,pl,hz]:=I.list hq;exact zcI (I.ok.hd hc) pl.isList (intsAre_of rv) zm λh' Ma t tk hk h1 h2=>#[.int Ma,H,I.kept hk,#[_,Y],q Ma h1 h2]
theorem YX{Ma:Int}(h1:Ma∈ns)(h2:∀z,z∈ns->z<=Ma):ow K (λxs H Q=>∃p ns,xs=[.ref p]/\jY K H p (ns.map V.int)/\ns≠[]/\∀Ma,Ma∈ns->(∀z,z∈ns->z<=Ma)->Q (.int Ma) H) [.list (ns.map .int)] (.int Ma):=λvs H0 H Q s r q=>by
 let#[v,rfl,r1]:=r.one;cases r1 with
 |lst hq rs=>let e:=rs.ints;subst e;refine#[_,ns,Y,s.seq hq,(λz=>by rw[z]at h1;cases h1),λM' g1 g2=>q _ _ _ (.refl s) ?_];let:M'=Ma:=Int.le_antisymm (h2 M' g1) (g2 Ma h1);rw[this];exact .int _
end
section
variable{X:Cx}{sc:nT}{N:!O}{cl:!(O×J)}{elt iter:bY}{δ:!Slot}{ds:!U}{px sJ:Pos}{tgt:NC}{x:O}
theorem Df{own:!O}{cap:!Nat}{tg:bY}{ifs:!bY}{pos:Pos}(i:Nat){F:U->Option U}(hc:X.calm=true)(CS:iM X sc own cap N cl)(hi:VI X tg iter δ ds)(hg:∀f s3 H3,PG (eZ X sc N cl f s3 H3) tg (Gv X.K tgt))(ht:qc own.length tgt=true)(hz:ds.length<=sizeLine)
  (step:∀d∈ds,zS X sc own cap N cl tgt elt ifs δ F d)(hN:X.N.Nodup)(Nr:X.N[i]?>>x:=by rfl)(hx:Loc X.env.scope x:=by left)
  (pL:swapsWith (.ListComp elt [#[tg,iter,ifs,0]] sc pos) (some (.Name x px)) sJ.line X.env=pure true:=by rfl)(hs:Jf X iter:=by intro _;rfl)(hf:zC X x:=by left):
  VS X (.Assign [.Name x px] (.ListComp elt [#[tg,iter,ifs,0]] sc pos) sJ) δ (.nx (δ.set i (.own (ds.filterMap F)))):=λB0 B σ H0 H D f ok pins s I=>by let#[wi,pi,qi]:=hi;refine qI (tc:=YT X sc N cl ifs) (te:=teC X sc N cl elt) hN Nr hx hc CS pi hg (λf s3 H3 pins s σ H Q I h=>h f s3 H3 pins s I) (λf s3 H3 pins s σ H Q I h=>h f s3 H3 pins s I) pL hs hf pins s σ H D I ?_;refine qi B0 B σ H0 H _ f λJa H1 cY g it=>?_;refine sQ ht hz step (f.grow g) it λp xs Ha Hb g2 a1 a2 a3 a4=>?_;let gg:=g.trans g2;let hp:=g.big.free a1;refine ok _ Ha Hb gg.eE ((f.grow gg).Nv a3 a2 (f.ent.big.free hp) a4 λj es e2 e3=>?_);let#[p',xs',g1,g2',_]:=f.slot j _ e2;rw[e3]at g1;cases g1;rw[hp]at g2';cases g2'
end
theorem VT.to(h:VT X c δ k')(e:k'=k):VT X c δ k:=e▸h
theorem VE.to(h:VE X c δ k')(e:k'=k):VE X c δ k:=e▸h
theorem VO.to(h:VO X c δ k')(e:k'=k):VO X c δ k:=e▸h
theorem eK(n:Nat)(i:Int):Lay n (.int i):=#[Y,aY _]
theorem a9(h:bR (.str x)=true):Lay n (.str x):=#[h,aY _]
theorem Ht:∀{ds:!U},(∀d∈ds,Lay n d)->pE ds=true/\U.depthAll ds<=n
 | [],_=>#[Y,aY _]
 |d::ds,h=>by let#[h1,h2]:=Ht λe he=>h e (aD _ he);let#[h3,h4]:=h d aB;refine#[by simp[pE,h1,h3],?_];show max d.depth (U.depthAll ds)<=n;omega
theorem k_(h:∀d∈ds,Lay n d):Lay (n+1) (.list ds):=by let#[h1,h2]:=Ht h;exact#[h1,Nat.succ_le_succ h2]
theorem uq(h:∀d∈ds,Lay n d):Lay (n+1) (.tuple ds):=by let#[h1,h2]:=Ht h;exact#[h1,Nat.succ_le_succ h2]
theorem filterMap_some{α β:Type}{F:α->Option β}{g:α->β}:∀{l:!α},(∀a∈l,F a>>(g a))->l.filterMap F=l.map g
 | [],_=>rfl
 |a::l,h=>by rw[c5 (h a aB),ao,filterMap_some λb hb=>h b (aD _ hb)]
def Tj:Slot->Bool
 | .own _=>true
 |_=>false
def noOwn(δ:!Slot):Bool:=δ.all λs=>not (Tj s)
theorem fZ(h:noOwn δ=true)(i:Nat)(ds:!U):δ[i]?≠some (.own ds):=λe=>by let:=cV.mp h _ (aF e);cases this
section
variable{K:ai}{B0 B H0 H C0 C:Hp}{σ:St}{δ:!Slot}
theorem fK.qd(f:fK K B0 B H0 H σ δ){i:Nat}{v:V}{sl:Slot}(hs:Nu K B H0 H sl (some (some v)))(hn:Tj sl=false):fK K B0 B H0 H (σ.set i (some v)) (δ.set i sl):=by
 refine#[f.ent,by simp[f.len],λj UO e=>?_,λj k ds es p BX e1 e2 e3=>?_]
 .by_cases hj:j=i
  .subst hj;let hl:j < δ.length:=by simpa using(aq.mp e).1
   rw[aR hl]at e;cases e;rwa[aR ([f.len]▸hl)]
  .rw[aO (bD hj)]at e;rw[aO (bD hj)];exact f.slot j UO e
 .let nj:j≠i:=λz=>by
   subst z;let hl:j < δ.length:=by simpa using(aq.mp e1).1
   rw[aR hl]at e1;cases e1;cases hn
  let nk:k≠i:=λz=>by
   subst z;let hl:k < δ.length:=by simpa using(aq.mp e2).1
   rw[aR hl]at e2;cases e2;cases hn
  rw[aO (bD nj)]at e1 e3;rw[aO (bD nk)]at e2 ⊢;exact f.apart j k ds es p BX e1 e2 e3
theorem fK.re(f:fK K B0 B H0 H σ δ)(hn:noOwn δ=true)(g:di C0 C H0 H):fK K C0 C H0 H σ δ:=by
 refine#[g,f.len,λi sl e=>?_,f.apart];let q:=f.slot i sl e;cases sl with
 |own ds=>exact qQ7 e (fZ hn i ds)
 |_=>exact q
theorem di.still(g:di H0 H Ha Hb)(h0:H0 p=none)(h:H p>>o):Ha p=none:=by
 cases e:Ha p with
 |none=>rfl
 |some u=>
  rcases g.new p (by rw[e];simp)with z|z
  .exact qQ7 h0 z
  .rw[h]at z;cases z
theorem di.far(s:cy H0 H)(b:cy H Hb):di H0 H H0 Hb:=#[b,cy.refl _,s.trans b,λ_ z=>.inl z]
end
section
variable{δ:!Slot}{d1 d2:U}{px py:Pos}{x y:O}
theorem fe(n:Nat):(gy n).length=n:=by simp[gy]
theorem NK{X:Cx}{a b:bY}{pos:Pos}(i j:Nat){pt En:Pos}{kt k2}(h1:VE X a δ d1)(h2:VE X b δ d2)(hc:X.calm=true)(hN:X.N.Nodup)(yK:i≠j)(hi:X.N[i]?>>x:=by rfl)(hj:X.N[j]?>>y:=by rfl)(hx:X.env.scope.names.lookup x>>.local:=by rfl)(hy:X.env.scope.names.lookup y>>.local:=by rfl)
  (hw:swappedStores [.Tuple [.Name x px,.Name y py] kt pt] (.Tuple [a,b] k2 En) X.env=pure (some [x,y]):=by rfl)(hs:swapsWithSole [.Tuple [.Name x px,.Name y py] kt pt] (.Tuple [a,b] k2 En) pos.line X.env=pure false:=by rfl)
  (Gw:lF X a [b]:=by rfl)(lP:lF X b []:=by rfl):
  VS X (.Assign [.Tuple [.Name x px,.Name y py] kt pt] (.Tuple [a,b] k2 En) pos) δ (.nx ((δ.set i (.val d1)).set j (.val d2))):=λB0 B σ H0 H D f ok pins s I=>by let#[t,pa,qa]:=du h1 (du h2 cZ lP) Gw;refine MR hc hN hi hj yK hx hy pa hw hs pins s σ H D I (qa B0 B σ H0 H _ f λvs H1 cY g rs=>?_);let#[v,w,rfl,r1,r2]:=rs.two;exact#[v,w,Y,ok _ H1 cY g.eE (((f.grow g).set r1).set r2)]
end
section
variable{X:Cx}{H:Hp}{σ:St}{D:Ends}{st:kr}
def Ends.tail(D:Ends)(u:St->Hp->Prop):Ends:={ D with nx:=u }
theorem bO{rest:!kr}(h:cS X st (D.tail λσ H=>Ed X rest D σ H) σ H):Ed X (st::rest) D σ H:=λpins s I=>k9 Nx kY pins s σ H D I h
theorem b_(h:cS X st D σ H):Ed X [st] D σ H:=λpins s I=>CW Nx pins s σ H D I h
end
theorem NM{α:Type}(l:!α)(n:Nat):cutD l none (some (n:Int))=l.take n:=by
 unfold cutD;rw[HT.Et,HT.nH,uH,Nat.sub_zero];by_cases h:n<=l.length
 .rw[nZ h]
 .rw[Nat.min_eq_right (),gJ (),gJ ()]
theorem JA:Lay 20 (.list []):=k_ λd hd=>by cases hd
structure Nm(mg:O->Option M):Prop where
 len:mg "len"=none
 YY:mg "enumerate"=none
 srt:mg "sorted"=none
 max:mg "max"=none
 min:mg "min"=none
 rng:mg "range"=none
 sum:mg "sum"=none
 uL:mg "isinstance"=none
 tup:mg "tuple"=none
 lst:mg "list"=none
 int:mg "int"=none
 bool:mg "bool"=none
def K9(l:J)(n:Nat):dv->Prop:=λh=>∃o es ep t,h.get? l>>o/\o.ExactSet/\o.data=.set es ep t/\t.fits es.size=true/\es.size=n
theorem K9.ok(x:K9 l n h):gf P w H h l (.ext (K9 l n)):=by
 refine#[x,?_,λh1 h2 y k=>?_]
 .let#[o,_,_,_,e,_]:=x;exact#[o,e]
 .let#[o,es,ep,t,e,r]:=y;exact#[o,es,ep,t,k o e,r]
section
def dd:!O->!O->!O
 |acc,[]=>acc
 |acc,x::l=>dd (if decide (x∈acc)=true then acc else acc ++ [x]) l
theorem B2:∀(l:!O)(acc m:!O),dd acc (l++m)=dd (dd acc l) m
 | [],_,_=>rfl
 |x::l,acc,m=>B2 l _ m
theorem xk:∀(l acc:!O),(dd acc l).length<=acc.length+l.length
 | [],_=>aE _
 |x::l,acc=>by
  let:=xk l (if decide (x∈acc)=true then acc else acc ++ [x]);unfold dd;split at this
  .rename_i h;rw[qQ3 h];simp;omega
  .rename_i h;rw[qQ2 h];simp at this ⊢;omega
theorem EF:∀{l acc:!O},(acc++l).Nodup->dd acc l=acc++l
 | [],acc,_=>by rw[bC];rfl
 |x::l,acc,h=>by
  unfold dd;let hx:=λz=>by rw[cF]at h;exact h.2.2 x z x aB Y
  rw[qQ2 ↑hx,EF ↑h];simp
theorem B3:∀{ss:!O}{its:!M},dw (ss.map V.str) its->∀(i:Nat)v,its[i]?>>v->∃x t,ss[i]?>>x/\v=.str x t
 | [],_,r,i,v,e=>by cases r;simp at e
 |x::ss,_,r,i,v,e=>by
  cases r with
  |cons a t=>
   cases i with
   |zero=>let#[t,rfl]:=a;simp at e;exact#[x,t,Y,e.symm]
   |succ i=>simpa using B3 t i v ↑e
theorem SetOf.zcJ(x:h.SetOf (strKind P w) l S n):K9 l n h:=by let#[o,es,ep,t,ho,hex,hd,_,_,_,hf,hn]:=x;exact#[o,es,ep,t,ho,hex,hd,hf,hn]
theorem Bj:iS X (.builtin "len") (λxs H Q=>∃p n,xs=[.ref p]/\H p>>(.ext (K9 p n))/\n<10000/\Q (.int n) H):=by intro pins s σ H xs us Q I r h;let#[p,n,rfl,hp,hn,q]:=h;let#[u,rfl,rx]:=vals1 r;cases rx;let#[#[o,es,ep,t,ho,hex,hd,hf,hz],_]:=I.hok p _ hp;exact call_len_set ho hex hd hf () #[.int n,H,I.tok _,#[_,by rw[hz]],q]
end
section
variable{p:Pos}
theorem bQ.strs:∀{ss:!O}{xs:!V},bQ K H xs (ss.map .str)->xs=ss.map V.str
 | [],_,r=>by cases r;rfl
 |x::ss,_,r=>by cases r with|cons a t=>cases a;rw[bQ.strs t];rfl
theorem zT:PE X e (λ_ _ _=>False):=λ_ _ _ _ _ _ h=>h.elim
theorem g_{op}(h:VE X a δ d):VE X (.BoolOp op [a] pos) δ d:=.of (U0 cA) λB0 B σ H0 H Q f q=>h B0 B σ H0 H Q f q
theorem jQ(h1:VE X a δ (.bool k1))(h2:k1=true->VE X (.BoolOp .And (b::rest) pos) δ (.bool k2)):VE X (.BoolOp .And (a::b::rest) pos) δ (.bool (k1&&k2)):=by
 cases k1 with
 |true=>refine .of (MN cA cA) λB0 B σ H0 H Q f q=>h1 B0 B σ H0 H _ f λv H1 cY g r=>?_;cases r;exact#[true,Y,(h2 Y B0 B σ H1 cY _ (f.grow g) λu H2 f9 g2 r2=>q u H2 f9 (g.trans g2) r2)]
 |false=>refine .of (MN cA zT) λB0 B σ H0 H Q f q=>h1 B0 B σ H0 H _ f λv H1 cY g r=>?_;cases r;exact#[false,Y,(q _ H1 cY g (.bl false))]
theorem uM(h1:VE X a δ (.bool k1))(h2:k1=false->VE X (.BoolOp .Or (b::rest) pos) δ (.bool k2)):VE X (.BoolOp .Or (a::b::rest) pos) δ (.bool (k1||k2)):=by
 cases k1 with
 |false=>refine .of (S8 cA cA) λB0 B σ H0 H Q f q=>h1 B0 B σ H0 H _ f λv H1 cY g r=>?_;cases r;exact#[false,Y,(h2 Y B0 B σ H1 cY _ (f.grow g) λu H2 f9 g2 r2=>q u H2 f9 (g.trans g2) r2)]
 |true=>refine .of (S8 cA zT) λB0 B σ H0 H Q f q=>h1 B0 B σ H0 H _ f λv H1 cY g r=>?_;cases r;exact#[true,Y,(q _ H1 cY g (.bl true))]
def rH:!Bool->Bool:=λl=>l.all id
theorem jR(hc:X.calm=true):iS X (.builtin "all") (λxs H Q=>∃p bs,xs=[.ref p]/\jY X.K H p (bs.map V.bl)/\Q (.bl (rH bs)) H):=by
 intro pins s σ H xs us Q I r h;let#[p,bs,rfl,hq,q]:=h;let#[u,rfl,rx]:=vals1 r;cases rx;let#[its,rv,pl,hz]:=I.list hq;let hl:=rv.length;simp only[ae]at hl;refine call_all_walkS (m9 pl.isList ?_);let hbl:∀(i:Nat)v,its.toArray[i]?>>v->v=.bool _:=λi v hv=>by
  let Qz:its[i]?>>v:=by simpa using hv
  let e:=rv.getD i;let e2:its.getD i iJ=v:=by rw[aQ,Qz];rfl
  let hi:i<bs.length:=by let:=(aq.mp Qz).1;omega
  let e3:(bs.map V.bl).getD i .non=.bl (bs.getD i false):=by rw[aQ,ay,aQ,ax hi];rfl
  rwa[e2,e3]at e
 refine#[_,_,_,_,_,_,_,λi=>bs.getD i false,Y,(Walks.list (by simp[I.ok.hd hc]) _ p (aZ (aX pl.isList.choose_spec.1)) its.toArray).toS,#[#[_,aV _ Y,Y,Y],pl.isList.push _],?_,λs' hm=>?_]
 .intro i v Q' E' s' hv q';rw[hbl i v hv];exact fB q'
 .let ea:(cv its.toArray.size).all (λi=>bs.getD i false)=rH bs:=by
   rw[bJ,<-hl];unfold rH;rw[gx,cV,cV];constructor
   .intro h x hx;let#[i,hi]:=mM.mp hx;let:=h i (gb.mpr (aq.mp hi).1);rwa[aQ,hi]at this
   .intro h i hi;let hi:=gb.mp hi;rw[aQ,ax hi];exact h _ (eD hi)
  rw[ea];let#[h',g',d',B4,Xc]:=s';let eg:=hm.gens;let ed:=hm.drawn;let eo:=hm.os;subst eg;subst ed;subst eo;refine#[.bl _,H,I.kept λb o e=>hm.heap b o ?_ (av _ e),Y,q];let:=aX e;simp;exact aZ this
theorem bQ.bls:∀{bs:!Bool}{xs:!V},bQ K H xs (bs.map .bool)->xs=bs.map V.bl
 | [],_,r=>by cases r;rfl
 |x::ss,_,r=>by cases r with|cons a t=>cases a;rw[bQ.bls t];rfl
theorem sU{bs:!Bool}:ow K (λxs H Q=>∃p bs,xs=[.ref p]/\jY K H p (bs.map V.bl)/\Q (.bl (rH bs)) H) [.list (bs.map .bool)] (.bool (rH bs)):=λvs H0 H Q s r q=>by
 let#[v,rfl,r1]:=r.one;cases r1 with
 |lst hq rs=>let e:=rs.bls;subst e;exact#[_,bs,Y,s.seq hq,q _ _ _ (.refl s) (.bl _)]
theorem Tn(hr:eL k X.A)(hs:BZ d2=true)(l1:Lay 20 d1)(l2:Lay 20 d2)(h1:VE X a δ d1)(h2:VE X b δ d2)(hm:behindInMarks .In b=false:=by with_unfolding_all rfl):VE X (.Compare a [.In] [b] pos) δ (.bool (rG d1 d2)):=va (Ny (zQ hr)) (Q8 hs l1 l2) h1 h2 hm
theorem NP(hr:eL k X.A)(hs:BZ d2=true)(l1:Lay 20 d1)(l2:Lay 20 d2)(h1:VE X a δ d1)(h2:VE X b δ d2)(hm:behindInMarks .NotIn b=false:=by with_unfolding_all rfl):VE X (.Compare a [.NotIn] [b] pos) δ (.bool (not (rG d1 d2))):=va (B1 (zQ hr)) (Q8 (neg:=true) hs l1 l2) h1 h2 hm
theorem JB(hr:eL k X.A)(l1:Lay 20 d1)(l2:Lay 20 d2)(h1:VE X a δ d1)(h2:VE X b δ d2):VE X (.Compare a [.NotEq] [b] pos) δ (.bool (not (df d1 d2))):=va (Hq (zQ hr)) (ED l1 l2) h1 h2 (fX _)
end
end L2
namespace L2
open PySem PySem.Spec PyProof.Rows PySem.Builtin PySem.Builtin.Str
variable{i n:Int}{ap:Pos}{K:ai}
section
def Vx:V->!V->Hp->VK->Prop:=λx vs H Q=>∃z y,x=.str z/\vs=[.str y]/\(y.length==0)=false/\z.length+2<=sizeLine/\∀l,H l=none->Q (.ref l) (upd H l (.lst ((cz z y).map V.str)))
theorem v7:∀(l:!(O×Tok)),dw ((l.map (·.1)).map V.str) (strValues l)
 | []=>.nil
 |(x,t)::l=>.cons #[t,Y] (v7 l)
theorem split_len(hz:z.length+2<=sizeLine):(cz z y).length<=sizeLine/\(partsBetween z (occurrences z y 0 z.length (z.length+1)) y.length).length<=sizeLine:=by
 let e1:=D7 z y 0 z.length (z.length+1);let e2:(partsBetween z (occurrences z y 0 z.length (z.length+1)) y.length).length<=sizeLine:=by rw[yD];omega
 refine#[?_,e2];unfold cz;split
 .show 1<=sizeLine;omega
 .split
  .show 1<=sizeLine;omega
  .exact e2
theorem NQ:Yq X "str.split" Vx:=by
 intro pins s σ H x vs v us Q I rx rv h;obtain⟨z,y,rfl,rfl,hy,hz,q⟩:=h;obtain⟨t,rfl⟩:=rx;obtain⟨u,rfl,ru⟩:=rv.one;obtain⟨tu,rfl⟩:=ru;obtain⟨sl,sp⟩:=split_len hz;let fin:∀(l:!(O×Tok))(k:Nat),l.map (·.1)=cz z y->EP X pins σ Q _ { s with heap:=s.heap.push { cls:=.type "list",data:=.seq (strValues l).toArray },toks:=k }:=λl k e=>by refine#[.ref s.heap.objs.size,_,I.laid (λb o e=>av _ e) () (show gf X.prog X.w _ _ _ (.lst ((cz z y).map V.str)) from#[[ae]▸sl,strValues l,0,[<-e]▸v7 l,aV _ Y]),Y,q _ (I.hok.fresh ())]
 cases h1:(decide (z.length<y.length)||decide (strKind z<strKind y)) with
 |true=>exact lM A_ (uV _ _ _) zA (yE _ _) (meets_str_split_cannot_occur z y t tu h1) (fin [(z,t)] s.toks (by unfold cz;rw[qQ3 h1];rfl))
 |false=>
  cases hf:(occurrences z y 0 z.length _).isEmpty with
  |true=>exact lM A_ (uV _ _ _) zA (yE _ _) (meets_str_split_not_found z y t tu h1 hy hf) (fin [(z,t)] s.toks (by unfold cz;rw[qQ2 (by rw[h1];decide),qQ3 hf];rfl))
  |false=>refine lM A_ (uV _ _ _) zA (yE _ _) (meets_str_split_sep z y t tu h1 hy hf () sp) ?_;rw[strsFrom_eq];exact fin (numbered s.toks _) _ ((numbered_texts _ _).trans (by unfold cz;rw[qQ2 (by rw[h1];decide),qQ2 (by rw[hf];decide)]))
def rJoin(K:ai):V->!V->Hp->VK->Prop:=λx vs H Q=>∃y p zs,x=.str y/\vs=[.ref p]/\(jY K H p (zs.map V.str)\/nG K H p (zs.map V.str))/\(zs.map (·.length)).sum+zs.length*y.length<=16777216/\Q (.str (bB y zs)) H
theorem zU:∀{zs:!O}{us:!M},dw (zs.map V.str) us->StrsAre us zs
 | [],_,r=>by cases r;exact .nil
 |z::zs,_,r=>by cases r with|cons a t=>let#[tk,rfl]:=a;exact .cons z tk (zU t)
theorem JC:Yq X "str.join" (rJoin X.K):=by
 intro pins s σ H x vs v us Q I rx rv h;let#[y,p,zs,rfl,rfl,hq,hz,q]:=h;let#[t,rfl]:=rx;let#[u,rfl,ru]:=rv.one;cases ru;let e:Txt.join y zs=bB y zs:=StrLaws.glued_eq_join y zs;rcases hq with hq|hq
 .let#[its,r,pl,_]:=I.list hq;exact join_list pl.isList ↑(zU r) hz λt' k=>#[.str _,H,I.tok k,#[t',by rw[e]],q]
 .let#[its,r,pl,_]:=I.tuple hq;exact join_tuple pl ↑(zU r) hz λt' k=>#[.str _,H,I.tok k,#[t',by rw[e]],q]
theorem Bk:iS X (.type "int") (λxs H Q=>∃x n,xs=[.str x]/\intText? x>>n/\x.length<=640/\Q (.int n) H):=by intro pins s σ H xs us Q I r h;let#[x,n,rfl,hn,hl,q]:=h;let#[u,rfl,t,rfl]:=vals1 r;exact PySem.W.KIN.call_text hn hl #[.int n,H,I.tok _,#[_,Y],q]
def gA(x:O):Nat->O
 |0=>fW
 |n+1=>x++gA x n
theorem JD(x:O):∀(n:Nat)(acc:Array Nat),(bo n x.cps).foldl (· ++ ·) acc=acc++(gA x n).cps
 |0,acc=>by show acc=acc ++ #[];simp
 |n+1,acc=>by rw[eM,dN,JD x n];show acc++x.cps++(gA x n).cps=acc++(x.cps++(gA x n).cps);rw[Array.append_assoc]
theorem JF(x:O):∀n,(gA x n).length=n*x.length
 |0=>by show(fW).length=_;simp[fW,Str.length]
 |n+1=>by show(x++gA x n).length=_;rw[cG,JF x n,GB,Nat.add_comm]
theorem Rf:uj X (binaryOp .Mult) (λx y H Q=>∃z n,x=.str z/\y=.int n/\0<=n/\n<=1000/\z.length<=1000/\Q (.str (gA z n.toNat)) H):=by
 intro pins s σ H x y v u Q I rx ry h;let#[z,n,rfl,rfl,h0,h1,hz,q]:=h;let#[t,rfl]:=rx;let#[t',rfl]:=ry;let h63:1000<2^63:=⋯;let e63:2^63=9223372036854775808:=⋯;refine PySem.P.mul_str (by rw[qQ0 (),qQ0 ()];rfl) (λha _=>?_) (λ_ _=>?_) ?_
 .let:(2^63-1)/n>=1000:=by rw[ge_iff_le,Int.le_ediv_iff_mul_le ()];omega
  omega
 .unfold tooLong;rw[qQ0];rw[cL];let:z.length*n.toNat<=1000*1000:=fu hz ();omega
 .by_cases hn:n<1
  .rw[qQ3 hn];let:n.toNat=0:=();rw[this]at q;exact#[⋯,.str _,H,I.tok _,#[_,Y],q]
  .rw[qQ2 hn];by_cases hc:(n==1||z.length==0)=true
   .rw[qQ3 hc];let e:gA z n.toNat=z:=by
     rw[Bool.or_eq_true]at hc;rcases hc with hc|hc
     .let:n=1:=by simpa using hc
      subst this;cases z with|mk c=>show(#[c ++ #[]]:O)=#[c];simp
     .let hz0:z.length=0:=by simpa using hc
      let:z=fW:=by cases z with|mk c=>simp[Str.length]at hz0;simp[fW,hz0]
      subst this;let:∀m,gA fW m=fW:=by
       intro m;induction m with
       |zero=>rfl
       |succ m ih=>show fW++gA fW m=_;rw[ih];rfl
      exact this _
    rw[e]at q;exact#[.str _,H,I.tok _,#[_,Y],q]
   .rw[qQ2 hc];let e:(#[(bo n.toNat z.cps).foldl (· ++ ·) #[]])=gA z n.toNat:=by rw[JD];simp
    rw[e];refine#[?_,.str _,H,I.tok _,#[_,Y],q];rw[JF,cL];let:n.toNat*z.length<=1000*1000:=fu () hz;omega
def Its(x:O):It:=#[λi _=>i<x.cps.size,λi H v H'=>H'=H/\∃c,x.cps[i]?>>c/\v=.str #[(bf [c])],λi _=>x.cps.size<=i]
theorem NS{P:bW}{w:cP}{tg:bY}(it:J)(x:O)(t:Tok){ty:String}(hty:ty="str_ascii_iterator"\/ty="str_iterator"):Turn P w K tg (Its x) [it] it (λi h=>h.IsStrIter it ty x t i) where
 mem:=∅
 obj:=λi h st b hb=>by
  let e:b=it:=by simpa using hb
  subst e;let#[o,e,c,d]:=st;exact#[o,e,λv z=>by rw[d]at z;cases z]
 keep:=λi h h' st k=>let#[o,e,r]:=st;#[o,k it ∅ o e,r]
 item:=by
  intro X hP hw hK hc i pins s σ H E I hf st hg;subst hP hw hK;let#[f0,f1,f2,f3,f4,f5]:=hf it ∅;let fin:∀v h' tk,SignAt x i v->h'.IsStrIter it ty x t (i+1)->(∀b o,b∉[it]->s.heap.get? b>>o->h'.get? b>>o)->∃u,some v>>u/\wpAny (model X.prog X.w) X.A (letOwnedTupleGo tg (.ref it) u) (λ_ s2=>∃y H',Inv X pins σ H' s2/\RelV y u/\(Its x).X4 i H y H'/\s2.heap.IsStrIter it ty x t (i+1)/\∀b∈[it],H' b=none) E { s with heap:=h',toks:=tk }:=by intro v h' tk hv vU kk;let#[c,u,hcu,rfl]:=hv;let I1:Inv X pins σ H { s with heap:=h',toks:=tk }:=I.turned (λb o hb e=>kk b o ↑hb e) f0 f1 f3 f4 f5;let#[o,e,cc,d]:=id vU;exact#[_,Y,BM e cc d (by rcases hty with rfl|rfl<;>decide) #[.str #[(bf [c])],H,I1,#[u,Y],#[Y,c,hcu,Y],vU,λb hb=>(hf b hb).1]]
  rcases hty with rfl|rfl
  .exact(Walks.strAscii (I.ok.hd hc) it x t).item i s _ _ hg st λv h' tk hv vU kk=>fin v h' tk hv vU kk
  .exact(Walks.strWide (I.ok.hd hc) it x t).item i s _ _ hg st λv h' tk hv vU kk=>fin v h' tk hv vU kk
 done:=by
  intro X hP hw hK hc i pins s σ H E I hf st hg;subst hP hw hK;let#[f0,f1,f2,f3,f4,f5]:=hf it ∅;let hge:=hg;rcases hty with rfl|rfl
  .exact wpAny_pyNext_ascii_end (I.ok.hd hc) st (by simp;exact hge) λh' eb=>#[Y,I.turned (λb o hb e=>eb b o hb e) f0 f1 f3 f4 f5]
  .exact wpAny_pyNext_wide_end (I.ok.hd hc) st (by simp;exact hge) λh' eb=>#[Y,I.turned (λb o hb e=>eb b o hb e) f0 f1 f3 f4 f5]
 self:=λ_ _ _ _ _ st h=>by
  rcases hty with rfl|rfl
  .exact wpAny_pyIter_striter_ascii st h
  .exact wpAny_pyIter_striter_wide st h
def zcM(tl:TE):TI:=λσ H R=>tl σ H λv H1=>∃x,v=.str x/\R (Its x) H1
theorem Vy(hl:PE X l tl):PI X tg l (zcM tl):=by
 intro pins s σ H R I h;refine fV (hl pins s σ H _ I h) λv s1 #[y,H1,I1,r1,q1]=>?_;let#[x,e,q]:=q1;subst e;let#[t,rfl]:=r1;let go:∀ty,(ty="str_ascii_iterator"\/ty="str_iterator")->∀o:Obj,o.cls=.type ty->o.data=.fields (bf [.str x t,.int 0 0])->o.isFreed=false->PIE X pins σ tg R _ { s1 with heap:=s1.heap.push o }:=λty hty o c d fr=>
  #[s1.heap.objs.size,_,_,_,H1,Y,I1.kept λb o e=>av _ e,NS _ x t hty,#[o,aV _ fr,c,d],λb hb=>by
   let e:b=s1.heap.objs.size:=by simpa using hb
   subst e;exact I1.uE () (I1.hok.fresh ()),q];cases ha:x.cps.all (·<128)
 .exact wpAny_pyIter_wide ha (go "str_iterator" (.inr Y) _ Y Y Y)
 .exact wpAny_pyIter_ascii ha (go "str_ascii_iterator" (.inl Y) _ Y Y Y)
end
section
variable{X:Cx}{a b:bY}{δ:!Slot}{pos p:Pos}{x y z:O}
def ni(x:O):!U:=x.cps.toList.map λc=>.str #[(bf [c])]
theorem Hu(h:VE X a δ (.str x)):VI X tg a δ (ni x):=#[_,Vy cA,λB0 B σ H0 H R f q=>h B0 B σ H0 H _ f λv H1 cY g r=>by
 cases r;let hl:(ni x).length=x.cps.size:=by unfold ni;rw[ae,cu]
 refine#[x,Y,q _ H1 cY g λHa Hb s1 s2 i=>#[λhi=>(show i<x.cps.size by omega),λhi=>(show x.cps.size<=i by omega),λv wJ d hd #[e,c,hc,ev]=>?_]];subst e;subst ev;unfold ni at hd;rw[ay,fD,hc]at hd;cases hd;exact#[Ha,.refl s2,.str _]]
theorem odS(h:x.length+y.length<=sizeLine):zO K (λx y H Q=>∃i j,x=.str i/\y=.str j/\i.length+j.length<=sizeLine/\Q (.str (i++j)) H) (.str x) (.str y) (.str (x++y)):=λv u H0 H Q s r1 r2 k=>by cases r1;cases r2;exact#[_,_,Y,Y,h,k _ _ _ (.refl s) (.str _)]
theorem eX(h1:VE X a δ (.str x))(h2:VE X b δ (.str y))(h:x.length+y.length<=sizeLine):VE X (.BinOp a .Add b pos) δ (.str (x++y)):=xj GR (odS h) h1 h2
theorem Vz(h0:0<=n)(h1:n<=1000)(hz:x.length<=1000):zO K (λx y H Q=>∃z n,x=.str z/\y=.int n/\0<=n/\n<=1000/\z.length<=1000/\Q (.str (gA z n.toNat)) H) (.str x) (.int n) (.str (gA x n.toNat)):=λv u H0 H Q s r1 r2 k=>by cases r1;cases r2;exact#[_,_,Y,Y,h0,h1,hz,k _ _ _ (.refl s) (.str _)]
theorem qL(h1:VE X a δ (.str x))(h2:VE X b δ (.int n))(h0:0<=n)(hn:n<=1000)(hz:x.length<=1000):VE X (.BinOp a .Mult b pos) δ (.str (gA x n.toNat)):=xj Rf (Vz h0 hn hz) h1 h2
theorem Tp{c:Nat}(hz:x.length<=sizeLine)(h:uk x.cps.toList i>>c):zO K (rIx K) (.str x) (.int i) (.str #[(bf [c])]):=λv u H0 H Q s r1 r2 k=>by cases r1;cases r2;exact .inr (.inr #[x,i,c,Y,Y,hz,h,k _ _ _ (.refl s) (.str _)])
theorem VB(h1:VE X a δ (.str x))(h2:VE X b δ (.int i))(hz:x.length<=sizeLine)(h:uk x.cps.toList i>>c)(hs:oX b:=by intro _ _;rfl):VE X (.Subscript a b pos) δ (.str #[(bf [c])]):=Hn pK (Tp hz h) h1 h2 hs
def EG(x y:O):Bool:=not (occurrences y x 0 y.length 1).isEmpty
theorem YZ:zO K (λx y H Q=>∃i j,x=.str i/\y=.str j/\Q (.bl (not (occurrences j i 0 j.length 1).isEmpty)) H) (.str x) (.str y) (.bool (EG x y)):=λv u H0 H Q s r1 r2 k=>by cases r1;cases r2;exact#[_,_,Y,Y,k _ _ _ (.refl s) (.bl _)]
theorem VC(h1:VE X a δ (.str x))(h2:VE X b δ (.str y))(hm:behindInMarks .In b=false:=by with_unfolding_all rfl):VE X (.Compare a [.In] [b] pos) δ (.bool (EG x y)):=va KH YZ h1 h2 hm
theorem VD(hz:x.length<=sizeLine):ow K (λxs H Q=>∃z,xs=[.str z]/\z.length<=sizeLine/\Q (.int z.length) H) [.str x] (.int x.length):=λvs H0 H Q s r k=>by let#[v,rfl,r1]:=r.one;cases r1;exact#[x,Y,hz,k _ _ _ (.refl s) (.int _)]
theorem JG(h:VE X a δ (.str x))(hz:x.length<=sizeLine)(hm:X.mg "len"=none)(hg:Gl X "len":=by rfl)(hs:lF X a []:=by rfl):VE X (.Call (.Name "len" p) [a] [] pos) δ (.int x.length):=gv C9 (VD hz) (du h cZ hs) hm uB hg (he:=hs)
theorem VF(h:i.natAbs.log2<1920):ow K (λxs H Q=>∃i,xs=[.int i]/\i.natAbs.log2<1920/\Q (.str (toString i)) H) [.int i] (.str (toString i)):=λvs H0 H Q s r k=>by let#[v,rfl,r1]:=r.one;cases r1;exact#[i,Y,h,k _ _ _ (.refl s) (.str _)]
theorem VG(h:intText? x>>n)(hl:x.length<=640):ow K (λxs H Q=>∃x n,xs=[.str x]/\intText? x>>n/\x.length<=640/\Q (.int n) H) [.str x] (.int n):=λvs H0 H Q s r k=>by let#[v,rfl,r1]:=r.one;cases r1;exact#[x,n,Y,h,hl,k _ _ _ (.refl s) (.int _)]
theorem iY(h:VE X a δ (.int i))(hl:i.natAbs.log2<1920)(hm:X.mg "str"=none)(hg:Gl X "str":=by rfl)(hs:lF X a []:=by rfl):VE X (.Call (.Name "str" p) [a] [] pos) δ (.str (toString i)):=kZ C5 (VF hl) (du h cZ hs) hm Y hg (he:=hs)
theorem Rg(h:VE X a δ (.str x))(hn:intText? x>>n)(hl:x.length<=640)(hm:X.mg "int"=none)(hg:Gl X "int":=by rfl)(hs:lF X a []:=by rfl):VE X (.Call (.Name "int" p) [a] [] pos) δ (.int n):=kZ Bk (VG hn hl) (du h cZ hs) hm Y hg (he:=hs)
theorem jS(h1:VE X a δ (.str x))(h2:VE X b δ (.str y))(hy:(y.length==0)=false)(hz:x.length+2<=sizeLine)
  (hs:lF X b []:=by rfl)(gM:y6 X a "split":=by rfl)
  (om:Mx X pos [b]:=by rfl)
  (hline:(ap.endLine==pos.line)=true:=by rfl)(gN:rQ X pos []:=by rfl):VO X (.Call (.Attribute a "split" ap) [b] [] pos) δ ((cz x y).map .str):=
 .of (sE qB PySem.F.slot_str_split PySem.F.type_str_split NQ cA (cC cA dP hs) gM om hline hs gN) λB0 B σ H0 H Q f q=>h1 B0 B σ H0 H _ f λv H1 cY g r1=>by
  cases r1;refine#[Y,h2 B0 B σ H1 cY _ (f.grow g) λu H2 f9 g2 r2=>?_];cases r2;refine#[x,y,Y,Y,hy,hz,λl hl=>?_];let gg:=g.trans g2;refine q l _ H2 _ (gg.trans (.loose g2.sub hl)) (gg.big.free hl) (g2.sub.free hl) aP ?_;let go:∀l:!O,bQ X.K H2 (l.map V.str) (l.map aJ):=by
   intro l;induction l with
   |nil=>exact .nil
   |cons z l ih=>exact .cons (.str z) ih
  exact go _
theorem kL{zs:!O}(h1:VE X a δ (.str y))(h2:VE X b δ (.list (zs.map .str)))(hz:(zs.map (·.length)).sum+zs.length*y.length<=16777216)
  (hs:lF X b []:=by rfl)(gM:y6 X a "join":=by rfl)
  (om:Mx X pos [b]:=by rfl)
  (hline:(ap.endLine==pos.line)=true:=by rfl)(gN:rQ X pos []:=by rfl):VE X (.Call (.Attribute a "join" ap) [b] [] pos) δ (.str (bB y zs)):=
 .of (sE qB D8 D9 JC cA (cC cA dP hs) gM om hline hs gN) λB0 B σ H0 H Q f q=>h1 B0 B σ H0 H _ f λv H1 cY g r1=>by
  cases r1;refine#[Y,h2 B0 B σ H1 cY _ (f.grow g) λu H2 f9 g2 r2=>?_];cases r2 with
  |lst hq rs=>let e:=rs.strs;subst e;exact#[y,_,zs,Y,Y,.inl (g2.sub.seq hq),hz,q _ H2 f9 (g.trans g2) (.str _)]
end
end L2
namespace L2
open PySem PySem.Spec PyProof.Rows
variable{a l l1 l2:J}{xs ys:Array M}{X:Cx}{h:dv}{H:Hp}{pins:!(J×Obj)}{elts:!bY}{ds:!U}{i:Nat}{d:Option U}{o:Option V}{tp:Pos}{K:ai}{s:aU}{x:M}
def je(kvs:!(O×U)):U:=.dict (kvs.map λp=>(.str p.1,p.2))
def qM(kvs:!((O×O)×U)):U:=.dict ((.none,.bool true)::kvs.map λp=>(.tuple [.str p.1.1,.str p.1.2],p.2))
def EH(fs:!(O×U)):U:=.dict ((.none,.none)::fs.map λp=>(.str p.1,p.2))
def iz{κ:Type}[DecidableEq κ](kvs:!(κ×U))(k:κ):Option U:=(kvs.find? λp=>decide (p.1=k)).map (·.2)
theorem ei{κ:Type}[DecidableEq κ]{p:κ×U}{r:!(κ×U)}{k:κ}(e:p.1=k):iz (p::r) k>>p.2:=by simp[iz,eA,e]
theorem bT{κ:Type}[DecidableEq κ]{p:κ×U}{r:!(κ×U)}{k:κ}(e:¬p.1=k):iz (p::r) k=iz r k:=by simp[iz,eA,e]
def EI(K:ai)(H:Hp):Option V->Option U->Prop
 |none,none=>True
 |some v,some d=>Rep K H v d
 |_,_=>False
theorem EI.some_of{d:U}(h:EI K H o (some d)):∃v,o>>v/\Rep K H v d:=by
 cases o with
 |none=>exact h.elim
 |some v=>exact#[v,Y,h]
theorem EI.isSome(h:EI K H o d):o.isSome=d.isSome:=by cases o<;>cases d<;>first|rfl|exact h.elim
theorem EI.getD{v:V}{e:U}(h:EI K H o d)(r:Rep K H v e):Rep K H (o.getD v) (d.getD e):=by cases o<;>cases d<;>first|exact r|exact h|exact h.elim
section
variable{K:ai}{H:Hp}{v:V}
theorem Rep.kB{kvs:!(O×U)}(r:Rep K H v (je kvs)):∃a ws,v=.ref a/\H a>>(.dK ws)/\ws.map (·.1)=kvs.map (λp=>(bh p.1:Key))/\bQ K H (ws.map (·.2)) (kvs.map (·.2)):=by
 unfold je at r;generalize e:kvs.map (λp=>(aJ p.1,p.2))=ds at r;cases r with
 |dct h k t=>
  rename_i a ws
  refine#[a,ws,Y,h,?_,?_]
  .let k2:ws.map (λp=>nJ p.1)=kvs.map λp=>aJ p.1:=by rw[<-k,<-e,aG];rfl
   clear k t h e;induction ws generalizing kvs with
   |nil=>cases kvs with|nil=>rfl|cons p l=>simp at k2
   |cons q ws ih=>
    cases kvs with
    |nil=>simp at k2
    |cons p l=>
     rw[ao,ao]at k2 ⊢;injection k2 with h1 h2
     rw[ih h2]
     congr 1
     cases eq:q.1 with
     |inl i=>rw[eq]at h1;cases h1
     |inr x=>rw[eq]at h1;injection h1 with h1;rw[h1]
  .rw[<-e,aG]at t;exact t
 |Tf _ _ _=>cases kvs with|nil=>simp at e|cons p l=>simp at e
 |obj _ _ _ _ _=>cases kvs with|nil=>simp at e|cons p l=>simp at e
 |obm _ _ _ _ _=>cases kvs with|nil=>simp at e|cons p l=>simp at e
 |Xh _ _ _=>cases kvs with|nil=>simp at e|cons p l=>simp at e
 |Xi _ _ _ _ _ _=>cases kvs with|nil=>simp at e|cons p l=>simp at e
theorem xl:∀{kvs:!(O×U)}{ws:!(Key×V)},ws.map (·.1)=kvs.map (λp=>(bh p.1:Key))->bQ K H (ws.map (·.2)) (kvs.map (·.2))->∀k,EI K H (iW ws (bh k)) (iz kvs k)
 | [],ws,e,_,k=>by
  let:ws=[]:=by simpa using e
  subst this;exact fQ
 |p::kvs,ws,e,r,k=>by
  cases ws with
  |nil=>simp at e
  |cons q ws=>
   rw[ao,ao]at e r;injection e with e1 e2
   cases r with
   |cons r1 r2=>
    by_cases h:p.1=k
    .rwa[ei h,mN (by rw[e1,h])]
    .rw[bT h,jd (λz=>h (by rw[e1]at z;injection z))];exact xl e2 r2 k
def lV(p:O×O):!Key:=[.inr p.1,.inr p.2]
theorem zV(e:lV p=lV q):p=q:=by
 injection e with e1 e2
 injection e2 with e2 _
 injection e1 with e1
 injection e2 with e2
 exact Prod.ext e1 e2
theorem Rep.mQ{kvs:!((O×O)×U)}(r:Rep K H v (qM kvs)):∃a ws,v=.ref a/\H a>>(.dT ws)/\ws.map (·.1)=kvs.map (λp=>lV p.1)/\bQ K H (ws.map (·.2)) (kvs.map (·.2)):=by
 unfold qM at r;generalize e:kvs.map (λp=>(dg [.str p.1.1,.str p.1.2],p.2))=ds at r;cases r with
 |dct h k t=>
  rename_i a ws
  exfalso;cases ws with
  |nil=>simp at k
  |cons q ws=>
   rw[ao,ao]at k;injection k with k1 _
   cases eq:q.1 with
   |inl i=>rw[eq]at k1;cases k1
   |inr x=>rw[eq]at k1;cases k1
 |Tf h k t=>
  rename_i a ws
  refine#[a,ws,Y,h,?_,?_]
  .let k2:ws.map (λp=>dg (p.1.map nJ))=kvs.map λp=>dg [.str p.1.1,.str p.1.2]:=by rw[<-k,<-e,aG];rfl
   clear k t h e;induction ws generalizing kvs with
   |nil=>cases kvs with|nil=>rfl|cons p l=>simp at k2
   |cons q ws ih=>
    cases kvs with
    |nil=>simp at k2
    |cons p l=>
     rw[ao,ao]at k2 ⊢;injection k2 with h1 h2
     rw[ih h2]
     congr 1
     injection h1 with h1
     let one:∀(k:Key)(x:O),nJ k=.str x->k=.inr x:=λk x h=>by
      cases k with
      |inl i=>cases h
      |inr y=>injection h with h;rw[h]
     cases e0:q.1 with
     |nil=>rw[e0]at h1;cases h1
     |cons k1 l1=>
      rw[e0]at h1;injection h1 with g1 g2
      cases l1 with
      |nil=>cases g2
      |cons k2 l2=>
       injection g2 with g2 g3
       let:l2=[]:=by simpa using g3
       subst this;rw[one k1 _ g1,one k2 _ g2];rfl
  .rwa[<-e,aG]at t
theorem NT:∀{kvs:!((O×O)×U)}{ws:!(!Key×V)},ws.map (·.1)=kvs.map (λp=>lV p.1)->bQ K H (ws.map (·.2)) (kvs.map (·.2))->∀k,EI K H (iW ws (lV k)) (iz kvs k)
 | [],ws,e,_,k=>by
  let:ws=[]:=by simpa using e
  subst this;exact fQ
 |p::kvs,ws,e,r,k=>by
  cases ws with
  |nil=>simp at e
  |cons q ws=>
   rw[ao,ao]at e r;injection e with e1 e2
   cases r with
   |cons r1 r2=>
    by_cases h:p.1=k
    .rwa[ei h,mN (by rw[e1,h])]
    .rw[bT h,jd (λz=>h (zV (e1.symm.trans z)))];exact NT e2 r2 k
theorem Rep.zW{fs:!(O×U)}(r:Rep K H v (EH fs)):∃a C dx ws,v=.ref a/\H a>>(.ins C dx ws)/\Ec K C/\(∀f∈ws.map (·.1),jN K C f)/\ws.map (·.1)=fs.map (·.1)/\bQ K H (ws.map (·.2)) (fs.map (·.2)):=by
 unfold EH at r;generalize e:fs.map (λp=>(aJ p.1,p.2))=ds at r;cases r with
 |dct h k t=>
  rename_i a ws
  exfalso;cases ws with
  |nil=>simp at k
  |cons q ws=>
   rw[ao,ao]at k;injection k with k1 _
   cases eq:q.1 with
   |inl i=>rw[eq]at k1;cases k1
   |inr x=>rw[eq]at k1;cases k1
 |obj h c nn k t=>
  rename_i a C dx ws
  refine#[a,C,dx,ws,Y,h,c,nn,?_,?_]
  .let k2:ws.map (λp=>aJ p.1)=fs.map λp=>aJ p.1:=by rw[<-k,<-e,aG];rfl
   clear k t h e nn;induction ws generalizing fs with
   |nil=>cases fs with|nil=>rfl|cons p l=>simp at k2
   |cons q ws ih=>
    cases fs with
    |nil=>simp at k2
    |cons p l=>
     rw[ao,ao]at k2 ⊢;injection k2 with h1 h2
     injection h1 with h1
     rw[ih h2,h1]
  .rwa[<-e,aG]at t
theorem Dg:∀{fs:!(O×U)}{ws:!(O×V)},ws.map (·.1)=fs.map (·.1)->bQ K H (ws.map (·.2)) (fs.map (·.2))->∀k d,iz fs k>>d->∃u,ws.lookup k>>u/\k∈ws.map (·.1)/\Rep K H u d
 | [],ws,e,_,k,d,h=>by cases h
 |p::fs,ws,e,r,k,d,h=>by
  cases ws with
  |nil=>simp at e
  |cons q ws=>
   let#[q1,q2]:=q;injection e with e1 e2
   let e1:q1=p.1:=e1;cases r with
   |cons r1 r2=>
    by_cases hk:p.1=k
    .rw[ei hk]at h;cases h;refine#[q2,?_,?_,r1]
     .rw[dR,e1,hk];simp
     .rw[ao,e1,hk];exact aB
    .rw[bT hk]at h;let#[u,h1,h2,h3]:=Dg e2 r2 k d h;refine#[u,?_,aD _ h2,h3];rw[dR];let:(k==q1)=false:=by rw[beq_eq_false_iff_ne,e1];exact λz=>hk z.symm
     rwa[this]
end
section
variable{X:Cx}{a b c:bY}{δ:!Slot}{d:U}{pos:Pos}{k:Nat}{kvs fs:!(O×U)}{tvs:!((O×O)×U)}{x y:O}
theorem MD(hr:eL k X.A):X.A.units+1<cLine:=by let:=hr.un;omega
theorem iA{f:O}(h:VE X a δ (EH fs))(hf:iz fs f>>d)(hb:y6 X a f:=by rfl):VE X (.Attribute a f pos) δ d:=
 .of (u9 cA hb) λB0 B σ H0 H Q fr q=>h B0 B σ H0 H _ fr λv H1 cY g r=>by let#[p,C,dx,ws,rfl,hp,cl,nn,ke,rs]:=r.zW;let#[u,h1,h2,h3]:=Dg ke rs f d hf;exact#[p,C,dx,ws,u,Y,g.sub _ _ hp,cl,nn f h2,h1,q u H1 cY g h3]
theorem eP(hr:eL k X.A)(h1:VE X a δ (je kvs))(h2:VE X b δ (.str x))(hx:iz kvs x>>d)(hs:Ey b:=by intro _ _;rfl):VE X (.Subscript a b pos) δ d:=
 .of (Js (MD hr) cA cA hs) λB0 B σ H0 H Q fr q=>h1 B0 B σ H0 H _ fr λv H1 cY g r=>h2 B0 B σ H1 cY _ (fr.grow g) λu H2 f9 g2 r2=>by let#[p,ws,rfl,hp,ke,rs]:=r.kB;cases r2;let o:=xl ke rs x;rw[hx]at o;let#[w,hw,pZ]:=o.some_of;refine#[p,w,Y,?_,q w H2 f9 (g.trans g2) (pZ.mono g2.eE)];rw[<-hw];exact sG.k (k:=.inr x) (g2.sub _ _ (g2.eE _ _ hp))
theorem Dh(hr:eL k X.A)(h2:VE X b δ (.str x))(h1:VE X a δ (je kvs))(hm:behindInMarks .In a=false:=by with_unfolding_all rfl):VE X (.Compare b [.In] [a] pos) δ (.bool (iz kvs x).isSome):=
 .of (GL (Nb (MD hr) cA cA) hm) λB0 B σ H0 H Q fr q=>h2 B0 B σ H0 H _ fr λu H1 cY g r2=>h1 B0 B σ H1 cY _ (fr.grow g) λv H2 f9 g2 r=>by let#[p,ws,rfl,hp,ke,rs]:=r.kB;cases r2;refine#[p,_,Y,sG.k (k:=.inr x) (g2.sub _ _ hp),q _ H2 f9 (g.trans g2) ?_];rw[(xl ke rs x).isSome];exact .bl _
theorem B5(hr:eL k X.A)(h2:VE X b δ (.str x))(h1:VE X a δ (je kvs))(hm:behindInMarks .NotIn a=false:=by with_unfolding_all rfl):VE X (.Compare b [.NotIn] [a] pos) δ (.bool (not (iz kvs x).isSome)):=
 .of (GL (K2 (MD hr) cA cA) hm) λB0 B σ H0 H Q fr q=>h2 B0 B σ H0 H _ fr λu H1 cY g r2=>h1 B0 B σ H1 cY _ (fr.grow g) λv H2 f9 g2 r=>by let#[p,ws,rfl,hp,ke,rs]:=r.kB;cases r2;refine#[p,_,Y,sG.k (k:=.inr x) (g2.sub _ _ hp),q _ H2 f9 (g.trans g2) ?_];rw[(xl ke rs x).isSome];exact .bl _
theorem Rh{x1}(hr:eL k X.A)(h1:VE X a δ (.str x))(h2:VE X b δ (.str y))(h3:VE X c δ (qM tvs))(hm:behindInMarks .In c=false:=by with_unfolding_all rfl)
  (hs:lF X a [b]:=by rfl)(lP:lF X b []:=by rfl):VE X (.Compare (.Tuple [a,b] x1 tp) [.In] [c] pos) δ (.bool (iz tvs (x,y)).isSome):=
 .of (GL (Nb (MD hr) (zH (cC cA (cC cA dP lP) hs)) cA) hm) λB0 B σ H0 H Q fr q=>h1 B0 B σ H0 H _ fr λv H1 cY g r1=>h2 B0 B σ H1 cY _ (fr.grow g) λu H2 f9 g2 r2=>by cases r1;cases r2;refine#[by show 2<=sizeLine;rw[cL];decide,λt ht=>?_];let g3:=(g.trans g2).trans (di.loose (o:=HO.tup [.str x,.str y]) g2.sub ht);refine h3 B0 B σ H2 _ _ (fr.grow g3) λv H4 H4' g4 r=>?_;let#[p,ws,rfl,hp,ke,rs]:=r.mQ;refine#[p,_,Y,sG.t (k:=lV (x,y)) (g4.sub _ _ hp) (g4.big _ _ aP),q _ H4 H4' (g3.trans g4) ?_];rw[(NT ke rs (x,y)).isSome];exact .bl _
end
section
theorem Hv(hit:s.heap.IsTupleIter it l i)(hl:s.heap.IsTuple l items)(hx:items[i]?>>x)
  (hQ:∀h',h'.IsTupleIter it l (i+1)->dA it s.heap h'->Q x { s with heap:=h' }):wpAny (model prog w) A (iV (.ref it)) Q E s:=by let#[o,ho,hc,hd]:=_root_.id hit;let#[ol,Xj,NV,nl,NW]:=hl;refine L (dE hit.typeIs ku (eN ku hit.typeIs D_ ?_ (CL _)));show wpAny _ _ (field _ 0 >>= _) _ _ s;refine L (dM ho hd Y ?_);refine L (dM ho hd Y ?_);refine L (iy Xj NW ?_);simp[cN,hx];refine L (qC ho hd ∅ (aM #[x,Y,aM (hQ _ ?_ (jI ..))]));refine#[_,ug _ ho (Jb (pF hd _)),(Obj.cls_mapFields ..).trans hc,?_];rw[pF hd];simp[rawInt]
theorem K_(hh:A.handled=none)(hit:s.heap.IsTupleIter it l i)(hl:s.heap.IsTuple l items)(hx:items[i]?=none)
  (hE:∀h' e,zB it s.heap h'->(∃o,h'.get? e>>o/\o.cls=.type "StopIteration")->E (.ref e) { s with heap:=h' }):wpAny (model prog w) A (iV (.ref it)) Q E s:=by
 let#[o,ho,hc,hd]:=_root_.id hit;let#[ol,Xj,NV,nl,NW]:=hl;refine L (dE hit.typeIs ku (eN ku hit.typeIs D_ ?_ (CL _)));show wpAny _ _ (field _ 0 >>= _) _ _ s;refine L (dM ho hd (x:=.ref l) Y ?_);refine L (dM ho hd Y ?_);refine L (iy Xj NW ?_);simp[cN,hx];refine L (uU (L (qC ho hd ∅ ?_)));refine L ?_;refine L (cR ?_ (by size_fits));refine L (wpAny_of_eq (by first|rfl|(simp;rfl)) ?_);refine cR ?_ (by size_fits);simp only[raiseNew];refine L (wpAny_handled ?_)
 first|rw[show A.in1.handled=none from hh]|rw[hh]
 exact L (aM (wpAny_throw (hE _ _ (((jI ..).extBut.push _).push _) #[_,aV _ Y,Y])))
end
inductive Hw where|lst|tup
variable{k k1 k2:Hw}
def qN(k:Hw)(h:dv)(l:J)(xs:Array M):Prop:=match k with | .lst=>h.IsList l xs | .tup=>h.IsTuple l xs
def xm(k:Hw)(h:dv)(i l:J)(n:Nat):Prop:=match k with | .lst=>h.IsListIter i l n | .tup=>h.IsTupleIter i l n
theorem xm.at{h': dv}{i: J}{n:Nat}(x:xm k h i l n)(e:∀o,h.get? i>>o->h'.get? i>>o):xm k h' i l n:=by
 cases k with
 |lst=>let#[o,a,r]:=x;exact(#[o,e o a,r])
 |tup=>let#[o,a,r]:=x;exact(#[o,e o a,r])
theorem qN.at(x:qN k h l xs)(e:∀o,h.get? l>>o->h'.get? l>>o):qN k h' l xs:=by
 cases k with
 |lst=>let#[o,a,r]:=x;exact(#[o,e o a,r])
 |tup=>let#[o,a,r]:=x;exact(#[o,e o a,r])
theorem xm.get{i: J}{n:Nat}(x:xm k h i l n):∃o,h.get? i>>o/\∀v,o.data≠.cell v:=by
 cases k with
 |lst=>let#[o,a,_,d]:=x;exact#[o,a,λv z=>by rw[d]at z;cases z]
 |tup=>let#[o,a,_,d]:=x;exact#[o,a,λv z=>by rw[d]at z;cases z]
theorem qN.get(x:qN k h l xs):∃o,h.get? l>>o:=by
 cases k with
 |lst=>let#[o,a,_]:=x;exact#[o,a]
 |tup=>let#[o,a,_]:=x;exact#[o,a]
section
variable{prog:bW}{w:cP}{A:g7}{E:M->aU->Prop}{s:aU}
theorem next_item(hit:xm k s.heap it l i)(hl:qN k s.heap l items)(hx:items[i]?>>x)
  (hQ:∀h',xm k h' it l (i+1)->dA it s.heap h'->Q x { s with heap:=h' }):wpAny (model prog w) A (iV (.ref it)) Q E s:=by
 cases k with
 |lst=>exact wpAny_nextOf_list_item hit hl hx hQ
 |tup=>exact Hv hit hl hx hQ
theorem next_end(hh:A.handled=none)(hit:xm k s.heap it l i)(hl:qN k s.heap l items)(hx:items[i]?=none)
  (hE:∀h' e,zB it s.heap h'->(∃o,h'.get? e>>o/\o.cls=.type "StopIteration")->E (.ref e) { s with heap:=h' }):wpAny (model prog w) A (iV (.ref it)) Q E s:=by
 cases k with
 |lst=>exact wpAny_nextOf_list_end hh hit hl hx hE
 |tup=>exact K_ hh hit hl hx hE
structure Zp(k1 k2:Hw)(h:dv)(z TI TO i1 i2 l1 l2:J)(f0:M)(a b:M)(n1 n2:Nat)(xs ys:Array M):Prop where
 hz:IsZip h z TI TO f0
 hTI:GF h TI (.ref i1) (.ref i2)
 hTO:GF h TO a b
 h1:xm k1 h i1 l1 n1
 h2:xm k2 h i2 l2 n2
 s1:qN k1 h l1 xs
 s2:qN k2 h l2 ys
theorem Lb{z TI TO i1 i2: J}{n1 n2:Nat}{y a b: M}{Q:Option M->aU->Prop}(D:ZipApart z TI TO i1 i2 l1 l2)(Za:Zp k1 k2 s.heap z TI TO i1 i2 l1 l2 .none a b n1 n2 xs ys)(hx:xs[n1]?>>x)(hy:ys[n2]?>>y)
  (hQ:∀h',Zp k1 k2 h' z TI TO i1 i2 l1 l2 (rawInt s.heap.objs.size) x y (n1+1) (n2+1) xs ys->GF h' s.heap.objs.size x y->(∀c o,c≠z->c≠TO->c≠i1->c≠i2->s.heap.get? c>>o->h'.get? c>>o)->Q (some (.ref s.heap.objs.size)) { s with heap:=h' }):
  wpAny (model prog w) A (pyNext (.ref z)) Q E s:=by
 let#[hz,hTI,hTO,h1,h2,s1,s2]:=Za;let hT:s.TypeIs (.ref z) "zip":=#[_,hz,Y];unfold pyNext;refine L (lE (dE hT uI (eN uI hT F.entry_zip_next ?_ (F.args_zip_next_1 _))));show wpAny _ _ (field (.ref z) 2 >>= _) _ _ _;refine L (dM hz Y Y ?_);refine L (dM hz Y Y (L (iy hTI Y ?_)));refine L ?_;refine L (dM hz Y Y (aM ?_));simp only[if_true];refine L (uU (L (dM hz Y Y (L (dO hz ∅ λha Tq sa=>?_)))));replace Tq:IsZip ha z TI TO .ellipsis:=Tq;refine L ?_;refine L (L (yX ?_));refine L (next_item (h1.at λo e=>sa.extBut _ o D.i1z e) (s1.at λo e=>sa.extBut _ o D.l1z e) hx λhb h1b sb=>aM ?_);let tb:=sb.extBut _ _ D.TOi1 (sa.extBut _ _ D.TOz hTO);refine L (iy tb Y (L (wO tb λhc tc sc=>?_)));replace tc:GF hc TO x b:=tc;refine L (Ea (aM (L (L (yX ?_)))));refine L (next_item (h2.at λo e=>sc.extBut _ o D.TOi2.symm (sb.extBut _ o D.i12.symm (sa.extBut _ o D.i2z e))) (s2.at λo e=>sc.extBut _ o D.l2TO (sb.extBut _ o D.l2i1 (sa.extBut _ o D.l2z e))) hy λhd h2d sd=>aM ?_);let td:=sd.extBut _ _ D.TOi2 tc;refine L (iy td Y (L (wO td λhe te se=>?_)));replace te:GF he TO x y:=te;refine L (Ea (aM (aM (L (iy te Y (L (wpAny_newTuple ?_)))))));let yL:he.objs.size=s.heap.objs.size:=by rw[se.1,sd.1,sc.1,sb.1,sa.1]
 let kp:∀c o,c≠z->c≠TO->c≠i1->c≠i2->s.heap.get? c>>o->he.get? c>>o:=λc o c1 c2 c3 c4 e=>se.extBut _ _ c2 (sd.extBut _ _ c4 (sc.extBut _ _ c2 (sb.extBut _ _ c3 (sa.extBut _ _ c1 e))));let ze:=se.extBut _ _ D.TOz.symm (sd.extBut _ _ D.i2z.symm (sc.extBut _ _ D.TOz.symm (sb.extBut _ _ D.i1z.symm Tq)));let h1e:=h1b.at λo e=>se.extBut _ o D.TOi1.symm (sd.extBut _ o D.i12 (sc.extBut _ o D.TOi1.symm e));refine L ?_;let zf:IsZip (he.push { cls:=.type "tuple",data:=.seq (bf [x,y]) }) z TI TO .ellipsis:=av _ ze;refine L (dO zf ∅ λhg zg sg=>?_);replace zg:IsZip hg z TI TO (rawInt he.objs.size):=zg;refine dO zg ∅ λhi zi si=>?_;replace zi:IsZip hi z TI TO (rawInt he.objs.size):=zi;let up:∀c o,c≠z->he.get? c>>o->hi.get? c>>o:=λc o c1 e=>si.extBut _ _ c1 (sg.extBut _ _ c1 (av _ e));let ti:=si.extBut _ _ (eG (aX ze)) (sg.extBut _ _ (eG (aX ze)) (aV _ Y));rw[yL]at zi ti;refine aM #[_,Y,?_];rw[yL];refine aM (hQ hi #[zi,up _ _ D.TIz (kp _ _ D.TIz D.TITO D.TIi1 D.TIi2 hTI),up _ _ D.TOz te,h1e.at λo e=>up _ o D.i1z e,(h2d.at λo e=>se.extBut _ o D.TOi2.symm e).at λo e=>up _ o D.i2z e,s1.at λo e=>up _ o D.l1z (kp _ o D.l1z D.l1TO D.l1i1 D.l1i2 e),s2.at λo e=>up _ o D.l2z (kp _ o D.l2z D.l2TO D.l2i1 D.l2i2 e)] ti λc o c1 c2 c3 c4 e=>up c o c1 (kp c o c1 c2 c3 c4 e))
theorem NX{z TI TO i1 i2: J}{n1 n2:Nat}{a b:M}{Q:Option M->aU->Prop}(hh:A.handled=none)(D:ZipApart z TI TO i1 i2 l1 l2)(Za:Zp k1 k2 s.heap z TI TO i1 i2 l1 l2 .none a b n1 n2 xs ys)(Ri:xs[n1]?=none\/ys[n2]?=none)
  (hQ:∀h',(∀c o,c≠z->c≠TO->c≠i1->c≠i2->s.heap.get? c>>o->h'.get? c>>o)->Q none { s with heap:=h' }):wpAny (model prog w) A (pyNext (.ref z)) Q E s:=by
 let#[hz,hTI,hTO,h1,h2,s1,s2]:=Za;let hT:s.TypeIs (.ref z) "zip":=#[_,hz,Y];let fin:∀h' e,(∀c o,c≠z->c≠TO->c≠i1->c≠i2->s.heap.get? c>>o->h'.get? c>>o)->(∃o,h'.get? e>>o/\o.cls=.type "StopIteration")->wpAny (model prog w) A (do if <-isInstance (.ref e) (.type "StopIteration")then pure none else throw (.ref e)) Q E { s with heap:=h' }:=by intro h' e hk #[o,ho,hc];exact L (CM #[o,ho,hc] GH (aM (hQ _ hk)))
 refine L (lE (dE hT uI (eN uI hT F.entry_zip_next ?_ (F.args_zip_next_1 _))));show wpAny _ _ (field _ 2 >>= _) _ _ _;refine L (dM hz Y Y ?_);refine L (dM hz Y Y (L (iy hTI Y ?_)));refine L ?_;refine L (dM hz Y Y (aM ?_));simp only[if_true];refine L (uU (L (dM hz Y Y (L (dO hz ∅ λha Tq sa=>?_)))));replace Tq:IsZip ha z TI TO .ellipsis:=Tq;refine L ?_;refine L (L (yX ?_));cases hx:xs[n1]? with
 |none=>
  refine L (next_end hh (h1.at λo e=>sa.extBut _ o D.i1z e) (s1.at λo e=>sa.extBut _ o D.l1z e) hx λhb e sb he=>?_);let#[oe,VH,Y0]:=he;let zb:=sb _ _ D.i1z.symm Tq;let ne:e≠z:=λx=>by subst x;rw[zb]at VH;cases VH;simp at Y0
  exact dO zb ∅ λhc _ sc=>fin hc e (λc o c1 _ c3 _ x=>sc.extBut _ _ c1 (sb _ _ c3 (sa.extBut _ _ c1 x))) #[oe,sc.extBut _ _ ne VH,Y0]
 |some x=>
  let hy:ys[n2]?=none:=by
   rcases Ri with h|h
   .rw[hx]at h;cases h
   .exact h
  refine L (next_item (h1.at λo e=>sa.extBut _ o D.i1z e) (s1.at λo e=>sa.extBut _ o D.l1z e) hx λhb h1b sb=>aM ?_);let tb:=sb.extBut _ _ D.TOi1 (sa.extBut _ _ D.TOz hTO);refine L (iy tb Y (L (wO tb λhc tc sc=>?_)));refine L (Ea (aM (L (L (yX ?_)))));refine L (next_end hh (h2.at λo e=>sc.extBut _ o D.TOi2.symm (sb.extBut _ o D.i12.symm (sa.extBut _ o D.i2z e))) (s2.at λo e=>sc.extBut _ o D.l2TO (sb.extBut _ o D.l2i1 (sa.extBut _ o D.l2z e))) hy λhd e sd he=>?_);let#[oe,VH,Y0]:=he;let zd:=sd _ _ D.i2z.symm (sc.extBut _ _ D.TOz.symm (sb.extBut _ _ D.i1z.symm Tq));let ne:e≠z:=λx=>by subst x;rw[zd]at VH;cases VH;simp at Y0
  exact dO zd ∅ λhg _ sg=>fin hg e (λc o c1 c2 c3 c4 x=>sg.extBut _ _ c1 (sd _ _ c4 (sc.extBut _ _ c2 (sb.extBut _ _ c3 (sa.extBut _ _ c1 x))))) #[oe,sg.extBut _ _ ne VH,Y0]
def sV(k:Hw)(l:J):Obj:=match k with | .lst=>{ cls:=.type "list_iterator",data:=.fields (bf [.ref l,.int 0 0]) } | .tup=>{ cls:=.type "tuple_iterator",data:=.fields (bf [.ref l,.int 0 0]) }
theorem JH(hl:qN k s.heap l xs)(h:Q (.ref s.heap.objs.size) { s with heap:=s.heap.push (sV k l) }):wpAny (model prog w) A (pyIter (.ref l)) Q E s:=by
 cases k with
 |lst=>exact m9 hl h
 |tup=>exact zy hl h
def HB(k1 k2:Hw)(h:dv)(l1 l2:J):dv:=(h.push (sV k1 l1)).push (sV k2 l2)
def zH5(k1 k2:Hw)(h:dv)(l1 l2:J):dv:=(((HB k1 k2 h l1 l2).push { cls:=.type "tuple",data:=.seq (bf [.ref h.objs.size,.ref (h.push (sV k1 l1)).objs.size]) }).push { cls:=.type "tuple",data:=.seq (bf [.none,.none]) }).push
 { cls:=.type "zip",data:=.fields (bf [.none,.bool false,.bool false,.ref (HB k1 k2 h l1 l2).objs.size,.ref ((HB k1 k2 h l1 l2).push { cls:=.type "tuple",data:=.seq (bf [.ref h.objs.size,.ref (h.push (sV k1 l1)).objs.size]) }).objs.size]) }
theorem qN.push(x:qN k h l xs)(o:Obj):qN k (h.push o) l xs:=x.at λ_ e=>av _ e
theorem HC(k1 k2:Hw)(l1 l2:J)(xs ys:Array M):Meets (rV.«zip.__new__» #[[.type "zip",.ref l1,.ref l2],[]]) (λ_ R s=>qN k1 s.heap l1 xs/\qN k2 s.heap l2 ys/\
  R (.ok (.ret (.ref (((HB k1 k2 s.heap l1 l2).push { cls:=.type "tuple",data:=.seq (bf [.ref s.heap.objs.size,.ref (s.heap.push (sV k1 l1)).objs.size]) }).push { cls:=.type "tuple",data:=.seq (bf [.none,.none]) }).objs.size))) { s with heap:=zH5 k1 k2 s.heap l1 l2 }):=
 .of_wp λprog w A R s h=>by
  let#[hp,g,d,tk,os]:=s;let#[EJ,B6,h]:=h;let Hi:=sub_zip;let a2:qN k2 (aU.heap #[hp.push (sV k1 l1),g,d,tk,os]) l2 ys:=B6.push _
  wp_walk using JH EJ,JH a2
  exact#[_,Y,h]
theorem EK{i: J}(e:h.get? i>>(sV k l)):xm k h i l 0:=by
 cases k with
 |lst=>exact(#[_,e,Y,Y])
 |tup=>exact(#[_,e,Y,Y])
theorem zX(k:Hw)(l:J):(sV k l).isFreed=false:=by cases k<;>rfl
theorem Lc(EJ:qN k1 s.heap l1 xs)(B6:qN k2 s.heap l2 ys)
  (h:∀h',Zp k1 k2 h' (s.heap.objs.size+4) (s.heap.objs.size+2) (s.heap.objs.size+3) s.heap.objs.size (s.heap.objs.size+1) l1 l2 .none .none .none 0 0 xs ys->(∀c o,s.heap.get? c>>o->h'.get? c>>o)->Q (.ref (s.heap.objs.size+4)) { s with heap:=h' }):
  wpAny (model prog w) A (call (.type "zip") [.ref l1,.ref l2]) Q E s:=by
 refine callType_new F.called_zip ⋯ (F.typeCall_zip_2 _ _) (F.newCall_zip_2 _ _) (λobj=>F.args_object_init_3 obj _ _) F.entry_zip_new (HC k1 k2 l1 l2 xs ys) #[EJ,B6,?_];let z1:(s.heap.push (sV k1 l1)).objs.size=s.heap.objs.size+1:=gW ..;let z2:(HB k1 k2 s.heap l1 l2).objs.size=s.heap.objs.size+2:=by unfold HB;rw[gW,z1]
 generalize hT:({ cls:=.type "tuple",data:=.seq (bf [.ref s.heap.objs.size,.ref (s.heap.push _).objs.size]) }:Obj)=tI;generalize hT2:({ cls:=.type "tuple",data:=.seq (bf [.none,.none]) }:Obj)=tO;let z3:((HB k1 k2 s.heap l1 l2).push tI).objs.size=s.heap.objs.size+3:=by rw[gW,z2]
 let z4:(((HB k1 k2 s.heap l1 l2).push tI).push tO).objs.size=s.heap.objs.size+4:=by rw[gW,z3]
 let fI:tI.isFreed=false:=by rw[<-hT];rfl
 let fO:tO.isFreed=false:=by rw[<-hT2];rfl
 let eq:zH5 k1 k2 s.heap l1 l2=(((HB k1 k2 s.heap l1 l2).push tI).push tO).push { cls:=.type "zip",data:=.fields (bf [.none,.bool false,.bool false,.ref (s.heap.objs.size+2),.ref (s.heap.objs.size+3)]) }:=by unfold zH5;rw[hT,hT2,z2,z3]
 rw[eq,z4];let g5:((((HB k1 k2 s.heap l1 l2).push tI).push tO).push { cls:=.type "zip",data:=.fields (bf [.none,.bool false,.bool false,.ref (s.heap.objs.size+2),.ref (s.heap.objs.size+3)]) }).get? (s.heap.objs.size+4)=some { cls:=.type "zip",data:=.fields (bf [.none,.bool false,.bool false,.ref (s.heap.objs.size+2),.ref (s.heap.objs.size+3)]) }:=by rw[<-z4];exact aV _ Y
 let up3:∀c o,((HB k1 k2 s.heap l1 l2).push tI).get? c>>o->((((HB k1 k2 s.heap l1 l2).push tI).push tO).push { cls:=.type "zip",data:=.fields (bf [.none,.bool false,.bool false,.ref (s.heap.objs.size+2),.ref (s.heap.objs.size+3)]) }).get? c>>o:=λc o e=>av _ (av _ e);let Y1:=λc o e=>up3 c o (av _ e);let up0:∀c o,s.heap.get? c>>o->(HB k1 k2 s.heap l1 l2).get? c>>o:=λc o e=>av _ (av _ e);refine#[#[_,g5,Y],h _ #[g5,?_,?_,?_,?_,?_,?_] λc o e=>Y1 c o (up0 c o e)]
 .refine up3 _ _ ?_;rw[<-z2];let:=aV (HB k1 k2 s.heap l1 l2) fI;rw[this,<-hT,z1]
 .refine av _ ?_;rw[<-z3];let:=aV ((HB k1 k2 s.heap l1 l2).push tI) fO;rw[this,<-hT2]
 .exact EK (Y1 _ _ (av _ (aV _ (zX k1 l1))))
 .refine EK (Y1 _ _ ?_);let:=aV (s.heap.push (sV k1 l1)) (zX k2 l2);rwa[z1]at this
 .exact EJ.at λo e=>Y1 _ o (up0 _ o e)
 .exact B6.at λo e=>Y1 _ o (up0 _ o e)
end
def JK(k:Hw)(K:ai)(H:Hp)(a:J)(xs:!V):Prop:=match k with | .lst=>jY K H a xs | .tup=>nG K H a xs
theorem Inv.sq{σ:St}{xs:!V}(I:Inv X pins σ H s)(h:JK k X.K H a xs):∃its,dw xs its/\qN k s.heap a its.toArray/\xs.length<=sizeLine:=by
 cases k with
 |lst=>let#[its,r,p,z]:=I.list h;exact#[its,r,p.isList,z]
 |tup=>let#[its,r,p,z]:=I.tuple h;exact#[its,r,p,z]
theorem Inv.NZ{σ:St}{xs ys:!V}(I:Inv X pins σ H s)(h:JK k X.K H a xs)(h':JK k X.K H a ys):xs=ys:=by
 cases k with
 |lst=>exact I.zD h h'
 |tup=>exact I.BK h h'
theorem cy.Tr{H': Hp}{xs:!V}(e:cy H H')(h:JK k K H a xs):JK k K H' a xs:=by
 cases k with
 |lst=>exact e.seq h
 |tup=>exact e.oo h
def Itz(k1 k2:Hw)(K:ai)(a b:J):It:=
 #[λi H=>∃xs x ys y,JK k1 K H a xs/\xs[i]?>>x/\JK k2 K H b ys/\ys[i]?>>y,
  λi H v H'=>∃t x y,v=.ref t/\H t=none/\H'=upd H t (.tup [x,y])/\(∀xs,JK k1 K H a xs->xs[i]?>>x)/\∀ys,JK k2 K H b ys->ys[i]?>>y,
  λi H=>∃xs ys,JK k1 K H a xs/\JK k2 K H b ys/\(xs.length<=i\/ys.length<=i)]
theorem N0{P:bW}{w:cP}{kk}{z TI TO i1 i2: J}(D:ZipApart z TI TO i1 i2 l1 l2):
  Turn P w K (.Tuple elts kk tp) (Itz k1 k2 K l1 l2) [z,TI,TO,i1,i2] z (λi h=>IsZip h z TI TO .none/\GF h TI (.ref i1) (.ref i2)/\(∃a b,GF h TO a b)/\xm k1 h i1 l1 i/\xm k2 h i2 l2 i) where
 mem:=∅
 obj:=λi h st b hb=>by
  let#[hz,hTI,#[a,c,hTO],h1,h2]:=st;simp[au,aS,or_false]at hb;rcases hb with rfl|rfl|rfl|rfl|rfl
  .exact#[_,hz,λv z=>by cases z]
  .exact#[_,hTI,λv z=>by cases z]
  .exact#[_,hTO,λv z=>by cases z]
  .exact h1.get
  .exact h2.get
 keep:=λi h h' st kp=>by let#[hz,hTI,#[a,c,hTO],h1,h2]:=st;exact#[kp z ∅ _ hz,kp TI ∅ _ hTI,#[a,c,kp TO ∅ _ hTO],h1.at λo e=>kp i1 ∅ o e,h2.at λo e=>kp i2 ∅ o e]
 item:=by
  intro X hP hw hK hc i pins s σ H E I hf st hg;subst hP hw hK;let#[hz,hTI,#[a,c,hTO],h1,h2]:=st;let#[xs,x,ys,y,N1,hx,K7,hy]:=hg;let#[its,rv,p1,_]:=I.sq N1;let#[jts,Qe,p2,_]:=I.sq K7;let#[u,hu,ru]:=rv.get hx;let#[u2,hu2,Y2]:=Qe.get hy;refine Lb D #[hz,hTI,hTO,h1,h2,p1,p2] ↑hu ↑hu2 λha Za ht hk=>?_;let#[az,aTI,aTO,a1,a2,_,_]:=Za;refine#[_,Y,wpAny_letOwnedTupleGo_zip az λhb bz sb=>?_];let zlt:=aX hz;let k2:∀b o,b∉[z,TI,TO,i1,i2]->s.heap.get? b>>o->hb.get? b>>o:=λb o nb q=>by let n1:b≠z:=λe=>nb (by simp[e]);let n4:b≠i2:=λe=>nb (by simp[e]);exact(sb.2 b n1).trans (hk b o n1 (λe=>nb (by simp[e])) (λe=>nb (by simp[e])) n4 q)
  let fT:uD X pins H s.heap.objs.size:=I.uE (aE _) I.fresh;let I3:Inv X pins σ (upd H s.heap.objs.size (.tup [x,y])) { s with heap:=hb,toks:=s.toks }:=
   (I.oY k2 hf).track fT #[by show 2<=sizeLine;rw[cL];decide,_,.cons ru (.cons Y2 .nil),#[_,(sb.2 _ (eG zlt)).trans ht,Y,_,Y]]
  let up:∀b o,b≠z->ha.get? b>>o->hb.get? b>>o:=λb o nb q=>(sb.2 b nb).trans q;refine#[.ref s.heap.objs.size,_,I3,Y,#[_,x,y,Y,I.fresh,Y,λzs hy'=>[I.NZ hy' N1]▸hx,λzs hy'=>[I.NZ hy' K7]▸hy],#[bz,up _ _ D.TIz aTI,#[_,_,up _ _ D.TOz aTO],a1.at λo q=>up _ o D.i1z q,a2.at λo q=>up _ o D.i2z q],λb Rj=>?_];let ng:b<s.heap.objs.size:=by
   simp[au,aS,or_false]at Rj;rcases Rj with rfl|rfl|rfl|rfl|rfl
   .exact zlt
   .exact aX hTI
   .exact aX hTO
   .let#[o,q,_]:=h1.get;exact aX q
   .let#[o,q,_]:=h2.get;exact aX q
  rw[aI (aZ ng)];exact(hf b Rj).1
 done:=by
  intro X hP hw hK hc i pins s σ H E I hf st hg;subst hP hw hK;let#[hz,hTI,#[a,c,hTO],h1,h2]:=st;let#[xs,ys,N1,K7,hx]:=hg;let#[its,rv,p1,_]:=I.sq N1;let#[jts,Qe,p2,_]:=I.sq K7;let e1:=rv.length;let e2:=Qe.length;refine NX (I.ok.hd hc) D #[hz,hTI,hTO,h1,h2,p1,p2] ?_ λh' hk=>#[Y,I.oY (λb o hb q=>hk b o (λe=>hb (by simp[e])) (λe=>hb (by simp[e])) (λe=>hb (by simp[e])) (λe=>hb (by simp[e])) q) hf];rcases hx with hx|hx
  .left;simp;omega
  .right;simp;omega
 self:=λ_ _ _ _ _ st h=>wpAny_pyIter_zip st.1 h
def zcS(k1 k2:Hw)(K:ai)(ta:TA):TI:=λσ H R=>ta σ H λvs H1=>∃a b,vs=[.ref a,.ref b]/\(∃xs,JK k1 K H1 a xs)/\(∃ys,JK k2 K H1 b ys)/\R (Itz k1 k2 K a b) H1
theorem boot_zip:bootBuiltins "zip"=some (.type "zip"):=Y
theorem VJ{a b:bY}{ta:TA}{p pos: Pos}{kk}(k1 k2:Hw)(hg:Gl X "zip")(hm:X.mg "zip"=none)(ha:PA X [a,b] ta)(hs:starEach [a,b] X.env=[(false,eval a X.env),(false,eval b X.env)]:=by rfl)(lP:starEach [b] X.env=[(false,eval b X.env)]:=by rfl):
  PI X (.Tuple elts kk tp) (.Call (.Name "zip" p) [a,b] [] pos) (zcS k1 k2 X.K ta):=by
 intro pins s σ H R I h;refine Call_ (wW I hg hm boot_zip (iT (fV (ha pos pins s σ H _ I h) λus s1 #[vs,H1,I1,r1,q1]=>?_) (by rw[hs,lP]) (by rw[lP];rfl)));let#[l1,l2,e,#[xs,N1],#[ys,K7],q]:=q1;subst e;let#[u,u2,rfl,rx,rx2]:=vals2 r1;cases rx;cases rx2;let#[its,rv,p1,_]:=I1.sq N1;let#[jts,Qe,p2,_]:=I1.sq K7;let#[o1,e1]:=p1.get;let#[o2,e2]:=p2.get;let lt1:=aX e1;let lt2:=aX e2;refine Lc p1 p2 λh' Za hk=>wpAny_pyIter_zip Za.hz ?_;let D:ZipApart (s1.heap.objs.size+4) (s1.heap.objs.size+2) (s1.heap.objs.size+3) s1.heap.objs.size (s1.heap.objs.size+1) l1 l2:=by
  constructor
  .exact aZ ()
  .exact aZ ()
  .exact aZ ()
  .exact aZ ()
  .exact aZ ()
  .exact eG ()
  .exact eG ()
  .exact eG ()
  .exact eG ()
  .exact aZ ()
  .exact aZ (bX lt1 ())
  .exact aZ (bX lt1 ())
  .exact aZ lt1
  .exact aZ (bX lt1 ())
  .exact aZ (bX lt2 ())
  .exact aZ (bX lt2 ())
  .exact aZ lt2
  .exact aZ (bX lt2 ())
 refine#[_,_,_,_,H1,Y,I1.kept (t':=s1.toks) hk,N0 D,#[Za.hz,Za.hTI,#[_,_,Za.hTO],Za.h1,Za.h2],λb hb=>?_,q];let hle:s1.heap.objs.size<=b:=by
  simp[au,aS,or_false]at hb;rcases hb with rfl|rfl|rfl|rfl|rfl
  .exact rO _ _
  .exact rO _ _
  .exact rO _ _
  .exact aE _
  .exact rO _ _
 exact I1.uE hle (I1.hok.fresh hle)
def uF(ds es:!U):!U:=(ds.zip es).map λp=>.tuple [p.1,p.2]
theorem o6(ds es:!U):(uF ds es).length=min ds.length es.length:=by simp[uF]
theorem zY{es: !U}{d:U}(h:(uF ds es)[i]?>>d):∃x y,ds[i]?>>x/\es[i]?>>y/\d=.tuple [x,y]:=by
 unfold uF at h;rw[ay]at h;cases e:(ds.zip es)[i]? with
 |none=>rw[e]at h;cases h
 |some p=>rw[e]at h;cases h;rw[pU]at e;exact#[_,_,e.1,e.2,Y]
def VL(k:Hw)(ds:!U):U:=match k with | .lst=>.list ds | .tup=>.tuple ds
theorem Rep.Tr{v:V}(r:Rep K H v (VL k ds)):∃a xs,v=.ref a/\JK k K H a xs/\bQ K H xs ds:=by
 cases k with
 |lst=>cases(show Rep K H v (.list ds)from r)with|lst h t=>exact#[_,_,rfl,h,t]
 |tup=>cases(show Rep K H v (.tuple ds)from r)with|tup h t=>exact#[_,_,rfl,h,t]
theorem xn{a b:bY}{δ:!Slot}{es: !U}{p pos: Pos}{kk}(k1 k2:Hw)(h1:VE X a δ (VL k1 ds))(h2:VE X b δ (VL k2 es))(hm:X.mg "zip"=none)(hg:Gl X "zip":=by rfl)(hs:lF X a [b]:=by rfl)(lP:lF X b []:=by rfl)(hn:starEach [] X.env=[]:=by rfl):
  VI X (.Tuple elts kk tp) (.Call (.Name "zip" p) [a,b] [] pos) δ (uF ds es):=
 #[_,VJ k1 k2 hg hm (cC cA (cC cA dP lP) hs) (by rw[hs,lP,hn]) (by rw[lP,hn]),λB0 B σ H0 H R f q=>h1 B0 B σ H0 H _ f λv H1 cY g r1=>h2 B0 B σ H1 cY _ (f.grow g) λu H2 f9 g2 r2=>by
  let#[a1,xs,rfl,N1,Y3]:=r1.Tr;let#[a2,ys,rfl,K7,JL]:=r2.Tr;let Y3:=Y3.mono g2.eE;let N1:=g2.eE.Tr N1;refine#[a1,a2,Y,#[_,g2.sub.Tr N1],#[_,g2.sub.Tr K7],q _ H2 f9 (g.trans g2) λHa Hb s1 s2 i=>?_];let l1:=Y3.length;let l2:=JL.length;let Xk:=(s1.trans s2).Tr N1;let hS2:=(s1.trans s2).Tr K7;refine#[λhi=>?_,λhi=>#[_,_,Xk,hS2,by rw[o6]at hi;omega],λx wJ d hd #[t,x1,y1,e1,e2,e3,e4,e5]=>?_]
  .rw[o6]at hi;let#[x,hx,_]:=Y3.get (i:=i) (d:=ds[i]'()) ∅;let#[y,hy,_]:=JL.get (i:=i) (d:=es[i]'()) ∅;exact#[_,x,_,y,Xk,hx,hS2,hy]
  .let#[dx,dy,hx,hy,rfl]:=zY hd;subst e1;subst e3;refine#[_,.laid s2 e2,.tup (nG.of aP) (.cons ?_ (.cons ?_ .nil))]
   .exact((Y3.mono s1).at hx (e4 _ Xk)).mono (di.laid s2 e2).eE
   .exact((JL.mono s1).at hy (e5 _ hS2)).mono (di.laid s2 e2).eE]
end L2
namespace L2
open PySem PySem.Spec PyProof.Rows
open AutoSeq1 (wpAny_loadPart')
theorem Ld(l:J)(items:Array M)(n:Nat)(dd:Option J)(sl:Array (Option M))(x:M)(e:M->Bool)(i j:Nat)(t:Tok)(yK:i<=j)(hj:j<items.size)(VM:(j:Int)<2^63-1)
  (hit:e items[j]=true)(w_:∀m (hm:m<items.size),i<=m->m<j->e items[m]=false):
  Meets (rV.«list.index» #[[.ref l,x,.int i t],[]])
   (λA R s=>s.heap.get? l=some { cls:=.type "list",dict:=dd,data:=.seq items n,slots:=sl }/\(∀y,y∈items->SeqAt.EqAt A.in1 s y x (e y))/\R (.ok (.ret (.int j s.toks))) { s with toks:=s.toks+1 }):=by
 intro prog w A R s h;let#[hp,g,d,tk,os]:=s;let#[hl,he,h]:=h
 wp_walk using fS hl
 let a1:((λi:Int=>if i<0 then max 0 (i+(items.size:Int))else i) ((some (i:Int)).getD 0))=((i:Nat):Int):=by show(if(i:Int)<0 then max 0 ((i:Int)+(items.size:Int)) else(i:Int))=_;rw[qQ2 ()]
 let a2:((λi:Int=>if i<0 then max 0 (i+(items.size:Int))else i) ((none:Option Int).getD (2^63-1)))=2^63-1:=∅
 rw[a1,a2];exact#[yW rY _,lI PySem.MeetsSeq.entry_index_loop (by rw[g7.under_plainId rY _];exact SeqAt.index_loopAt l items n dd sl x e (2^63-1) j hj VM hit _ i Y yK w_ prog w A R _ #[hl,he,h])]
section
variable{a b c:bY}{ds:!U}
def Rk(K:ai)(n:Nat):V->!V->Hp->VK->Prop:=λx vs H Q=>∃p ds y d i j,x=.ref p/\vs=[y,.int ((i:Nat):Int)]/\Rep K H (.ref p) (.list ds)/\Rep K H y d/\Lay n (.list ds)/\Lay n d/\i<=j/\(∃h:j<ds.length,df ds[j] d=true)/\
 (∀m (h:m<ds.length),i<=m->m<j->df ds[m] d=false)/\Q (.int j) H
theorem Le(hu:X.A.units+n+2<cLine):Yq X "list.index" (Rk X.K n):=by
 intro pins s σ H x vs v us Q I rx rv h;let#[p,ds,y,d,i,j,rfl,rfl,r1,r2,l1,l2,yK,#[hj,hit],w_,q]:=h;cases rx;let#[u,u2,rfl,ru,Y2]:=vals2 rv;let#[t2,rfl]:=Y2;let#[bs,rb]:=kA I d l2.1 r2 ru;cases r1 with
 |lst hq rs=>
  let#[its,rvs,#[#[cls,dd,data,sl],m,eo,ec,_,ed],hz]:=I.list hq;simp only at ec ed;subst ec ed;let#[as,ra]:=oZ I ds l1.1 rs rvs;let hl:=rvs.length;let B6:=rs.length;let rd:∀i (h1:i<its.length) (h2:i<ds.length),wQ s.heap its[i]=ds[i]:=λi h1 h2=>by
   let e1:(its.map (wQ s.heap))[i]?>>(wQ s.heap its[i]):=by simp[h1]
   rw[SeqAt.readsAll_map ds its as l1.1 ra]at e1;rw[ax h2]at e1;exact(bK e1).symm
  let h1:=l2.2;let hn:=sC;let ziK:=cL;refine lM F.slot_list_index #[_,eo,Y] F.entry_list_index (F.args_list_index_3 _ _ _) (Ld p its.toArray m dd sl u (λy=>df (wQ s.heap y) d) i j t2 yK (by simp;omega) () ?_ ?_) #[eo,?_,?_]
  .let:=rd j () hj;simp;rwa[this]
  .intro i' hi zcU zcV;let:=rd i' hi ();simp;rw[this];exact w_ i' () zcU zcV
  .exact SeqAt.items_eqAt ↑ra rb l1.1 l2.1 ()
  .exact#[.int j,H,I.tok _,#[_,Y],q]
theorem Lf{X:Cx}{δ:!Slot}{d:U}{pos:Pos}{k:Nat}{i j:Nat}{ap:Pos}(hr:eL k X.A)(h1:VE X a δ (.list ds))(h2:VE X b δ d)(h3:VE X c δ (.int (i:Nat)))(l1:Lay 20 (.list ds))(l2:Lay 20 d)(yK:i<=j)(hj:∃h:j<ds.length,df ds[j] d=true)(w_:∀m (h:m<ds.length),i<=m->m<j->df ds[m] d=false)
  (hs:lF X b [c]:=by rfl)(lP:lF X c []:=by rfl)(gM:y6 X a "index":=by rfl)
  (om:Mx X pos [b,c]:=by rfl)
  (hline:(ap.endLine==pos.line)=true:=by rfl)(gN:rQ X pos [c]:=by rfl):VE X (.Call (.Attribute a "index" ap) [b,c] [] pos) δ (.int j):=
 .of (sE dZ PySem.F.slot_list_index PySem.F.type_list_index (Le (zQ hr)) cA (cC cA (cC cA dP lP) hs) gM om hline hs gN) λB0 B σ H0 H Q f q=>h1 B0 B σ H0 H _ f λv H1 cY g r1=>by
  cases r1 with
  |lst hq rs=>refine#[.inl #[Y,_,g.sub.seq hq],h2 B0 B σ H1 cY _ (f.grow g) λu H2 f9 g2 r2=>h3 B0 B σ H2 f9 _ ((f.grow g).grow g2) λu3 H3 yd g3 r3=>?_];cases r3;let gg:=g2.trans g3;exact#[_,ds,u,d,i,j,Y,Y,.lst (gg.sub.seq (gg.eE.seq hq)) (rs.mono (gg.eE.trans gg.sub)),(r2.mono g3.eE).mono g3.sub,l1,l2,yK,hj,w_,q _ H3 yd (g.trans gg) (.int _)]
theorem zo(h1:VE X a δ (.tuple d1))(h2:VE X b δ (.tuple d2))(hn:d1≠[])(hz:d1.length+d2.length<=sizeLine):VE X (.BinOp a .Add b pos) δ (.tuple (d1++d2)):=by
 refine .of (Eo QI cA cA) λB0 B σ H0 H Q f q=>h1 B0 B σ H0 H _ f λv H1 cY g1 r1=>h2 B0 B σ H1 cY _ (f.grow g1) λu H2 f9 g2 r2=>?_;cases r1 with
 |tup hq r1=>
  cases r2 with
  |tup K7 r2=>
   let gg:=g1.trans g2;let e1:=r1.length;let hx:∀xs:!V,xs.length=d1.length->xs≠[]:=λxs h z=>by rw[z]at h;exact hn (nA h.symm)
   refine#[_,_,_,_,Y,Y,g2.sub.oo (g2.eE.oo hq),g2.sub.oo K7,hx _ e1,[e1,r2.length]▸hz,λhy=>?_,λ_ p hp=>q _ _ _ (gg.trans (.laid g2.sub hp)) (.tup (nG.of aP) (((r1.mono g2.eE).append r2).mono (di.laid g2.sub hp).eE))];subst hy;cases r2;rw[bC]at q;exact q _ H2 f9 gg (.tup (g2.eE.oo hq) (r1.mono g2.eE))
end
end L2
namespace L2
open PySem PySem.Spec PyProof.Rows
variable{a p:J}{H:Hp}{kvs:!(Key×V)}{as:!J}{xs:!V}{i:Nat}{P:bW}{d:U}{K:ai}{Q:M->aU->Prop}{w:cP}
def N2(K:ai)(b:J)(ws:!O):Prop:=∃(o:Obj)(its:Array M)(n:Nat),K.lookup b>>o/\o.cls=.type "tuple"/\o.data=.seq its n/\its.size<=sizeLine/\dw (ws.map V.str) its.toList
inductive GE(pr:GC)(K:ai):!fq->!(O×!O)->Prop
 |nil:GE pr K [] []
 |cons {h:Int} {k:O} {t:Tok} {b:J} {ws:!O} {es:!fq} {kvs:!(O×!O)}:h=U.keyHash pr k->N2 K b ws->GE pr K es kvs->GE pr K (⟨h,.str k t,.ref b⟩::es) ((k,ws)::kvs)
structure GD(pr:GC)(K:ai)(a:J)(kvs:!(O×!O)):Prop where
 nm:(a==sysModules)=false
 nd:(kvs.map (·.1)).Nodup
 ob:∃o es ep,K.lookup a>>o/\o.ExactDict/\o.data=.dict es ep/\GE pr K es.toList kvs
def jT(kvs:!(O×!O))(k:O):Option (!O):=(kvs.find? λp=>decide (p.1=k)).map (·.2)
theorem GE.pairs:∀{es:!fq}{kvs:!(O×!O)},GE w.params K es kvs->∃vs:!(Key×M),Pairs (eB P w) es vs/\vs.map (·.1)=kvs.map (λp=>(bh p.1:Key))/\
  (∀e∈es,∃k,(eB P w).is k e.key=true/\e.hash=(eB P w).hash k)/\∀k,match jT kvs k with|none=>valueAt vs (bh k)=none|some ws=>∃b,valueAt vs (bh k)>>(.ref b)/\N2 K b ws
 |_,_,.nil=>#[[],.nil,Y,λe h=>by(cases h),λk=>rfl]
 |_,_,@GE.cons _ _ hh k t b ws es kvs e kt r=>by
  obtain⟨vs,h1,h2,h3,h4⟩:=GE.pairs r;refine#[(.inr k,.ref b)::vs,.cons (sv P w k t) Y h1,by rw[ao,ao,h2],λx hx=>?_,λj=>?_]
  .rcases au.mp hx with rfl|hx
   .exact#[.inr k,sv P w k t,by rw[e];rfl]
   .exact h3 x hx
  .by_cases hj:k=j
   .subst hj;let:jT ((k,ws)::kvs) k>>ws:=by simp[jT,eA]
    rw[this];exact#[b,by simp[valueAt,eA],kt]
   .let:jT ((k,ws)::kvs) j=jT kvs j:=by simp[jT,eA,hj]
    rw[this];let e2:valueAt ((bh k,ck b)::vs) (bh j)=valueAt vs (bh j):=by let:¬(bh k:Key)=bh j:=λz=>hj (by injection z);simp[valueAt,eA,this]
    rw[e2];exact h4 j
theorem GD.dict{h:dv}{kvs:!(O×!O)}(g:GD w.params K a kvs)(XJ:K.In h):∃vs:!(Key×M),h.DictOf (eB P w) a vs/\∀k,match jT kvs k with|none=>valueAt vs (bh k)=none|some ws=>∃b,valueAt vs (bh k)>>(.ref b)/\N2 K b ws:=by
 obtain⟨o,es,ep,h1,h2,h3,h4⟩:=g.ob;obtain⟨vs,p1,p2,p3,p4⟩:=h4.pairs;refine#[vs,#[o,es,ep,XJ a o h1,h2,h3,λe he=>p3 e ↑he,p1,?_],p4];rw[p2];let nd:=g.nd;induction kvs with
 |nil=>exact gX
 |cons p l ih=>
  rw[ao,cD]at nd ⊢;refine#[λz=>nd.1 ?_,?_]
  .obtain⟨q,hq,e⟩:=aj.mp z;injection e with e
   exact aj.mpr #[q,hq,e]
  .let go:∀l:!(O×!O),(l.map (·.1)).Nodup->(l.map λp=>(bh p.1:Key)).Nodup:=by
    intro l;induction l with
    |nil=>intro _;exact gX
    |cons p l ih=>
     intro nd;rw[ao,cD]at nd ⊢;refine#[λz=>nd.1 ?_,ih nd.2];obtain⟨q,hq,e⟩:=aj.mp z;injection e with e
     exact aj.mpr #[q,hq,e]
   exact go l nd.2
section
variable{X:Cx}{b:bY}{δ:!Slot}{pos p:Pos}{x y:O}{kvs:!(O×!O)}{ws:!O}{g:J}
theorem xo:∀l:!O,bQ K H (l.map V.str) (l.map aJ)
 | []=>.nil
 |z::l=>.cons (.str z) (xo l)
theorem JM(hm:X.mg x>>(.ref g))(G:GD X.w.params X.K g kvs)(h:VE X b δ (.str y))(hk:jT kvs y>>ws)(hg:Gl X x:=by rfl)(hs:Ey b:=by intro _ _;rfl)(hd:uZ x:=by decide):VE X (.Subscript (.Name x p) b pos) δ (.tuple (ws.map .str)):=by
 let pe:PE X (.Subscript (.Name x p) b pos) (λσ H Q=>cE X b σ H λv H1=>v=.str y/\∀q,N2 X.K q ws->Q (.ref q) H1):=by intro pins s σ H Q I hw;refine C_ oS.lookup hs (fV (y8 hg hm (v:=.ref g) Y hd pins s σ H (λv H'=>v=.ref g/\H'=H) I #[Y,Y]) λu s1 #[vx,H1,I1,rx,ex,eH]=>?_);subst ex eH;obtain rfl:u=ck g:=rx;refine fV (hw pins s1 I1) λiv s2 #[v,H2,I2,rv,ev,q]=>?_;subst ev;obtain⟨vs,dd,hv⟩:=G.dict I2.Be;let hv:=hv y;rw[hk]at hv;obtain⟨bb,hb,kt⟩:=hv;exact#[dd.typeIs,wpAny_getItem_of (sF (k:=.inr y) rv) dd.mapOf hb (#[.ref bb,H2,I2.tok _,Y,q bb kt])]
 exact .of pe λB0 B σ H0 H Q f q=>h B0 B σ H0 H _ f λv H1 cY g1 r=>by cases r;exact#[Y,λb' hb=>q _ H1 cY g1 (.tup (.inr hb) (xo ws))]
theorem B7(hm:X.mg x>>(.ref g))(G:GD X.w.params X.K g kvs)(h:VE X b δ (.str y))(hg:Gl X x:=by rfl)(hd:uZ x:=by decide)(hmk:behindInMarks .NotIn (.Name x p)=false:=by with_unfolding_all rfl):VT X (.Compare b [.NotIn] [.Name x p] pos) δ (not (jT kvs y).isSome):=by
 let pc:PC X .NotIn b (.Name x p) (λσ H Q=>cE X b σ H λv H1=>v=.str y/\Q (.bl (not (jT kvs y).isSome)) H1):=by
  intro pins s σ H Q I hw;refine fV (hw pins s I) λiv s1 #[v,H1,I1,rv,ev,q]=>?_;subst ev;refine fV (y8 hg hm (v:=.ref g) Y hd pins s1 σ H1 (λv H'=>v=.ref g/\H'=H1) I1 #[Y,Y]) λu s2 #[vx,H2,I2,rx,ex,eH]=>?_;subst ex eH;obtain rfl:u=ck g:=rx;obtain⟨vs,dd,hv⟩:=G.dict I2.Be;let hv:=hv y;refine wpAny_notIn_of (sF (k:=.inr y) rv) G.nm dd.mapOf ?_;let e:(valueAt vs (bh y)).isSome=(jT kvs y).isSome:=by
   cases el:jT kvs y with
   |none=>rw[el]at hv;rw[hv];rfl
   |some ws=>rw[el]at hv;obtain⟨bb,hb,_⟩:=hv;rw[hb];rfl
  rw[e];exact#[.bl _,H2,I2.tok _,Y,q]
 exact .of (UY pc hmk) λB0 B σ H0 H Q f q=>h B0 B σ H0 H _ f λv H1 cY g1 r=>by cases r;exact#[Y,_,Y,q H1 cY g1]
end
section
variable{X:Cx}{a c e:bY}{δ:!Slot}{d:U}{pos p:Pos}{x:O}{k:Nat}{kvs:!(O×U)}
theorem VN:SlR X (λx lo hi H Q=>∃z,x=.str z/\z.length<=sizeLine/\Q (.str (iF z lo hi)) H):=by
 intro pins s σ H x v vl vu lo hi sl Q I rx hs pl pu h;let#[z,rfl,hz,q]:=h;let#[t,rfl]:=rx;refine#["str",_,PySem.F.slot_str_getitem.lookup,uV _ _ _,?_];let fin:∀(l u:Option (Int×Tok)),l.map (·.1)=lo->u.map (·.1)=hi->s.heap.IsSlice sl l u none->wpAny (model X.prog X.w) X.A (getItem (.str z t) (.ref sl)) (EP X pins σ Q) X.xe s:=by intro l u e1 e2 hl;subst e1 e2;exact wpAny_getItem_str_slice hl Y (post_val_or_str #[bZ (GJ z _ _) hz,λt' k=>(#[.str (iF z _ _),H,I.tok _,#[t',Y],q])])
 let#[os,h1,h2,h3]:=hs;cases pl with
 |none=>cases pu with
  |none=>exact fin none none Y Y #[os,h1,h2,h3]
  |int j t2=>exact fin none (some (j,t2)) Y Y #[os,h1,h2,h3]
 |int i t1=>cases pu with
  |none=>exact fin (some (i,t1)) none Y Y #[os,h1,h2,h3]
  |int j t2=>exact fin (some (i,t1)) (some (j,t2)) Y Y #[os,h1,h2,h3]
theorem B8{lo hi:Option bY}{l u:Option Int}{p2:Pos}(h:VE X a δ (.str x))(hz:x.length<=sizeLine)(hl:uK X δ lo l)(hh:uK X δ hi u):VE X (.Subscript a (.Slice lo hi none p2) pos) δ (.str (iF x l u)):=by let#[tl,pl,ql]:=hl.ok;let#[th,ph,qh]:=hh.ok;refine .of (zK VN cA pl ph) λB0 B σ H0 H Q f q=>h B0 B σ H0 H _ f λv H1 cY g r=>ql B0 B σ H1 cY _ (f.grow g) λH2 f9 g2=>qh B0 B σ H2 f9 _ ((f.grow g).grow g2) λH3 yd g3=>?_;cases r;exact#[x,Y,hz,q _ _ _ ((g.trans g2).trans g3) (.str _)]
inductive VP(X:Cx)(δ:!Slot):!(Option bY)->!bY->!(O×U)->Prop
 |nil:VP X δ [] [] []
 |cons {k v:bY} {ks vs} {x:O} {d:U} {r}:VE X k δ (.str x)->VE X v δ d->VP X δ ks vs r->VP X δ (some k::ks) (v::vs) ((x,d)::r)
theorem VP.ok{keys vals}(h:VP X δ keys vals kvs):keys.all (·.isSome)=true/\keys.length=vals.length/\keys.length=kvs.length/\∃MB,YB X pos keys vals MB/\∀B0 B σ H0 H Q,fK X.K B0 B H0 H σ δ->
  (∀c9 H' (ws:!(Key×V)),di H0 H c9 H'->ws.map (·.1)=kvs.map (λp=>(bh p.1:Key))->bQ X.K c9 (ws.map (·.2)) (kvs.map (·.2))->Q (ws.map λkv=>(kV kv.1,kv.2)) H')->Dc MB σ H Q:=by
 induction h with
 |nil=>exact#[Y,Y,Y,[],QT,λB0 B σ H0 H Q f q=>q _ _ [] (.refl f.sub) Y .nil]
 | @cons k v ks vs x d r hk hv _ ih=>let#[a1,a2,a3,MB,pp,ht]:=ih;refine#[by simpa using a1,by simp[a2],by simp[a3],_,Nf cA cA pp,λB0 B σ H0 H Q f q=>?_];refine hk B0 B σ H0 H _ f λu H1 cY g1 r1=>hv B0 B σ H1 cY _ (f.grow g1) λw H2 f9 g2 r2=>?_;cases r1;exact ht B0 B σ H2 f9 _ ((f.grow g1).grow g2) λH3 yd ws g3 e1 rs=>(q H3 yd ((bh x,w)::ws) ((g1.trans g2).trans g3) (by simp[e1]) (.cons (r2.mono g3.eE) rs))
theorem Rm:∀{kvs:!(Key×V)}{k:Key}{v:V},k∉kvs.map (·.1)->putK kvs k v=kvs ++ [(k,v)]:=by
 intro kvs k v h;unfold putK
 first
  |(rw[qQ2];simpa using h)
  |(simp at h;simp[h])
theorem B9:∀{more kvs:!(Key×V)},((kvs++more).map (·.1)).Nodup->sI kvs more=kvs++more
 | [],kvs,_=>by simp[sI]
 |p::more,kvs,h=>by
  show sI (putK kvs p.1 p.2) more=_;let hp:=λz=>by rw[aH,ao]at h;exact(cF.mp h).2.2 _ z _ (aB) Y
  rw[Rm hp,B9 ↑h];simp
theorem JN{keys vals}(h:VP X δ keys vals kvs)(hn:(kvs.map (·.1)).Nodup)(h0:kvs≠[])(h15:kvs.length<=15):VE X (.Dict keys vals pos) δ (je kvs):=by
 obtain⟨a1,a2,a3,MB,pp,ht⟩:=h.ok;refine .of (QV pp a1 a2 (λz=>h0 (gq.mp (by rw[<-a3,z];rfl))) ()) λB0 B σ H0 H Q f q=>λp hp=>?_;refine ht B0 B σ H0 _ _ (f.grow (.loose f.sub hp)) λH1 cY ws g e1 rs=>?_;let wl:ws.length=kvs.length:=by let:=qQ6 dq e1;simpa using this
 refine#[(g.big _ _ (aP)),ws,Y,(),?_];rw[B9 (by
  rw[nV,e1];let:(kvs.map λp=>(bh p.1:Key))=(kvs.map (·.1)).map bh:=by rw[aG];rfl
  rw[this];exact rZ _ (λa b N3 z=>N3 (mK z)) hn),nV];refine q _ (upd H1 p (.dK ws)) _ #[λb u eb=>?_,λb u eb=>?_,λb u eb=>?_,λb eb=>?_] ?_
 .let hb:=bu eb hp;rw[aI hb];exact g.big _ _ ((aI hb).trans eb)
 .let hb:=bu eb (f.sub.free hp);rw[aI hb];exact g.eE _ _ eb
 .by_cases hb:b=p
  .subst hb;rw[aP]at eb ⊢;exact eb
  .rw[aI hb]at eb ⊢;exact g.sub _ _ eb
 .by_cases hb:b=p
  .subst hb;exact .inr hp
  .rw[aI hb]at eb;rcases g.new b eb with z|z
   .exact .inl z
   .rw[aI hb]at z;exact .inr z
 .refine .dct aP ?_ ?_
  .rw[aG];let:ws.map (λp=>nJ p.1)=(ws.map (·.1)).map nJ:=by rw[aG];rfl
   rw[this,e1,aG];rfl
  .rw[aG];refine(rs.mono λb u eb=>?_);rwa[aI (bu eb (g.still (f.sub.free hp) aP))]
theorem N4{ap:Pos}(hr:eL k X.A)(h3:VE X c δ (je kvs))(h1:VE X a δ (.str x))(h4:VE X e δ d)(m:M2 X c "get" ap a e pos:=by exact#[rfl,rfl,rfl,rfl]):VE X (.Call (.Attribute c "get" ap) [a,e] [] pos) δ ((iz kvs x).getD d):=
 .of (Nh (MD hr) cA cA cA m) λB0 B σ H0 H Q fr q=>h3 B0 B σ H0 H _ fr λv H1 cY g r=>by let#[p,ws,rfl,hp,ke,rs]:=r.kB;refine#[p,Y,.inl #[ws,.inl (g.sub _ _ hp)],?_];refine h1 B0 B σ H1 cY _ (fr.grow g) λv H2 f9 g2 r1=>h4 B0 B σ H2 f9 _ ((fr.grow g).grow g2) λu H3 yd g3 r2=>?_;cases r1;let gg:=g2.trans g3;exact#[_,.inl #[ws,bh x,.inl (gg.big _ _ (g.sub _ _ hp)),Y,Y],q _ H3 yd (g.trans gg) ((xl ke (rs.mono gg.eE) x).getD r2)]
end
section
def qe{α:Type}(l:!α)(i:Nat)(y:α):!α:=l.take i++y::l.drop i
def Rn:V->!V->Hp->VK->Prop:=λx vs H Q=>∃(l:J)(xs:!V)(j:Int)(y:V),x=.ref l/\vs=[.int j,y]/\H l>>(.lst xs)/\0<=j/\j<=xs.length/\xs.length<sizeLine/\Q .non (upd H l (.lst (qe xs j.toNat y)))
theorem dw.ins(r:dw xs us)(ru:RelV y u)(i:Nat):dw (qe xs i y) (qe us i u):=(r.take i).append (.cons ru (r.drop i))
theorem Lg:Yq X "list.insert" Rn:=by
 intro pins s σ H x vs v us Q I rx rv h;let#[l,xs,j,y,rfl,rfl,hH,h0,hi,hz,q]:=h;cases rx;let#[u1,u2,rfl,ru1,Y2]:=rv.two;let#[t,rfl]:=ru1;let#[z,its,n,r,hl,e]:=I.Ys hH;let VQ:wI j=true:=by let:=cL;unfold wI;simp;omega
 refine lM F.slot_list_insert #[_,e,Y] F.entry_list_insert (F.args_list_insert_3 _ _ _) (PySem.AutoSeq1.list_insert_list_int_val_1 l its.toArray n j t u2 (by rw[VQ];decide) (by rw[bJ];omega)) #[e,?_];refine#[.non,_,I.Yr hH e ?_ (r.ins Y2 j.toNat) ?_,Y,q]
 .show(its.toArray.extract 0 (if j<0 then(j+its.toArray.size).toNat else min j.toNat its.toArray.size)).push u2++its.toArray.extract (if j<0 then(j+its.toArray.size).toNat else min j.toNat its.toArray.size)=_;rw[qQ2 (),bJ,nZ ()];unfold qe;apply Array.toList_inj.mp;simp;rw[gJ ∅]
 .unfold qe;rw[aN,bj,bU,iQ];omega
theorem bQ.ins(r:bQ K H xs ds)(rv:Rep K H v d)(i:Nat):bQ K H (qe xs i v) (qe ds i d):=(r.take i).append (.cons rv (r.drop i))
end
section
variable{X:Cx}{a:bY}{δ:!Slot}{pos:Pos}
theorem v8{k:Bool}(h:VE X a δ (.bool k)):VE X (.UnaryOp .Not a pos) δ (.bool (not k)):=.of (U1 cA) λB0 B σ H0 H Q f q=>h B0 B σ H0 H _ f λv H1 cY g r=>by cases r;exact#[k,Y,q _ H1 cY g (.bl _)]
theorem qf{st:!kr}{o:Out}(h:∀B0 B σ H0 H D,fK X.K B0 B H0 H σ δ->vh X.K B0 B H0 D o->Ed X st D σ H):qK X st δ o:=h
end
section
variable{p:Pos}{x:O}
theorem Bl:iS X (.type "str") (λxs H Q=>∃x,xs=[.str x]/\Q (.str x) H):=by intro pins s σ H xs us Q I r h;let#[x,rfl,q]:=h;let#[u,rfl,t,rfl]:=vals1 r;exact PySem.P.str_of_str #[.str x,H,I,#[t,Y],q]
theorem VR:ow K (λxs H Q=>∃x,xs=[.str x]/\Q (.str x) H) [.str x] (.str x):=λvs H0 H Q s r k=>by let#[v,rfl,r1]:=r.one;cases r1;exact#[x,Y,k _ _ _ (.refl s) (.str _)]
theorem Ro{a:bY}{X:Cx}{δ:!Slot}{pos:Pos}(h:VE X a δ (.str x))(hm:X.mg "str"=none)(hg:Gl X "str":=by rfl)(hs:lF X a []:=by rfl):VE X (.Call (.Name "str" p) [a] [] pos) δ (.str x):=kZ Bl VR (du h cZ hs) hm Y hg (he:=hs)
theorem JQ:Jw K (λxs H Q=>∃p ys,xs=[.ref p]/\(jY K H p ys\/nG K H p ys)/\∀l,H l=none->Q (.ref l) (upd H l (.lst ys))) [.tuple ds] ds:=λvs H0 H Q s r q=>by
 let#[v,rfl,r1]:=r.one;cases r1 with
 |tup hq rs=>exact#[_,_,Y,.inr (s.oo hq),λl hl=>(q l _ H0 _ (.loose s hl) hl (s.free hl) aP rs)]
end
section
variable{prog:bW}{w:cP}{E:M->aU->Prop}{s:aU}
theorem Bm{A:g7}{l:J}{items:Array M}(hh:A.handled=none)(hl:s.heap.IsTuple l items)(T:Nat->dv->Prop)
  (t0:∀led h',h'.get? s.heap.objs.size>>(jP led)->(∀b o,s.heap.get? b>>o->h'.get? b>>o)->T 0 h')
  (keep:∀i h h',T i h->(∀b o,b≠s.heap.objs.size+1->h.get? b>>o->h'.get? b>>o)->T i h')
  (add:∀i v (s':aU) (Q:Bool->aU->Prop) (E:M->aU->Prop),i<items.size->items[i]?>>v->T i s'.heap->(∀h' tk b,s'.toks<=tk->dA s.heap.objs.size s'.heap h'->T (i+1) h'->Q b { s' with heap:=h',toks:=tk })->wpAny (model prog w) A.in1.in1.in1 (setAdd s.heap.objs.size v) Q E s')
  (h:∀(h':dv)(tk:Nat),T items.size h'->(∀b o,b<s.heap.objs.size->s.heap.get? b>>o->h'.get? b>>o)->Q (.ref s.heap.objs.size) { s with heap:=h',toks:=tk }):
  wpAny (model prog w) A (call (.type "set") [.ref l]) Q E s:=by
 let#[c,tl,ziN]:=kN.mro;let zge:=kN.made;let Hi:=kN.sub;refine wpAny_call (codeAny_of_tree ?_);show wpAny _ _ (callAny (.type "set") _) _ _ _;refine aM #[Code.quiet_builtin _ ∎,lI F.entry_type_call ?_];rw[g7.under_plain (weight_type_call_type "set" [.ref l] []) Y];let h1:=kN.notType;let h2:=kN.canCreate;let hct:=F.typeCall_set_1 (.ref l)
 repeat (any_goals (first|assumption|wp_step))
 refine pX (code_set_new_1 (.ref l) (E:=E) (Q₁:=λobj s₁=>∃led:Bool,obj=.ref s.heap.objs.size/\s₁={ s with heap:=s.heap.push (jP led) }) λled=>#[led,Y,Y]) λr s₁ hr=>?_;cases r with
 |error e=>exact hr
 |ok fl=>
  cases fl with
  |ret obj=>
   let#[led,rfl,rfl]:=hr;let hS:(s.heap.push (jP led)).get? s.heap.objs.size>>(jP led):=aV _ Y;let hT:uW { s with heap:=s.heap.push (jP led) } (.ref s.heap.objs.size) "set":=#[_,hS,Y];let hli:=kN.init.lookup;let hbi:=kN.init.bind (.ref s.heap.objs.size)
   repeat (any_goals (first|assumption|wp_step))
   refine pX (codeAny_call_builtin (R:=wants (λr s₂=>r=.none/\∃h' tk,s₂={ s with heap:=h',toks:=tk }/\T items.size h'/\(∀b o,b<s.heap.objs.size->s.heap.get? b>>o->h'.get? b>>o)) E) kN.init.plain F.entry_set_init (check_set_init_1 hT ?_)) λr₂ s₂ hr₂=>?_
   .let#[ol,Xj,NV,nl,NW]:=hl;let#[zcX,Ts,Y4,N5]:=ol;simp only at NV NW;subst NV;subst NW;let zcY:(s.heap.push (jP led)).get? l=some { cls:=.type "tuple",dict:=Ts,data:=.seq items nl,slots:=N5 }:=av _ Xj;let ziP:=F.sub_tuple_set;let ziQ:=F.sub_tuple_frozenset;let zm:(vP "tuple"==vP "dict")=false:=⋯;let EJ:(s.heap.push (jP led)).IsTuple l items:=#[_,zcY,Y,nl,Y];unfold rV.«set.__init__» noKeywords rV.Frozenset.updateFrom;generalize hPI:pyIter=PI
    wp_walk
    subst hPI;refine zy EJ ?_;refine L (wpAny_runValue ?_);let Y5:l<s.heap.objs.size:=aX Xj;let hh3:A.in1.in1.in1.handled=none:=by simp[hh]
    let y9:(s.heap.push (jP led)).objs.size=s.heap.objs.size+1:=gW _ _;let zcZ:l≠(s.heap.push (jP led)).objs.size:=[y9]▸aZ (qu Y5);let Vm:s.heap.objs.size∉[(s.heap.push (jP led)).objs.size,l]:=by rw[y9];simp only[au,aA,aS,or_false,not_or];exact#[aZ (Nat.lt_succ_self _),eG Y5]
    refine Nj ((Walks.tuple hh3 _ l zcZ items).toS) s.heap.objs.size Vm T (λi h h' t k=>keep i h h' t λb o hb e=>k b o ?_ e) (λi v s' Q E hi hv t q=>add i v s' Q E hi hv t q) (items.size-0) 0 _ () (aY _)
     #[#[_,aV _ Y,Y,Y],(EJ.push _)] ?hS0 ?hR
    .rw[y9];intro z;rw[aA]at z;exact hb z
    case hS0=>exact t0 led _ (av _ hS) λb o e=>av _ (av _ e)
    case hR=>intro s' hm Y6;let#[h',g',d',B4,Xc]:=s';let eg:g'=s.gens:=hm.gens;let ed:d'=s.drawn:=hm.drawn;let eo:Xc=s.os:=hm.os;subst eg;subst ed;subst eo;show wpAny _ _ _ _ _ _;refine aM ?_;show wpAny _ _ (ret iJ) _ _ _;refine aM #[Y,h',B4,Y,Y6,λb o hb e=>?_];let Y7:b≠s.heap.objs.size:=aZ hb;let Tt:b≠(s.heap.push (jP led)).objs.size:=[y9]▸aZ (qu hb);exact hm.heap b o (by simp only[au,aA,aS,or_false,not_or];exact#[Y7,Tt]) (av _ (av _ e))
   .cases r₂ with
    |error e=>exact hr₂
    |ok fl₂=>
     cases fl₂ with
     |ret r=>
      let#[rfl,h',tk,rfl,Y6,hk']:=hr₂
      repeat (any_goals (first|assumption|wp_step))
      exact h _ _ Y6 hk'
     |_=>exact hr₂.elim
  |_=>exact hr.elim
end
section
variable{X:Cx}{a b:bY}{δ:!Slot}{ds:!U}{pos p p2 EL:Pos}
def VW(K:ai):!V->Hp->VK->Prop:=λxs H Q=>∃(a:J)(ss:!O),xs=[.ref a]/\nG K H a (ss.map V.str)/\ss.length<4000/\∀l,H l=none->Q (.ref l) (upd H l (.ext (K9 l (dd [] ss).length)))
theorem zZ(hc:X.calm=true):iS X (.type "set") (VW X.K):=by
 intro pins s σ H xs us Q I r h;let#[a,ss,rfl,hq,h4,q]:=h;let#[u,rfl,rx]:=vals1 r;cases rx;let#[its,rv,pl,hz]:=I.tuple hq;let hlv:=rv.length;simp only[ae]at hlv;let yL:its.toArray.size=ss.length:=by simp;omega
 refine Bm (I.ok.hd hc) pl (λi h=>(∀b o,s.heap.get? b>>o->h.get? b>>o)/\h.SetOf (strKind X.prog X.w) s.heap.objs.size (λk=>decide (k∈dd [] (ss.take i))) (dd [] (ss.take i)).length) (λled h' e k=>?_) (λi h h' #[k1,T] k=>?_) (λi v s' Q' E' hi hv #[k1,T] q'=>?_) (λh' tk #[k1,T] _=>?_)
 .let n0:dd [] (ss.take 0)=[]:=by rw[BF];rfl
  refine#[k,?_];rw[n0];refine#[_,#[],0,_,e,#[Y,Y,Y],Y,(λe he=>by cases he),(λk=>#[λz=>by simp at z,λ#[e,he,_]=>by cases he]),(by show 0<scanBound;unfold scanBound;omega),Y,Y]
 .refine#[λb o e=>k b o ?_ (k1 b o e),?_]
  .let:=aX e;exact aZ (qu this)
  .let#[o,es,ep,t,ho,rest]:=T;exact#[o,es,ep,t,k _ _ () ho,rest]
 .rw[yL]at hi;let#[x,t,hx,rfl]:=B3 rv i v ↑hv;let his:(strKind X.prog X.w).is x (.str x t)=true:=by show vL x (.str x t)=true;simp[vL]
  let hle:=xk (ss.take i) [];simp[cx,r9,bU]at hle;let etk:ss.take (i+1)=ss.take i ++ [x]:=by rw[cB,hx];rfl
  refine hV (L ((strKind X.prog X.w).pyHash his ?_));refine wpAny_setAddHashed_of his Y T (by unfold scanBound;omega) λh' sb T'=>q' h' _ _ (Nat.le_succ _) sb #[λb o e=>?_,?_]
  .let hb:=aX e;rw[sb.2 b (aZ hb)];exact k1 b o e
  .let ed:dd [] (ss.take (i+1))=if decide (x∈dd [] (ss.take i))=true then dd [] (ss.take i)else dd [] (ss.take i) ++ [x]:=by rw[etk,B2];rfl
   rw[ed];by_cases hm:decide (x∈dd [] (ss.take i))=true
   .rw[qQ3 hm]at T' ⊢;refine SetOf_congr T' (λk=>?_) Y;by_cases hk:k=x
    .subst hk;rw[hm];rfl
    .simp[hk]
   .rw[qQ2 hm]at T' ⊢;refine SetOf_congr T' (λk=>?_) ∅;rw[gx];simp
 .rw[yL,bV]at T;exact#[.ref s.heap.objs.size,_,I.laid k1 () (SetOf.zcJ T).ok,Y,q _ (I.hok.fresh ())]
theorem ER{ss:!O}(h:VE X a δ (.tuple (ss.map .str)))(hl:ss.length<4000)(hc:X.calm=true)(m1:X.mg "len"=none)(m2:X.mg "set"=none)(hg:Gl X "len":=by rfl)(Rc:Gl X "set":=by rfl)
  (hs:lF X a []:=by rfl)(lP:starEach [.Call (.Name "set" p2) [a] [] EL] X.env=(false,eval (.Call (.Name "set" p2) [a] [] EL) X.env)::starEach [] X.env:=by rfl)(mw:rQ X EL []:=by rfl)(zc2:rQ X pos []:=by rfl):
  VE X (.Call (.Name "len" p) [.Call (.Name "set" p2) [a] [] EL] [] pos) δ (.int (dd [] ss).length):=
 .of (sD Bj hg m1 uB (cC (lQ (zZ hc) Rc m2 (by rfl) (cC cA dP hs) ⋯ ⋯ hs mw) dP lP) ⋯ ⋯ lP zc2) λB0 B σ H0 H Q f q=>h B0 B σ H0 H _ f λv H1 cY g r=>by
  cases r with
  |tup hq rs=>let e:=rs.strs;subst e;let:=xk ss [];exact#[_,ss,Y,g.sub.oo hq,hl,λl hl'=>#[l,_,Y,aP,by simp at this;omega,q _ H1 _ (g.trans (.loose g.sub hl')) (.int _)]]
def B_:!Bool->Bool:=λl=>l.any id
theorem N6(hc:X.calm=true):iS X (.builtin "any") (λxs H Q=>∃p bs,xs=[.ref p]/\jY X.K H p (bs.map V.bl)/\Q (.bl (B_ bs)) H):=by
 intro pins s σ H xs us Q I r h;let#[p,bs,rfl,hq,q]:=h;let#[u,rfl,rx]:=vals1 r;cases rx;let#[its,rv,pl,hz]:=I.list hq;let hl:=rv.length;simp only[ae]at hl;refine call_any_walkS (m9 pl.isList ?_);let hbl:∀(i:Nat)v,its.toArray[i]?>>v->v=.bool _:=λi v hv=>by
  let Qz:its[i]?>>v:=by simpa using hv
  let e:=rv.getD i;let e2:its.getD i iJ=v:=by rw[aQ,Qz];rfl
  let hi:i<bs.length:=by let:=(aq.mp Qz).1;omega
  let e3:(bs.map V.bl).getD i .non=.bl (bs.getD i false):=by rw[aQ,ay,aQ,ax hi];rfl
  rwa[e2,e3]at e
 refine#[_,_,_,_,_,_,_,λi=>bs.getD i false,Y,(Walks.list (by simp[I.ok.hd hc]) _ p (aZ (aX pl.isList.choose_spec.1)) its.toArray).toS,#[#[_,aV _ Y,Y,Y],pl.isList.push _],?_,λs' hm=>?_]
 .intro i v Q' E' s' hv q';rw[hbl i v hv];exact fB q'
 .let ea:(cv its.toArray.size).any (λi=>bs.getD i false)=B_ bs:=by
   rw[bJ,<-hl];unfold B_;rw[gx,mZ,mZ];constructor
   .rintro⟨i,hi,h⟩;let hi:=gb.mp hi;rw[aQ,ax hi]at h;exact#[_,eD hi,h]
   .rintro⟨x,hx,h⟩;let#[i,hi]:=mM.mp hx;refine#[i,gb.mpr (aq.mp hi).1,?_];rwa[aQ,hi]
  rw[ea];let#[h',g',d',B4,Xc]:=s';let eg:=hm.gens;let ed:=hm.drawn;let eo:=hm.os;subst eg;subst ed;subst eo;refine#[.bl _,H,I.kept λb o e=>hm.heap b o ?_ (av _ e),Y,q];let:=aX e;simp;exact aZ this
theorem Y8:ow K (λxs H Q=>∃p bs,xs=[.ref p]/\jY K H p (bs.map V.bl)/\Q (.bl (B_ bs)) H) [.list (bs.map .bool)] (.bool (B_ bs)):=λvs H0 H Q s r q=>by
 let#[v,rfl,r1]:=r.one;cases r1 with
 |lst hq rs=>let e:=rs.bls;subst e;exact#[_,bs,Y,s.seq hq,q _ _ _ (.refl s) (.bl _)]
theorem xq:fillsNumberSlot (.type "tuple") "mul"=pure false:=
 PySem.fillsNumberSlot_seq Ba.lookup ∎ F.slot_tuple_rmul.lookup ∎
theorem Di:seqRepeat? (.type "tuple")=pure (some (.builtin "tuple.__mul__")):=by unfold seqRepeat?;rfl
theorem z8(i:Int)(t:Tok)(l:J)(items:Array M)(n:Nat)(dd:Option J)(sl:Array (Option M)):
  Meets (rV.«int.__rmul__» #[[.int i t,.ref l],[]]) (λ_ R s=>s.heap.get? l=some { cls:=.type "tuple",dict:=dd,data:=.seq items n,slots:=sl }/\R (.ok (.ret M.notImplemented)) s):=
 .of_wp λprog w A R s h=>by let#[hp,g,d,tk,os]:=s;let#[hl,h]:=h;wp_walk;exact#[_,Y,h]
theorem Bn(l:J)(items:Array M)(n:Nat)(dd:Option J)(sl:Array (Option M))(t:Tok):
  Meets (rV.«tuple.__mul__» #[[.ref l,.int 1 t],[]]) (λ_ R s=>s.heap.get? l=some { cls:=.type "tuple",dict:=dd,data:=.seq items n,slots:=sl }/\R (.ok (.ret (.ref l))) s):=
 .of_wp λprog w A R s h=>by
  let#[hp,g,d,tk,os]:=s;let#[hl,h]:=h;let f1:=Jc;let f2:=A1;let c1:(items.isEmpty||(1:Int)==1)=true:=∅
  wp_walk using fS hl
  exact#[_,Y,h]
theorem z_(l:J)(its:!M)(n:Nat)(dd:Option J)(sl:Array (Option M))(k:Int)(t:Tok)(hk:2<=k)(VX:k<2^63)(zm:its≠[])(yL:its.length*k.toNat<=sizeLine):
  Meets (rV.«tuple.__mul__» #[[.ref l,.int k t],[]]) (λ_ R s=>s.heap.get? l=some { cls:=.type "tuple",dict:=dd,data:=.seq its.toArray n,slots:=sl }/\R (.ok (.ret (.ref s.heap.objs.size))) { s with heap:=s.heap.push { cls:=vP "tuple",data:=Data.seq (bo k.toNat its).flatten.toArray } }):=
 .of_wp λprog w A R s h=>by
  obtain⟨hp,g,d,tk,os⟩:=s;obtain⟨hl,h⟩:=h;let f1:=Jc;let f2:=A1;let Y9:its.toArray.isEmpty=false:=by cases its with|nil=>exact qQ7 rfl zm|cons _ _=>rfl
  let ziV:its.toArray.size*k.toNat<=sizeLine:=[bJ]▸yL;let Y_:List.foldl (λx1 x2=>x1++x2) #[] (bo k.toNat its.toArray)=(bo k.toNat its).flatten.toArray:=by let:=foldl_rep its k.toNat [];rw[nV]at this;exact this
  generalize hI:its.toArray=items at *;let hc1:¬(items.isEmpty||k==1)=true:=by rw[Y9];simp;omega
  let hc2:¬(decide (k<=0)||items.isEmpty)=true:=by rw[Y9];simp;omega
  let hmul:(items.size:Int)*k=((items.size*k.toNat:Nat):Int):=by rw[Int.natCast_mul,kO ()]
  let hsl:(sizeLine:Int)<=(2^63-1)/8:=⋯;let hc3:¬((items.size:Int)*k>(2^63-1)/8):=by rw[hmul];omega
  wp_walk using fS hl
  refine lJ (qQ0 (by simp;omega)) ?_
  wp_walk using fS hl
  refine lJ (qQ0 hc1) ?_
  wp_walk using fS hl
  refine lJ (qQ0 hc2) ?_
  wp_walk using fS hl
  refine lJ (qQ0 hc3) ?_
  wp_walk using fS hl
  refine lJ (qQ0 (by unfold rV.Tuple.tupleTooMany;rw[hmul];simp only[gt_iff_lt,decide_eq_true_eq];omega)) ?_
  wp_walk using fS hl
  rw[Y_];refine lJ (qQ0 ?_) ?_
  .rw[bJ,len_rep];let:items.size=its.length:=by rw[<-hI,bJ]
   rw[Nat.mul_comm];omega
  wp_walk
  exact#[_,Y,h]
def Y'(K:ai):R2:=λx y H Q=>∃a k xs,x=.ref a/\y=.int k/\nG K H a xs/\1<=k/\k<2^63/\xs≠[]/\xs.length*k.toNat<=sizeLine/\(k=1->Q (.ref a) H)/\(k≠1->∀p,H p=none->Q (.ref p) (upd H p (.tup (bo k.toNat xs).flatten)))
theorem Rp:uj X (binaryOp .Mult) (Y' X.K):=by
 intro pins s σ H x y v u Q I rx ry h;let#[a,k,xs,rfl,rfl,ha,h1,h2,hx,hz,q1,q2]:=h;cases rx;let#[t,rfl]:=ry;let#[its,r1,p1,_]:=I.tuple ha;let#[#[cls,dd,data,sl],ho,hc,n,hd]:=id p1;subst hc hd;refine wpAny_binaryOp_repeat_ref ⋯ #[_,ho,Y] (λs'=>typeIs_int s' k t) xq F.fills_int_mul F.slot_int_rmul Di F.slot_int_index.lookup
  (lM F.slot_int_rmul (typeIs_int s k t) F.entry_int_rmul (F.args_int_rmul_2 _ _) (z8 k t a its.toArray n dd sl) #[ho,Y,#[_,ho,Y],?_]);by_cases hk:k=1
 .subst hk;exact lM Ba #[_,ho,Y] F.entry_tuple_mul (F.args_tuple_mul_2 _ _) (Bn a its.toArray n dd sl t) #[ho,.ref a,H,I,Y,q1 Y]
 .refine lM Ba #[_,ho,Y] F.entry_tuple_mul (F.args_tuple_mul_2 _ _) (z_ a its n dd sl k t () h2 (λz=>hx (r1.y_.mp z)) ([<-r1.length]▸hz)) #[ho,?_];refine#[.ref s.heap.objs.size,_,I.laid (λb ob q=>av _ q) () ?_,Y,q2 hk _ (I.hok.fresh ())];exact#[[len_rep,Nat.mul_comm]▸hz,_,r1.rep k.toNat,uG _ _]
theorem Rq{n:Int}(h1:VE X a δ (.tuple ds))(h2:VE X b δ (.int n))(hn:1<=n)(hn2:n<=1000)(hz:ds.length<=100)(zm:ds≠[]):VE X (.BinOp a .Mult b pos) δ (.tuple (bo n.toNat ds).flatten):=by
 refine .of (Eo Rp cA cA) λB0 B σ H0 H Q f q=>h1 B0 B σ H0 H _ f λv H1 cY g1 r1=>h2 B0 B σ H1 cY _ (f.grow g1) λu H2 f9 g2 r2=>?_;cases r2;cases r1 with
 |tup hq rs=>
  rename_i ad xs
  let gg:=g1.trans g2;let hl:=rs.length;let JL:=rs.mono g2.eE;let go:∀m,bQ X.K H2 (bo m xs).flatten (bo m ds).flatten:=by
   intro m;induction m with
   |zero=>exact .nil
   |succ m ih=>rw[eM,ft,eM,ft];exact JL.append ih
  refine#[_,n,_,Y,Y,g2.sub.oo (g2.eE.oo hq),hn,(),λz=>?_,?_,λe=>?_,λ_ p hp=>?_]
  .rw[z]at hl;exact zm (nA hl.symm)
  .rw[cL,hl];let:n.toNat<=1000:=();let:=fu hz this;omega
  .refine q _ H2 f9 gg ?_;let e2:(bo n.toNat ds).flatten=ds:=by rw[e];simp
   rw[e2];exact .tup (g2.eE.oo hq) JL
  .exact q _ _ _ (gg.trans (.laid g2.sub hp)) (.tup (nG.of aP) ((go _).mono (di.laid g2.sub hp).eE))
end
def lG(as:!J)(H H0:Hp):Hp:=λq=>if q∈as then H q else H0 q
theorem jy(h:q∈as):lG as H H0 q=H q:=qQ3 h
theorem kC(h:q∉as):lG as H H0 q=H0 q:=qQ2 h
abbrev OR:=Hp->Hp->!J->Prop
def bM(R:OR):Prop:=∀H0 H Ha Hb as,R H0 H as->cy H0 Ha->(∀a∈as,Hb a=H a)->R Ha Hb as
structure OF(K:ai)(B0 B:Hp)(R:OR)(H0 H:Hp)(σ:St)(δ:!Slot):Prop where
 fr:fK K B0 B H0 H σ δ
 no:noOwn δ=true
 ex:∃as:!J,(∀a∈as,H0 a=none/\B a=none/\H a≠none)/\R H0 H as
section
theorem cy.eq(s:cy H H')(h:H a≠none):H' a=H a:=by
 cases e:H a with
 |none=>exact qQ7 e h
 |some o=>exact s a o e
theorem OF.go(m:bM R)(G:OF K B0 B R H0 H σ δ)(f':fK K H0 H Ha Hb σ' δ')(hn:noOwn δ'=true):OF K B0 B R Ha Hb σ' δ':=by
 let#[as,h1,h2]:=G.ex;refine#[f'.re hn (G.fr.ent.trans f'.ent),hn,as,λa ha=>?_,m _ _ _ _ _ h2 f'.ent.eE λa ha=>f'.ent.big.eq (h1 a ha).2.2];let#[z1,z2,z3]:=h1 a ha;cases e:H a with
 |none=>exact qQ7 e z3
 |some o=>exact#[f'.ent.still z1 e,z2,f'.ent.big.ne z3]
theorem OF.from(G:OF K B0 B R H0 H σ δ)(g:di C0 B H0 H):OF K C0 B R H0 H σ δ:=#[G.fr.re G.no g,G.no,G.ex]
theorem OF.own(G:OF K B0 B R H0 H σ δ):fK K H0 H H0 H σ δ:=G.fr.re G.no (.refl G.fr.sub)
theorem OF.forget(m:bM R)(G:OF K B0 B R H0 H σ δ)(hf:Ra δ δ')(hn:noOwn δ'=true):OF K B0 B R H0 H σ δ':=G.go m (G.own.forget hf.len hf.at) hn
theorem OF.imp(G:OF K B0 B R H0 H σ δ)(h:∀as,R H0 H as->R' H0 H as):OF K B0 B R' H0 H σ δ:=by let#[as,h1,h2]:=G.ex;exact#[G.fr,G.no,as,h1,h as h2]
theorem kD(sb:cy H0 H):cy H0 (lG as H H0):=λb u e=>by
 by_cases hb:b∈as
 .rw[jy hb];exact sb b u e
 .rwa[kC hb]
theorem v9(sb:cy H0 H):cy (lG as H H0) H:=λb u e=>by
 by_cases hb:b∈as
 .rwa[jy hb]at e
 .rw[kC hb]at e;exact sb b u e
theorem OF.Zb(G:OF K B0 B R H0 H σ δ)(hi:δ[i]?>>(.ref p))(hR:∀Ha Hb as,cy Ha Hb->R Ha Hb as->Rep K (lG as Hb Ha) (.ref p) d):∃as,(∀a∈as,H0 a=none/\B a=none/\H a≠none)/\R H0 H as/\fK K (lG as H H0) H (lG as H H0) H σ (δ.set i (.val d)):=by
 let#[as,h1,h2]:=G.ex;let sm:=kD (as:=as) G.fr.sub;let hs:=G.fr.slot i _ hi;let f0:fK K (lG as H H0) H (lG as H H0) H σ δ:=by
  refine#[.refl (v9 G.fr.sub),G.fr.len,λi sl e=>?_,G.fr.apart];let q:=G.fr.slot i sl e;cases sl with
  |un=>trivial
  |ref _=>exact q
  |val d=>let#[v,g1,g2]:=q;exact#[v,g1,g2.mono sm]
  |own ds=>exact qQ7 e (fZ G.no i ds)
 let f1:=f0.qd (i:=i) (sl:=.val d) #[_,Y,hR H0 H as G.fr.sub h2] Y;let e:σ.set i (some (.ref p))=σ:=by
  apply iG;intro j;by_cases h:j=i
  .subst h;rw[aR (aq.mp hs).1,hs]
  .rw[aO (bD h)]
 rw[e]at f1;exact#[as,h1,h2,f1]
theorem OF.look(G:OF K B0 B R H0 H σ δ)(hi:δ[i]?>>(.ref p))(hR:∀Ha Hb as,cy Ha Hb->R Ha Hb as->Rep K (lG as Hb Ha) (.ref p) d):∃C0,fK K C0 H C0 H σ (δ.set i (.val d)):=
 let#[_,_,_,f]:=G.Zb hi hR;#[_,f]
end
section
variable{X:Cx}{B0 B H0 H c9 H' Ha Hb:Hp}{σ σ':St}{D:Ends}{δ δ':!Slot}{p:J}{e:bY}{d dp:U}{pos px:Pos}{x y:O}{R:OR}
theorem Dj{st:kr}(m:bM R)(G:OF X.K B0 B R H0 H σ δ)(h:VS X st δ (.nx δ'))(hn:noOwn δ'=true)(q:∀σ' c9 H',OF X.K B0 B R c9 H' σ' δ'->D.nx σ' H'):cS X st D σ H:=
 h H0 H σ H0 H D G.own λσ' Ha Hb sm f'=>q σ' Ha Hb (G.go m f' hn)
theorem VY(m:bM R)(G:OF X.K B0 B R H0 H σ δ)(i j:Nat)(hi:δ[i]?>>(.ref p))(hR:∀Ha Hb as,cy Ha Hb->R Ha Hb as->Rep X.K (lG as Hb Ha) (.ref p) dp)(h:VE X e (δ.set i (.val dp)) d)(hs:o5 d=true)(hn:noOwn (δ.set j (.val d))=true)(q:∀σ' c9 H',OF X.K B0 B R c9 H' σ' (δ.set j (.val d))->D.nx σ' H')(hN:X.N.Nodup)
  (hj:X.N[j]?>>y:=by rfl)(hx:Loc X.env.scope y:=by left)(pL:CN X pos e (.Name y px):=by rfl)(hf:zC X y:=by left):
  cS X (.Assign [.Name y px] e pos) D σ H:=λpins s I=>by refine u6 hN hj hx cA pL hf pins s σ H D I ?_;let#[C0,f1]:=G.look hi hR;refine h C0 H σ C0 H _ f1 λv C1 H1 g1 r=>?_;let G1:=G.go m (G.own.grow (.far G.fr.sub g1.big)) G.no;exact q _ H0 H1 (G1.go m (G1.own.qd #[_,Y,r.yN hs] Y) hn)
section
theorem N7(Rs:Nat->OR)(δs:Nat->!Slot)(m:∀k,bM (Rs k))(G:OF X.K B0 B (Rs 0) H0 H σ (δs 0))(hp:uz (model X.prog X.w) X.A X.env X.xe)(hc:X.calm=true)(hi:VI X tg iter (δs 0) ds)(hg:PG X tg (Gv X.K tgt))
  (step:∀k d,ds[k]?>>d->∃δ',sO tgt d (δs k)>>δ'/\noOwn δ'=true/\∀(D:Ends)C0 σ' c9 H',OF X.K C0 B (Rs k) c9 H' σ' δ'->(∀σ2 Ha Hb,OF X.K C0 B (Rs (k+1)) Ha Hb σ2 (δs (k+1))->D.nx σ2 Hb)->Ed X body D σ' H')
  (q:∀σ2 Ha Hb,OF X.K B0 B (Rs ds.length) Ha Hb σ2 (δs ds.length)->D.nx σ2 Hb)
  (hs:Jf X iter:=by intro _;rfl):cS X (.For tg iter body [] pos) D σ H:=λpins s I=>by
 let#[wi,pi,qi]:=hi;refine zE hp hc pi hg kY hs pins s σ H D I ?_;refine qi H0 H σ H0 H _ G.own λJa H1 cY g it=>?_;let G1:=G.go (m 0) (G.own.grow g) G.no;refine#[λi mm σ' H'=>i<=ds.length/\mm=ds.length-i/\∃Ha,OF X.K H1 B (Rs i) Ha H' σ' (δs i),#[_,aY _,Y,H1,G1.from #[G1.fr.ent.big,cy.refl _,G1.fr.sub,λ_ z=>.inl z]],?_];rintro i mm σ' H' ⟨hi,rfl,Ha,Ga⟩;let#[i1,i2,i3]:=it Ha H' Ga.fr.ent.eE Ga.fr.sub i;by_cases ng:i<ds.length
 .let hd:ds[i]?>>ds[i]:=by simp[ng]
  let#[δ',e1,e2,e3]:=step i _ hd;refine .inr #[i1 ng,λσ'' wJ=>∃Hb,_,λσ'' wJ #[Hb,z]=>#[_,(),ng,Y,Hb,z],λv H2 y=>?_];let#[Hb,g2,rx]:=i3 v H2 _ hd y;exact pN (Ga.own.grow g2) rx e1 λσ3 f3=>(e3 _ H1 σ3 Hb H2 (Ga.go (m i) f3 e2) λσ2 Hc Hd z=>#[Hc,z])
 .let e:i=ds.length:=();subst e;refine .inl #[i2 (),q σ' Ha H' (Ga.from #[Ga.fr.ent.big,G1.fr.ent.eE.trans Ga.fr.ent.eE,Ga.fr.sub,λb z=>?_])];rcases Ga.fr.ent.new b z with z|z
  .exact G1.fr.ent.new b z
  .exact .inr z
end
theorem ye(Rs:Nat->OR)(m:∀k,bM (Rs k))(G:OF X.K B0 B (Rs 0) H0 H σ δ)(hp:uz (model X.prog X.w) X.A X.env X.xe)(hc:X.calm=true)(hi:VI X tg iter δ ds)(hg:PG X tg (Gv X.K tgt))
  (step:∀k d,ds[k]?>>d->∃δ',sO tgt d δ>>δ'/\noOwn δ'=true/\∀(D:Ends)C0 σ' c9 H',OF X.K C0 B (Rs k) c9 H' σ' δ'->(∀σ2 Ha Hb,OF X.K C0 B (Rs (k+1)) Ha Hb σ2 δ->D.nx σ2 Hb)->Ed X body D σ' H')
  (q:∀σ2 Ha Hb,OF X.K B0 B (Rs ds.length) Ha Hb σ2 δ->D.nx σ2 Hb)
  (hs:Jf X iter:=by intro _;rfl):cS X (.For tg iter body [] pos) D σ H:=N7 Rs (λ_=>δ) m G hp hc hi hg step q hs
def N8(K:ai)(S:Type)(PR:J->S->OR)(ok:S->U->S->Prop):Sp:=λvs H Q _=>∃(H0:Hp)(p:J)(v:V)(as:!J)(s s':S)(d:U),vs=[.ref p,v]/\cy H0 H/\Rep K H0 v d/\(∀a∈as,H0 a=none/\H a≠none)/\PR p s H0 H as/\ok s d s'/\
 ∀(c9 H':Hp)(as':!J),cy H0 c9->cy c9 H'->(∀a,c9 a≠none->H0 a≠none\/H a=none)->(∀a∈as',c9 a=none/\H' a≠none/\(a∈as\/H a=none))->(∀b o,H b>>o->b∉as->H' b>>o)->PR p s' c9 H' as'->Q .non H'
theorem Zc{S:Type}{PR:J->S->OR}{ok:S->U->S->Prop}{k:Nat}{f:O}{ps:!O}{p0 p1 pc:Pos}{s s':S}(C:a_ X.prog X.w X.K X.mg X.base k f ps (N8 X.K S PR ok))(hr:eL k X.A)(G:OF X.K B0 B (PR p s) H0 H σ δ)(m:bM (PR p s))(i:Nat)(hi:δ[i]?>>(.ref p))(h:VE X e δ d)(hok:ok s d s')
  (q:∀c9 H',OF X.K B0 B (PR p s') c9 H' σ δ->D.nx σ H')
  (hN:u5 X i x:=by ac_rfl)
  (hg:Gl X f:=by rfl)(p5:uZ f:=by decide)(he:starEach [.Name x p0,e] X.env=(false,eval (.Name x p0) X.env)::starEach [e] X.env:=by rfl)(Nt:lF X e []:=by rfl)(mw:rQ X pc [e]:=by rfl)
  (pL:XM X pos (.Call (.Name f p1) [.Name x p0,e] [] pc):=by rfl):
  cS X (.Expr (.Call (.Name f p1) [.Name x p0,e] [] pc) pos) D σ H:=λpins s0 I=>by
 let#[fa,fd,F,hm,hk,hb]:=C;refine oV (qE F hr hg hm hk hb .nil x8 (cC (xZ hN) (cC cA dP Nt) he) p5 he mw) pL pins s0 σ H D I ?_;refine#[_,G.fr.slot i _ hi,?_];refine h H0 H σ H0 H _ G.own λv H1 cY g r=>?_;let G1:=G.go m (G.own.grow g) G.no;let#[as,h1,h2]:=G1.ex;refine#[H1,p,v,as,s,s',d,Y,G1.fr.sub,r,λa ha=>#[(h1 a ha).1,(h1 a ha).2.2],h2,hok,λc9 H' as' a1 a2 a3 a4 a5 a6=>?_];let hB:∀b,B b≠none->b∉as:=λb hb z=>hb (h1 b z).2.1;refine q c9 H' #[#[#[λb u e=>a5 b u (G1.fr.ent.big b u e) (hB b (by rw[e];simp)),G1.fr.ent.eE.trans a1,a2,λb z=>?_],G1.fr.len,λj sl e=>?_,G1.fr.apart],G.no,as',λa ha=>?_,a6]
 .rcases a3 b z with z|z
  .exact G1.fr.ent.new b z
  .exact .inr (G1.fr.ent.big.free z)
 .let qq:=G1.fr.slot j sl e;cases sl with
  |un=>trivial
  |ref _=>exact qq
  |val d=>let#[v,g1,g2]:=qq;exact#[v,g1,g2.mono a1]
  |own ds=>exact qQ7 e (fZ G.no j ds)
 .let#[z1,z2,z3]:=a4 a ha;refine#[z1,?_,z2];rcases z3 with z3|z3
  .exact(h1 a z3).2.1
  .exact G1.fr.ent.big.free z3
end
theorem xr{α:Type}{g:α->U}:∀{l:!α}{cs:!J},cs.length=l.length->(∀(i:Nat)c q,cs[i]?>>c->l[i]?>>q->Rep K H (.ref c) (g q))->bQ K H (cs.map V.ref) (l.map g)
 | [],[],_,_=>.nil
 | [],_::_,h,_=>by cases h
 |_::_,[],h,_=>by cases h
 |q::l,c::cs,h,k=>.cons (k 0 c q Y Y) (xr ↑h λi c' q' e1 e2=>k (i+1) c' q' ↑e1 ↑e2)
section
theorem OF.put(G:OF K B0 B R H0 H σ δ)(m:bM R)(g:di H0 H Ha Hb)(hR:∀as,R Ha Hb as->x∈as/\∃as',(∀a∈as',a∈as)/\R' Ha (upd Hb x o) as'):OF K B0 B R' Ha (upd Hb x o) σ δ:=by
 let G1:=G.go m (G.own.grow g) G.no;let#[as,h1,h2]:=G1.ex;let#[hx,as',hs,r']:=hR as h2;let#[z1,z2,z3]:=h1 x hx;refine#[G1.fr.touch z1 z2 (fZ G1.no),G1.no,as',λb hb=>?_,r'];let#[w1,w2,w3]:=h1 b (hs b hb);refine#[w1,w2,?_];by_cases e:b=x
 .subst e;rw[aP];exact nofun
 .rwa[aI e]
end
section
theorem OF.done(G:OF K B0 B R H0 H σ δ)(hi:δ[i]?>>(.ref p))(hR:∀Ha Hb as,cy Ha Hb->R Ha Hb as->Rep K (lG as Hb Ha) (.ref p) d):∃Ha,cy H0 Ha/\fK K B0 B Ha H σ (δ.set i (.val d)):=by
 let#[as,h1,h2]:=G.ex;let sm:=kD (as:=as) G.fr.sub;let hs:=G.fr.slot i _ hi;let f0:fK K B0 B (lG as H H0) H σ δ:=by
  refine#[#[G.fr.ent.big,G.fr.ent.eE.trans sm,v9 G.fr.sub,λb e=>?_],G.fr.len,λi sl e=>?_,G.fr.apart]
  .by_cases hb:b∈as
   .exact .inr (h1 b hb).2.1
   .rw[kC hb]at e;exact G.fr.ent.new b e
  let q:=G.fr.slot i sl e;cases sl with
  |un=>trivial
  |ref _=>exact q
  |val d=>let#[v,g1,g2]:=q;exact#[v,g1,g2.mono sm]
  |own ds=>exact qQ7 e (fZ G.no i ds)
 let f1:=f0.qd (i:=i) (sl:=.val d) #[_,Y,hR H0 H as G.fr.sub h2] Y;let e:σ.set i (some (.ref p))=σ:=by
  apply iG;intro j;by_cases h:j=i
  .subst h;rw[aR (aq.mp hs).1,hs]
  .rw[aO (bD h)]
 rw[e]at f1;exact#[_,sm,f1]
end
def LL(K:ai)(a:J)(ps:!J)(gs:!(!U)):OR:=λH0 H as=>as=a::ps/\(a::ps).Nodup/\H a>>(.lst (ps.map V.ref))/\ps.length=gs.length/\∀(i:Nat)p ds,ps[i]?>>p->gs[i]?>>ds->∃xs,H p>>(.lst xs)/\bQ K H0 xs ds
section
theorem LL.mono:bM (LL K a ps gs):=by rintro H0 H Ha Hb as ⟨rfl,nd,h1,h2,h3⟩ sm hb;refine#[Y,nd,[hb a ∅]▸h1,h2,λi p ds e1 e2=>?_];let#[xs,y1,y2]:=h3 i p ds e1 e2;exact#[xs,[hb p (by simp[aF e1])]▸y1,y2.mono sm]
theorem LL.rep(Ha Hb:Hp)(as:!J)(s:cy Ha Hb)(h:LL K a ps gs Ha Hb as):Rep K (lG as Hb Ha) (.ref a) (.list (gs.map .list)):=by let#[rfl,nd,h1,h2,h3]:=h;refine .lst (jY.of ((jy ∅).trans h1)) (xr h2 λi c q e1 e2=>?_);let#[xs,y1,y2]:=h3 i c q e1 e2;exact .lst (jY.of ([jy (by simp[aF e1])]▸y1)) (y2.mono (kD s))
theorem LL.row(h:LL K a ps gs Ha Hb as)(hp:ps[j]?>>p)(sm:cy Ha Hc)(hk:∀x∈a::ps,x≠p->Hd x=Hb x)(hx:Hd p>>(.lst xs))(r:bQ K Hc xs l'):LL K a ps (gs.set j l') Hc Hd (a::ps):=by
 let#[e,nd,h1,h2,h3]:=h;let n:=cD.mp nd;let VZ:a≠p:=λz=>n.1 ([z]▸aF hp);refine#[Y,nd,[hk a ∅ VZ]▸h1,[eT]▸h2,λi q ds e1 e2=>?_];by_cases hi:i=j
 .subst hi;rw[hp]at e1;cases e1;let hl:i<gs.length:=[<-h2]▸(aq.mp hp).1;rw[aR hl]at e2;cases e2;exact#[xs,hx,r]
 .rw[aO (bD hi)]at e2;let hq:q≠p:=λz=>hi ((List.getElem?_inj (aq.mp e1).1 n.2).mp (by rw[e1,hp,z]));let#[ys,y1,y2]:=h3 i q ds e1 e2;exact#[ys,[hk q (by simp[aF e1]) hq]▸y1,y2.mono sm]
end
section
variable{X:Cx}{sc:nT}{own N:!O}{cap:!Nat}{cl:!(O×J)}{δ:!Slot}{ds:!U}{px sJ lp:Pos}{tgt:NC}{x:O}
theorem Rr{H B0 B H0:Hp}{tg iter:bY}{pos:Pos}{σ:St}{D:Ends}(i:Nat)(f:fK X.K B0 B H0 H σ δ)(w_:noOwn δ=true)(hc:X.calm=true)(CS:iM X sc own cap N cl)(hi:VI X tg iter δ ds)(hg:∀f s3 H3,PG (eZ X sc N cl f s3 H3) tg (Gv X.K tgt))(ht:qc own.length tgt=true)(hz:ds.length<=sizeLine)
  (step:∀d∈ds,∃δ',sO tgt d (nF own cap δ)>>δ')(hN:X.N.Nodup)(q:∀σ' a ps c9 H',OF X.K B0 B (LL X.K a ps (bo ds.length [])) c9 H' σ' (δ.set i (.ref a))->D.nx σ' H')(hn:∀a,noOwn (δ.set i (.ref a))=true)(Nr:X.N[i]?>>x:=by rfl)(hx:Loc X.env.scope x:=by left)
  (pL:swapsWith (.ListComp (.List [] lp) [#[tg,iter,[],0]] sc pos) (some (.Name x px)) sJ.line X.env=pure true:=by rfl)(hs:Jf X iter:=by intro _;rfl)(hf:zC X x:=by left):
  cS X (.Assign [.Name x px] (.ListComp (.List [] lp) [#[tg,iter,[],0]] sc pos) sJ) D σ H:=λpins s I=>by
 let#[wi,pi,qi]:=hi;refine qI (tc:=YT X sc N cl []) (te:=teC X sc N cl _) hN Nr hx hc CS pi hg (λf s3 H3 pins s σ H Q I h=>h f s3 H3 pins s I) (λf s3 H3 pins s σ H Q I h=>h f s3 H3 pins s I) pL hs hf pins s σ H D I ?_;refine qi B0 B σ H0 H _ f λJa H1 cY g it=>?_;let f1:=f.grow g;intro La hL;let hBL:=f1.ent.big.free hL;refine#[λi m ys σ' H'=>i<=ds.length/\m=ds.length-i/\∃Ha ps,di H1 cY Ha H'/\fK X.K B0 B Ha H' σ' _/\Ha La=none/\ys=ps.map V.ref/\H' La>>(.lst ys)/\La∉ps/\ps.Nodup/\ps.length=i/\∀p∈ps,B p=none/\Ha p=none/\H' p>>(.lst []),
  #[_,aY _,Y,H1,[],.loose f1.sub hL,(f1.comp own cap).touch (f1.sub.free hL) hBL o4,f1.sub.free hL,Y,aP,∅,∅,Y,λp hp=>by cases hp],?_];rintro n m ys σ' H' ⟨hn1,rfl,Ha,ps,g1,fa,hLa,rfl,Zd,hLp,Bo,mw,V0⟩;let#[i1,i2,i3]:=it Ha H' g1.eE g1.sub n;by_cases ng:n<ds.length
 .refine .inr #[i1 ng,λv H2 y=>?_];let#[Hb,g2,rx]:=i3 v H2 ds[n] (by simp[ng]) y;let#[δ',e1]:=step ds[n] (eD ng);let#[k1,k2]:=comp_back ht e1;refine pN (fa.grow g2) rx e1 λσ3 f3=>?_;intro fp s3 H3;refine mI B0 B σ3 Hb H2 _ f3 λHc H4 g4=>?_;intro fp' s3' yd;refine (da cZ) B0 B σ3 Hc H4 _ (f3.grow g4) λp xs Hd H5 g5 a1 a2 a3 a4=>?_;cases a4;let Qc:=(g2.trans g4).trans g5;let hL5:=Qc.still hLa Zd;let nLp:La≠p:=λz=>by let:=(g2.trans g4).big _ _ Zd;rw[z,a1]at this;cases this
  refine#[Qc.big _ _ Zd,by rw[ae,mw];omega,_,(),ng,Y,Hd,ps ++ [p],?_,((f3.grow g4).grow g5 |>.forget k1.symm k2).touch hL5 hBL o4,hL5,∅,aP,by simp[hLp,nLp],?_,by simp[mw],λp' hp'=>?_]
  .let gg:=g1.trans Qc;exact#[λb u e=>[aI (bu e hL)]▸gg.big b u e,gg.eE,λb u e=>[aI (bu e hL5)]▸gg.sub b u e,gg.new]
  .rw[cF];refine#[Bo,∅,λb hb c hc=>?_];simp only[aA]at hc;subst hc;intro z;subst z;let:=(g2.trans g4).big _ _ (V0 b hb).2.2;rw[a1]at this;cases this
  .rcases aT.mp hp' with h|h
   .let#[h1,h2,h3]:=V0 p' h;exact#[h1,Qc.still h2 h3,by rw[aI (λz=>hLp ([<-z]▸h))];exact Qc.big _ _ h3]
   .simp only[aA]at h;subst h;exact#[((f3.grow g4).ent.big.free a1),a2,[aI (bD nLp)]▸a3]
 .let e:n=ds.length:=();subst e;refine .inl #[i2 (),q _ La ps Ha H' ?_];refine#[(f.grow (g.trans g1)).qd Y Y,hn La,_,λz hz=>?_,Y,cD.mpr #[hLp,Bo],Zd,by simp[mw],λj p es e1 e2=>?_]
  .rcases au.mp hz with rfl|hz
   .exact#[hLa,hBL,[Zd]▸nofun]
   .let#[h1,h2,h3]:=V0 z hz;exact#[h2,h1,[h3]▸nofun]
  .let#[h1,h2,h3]:=V0 p (aF e1);rw[cK]at e2;split at e2<;>cases e2;exact#[[],h3,.nil]
end
section
variable{X:Cx}{H:Hp}{a:J}{kvs:!(Key×V)}{k:Key}{d:V}
theorem N9{pins:!(J×Obj)}{σ:St}{s:aU}{u r:M}{A:g7}{E:M->aU->Prop}(I:Inv X pins σ H s)(e:H a>>(.dK kvs))(ry:RelV (kV k) u)(rd:RelV d r)(hl:kvs.length<sizeLine)(h1:∀v w' s',iW kvs k>>v->Inv X pins σ H s'->RelV v w'->Q w' s')
  (h2:∀s',iW kvs k=none->Inv X pins σ (upd H a (.dK (putK kvs k d))) s'->Q r s'):wpAny (model X.prog X.w) A (call (.builtin "dict.setdefault") [.ref a,u,r]) Q E s:=by
 let#[z,hd,vs,rel,dd]:=Ex I.hok e;let rv:=rel.val k;refine call_meetsIn yF dd.typeIs PySem.F.entry_dict_setdefault (PySem.F.args_dict_setdefault_3 _ _ _) (kt_meets_setdefault _ a (sF ry) hd r) #[vs,dd,[<-rel.length]▸z,λv hv=>?_,λhn h' Jr hs=>?_]
 .rw[hv]at rv;cases ev:iW kvs k with
  |none=>rw[ev]at rv;exact rv.elim
  |some w=>rw[ev]at rv;exact h1 w v _ ev (I.tok _) rv
 .let B6:(putK kvs k d).length<=sizeLine:=by let:=mO kvs k d;omega
  let he:∃q,h'.get? a>>q:=let#[q,_,_,hq,_]:=Jr;#[q,hq];rw[hn]at rv;refine h2 _ ?_ (za I ([e]▸fQ) hs he (zM B6 hd (rel.put k rd) Jr));cases ev:iW kvs k with
  |none=>rfl
  |some w=>rw[ev]at rv;exact rv.elim
end
def Ze(td ty tx:TE):TE:=λσ H Q=>td σ H λx H1=>∃a,x=.ref a/\IsD H1 a/\ty σ H1 λy H2=>tx σ H2 λz H3=>∃kvs k,H3 a>>(.dK kvs)/\y=kV k/\kvs.length<sizeLine/\
 (∀v,iW kvs k>>v->Q v H3)/\(iW kvs k=none->Q z (upd H3 a (.dK (putK kvs k z))))
section
theorem JR(ho:PE X o td)(he:PE X e ty)(hf:PE X f tx)(m:M2 X o "setdefault" apos e f k6):PE X (.Call (.Attribute o "setdefault" apos) [e,f] [] k6) (Ze td ty tx):=by
 intro pins s σ H Q I h;refine rU m.base m.few m.line BD yF PySem.F.type_dict_setdefault (fV (ho pins s σ H _ I h) λu s1 #[x,H1,I1,rx,a,ex,d,q1]=>?_);subst ex;obtain rfl:u=ck a:=rx;let#[t1,t2,_]:=Ng I1 d;refine#[t1,t2,?_];rw[m.trees];refine rM Y (uA (k0 (fV (he pins s1 σ H1 _ I1 q1) λiv s2 #[y,H2,I2,ry,q2]=>k0 (fV (hf pins s2 σ H2 _ I2 q2) λfv s3 #[z,H3,I3,rz,kvs,k,ea,ey,hl,q3,q4]=>wL ?_))));subst ey;exact N9 I3 ea ry rz hl (λv w' s' ev I4 pZ=>#[v,H3,I4,pZ,q3 v ev]) λs' ev I4=>#[z,_,I4,rz,q4 ev]
end
section
variable{X:Cx}{B0 B H0 H:Hp}{σ:St}{D:Ends}{δ δ':!Slot}{a p C dx:J}{e c ek ev:bY}{d:U}{pos px po ps pa pc:Pos}{x y fl:O}{fs:!(O×V)}{k:Nat}
theorem Zf{st:kr}(f:fK X.K B0 B H0 H σ δ)(h:VS X st δ (.nx δ'))(q:∀σ' Ha Hb,cy H0 Ha->fK X.K B0 B Ha Hb σ' δ'->D.nx σ' Hb):cS X st D σ H:=h B0 B σ H0 H D f q
theorem Ca(f:fK X.K B0 B H0 H σ δ)(h:VT X c δ true)(q:∀Ha Hb,di H0 H Ha Hb->Ed X body D σ Hb):cS X (.If c body orelse pos) D σ H:=λpins s I=>x3 ou kY jZ pins s σ H D I (h B0 B σ H0 H _ f λH1 cY g=>QQ (q H1 cY g))
theorem kE(f:fK X.K B0 B H0 H σ δ)(h:VT X c δ false)(q:∀Ha Hb,di H0 H Ha Hb->Ed X orelse D σ Hb):cS X (.If c body orelse pos) D σ H:=λpins s I=>x3 ou jZ kY pins s σ H D I (h B0 B σ H0 H _ f λH1 cY g=>QP (q H1 cY g))
theorem V1(i:Nat){fi:J}{fd:iu}{ps':!O}{sp:Sp}{j:Nat}{p0 pk:Pos}(Ma:Mk X.K C fi)(F:dW X.prog X.w X.K X.mg X.base jO j fi fd ps' sp)(hr:eL (j+1) X.A)(hm:X.mg x>>(.ref C))(hb:Binds X.K fd ps' [])
  (q:∀p dx E,H p=none->H dx=none->dx≠p->sp [.ref p] (upd (upd H dx (.own p)) p (.ins C dx [])) (λv H2=>v=.non/\D.nx (σ.set i (some (.ref p))) H2) E)
  (hN:X.N.Nodup)(hi:X.N[i]?>>y:=by rfl)(hx:Loc X.env.scope y:=by left)(hs:CN X pos (.Call (.Name x p0) [] [] pk) (.Name y px):=by rfl)(hf:zC X y:=by left)
  (hg:Gl X x:=by rfl)(p5:uZ x:=by decide):cS X (.Assign [.Name y px] (.Call (.Name x p0) [] [] pk) pos) D σ H:=λpins s I=>by exact u6 hN hi hx (M0 Ma F hr hg hm hb .nil x8 p5) hs hf pins s σ H D I (λp dx h1 h2 h3=>q p dx _ h1 h2 h3)
theorem N_(f:fK X.K B0 B H0 H σ δ)(hr:eL k X.A)(i:Nat)(hi:δ[i]?>>(.ref p))(ins:H p>>(.ins C dx fs))(cl:Ec X.K C)(na:jN X.K C fl)(lk:fs.lookup fl>>(.ref a))(hd:H a>>(.dK kvs))(hk:VE X ek δ (.str y))(hv:VE X ev δ d)(hl:kvs.length<sizeLine)
  (q:∀v Ha Hb,di H0 H Ha Hb->Rep X.K Ha v d->D.nx σ (upd Hb a (.dK (putK kvs (bh y) v))))
  (hN:u5 X i x:=by ac_rfl)
  (hb:y6 X (.Name x px) fl:=by rfl)(hs:CN X pos ev (.Subscript (.Attribute (.Name x px) fl po) ek ps):=by rfl):
  cS X (.Assign [.Subscript (.Attribute (.Name x px) fl po) ek ps] ev pos) D σ H:=λpins s I=>by refine zc (MD hr) (u9 (xZ hN) hb) cA cA hs pins s σ H D I ?_;refine hv B0 B σ H0 H _ f λv H1 cY g1 r1=>?_;refine#[_,f.slot i _ hi,p,C,dx,fs,_,Y,g1.big _ _ ins,cl,na,lk,?_];refine hk B0 B σ H1 cY _ (f.grow g1) λu H2 f9 g2 r2=>?_;cases r2;exact#[a,_,Y,Bg.k (k:=bh y) (g2.big _ _ (g1.big _ _ hd)) hl,q v H2 f9 (g1.trans g2) (r1.mono g2.eE)]
theorem V2(f:fK X.K B0 B H0 H σ δ)(hr:eL k X.A)(i:Nat){kvs:!(!Key×V)}{e1 e2:bY}{z1 z2:O}{x1}{pt:Pos}(hi:δ[i]?>>(.ref p))(ins:H p>>(.ins C dx fs))(cl:Ec X.K C)(na:jN X.K C fl)(lk:fs.lookup fl>>(.ref a))(hd:H a>>(.dT kvs))(Jv:VE X e1 δ (.str z1))(VX:VE X e2 δ (.str z2))(hv:VE X ev δ d)(hl:kvs.length<sizeLine)
  (q:∀v t Ha Hb,di H0 H Ha Hb->Hb t=none->Rep X.K Ha v d->D.nx σ (upd (upd Hb t (.tup [.str z1,.str z2])) a (.dT (putK kvs (lV (z1,z2)) v))))
  (hN:u5 X i x:=by ac_rfl)
  (hb:y6 X (.Name x px) fl:=by rfl)(hs:CN X pos ev (.Subscript (.Attribute (.Name x px) fl po) (.Tuple [e1,e2] x1 pt) ps):=by rfl)
  (Gw:lF X e1 [e2]:=by rfl)(lP:lF X e2 []:=by rfl):
  cS X (.Assign [.Subscript (.Attribute (.Name x px) fl po) (.Tuple [e1,e2] x1 pt) ps] ev pos) D σ H:=λpins s I=>by refine zc (MD hr) (u9 (xZ hN) hb) (zH (cC cA (cC cA dP lP) Gw)) cA hs pins s σ H D I ?_;refine hv B0 B σ H0 H _ f λv H1 cY g1 r1=>?_;refine#[_,f.slot i _ hi,p,C,dx,fs,_,Y,g1.big _ _ ins,cl,na,lk,?_];refine Jv B0 B σ H1 cY _ (f.grow g1) λu H2 f9 g2 r2=>?_;cases r2;refine VX B0 B σ H2 f9 _ ((f.grow g1).grow g2) λu H3 yd g3 r3=>?_;cases r3;let gg:=(g1.trans g2).trans g3;refine#[by show 2<=sizeLine;rw[cL];decide,λt ht=>?_];exact#[a,_,Y,Bg.t ((aI (bu (gg.big _ _ hd) ht)).trans (gg.big _ _ hd)) aP hl,q v t H3 yd gg ht ((r1.mono g2.eE).mono g3.eE)]
theorem EV(f:fK X.K B0 B H0 H σ δ)(i:Nat)(hi:δ[i]?>>(.ref p))(ins:H p>>(.ins C dx fs))(cl:Ec X.K C)(na:jN X.K C fl)(lk:fs.lookup fl>>(.ref a))(hd:H a>>(.lst xs))(hv:VE X e δ d)(hl:xs.length<sizeLine)
  (q:∀v Ha Hb,di H0 H Ha Hb->Rep X.K Ha v d->D.nx σ (upd Hb a (.lst (xs ++ [v]))))
  (hN:u5 X i x:=by ac_rfl)
  (hb:y6 X (.Name x px) fl:=by rfl)(gM:y6 X (.Attribute (.Name x px) fl po) "append":=by rfl)
  (hs:lF X e []:=by rfl)
  (om:Mx X pc [e]:=by rfl)
  (hline:(pa.endLine==pc.line)=true:=by rfl)(gN:rQ X pc []:=by rfl)(pL:swapsWith (.Call (.Attribute (.Attribute (.Name x px) fl po) "append" pa) [e] [] pc) none pos.line X.env=pure false:=by rfl):
  cS X (.Expr (.Call (.Attribute (.Attribute (.Name x px) fl po) "append" pa) [e] [] pc) pos) D σ H:=λpins s I=>by refine oV (sE dZ fM fN lS (u9 (xZ hN) hb) (cC cA dP hs) gM om hline hs gN) pL pins s σ H D I ?_;exact#[_,f.slot i _ hi,p,C,dx,fs,_,Y,ins,cl,na,lk,.inl #[Y,_,jY.of hd],(hv B0 B σ H0 H _ f λv H1 cY g1 r1=>(#[a,xs,v,Y,Y,g1.big _ _ hd,hl,q v H1 cY g1 r1]))]
theorem Ob(f:fK X.K B0 B H0 H σ δ)(i:Nat){pl Dl Oc:Pos}(hi:δ[i]?>>(.ref p))(ins:H p>>(.ins C dx fs))(cl:Ec X.K C)(na:jN X.K C fl)(lk:fs.lookup fl>>(.ref a))(hd:H a>>(.dK kvs))(hk:VE X ek δ (.str y))(hv:VE X e δ d)(hl:kvs.length<sizeLine)(w_:noOwn δ=true)(ha0:H0 a=none)
  (hc:∀v,iW kvs (bh y)>>v->∃c xs,v=.ref c/\H c>>(.lst xs)/\xs.length<sizeLine)
  (q1:∀c xs v t Ha Hb,iW kvs (bh y)>>(.ref c)->H c>>(.lst xs)->H t=none->di H0 H Ha Hb->Ha t=none->Rep X.K Ha v d->D.nx σ (upd Hb c (.lst (xs ++ [v]))))
  (q2:∀v c Ha Hb,iW kvs (bh y)=none->H c=none->cy H0 Ha->cy Ha Hb->(∀b,Ha b≠none->H0 b≠none\/H b=none)->(∀b o,H b>>o->b≠a->Hb b>>o)->Hb a>>(.dK (putK kvs (bh y) (.ref c)))->Hb c>>(.lst [])->Ha c=none->Ha a=none->Rep X.K Ha v d->D.nx σ (upd Hb c (.lst [v])))
  (hN:u5 X i x:=by ac_rfl)
  (hb:y6 X (.Name x px) fl:=by rfl)(m:M2 X (.Attribute (.Name x px) fl po) "setdefault" Dl ek (.List [] pl) Oc:=by exact#[rfl,rfl,rfl,rfl])
  (gM:attributeBase (.Call (.Attribute (.Attribute (.Name x px) fl po) "setdefault" Dl) [ek,.List [] pl] [] Oc) "append" X.env (eval (.Call (.Attribute (.Attribute (.Name x px) fl po) "setdefault" Dl) [ek,.List [] pl] [] Oc) X.env)=eval (.Call (.Attribute (.Attribute (.Name x px) fl po) "setdefault" Dl) [ek,.List [] pl] [] Oc) X.env:=by rfl)
  (hs:lF X e []:=by rfl)
  (om:Mx X pc [e]:=by rfl)
  (hline:(pa.endLine==pc.line)=true:=by rfl)(gN:rQ X pc []:=by rfl)(pL:swapsWith (.Call (.Attribute (.Call (.Attribute (.Attribute (.Name x px) fl po) "setdefault" Dl) [ek,.List [] pl] [] Oc) "append" pa) [e] [] pc) none pos.line X.env=pure false:=by rfl):
  cS X (.Expr (.Call (.Attribute (.Call (.Attribute (.Attribute (.Name x px) fl po) "setdefault" Dl) [ek,.List [] pl] [] Oc) "append" pa) [e] [] pc) pos) D σ H:=λpins s I=>by
 refine oV (sE dZ fM fN lS (JR (u9 (xZ hN) hb) cA (wZ dP) m) (cC cA dP hs) gM om hline hs gN) pL pins s σ H D I ?_;refine#[_,f.slot i _ hi,p,C,dx,fs,_,Y,ins,cl,na,lk,a,Y,.inl #[kvs,.inl hd],?_];refine hk B0 B σ H0 H _ f λu H1 cY g1 r1=>?_;cases r1;refine#[by exact aY _,λt ht=>?_];let Xl:=bu (g1.big _ _ hd) ht;let gl:di H0 H H1 (upd cY t (.lst [])):=g1.trans (.loose g1.sub ht);refine#[kvs,bh y,[aI Xl]▸g1.big _ _ hd,Y,hl,λv Bp=>?_,λhn=>?_]
 .let#[c,xs,rfl,NV,Rt]:=hc v Bp;refine#[.inl #[Y,_,jY.of ((aI (bu (g1.big _ _ NV) ht)).trans (g1.big _ _ NV))],?_];refine hv B0 B σ H1 _ _ (f.grow gl) λv H2 f9 g2 r2=>?_;let gg:=gl.trans g2;exact#[c,xs,v,Y,Y,gg.big _ _ NV,Rt,q1 c xs v t H2 f9 Bp NV (g1.big.free ht) gg (g2.still (g1.sub.free ht) aP) r2]
 .let hca:=bD Xl;refine#[.inl #[Y,_,jY.of ((aI hca).trans aP)],?_];let h1a:=g1.still ha0 hd;let h1t:=g1.sub.free ht;generalize hM:upd _ a _=Hm;let m0:∀b o,H b>>o->b≠a->Hm b>>o:=λb o e hb=>by rw[<-hM,aI hb,aI (bu (g1.big _ _ e) ht)];exact g1.big _ _ e
  let m1:Hm a>>(.dK (putK kvs (bh y) (.ref t))):=[<-hM]▸aP;let m2:Hm t>>(.lst []):=[<-hM,aI hca]▸aP;let sm:cy H1 Hm:=λb u e=>by rw[<-hM,aI (bu e h1a),aI (bu e h1t)];exact g1.sub b u e
  let fm:fK X.K H1 Hm H1 Hm σ δ:=by
   let f1:=f.grow g1;refine#[.refl sm,f1.len,λj sl e=>?_,f1.apart];let qq:=f1.slot j sl e;cases sl with
   |un=>trivial
   |ref _=>exact qq
   |val d=>exact qq
   |own ds=>exact qQ7 e (fZ w_ j ds)
  refine hv H1 Hm σ H1 Hm _ fm λv H2 f9 g2 r2=>?_;refine#[t,[],v,Y,Y,g2.big _ _ m2,by rw[cL];decide,?_];refine q2 v t H2 f9 hn (g1.big.free ht) (g1.eE.trans g2.eE) g2.sub (λb z=>?_) (λb o e hb=>g2.big _ _ (m0 b o e hb)) (g2.big _ _ m1) (g2.big _ _ m2) (g2.still h1t m2) (g2.still h1a m1) r2;rcases g2.new b z with z|z
  .exact g1.new b z
  .refine .inr ?_;cases e:H b with
   |none=>rfl
   |some o=>
    exfalso;by_cases hb:b=a
    .subst hb;rw[m1]at z;cases z
    .rw[m0 b o e hb]at z;cases z
end
section
theorem Dm(h:(eB P w).is k v=true):RelV (kV k) v:=by
 rcases gG h with⟨i,t,rfl,rfl⟩|⟨x,t,rfl,rfl⟩
 .exact#[t,Y]
 .exact#[t,Y]
theorem sW(hc:X.calm=true):iS X (.type "list") (λxs H Q=>∃p kvs,xs=[.ref p]/\H p>>(.dK kvs)/\∀l,H l=none->Q (.ref l) (upd H l (.lst (kvs.map λq=>kV q.1)))):=by
 intro pins s σ H xs us Q I r h;let#[p,kvs,rfl,hp,q]:=h;let#[u,rfl,rx]:=vals1 r;cases rx;let#[z,hd,vs,rel,dd]:=Ex I.hok hp;let#[ep,hat]:=dd.dictAt;refine PySem.W.kdl_call (PySem.W.kdl_dict hd) (I.ok.hd hc) hat ([<-rel.length]▸z) λh' tk Lh c' hk hD Li=>?_;let go:∀(kvs:!(Key×V))(vs:!(Key×M))(l:!M),KV kvs vs->l.length=vs.length->(∀(j:Nat)v,l[j]?>>v->∃k x,vs[j]?>>(k,x)/\(eB X.prog X.w).is k v=true)->dw (kvs.map λq=>kV q.1) l:=by
  intro kvs;induction kvs with
  |nil=>
   intro vs l r hl _;cases r;cases l with
   |nil=>exact .nil
   |cons _ _=>cases hl
  |cons q kvs ih=>
   intro vs l r hl hx;cases r with
   |cons h1 h2=>
    cases l with
    |nil=>cases hl
    |cons v l=>let#[k,x,e1,e2]:=hx 0 v Y;cases e1;refine .cons ?_ (ih _ l h2 ↑hl λj v hj=>by simpa using hx (j+1) v ↑hj);let:q.1=k:=h1.1;show RelV (kV q.1) v;rw[this];exact Dm e2
 let rv:=go kvs vs Lh.toList rel (cu.trans Li.1) λj v hj=>Li.2 j v (fD.symm.trans hj);exact#[.ref _,_,I.laid hk () (show gf X.prog X.w _ h' _ (.lst _) from#[[ae]▸z,_,c',rv,by simpa using hD]),Y,q _ (I.hok.fresh ())]
theorem JT{kvs:!(O×U)}:Jw K (λxs H Q=>∃p kvs,xs=[.ref p]/\H p>>(.dK kvs)/\∀l,H l=none->Q (.ref l) (upd H l (.lst (kvs.map λq=>kV q.1)))) [je kvs] (kvs.map λq=>.str q.1):=λvs H0 H Q s r q=>by
 let#[v,rfl,r1]:=r.one;let#[a,ws,rfl,ha,hk,_]:=r1.kB;refine#[a,ws,Y,s _ _ ha,λl hl=>q l _ H0 _ (.loose s hl) hl (s.free hl) aP ?_];let e:(ws.map λq=>kV q.1)=(ws.map (·.1)).map kV:=by rw[aG];rfl
 rw[e,hk,aG];let go:∀l:!(O×U),bQ K H0 (l.map (kV∘λp=>(bh p.1))) (l.map λq=>.str q.1):=by
  intro l;induction l with
  |nil=>exact .nil
  |cons p l ih=>exact .cons (.str p.1) ih
 exact go kvs
end
end L2
namespace PySem
variable{tk:Tok}
theorem Dn:typeLookup (.type "list") "keys"=pure none:=by rw[typeLookup_type,builtinLookup_eq_fast];kernel_rfl
theorem yO:typeLookup (.type "list") "__getattr__"=pure none:=by rw[typeLookup_type,builtinLookup_eq_fast];kernel_rfl
section
variable{prog:bW}{w:cP}{A:g7}{E:M->aU->Prop}{h:dv}{g:Array A5}{d:Drawn}{t:Nat}{os:OsState}{a:J}{items:Array M}{n:Nat}{sl}
theorem yP{Q:Fin->aU->Prop}(hx:h.get? a=some { cls:=.type "list",dict:=none,data:=.seq items n,slots:=sl })(hh:A.handled=none)
  (hq:∀h' B4 e,sf h h' e (.ref a) "keys"->E (.ref e) #[h',g,d,B4,os]):
  wpAny (model prog w) A (rV.«object.__getattribute__» #[[.ref a,.str "keys" tk],[]]) Q E #[h,g,d,t,os]:=by
 let hT:(#[h,g,d,t,os]:aU).TypeIs (.ref a) "list":=#[_,hx,Y];let f4:=Dn
 repeat (any_goals (first|assumption|with_reducible refine wpAny_raiseAttrError hh (λh' B4 e k=>hq h' B4 e k) ∎|wp_step))
theorem Aa{R:GA->aU->Prop}(hx:h.get? a=some { cls:=.type "list",dict:=none,data:=.seq items n,slots:=sl })(hh:A.handled=none)
  (hq:∀h' B4 e,sf h h' e (.ref a) "keys"->R (.error (.ref e)) #[h',g,d,B4,os]):
  codeAny (model prog w) A (.call (.builtin "list.__getattribute__") #[[.ref a,.str "keys" tk],[]]) R #[h,g,d,t,os]:=
 codeAny_call_builtin k8.plain F.entry_list_ga (k8.check _ _ _ _ _ _ _ _ (show(#[h,g,d,t,os]:aU).TypeIs _ "list" from#[_,hx,Y]) (F.args_list_getattribute_2 _ _) (yP hx hh hq))
theorem Dp{Q:M->aU->Prop}(hx:h.get? a=some { cls:=.type "list",dict:=none,data:=.seq items n,slots:=sl })(hh:A.handled=none)
  (hq:∀h' B4 e,sf h h' e (.ref a) "keys"->E (.ref e) #[h',g,d,B4,os]):
  wpAny (model prog w) A (getAttrBy (.ref a) (.str "keys" tk) false) Q E #[h,g,d,t,os]:=by
 let hT:(#[h,g,d,t,os]:aU).TypeIs (.ref a) "list":=#[_,hx,Y];let f2:=k8.lookup;let f3:=k8.bind (.ref a);let f4:=yO;let f5:=sub_AttributeError
 repeat (any_goals (first|assumption|wp_step))
 refine Aa hx hh (λh' B4 e k=>?_);let hTe:(#[h',g,d,B4,os]:aU).TypeIs (.ref e) "AttributeError":=by let#[_,_,he]:=k.there;exact#[_,he,Y]
 repeat (any_goals (first|assumption|wp_step))
 exact hq _ _ _ k
theorem Ab{Q:Option M->aU->Prop}(hx:h.get? a=some { cls:=.type "list",dict:=none,data:=.seq items n,slots:=sl })(hh:A.handled=none)
  (hq:∀h' B4 e,sf h h' e (.ref a) "keys"->Q none #[h',g,d,B4,os]):
  wpAny (model prog w) A (getAttr? (.ref a) "keys") Q E #[h,g,d,t,os]:=by
 refine L (wpAny_mkText (L (lE (Dp hx hh (λh' B4 e k=>?_)))));let hTe:(#[h',g,d,B4,os]:aU).TypeIs (.ref e) "AttributeError":=by let#[_,_,he]:=k.there;exact#[_,he,Y]
 let f5:=sub_AttributeError;let hQ:=hq h' B4 e k
 repeat (any_goals (first|assumption|wp_step))
end
end PySem
namespace PySem.F
theorem lg:entryFor table "dict.update.loop"=some rV.«dict.update.loop»:=entryFor_of_tree (by kernel_rfl)
theorem lj:plainId "dict.update.loop"=true:=∎
end PySem.F
namespace L2
open PySem PySem.Spec PyProof.Rows
section
variable{prog:bW}{w:cP}
theorem Lj{A:g7}{R:GA->aU->Prop}{I:J}{fp wr:!J}{G:Array A5->Array A5->Prop}{n:Nat}{P:Nat->M->Prop}{St:Nat->aU->Prop}(W:WalksS prog w A.in1 I fp wr G n P St)(S:J)(Vm:S∉fp)(T:Nat->dv->Prop)(keep:∀i h h',T i h->(∀b o,b∉wr->h.get? b>>o->h'.get? b>>o)->T i h')
  (add:∀i v (s:aU),i<n->P i v->T i s.heap->∃a x y,v=.ref a/\s.heap.IsTuple a (bf [x,y])/\∀(Q:Unit->aU->Prop)(E:M->aU->Prop),(∀h' tk,s.toks<=tk->dA S s.heap h'->T (i+1) h'->Q .unit { s with heap:=h',toks:=tk })->wpAny (model prog w) A.in1 (dictSet S x y) Q E s):
  ∀(k i:Nat)(j:Int)(u:Tok)(s:aU),n-i=k->i<=n->St i s->T i s.heap->(∀s',Moved (S::wr) G s s'->T n s'.heap->R (.ok (.ret .none)) s')->
   codeAny (model prog w) A (.builtin "dict.update.loop" #[[.ref S,.ref I,.int j u,.none],[]]) R s:=by
 let Hi:∀b∈wr,b∈S::wr:=λb hb=>aD _ hb;intro k;induction k with
 |zero=>intro i j u s hk hi KC hS hR;let Xe:i=n:=();subst Xe;refine lI F.lg ?_;exact L (W.done s _ _ KC λs' hm=>(L (aM (aM (hR s' (hm.mono Hi) (keep _ _ _ hS λb o hb e=>hm.heap b o hb e))))))
 |succ k ih=>
  intro i j u s hk hi KC hS hR;let ng:i<n:=();refine lI F.lg ?_;refine L (W.item i s _ _ ng KC λv s' hP Vn hm=>?_);let#[a,x,y,rfl,#[o,ho,hc,m,hd],q]:=add i v s' ng hP (keep _ _ _ hS λb o hb e=>hm.heap b o hb e);refine L (hV ?_);refine L (wpAny_tryCatch ?_);refine L (wpAny_typeOf #[_,ho,hc] ?_);refine L (iy ho hd ?_);refine aM ?_;refine hV (q _ _ λh' tk Xb Vo hT=>?_);refine aM #[yW F.lj _,ih (i+1) _ _ _ () ng (W.frame _ s' _ _ Vn Xb λb hb o e=>?_) hT λTd Vp Vq=>?_]
  .rwa[Vo.2 b (λh:b=S=>Vm ([<-h]▸hb))]
  .refine hR Td (Moved.trans W.gtrans ((hm.mono Hi).then_heap Xb λb o hb e=>?_) Vp) Vq;rwa[Vo.2 b (λh:b=S=>hb ([h]▸aB))]
end
section
variable{prog:bW}{w:cP}{E:M->aU->Prop}{s:aU}
theorem Bq{A:g7}{l:J}{items:Array M}{Q:M->aU->Prop}(hh:A.handled=none)(hx:PlainL s.heap l items)(T:Nat->dv->Prop)
  (t0:∀h',h'.get? s.heap.objs.size=some { cls:=.type "dict",data:=.dict #[] }->(∀b o,s.heap.get? b>>o->h'.get? b>>o)->T 0 h')
  (keep:∀i h h' c,s.heap.objs.size<c->T i h->(∀b o,b≠c->h.get? b>>o->h'.get? b>>o)->T i h')
  (add:∀i v (s':aU),i<items.size->items[i]?>>v->T i s'.heap->∃a x y,v=.ref a/\s'.heap.IsTuple a (bf [x,y])/\∀(Q:Unit->aU->Prop)(E:M->aU->Prop),(∀h' tk,s'.toks<=tk->dA s.heap.objs.size s'.heap h'->T (i+1) h'->Q .unit { s' with heap:=h',toks:=tk })->wpAny (model prog w) A.in1.in1 (dictSet s.heap.objs.size x y) Q E s')
  (h:∀(h':dv)(tk:Nat),T items.size h'->(∀b o,b<s.heap.objs.size->s.heap.get? b>>o->h'.get? b>>o)->Q (.ref s.heap.objs.size) { s with heap:=h',toks:=tk }):
  wpAny (model prog w) A (call (.type "dict") [.ref l]) Q E s:=by
 refine callType_codes (Q₁:=λobj s₁=>obj=.ref s.heap.objs.size/\s₁={ s with heap:=s.heap.push { cls:=.type "dict",data:=.dict #[] } }) F.kt_called_dict (F.kt_typeCall_dict_1 _) F.entry_dict_init (kt_code_dict_new _ #[Y,Y]) ?_;rintro obj s₁ ⟨rfl,rfl⟩;let#[#[zcX,Ts,Y4,N5],m,ho,hc,hdn,hd]:=hx;subst hc hdn hd;let hS:(s.heap.push { cls:=.type "dict",data:=.dict #[] }).get? s.heap.objs.size=some { cls:=.type "dict",data:=.dict #[] }:=aV _ Y;let hT:uW { s with heap:=s.heap.push { cls:=.type "dict",data:=.dict #[] } } (.ref s.heap.objs.size) "dict":=#[_,hS,Y];let CP:=av (o:={ cls:=.type "dict",data:=.dict #[] }) ho;refine#[hT,F.args_dict_init_2 _ _,?_];refine L ?_;refine L (vS hT ?_);refine aM ?_;refine L (wpAny_typeOf #[_,CP,Y] ?_);refine L (Ab CP (by simp[hh]) λh1 tk1 e ne=>?_);refine L (uU ?_);let EJ:h1.IsList l items:=#[_,ne.keeps _ _ CP,Y,m,Y];refine L (m9 EJ ?_);let Xk:=ne.keeps _ _ hS;let hSl:=aX Xk;let Y5:=aX ho;let Vm:s.heap.objs.size∉[h1.objs.size,l]:=by simp;exact#[aZ hSl,eG Y5]
 refine aM #[yW F.lj _,?_];refine Lj ((Walks.list (by simp[hh]) h1.objs.size l (aZ (yC Y5 hSl)) items).toS) s.heap.objs.size Vm T (λi h h' t k=>keep i h h' h1.objs.size hSl t λb o hb e=>k b o (by rwa [aA]) e) (λi v s' hi hv t=>add i v s' hi hv t) (items.size-0) 0 _ _ _ () ()
  #[#[_,aV _ Y,Y,Y],(EJ.push _)] ?hS0 ?hR
 case hS0=>exact t0 _ (av _ Xk) λb o e=>av _ (ne.keeps _ _ (av _ e))
 case hR=>intro s' hm Y6;let#[h',g',d',B4,Xc]:=s';let eg:=hm.gens;let ed:=hm.drawn;let eo:=hm.os;subst eg;subst ed;subst eo;refine#[Y,h h' B4 Y6 λb o hb e=>?_];let Tt:=aZ (yC hb hSl);exact hm.heap b o (by simp;exact#[(aZ hb),Tt]) (av _ (ne.keeps _ _ (av _ e)))
end
section
variable{ε:Type}
end
inductive Ee:U->Prop
 |non:Ee .none
 |bl (b:Bool):Ee (.bool b)
 |int (i:Int):Ee (.int i)
 |str (x:O):Ee (.str x)
 |lst {ds:!U}:(∀d∈ds,Ee d)->Ee (.list ds)
 |tup {ds:!U}:(∀d∈ds,Ee d)->Ee (.tuple ds)
def kS(H:Hp)(p:J):Hp:=λq=>if q=p then none else H q
theorem jA(h:q≠p):kS H p q=H q:=qQ2 h
theorem ur:kS H p p=none:=qQ3 Y
def qd(kv:!(O×U))(y:O)(d:U):!(O×U):=kv.map λq=>if q.1=y then(q.1,d)else q
section
variable{d:U}{jk}
theorem HD{X:Cx}{B0 B H0 H:Hp}{σ:St}{D:Ends}{δ:!Slot}{st:!kr}(h:qK X st δ (.rt d))(f:fK X.K B0 B H0 H σ δ)(ok:∀v c9 H',di B0 B c9 H'->Rep X.K c9 v d->D.rt v H'):Ed X st D σ H:=h B0 B σ H0 H D f ok
end
end L2
namespace L2
open PySem
end L2
namespace L2
open PySem PySem.Spec PyProof.Rows
end L2
namespace L2
open PySem PySem.Spec PyProof.Rows PySem.W
end L2
namespace L2
open PySem PySem.Spec PyProof.Rows
variable{a:J}{b:Bool}{H:Hp}{kv:!(O×U)}{d:U}{K:ai}{y:O}{v:V}
section
variable{δ:!Slot}{d:U}{ds:!U}{j:Nat}
theorem bQ.put(rv:Rep K H v d):∀{xs:!V}{ds:!U}(j:Nat),bQ K H xs ds->bQ K H (xs.set j v) (ds.set j d)
 |_,_,_,.nil=>.nil
 |_,_,0,.cons _ r=>.cons rv r
 |_,_,j+1,.cons a r=>.cons a (bQ.put rv j r)
theorem fK.put{B0 B H0: Hp}{σ:St}(f:fK K B0 B H0 H σ δ){i:Nat}{p:J}{xs:!V}{y:V}(hi:δ[i]?>>(.own ds))(hp:σ[i]?>>(some (.ref p)))(h1:H p>>(.lst xs))(ry:Rep K H0 y d):
  fK K B0 B H0 (upd H p (.lst (xs.set j y))) σ (δ.set i (.own (ds.set j d))):=by
 let#[p',xs',e1,e2,e3,e4,e5]:=f.slot i _ hi;rw[hp]at e1;cases e1;rw[h1]at e2;cases e2;let hl:i < δ.length:=(aq.mp hi).1;refine#[#[λb u e=>?_,f.ent.eE,λb u e=>?_,f.ent.new],by simp[f.len],λj sl e=>?_,λj k MC es q BX a1 a2 a3=>?_]
 .let:b≠p:=bu e e4;rw[aI this];exact f.ent.big b u e
 .let:b≠p:=bu e e3;rw[aI this];exact f.ent.sub b u e
 .by_cases hj:j=i
  .subst hj;rw[aR hl]at e;cases e;exact#[p,_,hp,aP,e3,e4,e5.put ry _]
  .rw[aO (bD hj)]at e;let q:=f.slot j sl e;cases sl with
   |un=>trivial
   |ref a=>exact q
   |val d=>exact q
   |own MC=>
    let#[p2,Q7,g1,g2,g3,g4,g5]:=q;let:p2≠p:=λz=>by subst z;exact f.apart i j ds MC p2 (bD hj) hi e hp g1
    exact#[p2,Q7,g1,[aI this]▸g2,g3,g4,g5]
 .let c1:∃Gu,δ[j]?>>(.own Gu):=by
   by_cases hj:j=i
   .subst hj;exact#[_,hi]
   .rw[aO (bD hj)]at a1;exact#[_,a1]
  let c2:∃Gu,δ[k]?>>(.own Gu):=by
   by_cases hk:k=i
   .subst hk;exact#[_,hi]
   .rw[aO (bD hk)]at a2;exact#[_,a2]
  let#[d1,c1]:=c1;let#[d2,c2]:=c2;exact f.apart j k d1 d2 q BX c1 c2 a3
end
theorem bQ.yN{H': Hp}:∀{xs:!V}{ds:!U},bQ K H xs ds->(∀d∈ds,o5 d=true)->bQ K H' xs ds
 |_,_,.nil,_=>.nil
 |_,_,.cons a r,h=>.cons (a.yN (h _ aB)) (bQ.yN r λd hd=>h d (aD _ hd))
section
variable{p:Pos}
theorem V3:ow K (λxs H Q=>(∃i,xs=[.int i]/\Q (.int i) H)\/∃k,xs=[.bl k]/\Q (.int (if k then 1 else 0)) H) [.bool b] (.int (if b then 1 else 0)):=λvs H0 H Q s r k=>by let#[v,rfl,rv]:=r.one;cases rv;exact .inr #[b,Y,k _ _ _ (.refl s) (.int _)]
theorem Ru{a:bY}{X:Cx}{δ:!Slot}{pos:Pos}(h:VE X a δ (.bool b))(hm:X.mg "int"=none)(hg:Gl X "int":=by rfl)(hs:lF X a []:=by rfl):VE X (.Call (.Name "int" p) [a] [] pos) δ (.int (if b then 1 else 0)):=kZ KJ V3 (du h cZ hs) hm Y hg (he:=hs)
end
def EW(kv:!(O×U))(y:O)(d:U):!(O×U):=if(kv.any λq=>decide (q.1=y))=true then qd kv y d else kv ++ [(y,d)]
def DR(K:ai)(a:J)(kv:!(O×U)):OR:=λH0 H as=>as=[a]/\∃kvs:!(Key×V),H a>>(.dK kvs)/\kvs.map (·.1)=kv.map (λp=>(bh p.1:Key))/\bQ K H0 (kvs.map (·.2)) (kv.map (·.2))
theorem DR.mono:bM (DR K a kv):=λH0 H Ha Hb as #[e,kvs,h1,h2,h3] sm hb=>#[e,kvs,by rw[hb a (by rw[e];simp)];exact h1,h2,h3.mono sm]
theorem DR.rep(Ha Hb:Hp)(as:!J)(s:cy Ha Hb)(h:DR K a kv Ha Hb as):Rep K (lG as Hb Ha) (.ref a) (je kv):=by
 let#[e,kvs,h1,h2,h3]:=h;refine .dct (by rw[jy (by rw[e];simp)];exact h1) ?_ ?_
 .let e2:=qQ6 (rC nJ) h2;rw[aG,aG]at e2;rw[aG];exact e2.symm
 .rw[aG];exact h3.mono (kD s)
theorem JV:∀{kv:!(O×U)}{kvs:!(Key×V)},kvs.map (·.1)=kv.map (λp=>(bh p.1:Key))->(kvs.any λz=>decide (z.1=(bh y:Key)))=kv.any λq=>decide (q.1=y)
 | [],[],_=>rfl
 | [],_::_,e=>by simp at e
 |_::_,[],e=>by simp at e
 |q::kv,z::kvs,e=>by
  rw[ao,ao]at e;injection e with e1 e2
  rw[m_,m_,JV e2,e1]
  congr 1
  by_cases h:q.1=y
  .rw[qQ1 h,qQ1 (by rw[h])]
  .rw[qQ0 h,qQ0 λz=>h (mK z)]
theorem Od(r:Rep K H v d):∀{kv:!(O×U)}{kvs:!(Key×V)},kvs.map (·.1)=kv.map (λp=>(bh p.1:Key))->bQ K H (kvs.map (·.2)) (kv.map (·.2))->
  (kvs.map λq=>if q.1=bh y then(q.1,v)else q).map (·.1)=(qd kv y d).map (λp=>(bh p.1:Key))/\bQ K H ((kvs.map λq=>if q.1=bh y then(q.1,v)else q).map (·.2)) ((qd kv y d).map (·.2))
 | [],[],_,_=>#[Y,.nil]
 | [],_::_,e,_=>by simp at e
 |_::_,[],e,_=>by simp at e
 |q::kv,z::kvs,e,t=>by
  rw[ao,ao]at e t;injection e with e1 e2
  cases t with
  |cons a t=>
   let#[g1,g2]:=Od r e2 t;unfold qd at g1 g2 ⊢;rw[ao,ao,ao,ao,ao,ao];by_cases h:q.1=y
   .let hz:z.1=(bh y):=by rw[e1,h]
    rw[qQ3 h,qQ3 hz,g1];exact#[by rw[e1],.cons r g2]
   .let hz:=λz'=>h (mK (e1.symm.trans z'));rw[qQ2 h,qQ2 hz,g1];exact#[by rw[e1],.cons a g2]
theorem Rv(r:Rep K H v d){kvs:!(Key×V)}(h1:kvs.map (·.1)=kv.map (λp=>(bh p.1:Key)))(h2:bQ K H (kvs.map (·.2)) (kv.map (·.2))):
  (putK kvs (bh y) v).map (·.1)=(EW kv y d).map (λp=>(bh p.1:Key))/\bQ K H ((putK kvs (bh y) v).map (·.2)) ((EW kv y d).map (·.2)):=by
 unfold putK EW;rw[JV h1];split
 .exact Od r h1 h2
 .rw[aH,aH,aH,aH,h1];exact#[Y,h2.append (.cons r .nil)]
section
variable{X:Cx}{a:J}{d:U}{px ps:Pos}{x y:O}{kv:!(O×U)}
theorem HF{H B0 B H0:Hp}{σ:St}{D:Ends}{δ:!Slot}{ek ev:bY}{pos:Pos}{k:Nat}(G:OF X.K B0 B (DR X.K a kv) H0 H σ δ)(hr:eL k X.A)(i:Nat)(hi:δ[i]?>>(.ref a))(hk:VE X ek δ (.str y))(hv:VE X ev δ d)(hl:kv.length<sizeLine)(q:∀c9 H',OF X.K B0 B (DR X.K a (EW kv y d)) c9 H' σ δ->D.nx σ H')
  (hN:u5 X i x:=by ac_rfl)
  (hs:CN X pos ev (.Subscript (.Name x px) ek ps):=by rfl):
  cS X (.Assign [.Subscript (.Name x px) ek ps] ev pos) D σ H:=λpins s I=>by
 refine zc (MD hr) (xZ hN) cA cA hs pins s σ H D I ?_;refine hv H0 H σ H0 H _ G.own λv H1 cY g1 r1=>?_;let G1:=G.go DR.mono (G.own.grow g1) G.no;refine#[_,G1.fr.slot i _ hi,hk H1 cY σ H1 cY _ G1.own λu H2 f9 g2 r2=>?_];cases r2;let G2:=G1.go DR.mono (G1.own.grow g2) G1.no;obtain⟨as,h1,e,kvs,ha,Jv,Bp⟩:=G2.ex;subst e;obtain⟨p1,p2⟩:=Rv (r1.mono g2.eE) Jv Bp;obtain⟨z1,z2,z3⟩:=h1 a ∅;let hlen:kvs.length=kv.length:=by let:=qQ6 dq Jv;simpa using this
 refine#[a,_,Y,Bg.k (k:=bh y) ha (),q H2 _ #[G2.fr.touch z1 z2 (fZ G2.no),G2.no,[a],λb hb=>?_,Y,_,aP,p1,p2]];rw[aA.mp hb];exact#[z1,z2,by rw[aP];simp]
end
end L2
namespace PySem
open Sem (wp)
end PySem
namespace L2
open PySem PySem.Spec PyProof.Rows
variable{a b f p:J}{kb:Bool}{fd:iu}{base:dv}{kl:!(O×!U)}{kvs l:!(O×U)}{as:!J}{elts:!bY}{ds:!U}{N ps:!O}{k:Nat}{P:bW}{d:U}{K:ai}{st:kr}{x:O}{mg:O->Option M}{tn:String}{v:V}{Q:V->Hp->Prop}{w:cP}
def nM(kvs:!(Key×V))(l:!(Key×V)):!(Key×V):=l.foldl (λkvs q=>putK kvs q.1 q.2) kvs
theorem sX:∀(l kvs:!(Key×V)),(nM kvs l).length<=kvs.length+l.length
 | [],kvs=>aE _
 |q::l,kvs=>by let h1:=sX l (putK kvs q.1 q.2);let h2:=mO kvs q.1 q.2;show(nM (putK kvs q.1 q.2) l).length<=kvs.length+(l.length+1);omega
theorem Dq(kvs l:!(Key×V))(q:Key×V):nM kvs (l ++ [q])=putK (nM kvs l) q.1 q.2:=by unfold nM;rw[d_];rfl
theorem yf:∀(l kvs:!(Key×V)),((kvs++l).map (·.1)).Nodup->nM kvs l=kvs++l
 | [],kvs,_=>(bC _).symm
 |q::l,kvs,h=>by
  let hn:(kvs.any λz=>decide (z.1=q.1))=false:=by rw[xX];intro z hz e;rw[aH,ao,cF]at h;exact h.2.2 z.1 (aj.mpr #[z,hz,Y]) q.1 aB (qQ4 e)
  let hp:putK kvs q.1 q.2=kvs ++ [q]:=by unfold putK;rw[hn,qQ2 gV]
  show nM (putK kvs q.1 q.2) l=_;rw[hp,yf l _ ([bS]▸h),bS];rfl
section
def Oe(K:ai):!V->Hp->VK->Prop:=λxs H Q=>∃(p:J)(qs:!(J×Key×V)),xs=[.ref p]/\jY K H p (qs.map λq=>.ref q.1)/\
 (∀q∈qs,nG K H q.1 [kV q.2.1,q.2.2])/\∀l,H l=none->Q (.ref l) (upd H l (.dK (nM [] (qs.map (·.2)))))
theorem xt(hc:X.calm=true):iS X (.type "dict") (Oe X.K):=by
 intro pins s σ H xs us Q I r h;obtain⟨p,qs,rfl,hp,hqs,q⟩:=h;obtain⟨u,rfl,rx⟩:=vals1 r;cases rx;obtain⟨its,rv,pl,hz⟩:=I.list hp;let hlv:=rv.length;simp only[ae]at hlv hz;let yL:its.toArray.size=qs.length:=by simp;omega
 refine Bq (I.ok.hd hc) pl (λi h=>(∀b o,s.heap.get? b>>o->h.get? b>>o)/\∃vs,KV (nM [] ((qs.take i).map (·.2))) vs/\h.DictOf (eB X.prog X.w) s.heap.objs.size vs)
  (λh' e k=>#[k,[],.nil,?_]) (λi h h' c hc #[k1,vs,kv,dd] k=>?_) (λi v s' hi hv #[k1,vs,kv,dd]=>?_) (λh' tk #[k1,vs,kv,dd] _=>?_)
 .exact#[_,#[],0,e,#[Y,Y,Y],Y,(by intro _ h;exact nomatch h),.nil,gX]
 .obtain⟨o,es,ep,ho,rest⟩:=dd;exact#[λb o e=>k b o (aZ (yC (aX e) hc)) (k1 b o e),vs,kv,o,es,ep,k _ _ () ho,rest]
 .rw[yL]at hi;let Qz:its[i]?>>v:=by simpa using hv
  let hqi:=ax hi;generalize qs[i]=q0 at hqi;obtain⟨u0,hu0,ru0⟩:=rv.get (by rw[ay,hqi];rfl);rw[Qz]at hu0;cases hu0;cases ru0;obtain⟨it2,Qe,pl2,_⟩:=I.tuple (hqs q0 (aF hqi));obtain⟨u1,u2,rfl,r1,r2⟩:∃u1 u2,it2=[u1,u2]/\RelV _ u1/\RelV q0.2.2 u2:=by cases Qe with|cons a t=>cases t with|cons b t2=>cases t2;exact#[_,_,Y,a,b]
  obtain⟨o2,Xd,Zg⟩:=pl2;refine#[q0.1,u1,u2,Y,#[o2,k1 _ _ Xd,Zg],λQ' E' q'=>?_];let etk:qs.take (i+1)=qs.take i ++ [q0]:=by rw[cB,hqi];rfl
  let Rt:vs.length<=sizeLine:=by let e1:=kv.length;let e2:=sX ((qs.take i).map (·.2)) [];simp only[cx,ae,bU,r9]at e2;omega
  refine wpAny_dictSet_pairs (sF r1) dd (λh' Jr sb=>q' h' _ () sb #[λb o e=>?_,_,?_,Jr]) Rt
  .rw[sb.2 b (aZ (aX e))];exact k1 b o e
  .rw[etk,aH,ao,eC,Dq];exact kv.put q0.2.1 r2
 .rw[yL,bV]at kv;let hlen:=sX (qs.map (·.2)) [];simp[cx,ae,r9]at hlen;exact#[.ref s.heap.objs.size,_,I.laid k1 () (zM () (beq_eq_false_iff_ne.mpr (bD (aZ I.big))) kv dd),Y,q _ (I.hok.fresh ())]
def pairD(q:O×U):U:=.tuple [.str q.1,q.2]
theorem EX{H:Hp}:∀{l:!(O×U)}{xs:!V},bQ K H xs (l.map pairD)->∃qs:!(J×Key×V),xs=qs.map (λq=>.ref q.1)/\(∀q∈qs,nG K H q.1 [kV q.2.1,q.2.2])/\qs.map (·.2.1)=l.map (λp=>(bh p.1:Key))/\bQ K H (qs.map (·.2.2)) (l.map (·.2))
 | [],_,.nil=>#[[],Y,(by intro _ h;cases h),Y,.nil]
 |q::l,_,.cons a r=>by
  let#[qs,e1,e2,e3,e4]:=EX r;cases a with
  |tup hq rs=>
   cases rs with
   |cons b rs=>
    cases b;cases rs with
    |cons c rs=>
     cases rs;refine#[(_,.inr q.1,_)::qs,by rw[e1];rfl,λz hz=>?_,by rw[ao,ao,e3],.cons c e4];rcases au.mp hz with rfl|hz
     .exact hq
     .exact e2 z hz
theorem Rw(hn:(l.map (·.1)).Nodup):ow K (Oe K) [.list (l.map pairD)] (je l):=λvs H0 H Q s r k=>by
 let#[v,rfl,rv]:=r.one;cases rv with
 |lst hq rs=>
  let#[qs,e1,e2,e3,e4]:=EX rs;subst e1;let hnn:((qs.map (·.2)).map (·.1)).Nodup:=by rw[aG];show(qs.map (·.2.1)).Nodup;rw[e3,show(l.map λp=>(bh p.1))=(l.map (·.1)).map bh by rw[aG];rfl];exact rZ _ (λa b N3 z=>N3 (mK z)) hn
  refine#[_,qs,Y,s.seq hq,λq GY=>s.oo (e2 q GY),λp hp=>?_];rw[yf _ [] ([nV]▸hnn),nV];let g:=di.laid s (o:=.dK (qs.map (·.2))) hp;refine k _ _ _ g (.dct aP ?_ ?_)
  .let e:=qQ6 (rC nJ) e3;simp only[aG]at e ⊢;exact e.symm
  .simp;exact e4.mono g.eE
end
section
variable{p:Pos}
theorem Ac{a:bY}{X:Cx}{δ:!Slot}{pos:Pos}(h:VE X a δ (.list (l.map pairD)))(hn:(l.map (·.1)).Nodup)(hc:X.calm=true)(hm:X.mg "dict"=none)(hg:Gl X "dict":=by rfl)(hs:lF X a []:=by rfl):VE X (.Call (.Name "dict" p) [a] [] pos) δ (je l):=kZ (xt hc) (Rw hn) (du h cZ hs) hm Y hg (he:=hs)
end
def Br(kvs:!(O×U)):U:=.dict ((.none,.int 1)::kvs.map λp=>(.str p.1,p.2))
section
theorem JW:∀{kvs:!(O×U)}{ws:!(Key×V)},(ws.map λp=>nJ p.1)=(kvs.map λp=>aJ p.1)->ws.map (·.1)=kvs.map (λp=>(bh p.1:Key))
 | [],ws,e=>by cases ws with|nil=>rfl|cons q l=>simp at e
 |p::kvs,ws,e=>by
  cases ws with
  |nil=>simp at e
  |cons q ws=>
   rw[ao,ao]at e ⊢;injection e with h1 h2
   rw[JW h2]
   congr 1
   cases eq:q.1 with
   |inl i=>rw[eq]at h1;cases h1
   |inr x=>rw[eq]at h1;injection h1 with h1;rw[h1]
theorem Rep.EY{H:Hp}{K:ai}{v:V}(r:Rep K H v (Br kvs)):∃a o ws,v=.ref a/\H a>>(.jx o (.dK ws))/\ws.map (·.1)=kvs.map (λp=>(bh p.1:Key))/\bQ K H (ws.map (·.2)) (kvs.map (·.2)):=by
 unfold Br at r;generalize e:kvs.map (λp=>(aJ p.1,p.2))=ds at r;cases r with
 |dct h k t=>
  rename_i a ws
  exfalso;cases ws with
  |nil=>simp at k
  |cons q ws=>
   rw[ao,ao]at k;injection k with k1 _
   cases eq:q.1 with
   |inl i=>rw[eq]at k1;cases k1
   |inr x=>rw[eq]at k1;cases k1
 |Xh h k t=>
  rename_i a o ws
  refine#[a,o,ws,Y,h,JW ?_,?_]
  .rw[<-k,<-e,aG];rfl
  .rwa[<-e,aG]at t
def V4(H:Hp)(p:J):Prop:=∀o,H p>>o->∀xs,o≠.lst xs/\o≠.tup xs/\∀u,o≠.jx u (.lst xs)/\o≠.jx u (.tup xs)
theorem Rep.Og(hp:V4 H p)(r:Rep K H v d):Ee d->Rep K (kS H p) v d:=by
 refine Rep.rec (motive_1:=λv d _=>Ee d->Rep K (kS H p) v d) (motive_2:=λxs ds _=>(∀d∈ds,Ee d)->bQ K (kS H p) xs ds) ?_ ?_ ?_ ?_ ?_ ?_ ?_ ?_ ?_ ?_ ?_ ?_ ?_ ?_ r
 .exact λ_=>.non
 .exact λb _=>.bl b
 .exact λi _=>.int i
 .exact λx _=>.str x
 .intro a xs ds h _ t n;cases n with
  |lst n=>
   refine .lst ?_ (t n);rcases h with(h|⟨o,h⟩)|h
   .exact .inl (.inl (by rw[jA (λz=>by subst z;exact(hp _ h xs).1 Y)];exact h))
   .exact .inl (.inr #[o,by rw[jA (λz=>by subst z;exact((hp _ h xs).2.2 o).1 Y)];exact h])
   .exact .inr h
 .intro a xs ds h _ t n;cases n with
  |tup n=>
   refine .tup ?_ (t n);rcases h with(h|⟨o,h⟩)|h
   .exact .inl (.inl (by rw[jA (λz=>by subst z;exact(hp _ h xs).2.1 Y)];exact h))
   .exact .inl (.inr #[o,by rw[jA (λz=>by subst z;exact((hp _ h xs).2.2 o).2 Y)];exact h])
   .exact .inr h
 .intro a kvs ds _ _ _ _ n;cases n
 .intro a kvs ds _ _ _ _ n;cases n
 .intro a C dx fs ds _ _ _ _ _ _ n;cases n
 .intro a o kvs ds _ _ _ _ n;cases n
 .intro a C dx fs ds _ _ _ _ _ _ n;cases n
 .intro a o kvs es ep ts ds _ _ _ _ _ _ _ n;cases n
 .exact λ_=>.nil
 .intro x d xs ds _ _ a t n;exact .cons (a (n d aB)) (t λd hd=>n d (aD _ hd))
theorem bQ.Og(hp:V4 H p):∀{ds:!U}{xs:!V},bQ K H xs ds->(∀d∈ds,Ee d)->bQ K (kS H p) xs ds
 | [],_,r,_=>by cases r;exact .nil
 |d::ds,_,r,n=>by cases r with|cons a t=>exact .cons (a.Og hp (n d aB)) (bQ.Og hp t λd hd=>n d (aD _ hd))
theorem JX(h:H p>>(.dK ws)):V4 H p:=λo e xs=>by rw[h]at e;cases e;exact#[nofun,nofun,λu=>#[nofun,nofun]]
end
section
variable{X:Cx}{pins:!(J×Obj)}{σ:St}{H:Hp}{s:aU}{a:J}{ws:!(Key×V)}
theorem Inv.freeze(I:Inv X pins σ H s)(h:H a>>(.dK ws)):∃o,Inv X pins σ (upd H a (.jx o (.dK ws))) s:=by let#[z,hd,vs,rel,dd]:=Ex I.hok h;let#[o,es,ep,ho,rest]:=id dd;refine#[o,?_];let:=I.write (t':=s.toks) (o:=.jx o (.dK ws)) (by rw[h];trivial) (.inl Y) (λb u _ q=>q) #[o,ho] #[ho,z,hd,vs,rel,dd];exact this
theorem Inv.Zh{o:Obj}(I:Inv X pins σ H s)(h:H a>>(.jx o (.dK ws)))(hn:∀o u,X.H₀ a≠some (.jx o u)):Inv X pins σ (upd H a (.dK ws)) s:=by
 let ne:∀{b:J},H b=none->b≠a:=λe z=>by subst z;rw[h]at e;cases e
 let ob:=(Rd.ok (.inr #[o,h]) I.hok);refine#[I.ok,I.os,I.bare,#[I.base.keep,I.base.slot,λb u e n hx=>?_,I.base.there,λb xs e=>?_,λb ob u e=>?_,λb ps e=>?_],I.loc,I.cell,?_,λx c e=>?_,λp hp=>?_,λb u e=>?_,I.len]
 .let q:=I.base.free b u e n hx;rwa[aI (ne q)]
 .let q:=I.base.tups b xs e;rwa[aI (λz=>by subst z;rw[h]at q;cases q)]
 .let q:=I.base.sx b ob u e;rwa[aI (λz=>by subst z;exact hn _ _ e)]
 .let#[more,q]:=I.base.yH b ps e;exact#[more,by rw[aI (λz=>by subst z;rw[h]at q;cases q)];exact q]
 .rw[aI (ne I.free)];exact I.free
 .rw[aI (ne (I.og x c e))];exact I.og x c e
 .let#[q1,q2,q3]:=I.pin p hp;exact#[q1,[aI (ne q2)]▸q2,q3]
 .let st:∀{b:J}{u:HO},gf X.prog X.w H s.heap b u->gf X.prog X.w (upd H a (.dK ws)) s.heap b u:=λx=>x.stay (λc v _ q=>q) (λc q=>by rw[aI (λz=>by subst z;rw[h]at q;cases q)];exact q) λc xs q=>by rw[aI (λz=>by subst z;rw[h]at q;cases q)];exact q
  by_cases hb:b=a
  .subst hb;rw[aP]at e;cases e;exact st ob
  .rw[aI hb]at e;exact st (I.hok b u e)
end
def Itk(a:J)(o:Obj)(kvs:!(Key×V)):It:=#[λi H=>i<kvs.length/\H a>>(.jx o (.dK kvs)),λi H x H'=>H'=H/\∃q,kvs[i]?>>q/\x=kV q.1,λi H=>kvs.length<=i/\H a>>(.jx o (.dK kvs))]
section
variable{X:Cx}{a:J}{kvs:!(Key×V)}{o:Obj}{es:Array fq}{ep:Nat}
theorem lW{H:Hp}{pins:!(J×Obj)}{σ:St}{s:aU}(I:Inv X pins σ H s)(h:H a>>(.jx o (.dK kvs))):(a==sysModules)=false/\∃vs es ep,KV kvs vs/\o.data=.dict es ep/\s.heap.DictAt (eB X.prog X.w) a vs ep:=by let#[ho,z,hd,vs,rel,o',es,ep,CP,c1,c2,c3]:=(I.hok a _ h);rw[ho]at CP;cases CP;exact#[hd,vs,es,ep,rel,c2,o,es,ho,c1,c2,c3]
theorem Lk{tg:bY}(a it:J)(he:o.data=.dict es ep):Turn P w K tg (Itk a o kvs) [it] it (λi h=>h.IsKeyIter it a i kvs.length ep) where
 mem:=∅
 obj:=λi h st b hb=>by
  let e:b=it:=by simpa using hb
  subst e;let#[o,e,c,d]:=st;exact#[o,e,λv z=>by rw[d]at z;cases z]
 keep:=λi h h' st k=>let#[o,e,r]:=st;#[o,k it ∅ o e,r]
 item:=by
  intro X hP hw hK hc i pins s σ H E I hf st hg;subst hP hw hK;let#[f0,f1,f2,f3,f4,f5]:=hf it ∅;let#[hi,ha]:=hg;let#[hd,vs,Qq,Qr,rel,Oh,dd]:=lW I ha;rw[he]at Oh;cases Oh;let hl:=rel.length;obtain⟨q,hq⟩:∃q,kvs[i]?>>q:=#[kvs[i],ax hi];obtain⟨⟨k,x⟩,hx⟩:∃p,vs[i]?>>p:=#[vs[i]'(),ax ()];let hk:q.1=k:=by let e1:=qQ6 (·[i]?) rel.keys;simp only[ay,hq,hx,dJ]at e1;exact bK e1
  refine wpAny_pyNext_dict_item ([<-hl]▸st) dd hx λkey h' MX vU sb=>?_;let#[o,e,c,d]:=id vU;exact#[key,Y,BM e c d ⋯ #[_,H,I.turned (λb o hb e=>(sb.2 b hb).trans e) f0 f1 f3 f4 f5,[hk]▸Dm MX,#[Y,q,hq,Y],[hl]▸vU,λb hb=>(hf b hb).1]]
 done:=by intro X hP hw hK hc i pins s σ H E I hf st hg;subst hP hw hK;let#[f0,f1,f2,f3,f4,f5]:=hf it ∅;let#[hi,ha]:=hg;let#[hd,vs,Qq,Qr,rel,Oh,dd]:=lW I ha;rw[he]at Oh;cases Oh;let hl:=rel.length;exact wpAny_pyNext_dict_end (I.ok.hd hc) ([<-hl]▸st) dd (eO ()) λh' eb=>#[Y,I.turned (λb o hb e=>eb b o hb e) f0 f1 f3 f4 f5]
 self:=λ_ _ _ _ _ st h=>wR st h
def Zi(tl:TE):TI:=λσ H R=>tl σ H λv H1=>∃a o kvs,v=.ref a/\H1 a>>(.jx o (.dK kvs))/\R (Itk a o kvs) H1
theorem Rx{tg l:bY}{tl:TE}(hl:PE X l tl):PI X tg l (Zi tl):=by
 intro pins s σ H R I h;refine fV (hl pins s σ H _ I h) λv s1 #[y,H1,I1,r1,q1]=>?_;let#[a,o,kvs,e,ha,q]:=q1;subst e;cases r1;let#[hd,vs,es,ep,rel,he,dd]:=lW I1 ha;refine wpAny_pyIter_dict hd dd ?_;rw[<-rel.length];refine#[s1.heap.objs.size,_,_,_,H1,Y,I1.kept λb o e=>av _ e,Lk a _ he,#[_,aV _ Y,Y,Y],λb hb=>?_,q];let e:b=s1.heap.objs.size:=by simpa using hb
 subst e;exact I1.uE () (I1.hok.fresh ())
end
section
variable{X:Cx}{a b:bY}{δ:!Slot}{kvs:!(O×U)}{pos:Pos}{x:O}
theorem EZ{tg:bY}(h:VE X a δ (Br kvs)):VI X tg a δ (kvs.map λq=>.str q.1):=#[_,Rx cA,λB0 B σ H0 H R f q=>h B0 B σ H0 H _ f λv H1 cY g r=>by
 let#[p,o,ws,rfl,hp,ke,rs]:=r.EY;let hl:ws.length=kvs.length:=by let:=qQ6 dq ke;simpa using this
 refine#[p,o,ws,Y,g.sub _ _ hp,q _ H1 cY g λHa Hb s1 s2 i=>#[λhi=>#[by simpa[hl]using hi,s2 _ _ (s1 _ _ hp)],λhi=>#[by simpa[hl]using hi,s2 _ _ (s1 _ _ hp)],λx wJ d hd #[e,z,hz,ex]=>?_]];subst e;subst ex;let e1:=qQ6 (·[i]?) ke;simp[ay,hz,dJ]at e1;rw[ay]at hd;cases hk:kvs[i]? with
 |none=>rw[hk]at hd;cases hd
 |some w=>rw[hk]at hd e1;cases hd;rw[bK e1];exact#[Ha,.refl s2,.str w.1]]
theorem Ad{k:Nat}{d:U}(hr:eL k X.A)(h1:VE X a δ (Br kvs))(h2:VE X b δ (.str x))(hx:iz kvs x>>d)(hs:Ey b:=by intro _ _;rfl):VE X (.Subscript a b pos) δ d:=
 .of (Js (MD hr) cA cA hs) λB0 B σ H0 H Q fr q=>h1 B0 B σ H0 H _ fr λv H1 cY g r=>h2 B0 B σ H1 cY _ (fr.grow g) λu H2 f9 g2 r2=>by let#[p,o,ws,rfl,hp,ke,rs]:=r.EY;cases r2;let ov:=xl ke rs x;rw[hx]at ov;let#[w,hw,pZ]:=ov.some_of;refine#[p,w,Y,?_,q w H2 f9 (g.trans g2) (pZ.mono g2.eE)];rw[<-hw];exact .inl #[ws,.inr x,.inr #[o,g2.sub _ _ (g2.eE _ _ hp)],Y,Y]
end
section
theorem mU:∀{l:!(O×U)},(l.map (·.1)).Nodup->∀q∈l,iz l q.1>>q.2
 | [],_,q,h=>by cases h
 |p::l,hn,q,h=>by
  rw[ao,cD]at hn;rcases au.mp h with rfl|h
  .exact ei Y
  .rw[bT (λz=>hn.1 ([z]▸aj.mpr #[q,h,Y]))];exact mU hn.2 q h
end
abbrev UR:=Hp->V->Hp->Hp->Prop
variable{R:!U->UR->Prop}
section
variable{X:Cx}{st:kr}{e:bY}{ds:!U}{x:O}
def VU(X:Cx)(e:bY)(δ:!Slot)(Ua:UR):Prop:=∀B0 B σ H0 H Q,fK X.K B0 B H0 H σ δ->(∀v c9 H',di H0 H c9 H'->Ua H v c9 H'->Q v H')->cE X e σ H Q
def spU(K:ai)(R:!U->UR->Prop):Sp:=λvs H Q _=>∃H0 ds Ua,cy H0 H/\bQ K H0 vs ds/\R ds Ua/\∀v c9 H',di H0 H c9 H'->Ua H v c9 H'->Q v H'
def Tv(Ua:UR):Prop:=∀B H v Ha Hb,cy B H->Ua H v Ha Hb->Ua B v Ha Hb
theorem JY{δ:!Slot}{pos:Pos}{Ua:UR}{es:!bY}{p:Pos}(C:a_ X.prog X.w X.K X.mg X.base k x ps (spU X.K R))(hr:eL k X.A)(hm:Tv Ua)(ha:VA X (e::es) δ ds)(hp:R ds Ua)(hg:Gl X x:=by rfl)(p5:uZ x:=by decide)
  (he:lF X e es:=by rfl)(mw:rQ X pos es:=by rfl):VU X (.Call (.Name x p) (e::es) [] pos) δ Ua:=by let#[f,fd,F,MA,hk,hb]:=C;let#[t,pa,qa]:=ha;intro B0 B σ H0 H Q fr q pins s I;refine qE F hr hg MA hk hb .nil x8 pa p5 he mw pins s σ H Q I (qa B0 B σ H0 H _ fr λvs H1 cY g1 rs=>?_);rw[bC];exact#[H1,ds,Ua,g1.sub,rs,hp,λv H2 f9 g2 u=>q v H2 f9 (g1.trans g2) (hm _ _ _ _ _ g1.big u)]
theorem zc9{w:cP}{qual: O}(F:kz K x qual st f fd)(S:cg N ps (bA st))(hl:∀ds Ua,R ds Ua->ds.length=ps.length)(hb:∀ds Ua,R ds Ua->sS P w K mg base N qual st f k ds (.ru Ua)):dW P w K mg base jO (k+1) f fd ps (spU K R):=by
 refine F.ok S (λvs H Q E h=>?_) (λgk A outer s H vs Q E hr h=>?_)
 .let#[H0,ds,d,_,r,hp,_]:=h;rw[r.length,hl ds d hp]
 .let#[H0,ds,d,sm,r,hp,q]:=h;exact#[_,kY,hb ds d hp gk A outer s H E hr H0 H _ H0 H _ (.start sm r) q]
end
section
theorem Ry{H:Hp}{K:ai}{kv:!(O×U)}{kvs:!(Key×V)}(h1:H a>>(.dK kvs))(h2:kvs.map (·.1)=kv.map (λp=>(bh p.1:Key)))(h3:bQ K H (kvs.map (·.2)) (kv.map (·.2))):Rep K H (.ref a) (je kv):=by
 refine .dct h1 ?_ ?_
 .let e2:=qQ6 (rC nJ) h2;rw[aG,aG]at e2;rw[aG];exact e2.symm
 .rwa[aG]
end
section
theorem nO(h:D.nx σ H):Ed X [] D σ H:=λpins s I=>Jj pins s σ H D I h
end
section
variable{j}
end
section
variable{e:bY}
theorem Oi{H H0 B0 B:Hp}{d:U}{R:OR}{X:Cx}{σ:St}{D:Ends}{δ:!Slot}{pos:Pos}(G:OF X.K B0 B R H0 H σ δ)(h:VE X e δ d)(q:∀v c9 H',di B0 B c9 H'->Rep X.K c9 v d->D.rt v H'):cS X (.Return (some e) pos) D σ H:=
 b9 h B0 B σ H0 H D G.fr q
end
def LR(K:ai)(d:J)(ds:!U):OR:=λH0 H as=>as=[d]/\∃xs,H d>>(.lst xs)/\bQ K H0 xs ds
theorem LR.mono{d:J}:bM (LR K d ds):=λH0 H Ha Hb as #[e,xs,h1,h2] sm hb=>#[e,xs,by rw[hb d (by rw[e];simp)];exact h1,h2.mono sm]
def yg(kl:!(O×!U))(cs:!J):!(Key×V):=(kl.zip cs).map λz=>(bh z.1.1,.ref z.2)
def V5(K:ai)(H0 H:Hp)(kl:!(O×!U))(cs:!J):Prop:=cs.length=kl.length/\∀(i:Nat)c q,cs[i]?>>c->kl[i]?>>q->∃xs,H c>>(.lst xs)/\bQ K H0 xs q.2
section
theorem wa:∀{kl:!(O×!U)}{cs:!J},cs.length=kl.length->(yg kl cs).map (·.1)=kl.map λq=>(bh q.1:Key)
 | [],[],_=>rfl
 | [],_::_,e=>by cases e
 |_::_,[],e=>by cases e
 |q::h,c::cs,e=>by let:=wa ↑e;unfold yg at this ⊢;rw[eV,ao,ao,this];rfl
theorem E1:∀{kl:!(O×!U)}{cs:!J},cs.length=kl.length->(yg kl cs).map (·.2)=cs.map V.ref
 | [],[],_=>rfl
 | [],_::_,e=>by cases e
 |_::_,[],e=>by cases e
 |q::h,c::cs,e=>by let:=E1 ↑e;unfold yg at this ⊢;rw[eV,ao,ao,this];rfl
theorem Dr:∀{kl:!(O×!U)}{cs:!J}{j:Nat}{q:O×!U}{c:J},(kl.map (·.1)).Nodup->kl[j]?>>q->cs[j]?>>c->iW (yg kl cs) (bh q.1)>>(.ref c)
 | [],_,_,_,_,_,h,_=>by simp at h
 |_::_,[],_,_,_,_,_,h=>by simp at h
 |p::kl,b::cs,0,q,c,_,h1,h2=>by cases h1;cases h2;exact mN Y
 |p::kl,b::cs,j+1,q,c,nd,h1,h2=>by
  rw[ao,cD]at nd;let Zj:kl[j]?>>q:=by simpa using h1
  let ne:¬(bh p.1:Key)=bh q.1:=λz=>nd.1 ([mK z]▸aj.mpr #[q,aF Zj,Y]);let e:yg (p::kl) (b::cs)=(bh p.1,V.ref b)::yg kl cs:=Y;rw[e,jd ne];exact Dr nd.2 Zj ↑h2
theorem set_same{α β:Type}{f:α->β}{l:!α}{j:Nat}{x y:α}(h:l[j]?>>x)(e:f y=f x):(l.map f).set j (f y)=l.map f:=by
 refine iG λn=>?_;by_cases hn:n=j
 .subst hn;rw[aR ([ae]▸(aq.mp h).1),ay,h,e];rfl
 .rw[aO (bD hn)]
theorem E2:∀{kl kl':!(O×!U)}{cs:!J},kl'.map (·.1)=kl.map (·.1)->yg kl' cs=yg kl cs
 | [],[],_,_=>rfl
 | [],_::_,_,e=>by cases e
 |_::_,[],_,e=>by cases e
 |q::h,q'::h',cs,e=>by
  let#[e1,e2]:=jb e;cases cs with
  |nil=>rfl
  |cons c cs=>show(bh q'.1,V.ref c)::yg h' cs=(bh q.1,V.ref c)::yg h cs;rw[show q'.1=q.1 from e1,E2 e2]
end
section
variable{jk}
end
section
variable{j}
end
section
variable{X:Cx}{δ:!Slot}{px p:Pos}{x:O}{kv:!(O×U)}
theorem HG:iS X (.type "dict") (λxs H Q=>∃a kvs,xs=[.ref a]/\H a>>(.dK kvs)/\∀p,H p=none->Q (.ref p) (upd H p (.dK kvs))):=by intro pins s σ H xs us Q I r h;let#[a,kvs,rfl,ha,q]:=h;let#[u,rfl,rx]:=vals1 r;cases rx;exact Ni I (.of ha) λp s' hp I'=>#[.ref p,_,I',Y,q p hp]
theorem Ds{H H0 B0 B:Hp}{σ:St}{D:Ends}{e:bY}{pos EL:Pos}(f:fK X.K B0 B H0 H σ δ)(i:Nat)(hN:X.N.Nodup)(hn:∀p,noOwn (δ.set i (.ref p))=true)(he:VE X e δ (je kv))(hm:X.mg "dict"=none)(q:∀p σ' c9 H',cy H0 c9->OF X.K B0 B (DR X.K p kv) c9 H' σ' (δ.set i (.ref p))->D.nx σ' H')(hg:Gl X "dict":=by rfl)
  (hi:X.N[i]?>>x:=by rfl)(hx:Loc X.env.scope x:=by left)(hs:CN X pos (.Call (.Name "dict" p) [e] [] EL) (.Name x px):=by rfl)(hf:zC X x:=by left)
  (Gw:lF X e []:=by rfl)(mw:rQ X EL []:=by rfl):
  cS X (.Assign [.Name x px] (.Call (.Name "dict" p) [e] [] EL) pos) D σ H:=λpins s I=>by refine u6 (i:=i) hN hi hx (lQ HG hg hm (by rfl) (cC cA dP Gw) ⋯ ⋯ Gw mw) hs hf pins s σ H D I ?_;refine he B0 B σ H0 H _ f λv H1 cY g r=>?_;let#[a,kvs,rfl,ha,hk,hv]:=r.kB;refine#[a,kvs,Y,g.sub _ _ ha,λp hp=>?_];let f1:=f.grow g;refine q p _ H1 _ g.eE #[(f1.grow (.loose f1.sub hp)).qd (v:=.ref p) (sl:=.ref p) Y Y,hn p,[p],λb hb=>?_,Y,kvs,aP,hk,hv];rw[aA.mp hb];exact#[f1.sub.free hp,f1.ent.big.free hp,by rw[aP];simp]
end
inductive Bs:U->Prop
 |non:Bs .none
 |bl (b:Bool):Bs (.bool b)
 |int (i:Int):Bs (.int i)
 |str (x:O):Bs (.str x)
 |tup {ds:!U}:(∀d∈ds,Bs d)->Bs (.tuple ds)
def nP(as:!J)(H:Hp):Hp:=λb=>if b∈as then none else H b
theorem wc(h:b∈as):nP as H b=none:=qQ3 h
theorem jf(h:b∉as):nP as H b=H b:=qQ2 h
def HJ(H:Hp)(a:J):Prop:=∀xs,H a≠some (.tup xs)/\∀o,H a≠some (.jx o (.tup xs))
section
variable{K:ai}{C:Hp}{as:!J}
theorem nG.out(hn:∀a∈as,HJ C a){xs:!V}(h:nG K C a xs):nG K (nP as C) a xs:=by
 rcases h with(h|⟨o,h⟩)|h
 .exact .inl (.inl ((jf λz=>(hn a z xs).1 h).trans h))
 .exact .inl (.inr #[o,[jf λz=>(hn a z xs).2 o h]▸h])
 .exact .inr h
theorem bQ.outs:∀{ds:!U}{xs:!V},bQ K C xs ds->(∀d∈ds,∀v,Rep K C v d->Rep K (nP as C) v d)->bQ K (nP as C) xs ds
 | [],_,r,_=>by cases r;exact .nil
 |d::ds,_,r,h=>by
  cases r with
  |cons a t=>exact .cons (h d aB _ a) (bQ.outs t λz hz=>h z (aD _ hz))
theorem Rep.out(hn:∀a∈as,HJ C a)(h:Bs d):∀v,Rep K C v d->Rep K (nP as C) v d:=by
 induction h with
 |non=>intro v r;cases r;exact .non
 |bl b=>intro v r;cases r;exact .bl b
 |int i=>intro v r;cases r;exact .int i
 |str x=>intro v r;cases r;exact .str x
 |tup _ ih=>
  intro v r;cases r with
  |tup hq rs=>exact .tup (hq.out hn) (rs.outs λd hd v r=>ih d hd v r)
end
section
theorem E3:cy (nP as H) H:=λb u e=>by
 by_cases h:b∈as
 .rw[wc h]at e;cases e
 .rwa [jf h]at e
end
def Xm(R:J->OR):UR:=λB v H0 H=>∃a as,v=.ref a/\(∀x∈as,B x=none/\H0 x=none/\H x≠none)/\R a H0 H as
theorem E4{R:J->OR}:Tv (Xm R):=λ_ _ _ _ _ s #[a,as,e,h1,h2]=>#[a,as,e,λx hx=>#[s.free (h1 x hx).1,(h1 x hx).2],h2]
def DL(K:ai)(a:J)(kl:!(O×!U)):OR:=λH0 H as=>∃cs,as=a::cs/\(a::cs).Nodup/\H a>>(.dK (yg kl cs))/\V5 K H0 H kl cs
theorem DL.mono:bM (DL K a kl):=by rintro H0 H Ha Hb as ⟨cs,rfl,nd,h3,h4,h5⟩ sm hb;refine#[cs,Y,nd,[hb a ∅]▸h3,h4,λi c q e1 e2=>?_];let#[ys,y1,y2]:=h5 i c q e1 e2;exact#[ys,[hb c (by simp[aF e1])]▸y1,y2.mono sm]
section
variable{a:J}{R:J->OR}
theorem JZ{d:U}{X:Cx}{δ:!Slot}{e:bY}(h:VU X e δ (Xm R))(hR:∀a Ha Hb as,cy Ha Hb->R a Ha Hb as->Rep X.K (lG as Hb Ha) (.ref a) d):VE X e δ d:=λB0 B σ H0 H Q f q=>h B0 B σ H0 H _ f λv Ha Hb g u=>by
 let#[a,as,rfl,h1,h2]:=u;refine q _ _ Hb #[g.big,g.eE.trans (kD g.sub),v9 g.sub,λb z=>?_] (hR a Ha Hb as g.sub h2);by_cases hb:b∈as
 .exact .inr (h1 b hb).1
 .rw[kC hb]at z;exact g.new b z
theorem V6(G:OF X.K B0 B R' H0 H σ δ)(i:Nat)(hi:δ[i]?>>(.ref p))(hR:∀Ha Hb as,R' Ha Hb as->∃as1,(∀a∈as1,a∈as)/\R p Ha Hb as1)(q:∀v c9 H',di B0 B c9 H'->Xm R B v c9 H'->D.rt v H')
  (hN:u5 X i x:=by ac_rfl):
  cS X (.Return (some (.Name x px)) pos) D σ H:=λpins s I=>wX (xZ hN) pins s σ H D I (by let#[as,h1,h2]:=G.ex;let#[as1,h3,h4]:=hR _ _ _ h2;exact#[_,G.fr.slot i _ hi,q _ H0 H G.fr.ent #[p,as1,Y,λx hx=>#[(h1 x (h3 x hx)).2.1,(h1 x (h3 x hx)).1,(h1 x (h3 x hx)).2.2],h4]])
end
section
variable{X:Cx}{B0 B:Hp}{σ:St}{δ:!Slot}{e:bY}{d:U}{R:OR}
def Xn(X:Cx)(B0 B:Hp)(R:OR)(σ:St)(δ:!Slot)(e:bY)(d:U):Prop:=∀H0 H,OF X.K B0 B R H0 H σ δ->∀Q:V->Hp->Prop,(∀v Ha Hb,di H0 H Ha Hb->Rep X.K Ha v d->Q v Hb)->cE X e σ H Q
theorem J0(h:VE X e δ d):Xn X B0 B R σ δ e d:=λH0 H G Q q=>h H0 H σ H0 H Q G.own q
def Xo(X:Cx)(B0 B:Hp)(R:OR)(σ:St)(δ:!Slot)(es:!bY)(ds:!U):Prop:=∃t,PA X es t/\∀H0 H,OF X.K B0 B R H0 H σ δ->∀Q:!V->Hp->Prop,(∀vs Ha Hb,di H0 H Ha Hb->bQ X.K Ha vs ds->Q vs Hb)->t σ H Q
theorem Dt:Xo X B0 B R σ δ [] []:=#[_,dP,λH0 H G Q q=>q [] H0 H (.refl G.fr.sub) .nil]
theorem wd{ds:!U}{es:!bY}(m:bM R)(h:Xn X B0 B R σ δ e d)(ha:Xo X B0 B R σ δ es ds)(he:lF X e es:=by rfl):Xo X B0 B R σ δ (e::es) (d::ds):=by let#[t,pt,qt]:=ha;exact#[_,cC cA pt he,λH0 H G Q q=>h H0 H G _ λv H1 cY g r=>(qt H1 cY (G.go m (G.own.grow g) G.no) _ λvs H2 f9 g2 rs=>q _ H2 f9 (g.trans g2) (.cons (r.mono g2.eE) rs))]
end
section
def Xp(X:Cx)(σ:St)(H0 H:Hp)(e:bY)(P:Hp->HO->Prop):Prop:=∀Q:V->Hp->Prop,(∀l o Ha Hb,di H0 H Ha Hb->H l=none->Ha l=none->Hb l>>o->P Ha o->Q (.ref l) Hb)->cE X e σ H Q
theorem Rz(sm:cy H0 H):Xp X σ H0 H (.Dict [] [] pos) (λ_ o=>o=.dK []):=λQ q pins s I=>sH pins s σ H Q I λl hl=>q l _ H0 _ (.loose sm hl) hl (sm.free hl) aP Y
theorem RA(f:fK X.K B0 B H0 H σ δ)(h:VO X e δ ds):Xp X σ H0 H e (λHa o=>∃xs,o=.lst xs/\bQ X.K Ha xs ds):=λQ q=>h B0 B σ H0 H Q f λa xs H1 cY g h1 h2 h3 r=>q a _ H1 cY g h1 h2 h3 #[xs,Y,r]
end
theorem Oj(hk:bp X.K (.type "dict") (.type tn)>>kb):iS X (.builtin "isinstance") (λxs H Q=>∃a ws,xs=[.ref a,.ty tn]/\Rd H a (.dK ws)/\Q (.bl kb) H):=by intro pins s σ H xs us Q I r h;let#[a,ws,rfl,rx,q]:=h;let#[u,w',rfl,r1,r2]:=vals2 r;cases r2;cases r1;let#[_,_,vs,_,o,es,ep,e,ex,_]:=rx.ok I.hok;exact hX Jd I.Be #[o,e,ex.1] hk (λz=>nomatch z) λtk=>#[.bl kb,H,I.tok tk,Y,q]
theorem Ae{X:Cx}{a:bY}{δ:!Slot}{pos p p2:Pos}(h:VE X a δ (je kvs))(hk:bp X.K (.type "dict") (.type tn)>>kb)(hb:bootBuiltins x>>(.type tn))(m1:X.mg "isinstance"=none)(m2:X.mg x=none)(hv:bootBuiltins "isinstance"=some (.builtin "isinstance"))
  (hg:Gl X "isinstance":=by rfl)(Rc:Gl X x:=by rfl)(hn:x≠"__name__":=by decide)(p5:uZ x:=by decide)(hs:starEach [a,.Name x p2] X.env=(false,eval a X.env)::starEach [.Name x p2] X.env:=by rfl)(lP:starEach [.Name x p2] X.env=(false,eval (.Name x p2) X.env)::starEach [] X.env:=by rfl)
  (mw:rQ X pos [.Name x p2]:=by rfl):VE X (.Call (.Name "isinstance" p) [a,.Name x p2] [] pos) δ (.bool kb):=
 .of (sD (Oj hk) hg m1 hv (cC cA (cC (CV Rc m2 hb (v:=.ty tn) Y hn p5) dP lP) hs) ⋯ ⋯ hs mw) λB0 B σ H0 H Q f q=>h B0 B σ H0 H _ f λv H1 cY g r=>by let#[b,ws,rfl,hb,_,_]:=r.kB;exact#[b,ws,Y,.inl (g.sub _ _ hb),q _ H1 cY g (.bl _)]
section
variable{jj}
end
def Sep(R F:OR):OR:=λH0 H as=>∃a1 a2,as=a1++a2/\(∀a∈a1,a∉a2)/\R H0 H a1/\F H0 H a2
def Qf(R:OR):Prop:=∀H0 H as,R H0 H as->∀a∈as,HJ H a
def xu(K:ai)(R:OR)(p:J)(d:U):Prop:=∀Ha Hb as,cy Ha Hb->R Ha Hb as->Rep K (lG as Hb Ha) (.ref p) d
section
variable{K:ai}{B0 B H0 H Ha Hb:Hp}{σ σ':St}{δ δ':!Slot}{R R' F:OR}{a p:J}{d:U}{as:!J}
theorem Sep.mono(m:bM R)(n:bM F):bM (Sep R F):=by rintro H0 H Ha Hb as ⟨a1,a2,rfl,dj,h1,h2⟩ sm hb;exact#[a1,a2,Y,dj,m _ _ _ _ _ h1 sm λa ha=>hb a (bH _ ha),n _ _ _ _ _ h2 sm λa ha=>hb a (bt _ ha)]
theorem Sep.nt(m:Qf R)(n:Qf F):Qf (Sep R F):=by
 rintro H0 H as ⟨a1,a2,rfl,dj,h1,h2⟩ a ha;rcases aT.mp ha with ha|ha
 .exact m _ _ _ h1 a ha
 .exact n _ _ _ h2 a ha
theorem Ol(sb:cy Ha Hb)(h:∀a∈a1,a∈as):cy (lG a1 Hb Ha) (lG as Hb Ha):=λx u e=>by
 by_cases hx:x∈a1
 .rw[jy hx]at e;rw[jy (h x hx)];exact e
 .rw[kC hx]at e;by_cases hy:x∈as
  .rw[jy hy];exact sb x u e
  .rw[kC hy];exact e
theorem Sep.V7(h:xu K R p d):xu K (Sep R F) p d:=by rintro Ha Hb as sb ⟨a1,a2,rfl,dj,h1,h2⟩;exact(h Ha Hb a1 sb h1).mono (Ol sb λa ha=>bH _ ha)
theorem Sep.zdb(h:xu K F p d):xu K (Sep R F) p d:=by rintro Ha Hb as sb ⟨a1,a2,rfl,dj,h1,h2⟩;exact(h Ha Hb a2 sb h2).mono (Ol sb λa ha=>bt _ ha)
theorem OF.swap(G:OF K B0 B (Sep R F) H0 H σ δ):OF K B0 B (Sep F R) H0 H σ δ:=by let#[_,h1,a1,a2,rfl,dj,h2,h3]:=G.ex;exact#[G.fr,G.no,a2++a1,λa ha=>h1 a (by rw[aT]at ha ⊢;exact ha.symm),a2,a1,Y,λa ha hb=>dj a hb ha,h3,h2]
theorem OF.rot{R3:OR}(G:OF K B0 B (Sep R (Sep F R3)) H0 H σ δ):OF K B0 B (Sep F (Sep R3 R)) H0 H σ δ:=by
 let#[_,h1,a1,_,rfl,dj,h2,a2,a3,rfl,dj2,h3,h4]:=G.ex;refine#[G.fr,G.no,a2++(a3++a1),λa ha=>h1 a (by simp only[aT]at ha ⊢;rcases ha with h|h|h<;>simp[h]),a2,a3++a1,Y,λa ha hb=>?_,h3,a3,a1,Y,λa ha hb=>dj a hb (by simp[ha]),h4,h2];rcases aT.mp hb with hb|hb
 .exact dj2 a ha hb
 .exact dj a hb (by simp[ha])
theorem OF.assoc{R3:OR}(G:OF K B0 B (Sep (Sep R F) R3) H0 H σ δ):OF K B0 B (Sep R (Sep F R3)) H0 H σ δ:=by
 let#[_,h1,_,a3,rfl,dj,#[a1,a2,rfl,dj2,h2,h3],h4]:=G.ex;refine#[G.fr,G.no,a1++(a2++a3),λa ha=>h1 a (by simp only[aT]at ha ⊢;rcases ha with h|h|h<;>simp[h]),a1,a2++a3,Y,λa ha hb=>?_,h2,a2,a3,Y,λa ha hb=>dj a (by simp[ha]) hb,h3,h4];rcases aT.mp hb with hb|hb
 .exact dj2 a ha hb
 .exact dj a (by simp[ha]) hb
theorem OF.frame(mF:bM F)(G:OF K B0 B (Sep R F) H0 H σ δ):∃as,OF K H0 (nP as H) R H0 H σ δ/\∀{R':OR}{Ha Hb:Hp}{σ':St}{δ':!Slot},OF K H0 (nP as H) R' Ha Hb σ' δ'->OF K B0 B (Sep R' F) Ha Hb σ' δ':=by
 let#[_,h1,a1,a2,rfl,dj,h2,h3]:=G.ex;let o1:∀a∈a1,H0 a=none/\B a=none/\H a≠none:=λa ha=>h1 a (bH _ ha);let o2:∀a∈a2,H0 a=none/\B a=none/\H a≠none:=λa ha=>h1 a (bt _ ha);let nb:∀b,nP a1 H b=none->B b=none:=λb z=>by
  by_cases hb:b∈a1
  .exact(o1 b hb).2.1
  .rw[jf hb]at z;exact G.fr.ent.big.free z
 let a21:∀b∈a2,nP a1 H b=H b:=λb hb=>jf λz=>dj b z hb;refine#[a1,#[G.fr.re G.no #[E3,cy.refl _,G.fr.sub,λ_ z=>.inl z],G.no,a1,λa ha=>#[(o1 a ha).1,wc ha,(o1 a ha).2.2],h2],λ{R' Ha Hb σ' δ'}G'=>?_];let#[as',w1,w2]:=G'.ex;let e:=G'.fr.ent;let keep:∀b∈a2,Hb b=H b:=λb hb=>by let:=e.big.eq (a:=b) ([a21 b hb]▸(o2 b hb).2.2);rw[this,a21 b hb]
 let gg:di B0 B Ha Hb:=#[λb u z=>e.big b u ([jf λy=>(by let:=(o1 b y).2.1;rw[z]at this;cases this)]▸G.fr.ent.big b u z),G.fr.ent.eE.trans e.eE,e.sub,λb z=>by
  rcases e.new b z with y|y
  .exact G.fr.ent.new b y
  .exact .inr (nb b y)];refine#[G'.fr.re G'.no gg,G'.no,as'++a2,λa ha=>?_,as',a2,Y,λa ha hb=>?_,w2,mF _ _ _ _ _ h3 e.eE keep]
 .rcases aT.mp ha with ha|ha
  .let#[y1,y2,y3]:=w1 a ha;exact#[y1,nb a y2,y3]
  .let#[y1,y2,y3]:=o2 a ha;refine#[?_,y2,[keep a ha]▸y3];cases z:Ha a with
   |none=>rfl
   |some o=>
    rcases e.new a (by rw[z];simp)with y|y
    .exact qQ7 y1 y
    .rw[a21 a ha]at y;exact qQ7 y y3
 .let:=(w1 a ha).2.1;rw[a21 a hb]at this;exact(o2 a hb).2.2 this
theorem OF.new{R:OR}(m:bM R)(G:OF K B0 B R H0 H σ δ){R':OR}(h:∀as,(∀a∈as,H a≠none)->R Ha Hb as->∃a1,(∀a∈a1,H a=none/\Ha a=none/\Hb a≠none)/\R' Ha Hb a1)(g:di H0 H Ha Hb):OF K B0 B (Sep R' R) Ha Hb σ δ:=by
 let G1:=G.go m (G.own.grow g) G.no;let#[as,h1,h2]:=G.ex;let#[a1,w1,w2]:=h as (λa ha=>(h1 a ha).2.2) (m _ _ _ _ _ h2 g.eE λa ha=>g.big.eq (h1 a ha).2.2);refine#[G1.fr,G1.no,a1++as,λa ha=>?_,a1,as,Y,λa ha hb=>(h1 a hb).2.2 (w1 a ha).1,w2,m _ _ _ _ _ h2 g.eE λa ha=>g.big.eq (h1 a ha).2.2];rcases aT.mp ha with ha|ha
 .let#[y1,y2,y3]:=w1 a ha;exact#[y2,G.fr.ent.big.free y1,y3]
 .let#[y1,y2,y3]:=h1 a ha;cases z:H a with
  |none=>exact qQ7 z y3
  |some o=>exact#[g.still y1 z,y2,by rw[g.big _ _ z];simp]
def Seen(K:ai)(R:OR)(δ δ':!Slot):Prop:=δ'.length=δ.length/\∀(j:Nat)(sl:Slot),δ'[j]?>>sl->δ[j]?>>sl\/∃p d,δ[j]?>>(.ref p)/\sl=.val d/\xu K R p d
theorem Seen.refl:Seen K R δ δ:=#[Y,λ_ _ h=>.inl h]
theorem Seen.set(s:Seen K R δ δ')(i:Nat)(hi:δ[i]?>>(.ref p))(h:xu K R p d):Seen K R δ (δ'.set i (.val d)):=by
 refine#[[eT]▸s.1,λj sl e=>?_];by_cases hj:j=i
 .subst hj;let hl:j < δ'.length:=[s.1]▸(aq.mp hi).1;rw[aR hl]at e;exact .inr #[p,d,hi,(bK e).symm,h]
 .rw[aO (bD hj)]at e;exact s.2 j sl e
theorem Seen.no(s:Seen K R δ δ')(h:noOwn δ=true)(j:Nat)(ds:!U):δ'[j]?≠some (.own ds):=λe=>by
 rcases s.2 j _ e with e|⟨_,_,_,e,_⟩
 .exact fZ h j ds e
 .cases e
theorem OF.J1(G:OF K B0 B R H0 H σ δ)(s:Seen K R δ δ'):∃as,(∀a∈as,H0 a=none/\B a=none/\H a≠none)/\R H0 H as/\fK K (lG as H H0) H (lG as H H0) H σ δ':=by
 let#[as,h1,h2]:=G.ex;let sm:=kD (as:=as) G.fr.sub;refine#[as,h1,h2,.refl (v9 G.fr.sub),[s.1]▸G.fr.len,λi sl e=>?_,λi j ds es p _ e=>qQ7 e (s.no G.no i ds)];rcases s.2 i sl e with e2|⟨p,d,e2,rfl,hp⟩
 .let q:=G.fr.slot i sl e2;cases sl with
  |un=>trivial
  |ref _=>exact q
  |val d=>let#[v,g1,g2]:=q;exact#[v,g1,g2.mono sm]
  |own ds=>exact qQ7 e2 (fZ G.no i ds)
 .exact#[.ref p,G.fr.slot i _ e2,hp H0 H as G.fr.sub h2]
end
section
variable{X:Cx}{B0 B H0 H:Hp}{σ:St}{D:Ends}{δ δ':!Slot}{e c:bY}{d:U}{R:OR}{body orelse:!kr}{pos px:Pos}{y:O}
theorem OF.V8(G:OF X.K B0 B R H0 H σ δ)(h1:∀a∈as,H0 a=none/\B a=none/\H a≠none){C1 H1:Hp}(g:di (lG as H H0) H C1 H1):di H0 H (nP as C1) H1:=by
 let hC:∀b,b∉as->∀u,H0 b>>u->C1 b>>u:=λb hb u z=>g.eE b u ([kC hb]▸z);refine#[g.big,λb u z=>?_,λb u z=>?_,λb z=>?_]
 .let hb:b∉as:=λy=>by rw[(h1 b y).1]at z;cases z
  rw[jf hb];exact hC b hb u z
 .by_cases hb:b∈as
  .rw[wc hb]at z;cases z
  .rw[jf hb]at z;exact g.sub b u z
 .by_cases hb:b∈as
  .rw[wc hb]at z;exact qQ7 Y z
  .rw[jf hb]at z;rcases g.new b z with w|w
   .rw[kC hb]at w;exact .inl w
   .exact .inr w
theorem Zk{C1:Hp}(nt:Qf R)(h1:∀a∈as,H0 a=none/\B a=none/\H a≠none)(h2:R H0 H as)(sm:cy (lG as H H0) C1):∀a∈as,HJ C1 a:=λa ha=>by
 let e:C1 a=H a:=by
  cases w:H a with
  |none=>exact qQ7 w (h1 a ha).2.2
  |some o=>exact sm a o ([jy ha]▸w)
 unfold HJ;rw[e];exact nt _ _ _ h2 a ha
theorem Om(nt:Qf R)(s:Seen X.K R δ δ')(h:VE X e δ' d)(hd:Bs d):Xn X B0 B R σ δ e d:=λH0 H G Q q=>by let#[as,h1,h2,f1]:=G.J1 s;refine h _ H σ _ H _ f1 λv C1 H1 g r=>?_;exact q v (nP as C1) H1 (G.V8 h1 g) (Rep.out (λa ha xs=>Zk nt h1 h2 g.eE a ha xs) hd v r)
theorem bQ.out(hn:∀a∈as,HJ C a):∀{ds:!U}{vs:!V},(∀d∈ds,Bs d)->bQ K C vs ds->bQ K (nP as C) vs ds
 | [],_,_,r=>by cases r;exact .nil
 |d::ds,_,h,r=>by
  cases r with
  |cons a t=>exact .cons (Rep.out (λa ha xs=>hn a ha xs) (h d aB) _ a) (bQ.out hn (λd hd=>h d (aD _ hd)) t)
theorem yh{kb:Bool}(m:bM R)(G:OF X.K B0 B R H0 H σ δ)(s:Seen X.K R δ δ')(h:VT X c δ' kb)(qT:kb=true->∀H',OF X.K B0 B R H0 H' σ δ->Ed X body D σ H')(qF:kb=false->∀H',OF X.K B0 B R H0 H' σ δ->Ed X orelse D σ H'):
  cS X (.If c body orelse pos) D σ H:=λpins s0 I=>by
 let#[as,h1,h2,f1]:=G.J1 s;cases kb with
 |true=>refine x3 ou kY jZ pins s0 σ H D I ?_;exact h _ H σ _ H _ f1 λC1 H1 g1=>QQ (qT Y H1 (G.go m (G.own.grow (.far G.fr.sub g1.big)) G.no))
 |false=>refine x3 ou jZ kY pins s0 σ H D I ?_;exact h _ H σ _ H _ f1 λC1 H1 g1=>QP (qF Y H1 (G.go m (G.own.grow (.far G.fr.sub g1.big)) G.no))
theorem V9(m:bM R)(nt:Qf R)(G:OF X.K B0 B R H0 H σ δ)(j:Nat)(h:Xn X B0 B R σ δ e d)(hn:noOwn (δ.set j (.val d))=true)(q:∀σ' c9 H',OF X.K B0 B R c9 H' σ' (δ.set j (.val d))->D.nx σ' H')(hN:X.N.Nodup)
  (hj:X.N[j]?>>y:=by rfl)(hx:Loc X.env.scope y:=by left)(pL:CN X pos e (.Name y px):=by rfl)(hf:zC X y:=by left):
  cS X (.Assign [.Name y px] e pos) D σ H:=λpins s I=>by refine u6 (i:=j) hN hj hx cA pL hf pins s σ H D I ?_;refine h H0 H G _ λv H1 cY g r=>?_;let G1:=G.go m (G.own.grow g) G.no;exact q _ H1 cY (G1.go m (G1.own.qd (v:=v) (sl:=.val d) #[_,Y,r] Y) hn)
end
abbrev UV:=V->OR
def Af(K:ai)(S:Type)(PR:J->S->OR)(ok:S->!U->S->UV->Prop):Sp:=λvs H Q _=>∃(H0:Hp)(p:J)(v2:!V)(as:!J)(s s':S)(d2:!U)(Ua:UV),vs=.ref p::v2/\cy H0 H/\bQ K H0 v2 d2/\(∀a∈as,H0 a=none/\H a≠none)/\PR p s H0 H as/\ok s d2 s' Ua/\
 ∀(v:V)(c9 H':Hp)(as':!J),cy H0 c9->cy c9 H'->(∀a,c9 a≠none->H0 a≠none\/H a=none\/a∈as)->(∀b o,H b>>o->b∉as->H' b>>o)->(∀a∈as',c9 a=none/\H' a≠none/\(a∈as\/H a=none))->Sep (Ua v) (PR p s') c9 H' as'->Q v H'
def kF(K:ai)(d:U):UV:=λv H0 _ as=>as=[]/\Rep K H0 v d
theorem kF.mono:bM (kF K d v):=λ_ _ _ _ _ #[h1,h2] sm _=>#[h1,h2.mono sm]
theorem LR.nt:Qf (LR K a ds):=by rintro H0 H as ⟨rfl,xs,h1,_⟩ b hb;rw[aA.mp hb];unfold HJ;rw[h1];exact λys=>#[nofun,λo=>nofun]
theorem LR.see:xu K (LR K a ds) a (.list ds):=by rintro Ha Hb as sb ⟨rfl,xs,h1,h2⟩;exact .lst (jY.of ([jy ∅]▸h1)) (h2.mono (kD sb))
section
variable{X:Cx}{B0 B H0 H:Hp}{σ:St}{δ:!Slot}{p a b:J}{e:bY}{d:U}{R F:OR}{pos px p0 p1 pc:Pos}{x y:O}{Ua:UV}
theorem Tw{D:Ends}(i:Nat)(h:cE X e σ H (λv H'=>D.nx (σ.set i (some v)) H'))(hN:X.N.Nodup)(hi:X.N[i]?>>y:=by rfl)(hx:Loc X.env.scope y:=by left)(pL:CN X pos e (.Name y px):=by rfl)(hf:zC X y:=by left):
  cS X (.Assign [.Name y px] e pos) D σ H:=λpins s I=>u6 (i:=i) hN hi hx cA pL hf pins s σ H D I h
theorem J2(h:cE X e σ H D.rt):cS X (.Return (some e) pos) D σ H:=λpins s I=>wX cA pins s σ H D I h
theorem RB(own:∀a∈as,H0 a=none/\H a≠none)(h:R H0 H as)(f:fK X.K H0 H H0 H σ δ)(hn:noOwn δ=true):OF X.K H0 (nP as H) R H0 H σ δ:=
 #[f.re hn #[E3,cy.refl _,f.sub,λ_ z=>.inl z],hn,as,λa ha=>#[(own a ha).1,wc ha,(own a ha).2],h]
theorem Zm{Ha Hb:Hp}(G:OF X.K H0 (nP as H) R Ha Hb σ δ):∃as',cy H0 Ha/\cy Ha Hb/\(∀a,Ha a≠none->H0 a≠none\/H a=none\/a∈as)/\(∀b o,H b>>o->b∉as->Hb b>>o)/\(∀a∈as',Ha a=none/\Hb a≠none/\(a∈as\/H a=none))/\R Ha Hb as':=by
 let#[as',h1,h2]:=G.ex;let nb:∀b,nP as H b=none->H b=none\/b∈as:=λb z=>by
  by_cases hb:b∈as
  .exact .inr hb
  .rw[jf hb]at z;exact .inl z
 refine#[as',G.fr.ent.eE,G.fr.sub,λa z=>(G.fr.ent.new a z).imp id (nb a),λb o z hb=>G.fr.ent.big b o ([jf hb]▸z),λa ha=>?_,h2];let#[y1,y2,y3]:=h1 a ha;exact#[y1,y3,(nb a y2).symm]
theorem Oo{S:Type}{PR:J->S->OR}{s s':S}(m:bM (PR p s))(mF:bM F)(G:OF X.K B0 B (Sep (PR p s) F) H0 H σ δ){Ha Hb:Hp}(g:di H0 H Ha Hb)(q:∀v Hc Hd,OF X.K B0 B (Sep (Ua v) (Sep (PR p s') F)) Hc Hd σ δ->Q v Hd):
  ∃as,(∀a∈as,Ha a=none/\Hb a≠none)/\PR p s Ha Hb as/\∀(v:V)(c9 H':Hp)(as':!J),cy Ha c9->cy c9 H'->(∀a,c9 a≠none->Ha a≠none\/Hb a=none\/a∈as)->(∀b o,Hb b>>o->b∉as->H' b>>o)->(∀a∈as',c9 a=none/\H' a≠none/\(a∈as\/Hb a=none))->Sep (Ua v) (PR p s') c9 H' as'->Q v H':=by
 let G1:=G.go (Sep.mono m mF) (G.own.grow g) G.no;let#[as,G2,back]:=OF.frame mF G1;let#[_,h1,a1,a2,rfl,dj,h2,h3]:=G1.ex;let o1:∀a∈a1,Ha a=none/\B a=none/\Hb a≠none:=λa ha=>h1 a (bH _ ha);let o2:∀a∈a2,Ha a=none/\B a=none/\Hb a≠none:=λa ha=>h1 a (bt _ ha);refine#[a1,λa ha=>#[(o1 a ha).1,(o1 a ha).2.2],h2,λv c9 H' as' z1 z2 z3 z4 z5 z6=>q v c9 H' ?_];let keep:∀b∈a2,H' b=Hb b:=λb hb=>by
  cases e:Hb b with
  |none=>exact qQ7 e (o2 b hb).2.2
  |some o=>exact z4 b o e λz=>dj b z hb
 let nB:∀b,Hb b=none\/b∈a1->B b=none:=λb z=>z.elim (λz=>G1.fr.ent.big.free z) λz=>(o1 b z).2.1;let f:fK X.K B0 B c9 H' σ δ:=by
  refine#[#[λb u z=>z4 b u (G1.fr.ent.big b u z) λy=>(by let:=(o1 b y).2.1;rw[z]at this;cases this),G1.fr.ent.eE.trans z1,z2,λb z=>?_],G1.fr.len,λj sl e=>?_,G1.fr.apart]
  .rcases z3 b z with y|y
   .exact G1.fr.ent.new b y
   .exact .inr (nB b y)
  .let qq:=G1.fr.slot j sl e;cases sl with
   |un=>trivial
   |ref _=>exact qq
   |val d=>let#[v,g1,g2]:=qq;exact#[v,g1,g2.mono z1]
   |own ds=>exact qQ7 e (fZ G1.no j ds)
 let#[u1,u2,rfl,dju,w1,w2]:=z6;let apart:∀a∈u1++u2,a∉a2:=λa ha hb=>by
  rcases(z5 a ha).2.2 with y|y
  .exact dj a y hb
  .exact(o2 a hb).2.2 y
 refine#[f,G1.no,u1++(u2++a2),λa ha=>?_,u1,u2++a2,Y,λa ha hb=>?_,w1,u2,a2,Y,λa ha=>apart a (by simp[ha]),w2,mF _ _ _ _ _ h3 z1 keep]
 .rw[<-bS]at ha;rcases aT.mp ha with ha|ha
  .let#[y1,y2,y3]:=z5 a ha;exact#[y1,nB a y3.symm,y2]
  .let#[y1,y2,y3]:=o2 a ha;refine#[?_,y2,[keep a ha]▸y3];cases z:c9 a with
   |none=>rfl
   |some o=>
    rcases z3 a (by rw[z];simp)with y|y|y
    .exact qQ7 y1 y
    .exact qQ7 y y3
    .exact qQ7 ha (dj a y)
 .rcases aT.mp hb with hb|hb
  .exact dju a ha hb
  .exact apart a (by simp[ha]) hb
theorem J3{ds:!U}{k:Nat}{es:!bY}{S:Type}{PR:J->S->OR}{ok:S->!U->S->UV->Prop}{s s':S}{f:O}{ns:!O}(Ma:a_ X.prog X.w X.K X.mg X.base k f ns (Af X.K S PR ok))(hr:eL k X.A)(mR:bM (PR p s))(mF:bM F)(G:OF X.K B0 B (Sep (PR p s) F) H0 H σ δ)(i:Nat)(hi:δ[i]?>>(.ref p))(ha:Xo X B0 B (Sep (PR p s) F) σ δ es ds)(hok:ok s ds s' Ua)
  (q:∀v Ha Hb,OF X.K B0 B (Sep (Ua v) (Sep (PR p s') F)) Ha Hb σ δ->Q v Hb)
  (hN:u5 X i x:=by ac_rfl)
  (hg:Gl X f:=by rfl)(p5:uZ f:=by decide)(he:starEach (.Name x p0::es) X.env=(false,eval (.Name x p0) X.env)::starEach es X.env:=by rfl)(mw:rQ X pc es:=by rfl):
  cE X (.Call (.Name f p1) (.Name x p0::es) [] pc) σ H Q:=λpins s0 I=>by let#[fa,fd,Fn,hm,hk,hb]:=Ma;let#[t,pa,qa]:=ha;refine qE Fn hr hg hm hk hb .nil x8 (cC (xZ hN) pa he) p5 he mw pins s0 σ H Q I ?_;refine#[.ref p,G.fr.slot i _ hi,?_];refine qa H0 H G _ λvs H1 cY g rs=>?_;show Af _ _ _ _ ((V.ref p::vs) ++ []) _ _ _;rw[bC];let#[as,w1,w2,w3]:=Oo (Ua:=Ua) mR mF G g q;exact#[H1,p,vs,as,s,s',ds,Ua,Y,g.sub,rs,w1,w2,hok,w3]
theorem OF.dat(m:bM R)(G:OF X.K B0 B (Sep (kF X.K d v) R) H0 H σ δ):Rep X.K H0 v d/\OF X.K B0 B R H0 H σ δ:=by let#[_,h1,a1,a2,rfl,dj,#[rfl,h2],h3]:=G.ex;exact#[h2,G.fr,G.no,a2,λa ha=>h1 a ↑ha,h3]
theorem OF.zdd(m:bM R)(G:OF X.K B0 B R H0 H σ δ)(i:Nat)(hn:noOwn (δ.set i (.ref a))=true):OF X.K B0 B R H0 H (σ.set i (some (.ref a))) (δ.set i (.ref a)):=G.go m (G.own.qd (v:=.ref a) (sl:=.ref a) Y Y) hn
theorem OF.V_(m:bM R)(G:OF X.K B0 B R H0 H σ δ)(i:Nat)(r:Rep X.K H0 v d)(hn:noOwn (δ.set i (.val d))=true):OF X.K B0 B R H0 H (σ.set i (some v)) (δ.set i (.val d)):=G.go m (G.own.qd (v:=v) (sl:=.val d) #[_,Y,r] Y) hn
end
def Iti(a:J)(o:Obj)(kvs:!(Key×V)):It:=#[λi H=>i<kvs.length/\H a>>(.jx o (.dK kvs)),λi H x H'=>∃t q,x=.ref t/\H t=none/\kvs[i]?>>q/\H'=upd H t (.tup [kV q.1,q.2]),λi H=>kvs.length<=i/\H a>>(.jx o (.dK kvs))]
section
variable{kvs:!(Key×V)}{o:Obj}
theorem HK{es:Array fq}{ep:Nat}{kk}{tp:Pos}(a it:J)(he:o.data=.dict es ep):Turn P w K (.Tuple elts kk tp) (Iti a o kvs) [it] it (λi h=>∃ok ov,lO h it a i kvs.length ep ok ov) where
 mem:=∅
 obj:=λi h st b hb=>by
  let e:b=it:=by simpa using hb
  subst e;let#[_,_,e]:=st;exact#[_,e,λv z=>by cases z]
 keep:=λi h h' st k=>let#[ok,ov,e]:=st;#[ok,ov,k it ∅ _ e]
 item:=by
  intro X hP hw hK hc i pins s σ H E I hf st hg;subst hP hw hK;let#[hi,ha]:=hg;let#[hd,vs,Qq,Qr,rel,Oh,dd]:=lW I ha;rw[he]at Oh;cases Oh;let#[ok,ov,st]:=st;let hl:=rel.length;obtain⟨q,hq⟩:∃q,kvs[i]?>>q:=#[kvs[i],ax hi];obtain⟨⟨k,x⟩,hx⟩:∃p,vs[i]?>>p:=#[vs[i]'(),ax ()];let hk:q.1=k/\RelV q.2 x:=by
   let go:∀{kvs:!(Key×V)}{vs:!(Key×M)}{i:Nat},KV kvs vs->kvs[i]?>>q->vs[i]?>>(k,x)->q.1=k/\RelV q.2 x:=by
    intro kvs;induction kvs with
    |nil=>intro vs i _ h;simp at h
    |cons z kvs ih=>
     intro vs i r h1 h2;cases r with
     |cons r1 r2=>
      cases i with
      |zero=>simp at h1 h2;subst h1;subst h2;exact r1
      |succ i=>exact ih r2 ↑h1 ↑h2
   exact go rel hq hx
  let Vs:it<s.heap.objs.size:=aX st;refine wpAny_pyNext_items_item (kvs:=vs) ([<-hl]▸st) dd hx λkey h1 MX Mv Q5 hz1 Jv=>?_;refine#[.ref s.heap.objs.size,Y,Gm Mv λh2 Nt lP=>?_];replace lP:dA it h1 h2:=lP;let k2:∀b o,b∉[it]->s.heap.get? b>>o->h2.get? b>>o:=λb o hb q=>by let n1:b≠it:=λz=>hb (by simp[z]);exact(lP.2 b n1).trans (Jv b o n1 q)
  let I2:Inv X pins σ H { s with heap:=h2 }:=I.oY (t':=s.toks) k2 hf;let RC:h2.get? s.heap.objs.size=some { cls:=.type "tuple",data:=.seq (bf [key,x]) }:=(lP.2 _ (eG Vs)).trans Q5;let fT:uD X pins H s.heap.objs.size:=I.uE (aE _) I.fresh;let I3:Inv X pins σ (upd H s.heap.objs.size (.tup [kV q.1,q.2])) { s with heap:=h2 }:=
   I2.track fT #[by show 2<=sizeLine;rw[cL];decide,[key,x],.cons ([hk.1]▸Dm MX) (.cons hk.2 .nil),#[_,RC,Y,_,Y]];refine#[.ref s.heap.objs.size,_,I3,Y,#[_,q,Y,I.fresh,hq,Y],#[_,_,[hl]▸Nt],λb hb=>?_];let z':b=it:=by simpa using hb
  subst z';rw[aI (aZ Vs)];exact(hf b hb).1
 done:=by intro X hP hw hK hc i pins s σ H E I hf st hg;subst hP hw hK;let#[hi,ha]:=hg;let#[hd,vs,Qq,Qr,rel,Oh,dd]:=lW I ha;rw[he]at Oh;cases Oh;let#[ok,ov,st]:=st;let hl:=rel.length;exact wpAny_pyNext_items_end (kvs:=vs) (I.ok.hd hc) ([<-hl]▸st) dd (eO ()) λh' eb=>#[Y,I.oY (ch:=[it]) (t':=s.toks) (λb o hb e=>eb b o (λz=>hb (by simp[z])) e) hf]
 self:=λ_ _ _ _ _ st h=>let#[_,_,e]:=st;PySem.W.kcp_self e h
def V'(to:TE):TI:=λσ H R=>to σ H λv H1=>∃a o kvs,v=.ref a/\H1 a>>(.jx o (.dK kvs))/\R (Iti a o kvs) H1
theorem Oq{kk}(ho:PE X e to)(gM:y6 X e "items")(hline:(apos.endLine==k6.line)=true):PI X (.Tuple elts kk tp) (.Call (.Attribute e "items" apos) [] [] k6) (V' to):=by intro pins s σ H R I h;refine rU (T:="dict") (id:="dict.items") gM Y hline F.plainAttrs_dict rD F.type_dict_items (fV (ho pins s σ H _ I h) λu s1 #[x,H1,I1,rx,a,ob,kvs,ex,ha,q]=>?_);subst ex;cases rx;let#[hd,vs,es,ep,rel,he,dd]:=lW I1 ha;refine#[dd.dictOf.typeIs,dd.dictOf.mapOf.noDict,?_];show wpAny _ _ (callWith k6 (.builtin "dict.items") [.ref a] [] []) _ _ _;refine method_meetsIn rD F.entry_dict_items Y (Je #[Y,dd.dictOf.typeIs,F.args_dict_items_1 _,_,meets_dict_items (eB X.prog X.w) a hd,#[vs,dd.dictOf],?_]);refine wpAny_pyIter_items (knd:=eB X.prog X.w) (d:=a) (kvs:=vs) (ep:=ep) #[_,aV _ Y,Y,Y] (dd.push _) ?_;rw[<-rel.length];let I2:Inv X pins σ H1 { s1 with heap:=s1.heap.push { cls:=.type "dict_items",data:=.fields (bf [.ref a]) } }:=I1.kept (t':=s1.toks) λb o e=>av _ e;refine#[_,[_],_,_,H1,Y,I2.kept (t':=s1.toks) λb o e=>av _ e,HK a _ he,#[_,_,aV _ Y],λb hb=>?_,q];let e:=aA.mp hb;subst e;exact I2.uE (aE _) (I2.hok.fresh (aE _))
end
def DC(K:ai)(a:J)(cs:!J)(kl:!(O×!U)):OR:=λH0 H as=>as=a::cs/\(a::cs).Nodup/\H a>>(.dK (yg kl cs))/\V5 K H0 H kl cs
section
variable{K:ai}{B0 B H0 H Ha Hb:Hp}{σ:St}{δ:!Slot}{R R' F:OR}{a l x:J}{cs as:!J}{kl:!(O×!U)}{y:O}{ys:!V}
theorem V5.mono(h:V5 K H0 H kl cs)(sm:cy H0 Ha)(e:∀c∈cs,Hb c=H c):V5 K Ha Hb kl cs:=#[h.1,λi c q e1 e2=>by let#[xs,h1,h2]:=h.2 i c q e1 e2;exact#[xs,[e c (aF e1)]▸h1,h2.mono sm]]
theorem DC.mono:bM (DC K a cs kl):=λH0 H Ha Hb as #[e,nd,h1,h2] sm hb=>#[e,nd,by rw[hb a (by rw[e];simp)];exact h1,h2.mono sm λc hc=>hb c (by rw[e];simp[hc])]
theorem V5.see(sb:cy Ha Hb)(h:V5 K Ha Hb kl cs)(hs:∀c∈cs,c∈as):bQ K (lG as Hb Ha) (cs.map V.ref) (kl.map λq=>.list q.2):=xr h.1 λi c q e1 e2=>by let#[ys,y1,y2]:=h.2 i c q e1 e2;exact .lst (jY.of ([jy (hs c (aF e1))]▸y1)) (y2.mono (kD sb))
def Xq(kl:!(O×!U)):!(O×U):=kl.map λq=>(q.1,pG q.2)
theorem DC.see:xu K (DC K a cs kl) a (je (Xq kl)):=by rintro Ha Hb as sb ⟨rfl,nd,h1,h2⟩;refine Ry (kvs:=yg kl cs) ([jy ∅]▸h1) (by rw[wa h2.1];unfold Xq;rw[aG];rfl) ?_;rw[E1 h2.1];unfold Xq;rw[aG];exact h2.see sb λc hc=>by simp[hc]
theorem DC.row(h:DC K a cs kl H0 H as)(hj:kl[j]?>>(y,ds))(hc:cs[j]?>>c)(r:bQ K H0 ys es):DC K a cs (kl.set j (y,es)) H0 (upd H c (.lst ys)) as:=by
 let#[e,nd,h1,h2]:=h;let hcm:=aF hc;let nc:a≠c:=λz=>(cD.mp nd).1 ([z]▸hcm);let E5:=(aq.mp hj).1;refine#[e,nd,?_,[eT]▸h2.1,λi b q e1 e2=>?_]
 .rw[aI nc,h1,E2 (kl:=kl.set j (y,es)) (kl':=kl)];let:=set_same (f:=Prod.fst) (y:=(y,es)) hj Y;rw[kf];exact this.symm
 .by_cases yK:i=j
  .subst yK;rw[hc]at e1;cases e1;rw[aR E5]at e2;cases e2;exact#[ys,aP,r]
  .rw[aO (bD yK)]at e2;let#[xs,w1,w2]:=h2.2 i b q e1 e2;refine#[xs,?_,w2];rw[aI]
   .exact w1
   .intro z;subst z;let nd2:=(cD.mp nd).2;exact yK ((List.getElem?_inj (aq.mp e1).1 nd2).mp (e1.trans hc.symm))
theorem DC.push{es:!U}(h:DC K a cs kl H0 H as)(hy:y∉kl.map (·.1))(hl:l∉as)(hv:H l>>(.lst ys))(r:bQ K H0 ys es):DC K a (cs ++ [l]) (kl ++ [(y,es)]) H0 (upd H a (.dK (putK (yg kl cs) (bh y) (.ref l)))) (as ++ [l]):=by
 let#[rfl,nd,h1,h2]:=h;let#[n1,n2]:=cD.mp nd;let Tx:l≠a:=λz=>hl (by simp[z]);let e1:putK (yg kl cs) (bh y) (.ref l)=yg (kl ++ [(y,es)]) (cs ++ [l]):=by
  let hn:¬((yg kl cs).any λz=>decide (z.1=(bh y:Key)))=true:=by rw[mZ];rintro⟨z,hz,e⟩;let hz':z.1∈(yg kl cs).map (·.1):=aj.mpr #[z,hz,Y];rw[qQ4 e,wa h2.1]at hz';let#[w,hw,ew]:=aj.mp hz';exact hy (aj.mpr #[w,hw,mK ew])
  unfold putK;rw[qQ2 hn];unfold yg;rw[A2 h2.1.symm,aH];rfl
 refine#[Y,?_,[e1]▸aP,by simp[h2.1],λi c q e2 e3=>?_]
 .refine cD.mpr #[λz=>?_,cF.mpr #[n2,∅,λb hb c hc=>?_]]
  .rcases aT.mp z with z|z
   .exact n1 z
   .exact Tx (aA.mp z).symm
  .rw[aA.mp hc];rintro rfl;exact hl (by simp[hb])
 .by_cases hi:i<cs.length
  .rw[bN hi]at e2;rw[bN ([<-h2.1]▸hi)]at e3;let#[xs,w1,w2]:=h2.2 i c q e2 e3;exact#[xs,by rw[aI λz=>n1 ([<-z]▸aF e2)];exact w1,w2]
  .let hi':i=cs.length:=by let:=(aq.mp e2).1;rw[aN,jH]at this;omega
   subst hi';rw[bF (aE _),yG]at e2;rw[bF ([h2.1]▸aE _),h2.1,yG]at e3;cases e2;cases e3;exact#[ys,[aI Tx]▸hv,r]
theorem OF.putL{ob:HO}(mR:bM R)(mF:bM F)(G:OF K B0 B (Sep R F) H0 H σ δ)(g:di H0 H Ha Hb)(hR:∀as,R Ha Hb as->x∈as/\∃as',(∀a∈as',a∈as)/\R' Ha (upd Hb x ob) as'):OF K B0 B (Sep R' F) Ha (upd Hb x ob) σ δ:=by
 refine G.put (Sep.mono mR mF) g ?_;rintro _ ⟨a1,a2,rfl,dj,h1,h2⟩;let#[hx,as',s1,r']:=hR a1 h1;refine#[bH _ hx,as'++a2,λa ha=>?_,as',a2,Y,λa ha=>dj a (s1 a ha),r',mF _ _ _ _ _ h2 (cy.refl _) λa ha=>aI λz=>dj x hx ([<-z]▸ha)];rcases aT.mp ha with ha|ha
 .exact bH _ (s1 a ha)
 .exact bt _ ha
theorem OF.Zn{ob ob':HO}(mR:bM R)(mF:bM F)(G:OF K B0 B (Sep R F) H0 H σ δ)(g:di H0 H Ha Hb)(hl:H l=none)(B6:Ha l=none)(hl3:Hb l>>ob)(hR:∀as,l∉as->R Ha Hb as->x∈as/\∃as',(∀a∈as',a=l\/a∈as)/\R' Ha (upd Hb x ob') as'):OF K B0 B (Sep R' F) Ha (upd Hb x ob') σ δ:=by
 let#[_,h0,a1,a2,rfl,dj,h1,h2]:=G.ex;let G1:=G.go (Sep.mono mR mF) (G.own.grow g) G.no;let Tx:l∉a1++a2:=λz=>(h0 l z).2.2 hl;let h0':∀a∈a1++a2,Ha a=none/\B a=none/\Hb a≠none:=λa ha=>by
  let#[y1,y2,y3]:=h0 a ha;cases z:H a with
  |none=>exact qQ7 z y3
  |some o=>exact#[g.still y1 z,y2,[g.big _ _ z]▸nofun]
 let kp:∀a∈a1++a2,Hb a=H a:=λa ha=>g.big.eq (h0 a ha).2.2;let#[hx,as',s1,r']:=hR a1 (λz=>Tx (bH _ z)) (mR _ _ _ _ _ h1 g.eE λa ha=>kp a (bH _ ha));let#[z1,z2,z3]:=h0' x (bH _ hx);refine#[G1.fr.touch z1 z2 (fZ G1.no),G1.no,as'++a2,λb hb=>?_,as',a2,Y,λb hb Tt=>?_,r',mF _ _ _ _ _ h2 g.eE λa ha=>by rw[aI λz=>dj x hx ([<-z]▸ha)];exact kp a (bt _ ha)]
 .let Rj:b=l\/b∈a1++a2:=by
   rcases aT.mp hb with hb|hb
   .exact(s1 b hb).imp id λz=>bH _ z
   .exact .inr (bt _ hb)
  rcases Rj with rfl|hb
  .exact#[B6,G.fr.ent.big.free hl,by rw[aI λz:b=x=>Tx ([z]▸bH _ hx),hl3];exact nofun]
  .let#[w1,w2,w3]:=h0' b hb;refine#[w1,w2,?_];by_cases e:b=x
   .subst e;rw[aP];exact nofun
   .rw[aI e];exact w3
 .rcases s1 b hb with rfl|hb
  .exact Tx (bt _ Tt)
  .exact dj b hb Tt
theorem OF.at(G:OF K B0 B (Sep R F) H0 H σ δ):∃as,(∀a∈as,H0 a=none/\B a=none/\H a≠none)/\R H0 H as:=by let#[_,h0,a1,a2,rfl,dj,h1,h2]:=G.ex;exact#[a1,λa ha=>h0 a (bH _ ha),h1]
end
section
variable{kk}
end
def HL(N:!O)(p:J)(ds:!U):!Slot:=.ref p::pP N.tail ds
theorem Cb:∀{N:!O}{ds:!U},noOwn (pP N ds)=true:=λ{N ds}=>by unfold noOwn pP;rw[List.all_append,gT,cV,cV];exact#[λx hx=>by let#[d,_,rfl]:=aj.mp hx;rfl,λx hx=>by rw[(jm.mp hx).2];rfl]
theorem Ln(s:cy H0 H)(r:bQ K H0 vs ds)(hN:N≠[]):fK K H0 H H0 H (start N (.ref p::vs)) (HL N p ds):=by
 let f:=fK.start (N:=N.tail) s r;let e:start N (.ref p::vs)=some (.ref p)::start N.tail vs:=by
  cases N with
  |nil=>exact qQ7 Y hN
  |cons x N=>unfold L2.start;simp
 rw[e];refine#[.refl s,by show _+1=_+1;rw[f.len],λi sl h=>?_,λi j a b q _ h=>?_]
 .cases i with
  |zero=>cases h;rfl
  |succ i=>exact f.slot i sl h
 .cases i with
  |zero=>cases h
  |succ i=>exact qQ7 (show(pP N.tail ds)[i]?=some (.own a)from h) (fZ Cb i a)
abbrev Zo(P:bW)(w:cP)(K:ai)(mg:O->Option M)(base:dv)(N:!O)(qual:O)(st:kr)(f:J)(k:Nat)(R:OR)(W:UV)(p:J)(ds:!U):Prop:=
 ∀gk A outer s H E,eL k (A.deeper (envOfC qual (bA st) s.heap.objs.size f gk))->∀B0 B H0 Hh σ (D:Ends),OF K B0 B R H0 Hh σ (HL N p ds)->(∀v σ' δ' Ha Hb,OF K B0 B (W v) Ha Hb σ' δ'->D.rt v Hb)->(∀σ' δ' Ha Hb,OF K B0 B (W .non) Ha Hb σ' δ'->D.nx σ' Hb)->Ed (C6 jO P w K mg base N qual (bA st) f gk A outer s H E).S9 (my st) D σ Hh
theorem Ot{qual: O}{S:Type}{PR:J->S->OR}{ok:S->!U->S->UV->Prop}(F:kz K x qual st f fd)(Sc:cg N ps (bA st))(hN:N≠[])(hl:∀s d2 s' Ua,ok s d2 s' Ua->d2.length+1=ps.length)(hb:∀p s d2 s' Ua,ok s d2 s' Ua->Zo P w K mg base N qual st f k (PR p s) (λv=>Sep (Ua v) (PR p s')) p d2):dW P w K mg base jO (k+1) f fd ps (Af K S PR ok):=by
 refine F.ok Sc (λvs H Q E h=>?_) (λgk A outer s0 H vs Q E hr h=>?_)
 .let#[H0,p,v2,as,s,s',d2,Ua,rfl,sm,r2,own,W,hok,q]:=h;rw[bj,r2.length];exact hl _ _ _ _ hok
 .let#[H0,p,v2,as,s,s',d2,Ua,rfl,sm,r2,own,W,hok,q]:=h;let fin:∀v σ' δ' Ha Hb,OF K H0 (nP as H) (Sep (Ua v) (PR p s')) Ha Hb σ' δ'->Q v Hb:=λv σ' δ' Ha Hb G=>by let G':OF (C6 jO P w K mg base N qual (bA st) f gk A outer s0 H E).S9.K H0 (nP as H) (Sep (Ua v) (PR p s')) Ha Hb σ' δ':=G;let#[as',z1,z2,z3,z4,z5,z6]:=Zm G';exact q v Ha Hb as' z1 z2 z3 z4 z5 z6
  let w_:noOwn (HL N p d2)=true:=by show noOwn (.ref p::pP N.tail d2)=true;let:=Cb (N:=N.tail) (ds:=d2);unfold noOwn at this ⊢;rw[List.all_cons,this];rfl
  exact#[_,kY,hb p s d2 s' Ua hok gk A outer s0 H E hr H0 (nP as H) H0 H _ _ (RB (X:=(C6 jO P w K mg base N qual (bA st) f gk A outer s0 H E).S9) own W (Ln sm r2 hN) w_) fin λσ' δ' Ha Hb G=>fin _ _ _ _ _ G]
theorem DL.of(h:DC K a cs kl H0 H as):DL K a kl H0 H as:=#[cs,h.1,h.2.1,h.2.2.1,h.2.2.2]
theorem DL.dc(h:DL K a kl H0 H as):∃cs,DC K a cs kl H0 H as:=let#[cs,h1,h2,h3,h4]:=h;#[cs,h1,h2,h3,h4]
theorem DL.see:xu K (DL K a kl) a (je (Xq kl)):=λ_ _ _ sb h=>let#[_,z]:=h.dc;DC.see _ _ _ sb z
section
variable{K:ai}{B0 B H0 H Ha Hb:Hp}{σ:St}{δ:!Slot}{R R' F:OR}
theorem OF.add{l:J}{ob:HO}(m:bM R)(G:OF K B0 B R H0 H σ δ)(g:di H0 H Ha Hb)(h1:H l=none)(h2:Ha l=none)(h3:Hb l>>ob)(hR:R' Ha Hb [l]):OF K B0 B (Sep R' R) Ha Hb σ δ:=
 G.new m (λas hn _=>#[[l],λa ha=>[aA.mp ha]▸#[h1,h2,[h3]▸nofun],hR]) g
theorem OF.zde(G:OF K B0 B (Sep F R) H0 H σ δ)(h:∀as,R H0 H as->R' H0 H as):OF K B0 B (Sep F R') H0 H σ δ:=G.imp λ_ #[a1,a2,e,dj,z1,z2]=>#[a1,a2,e,dj,z1,h a2 z2]
theorem OF.dlx(G:OF K B0 B (Sep (DL K a kl) F) H0 H σ δ):∃cs,OF K B0 B (Sep (DC K a cs kl) F) H0 H σ δ:=by let#[as,h,a1,a2,e,dj,z1,z2]:=G.ex;let#[cs,z]:=z1.dc;exact#[cs,G.fr,G.no,as,h,a1,a2,e,dj,z,z2]
end
section
variable{X:Cx}{B0 B H0 H:Hp}{σ:St}{D:Ends}{δ:!Slot}{e:bY}{ds:!U}{R:OR}{pos px pc:Pos}{y:O}
theorem HM{P:Hp->HO->Prop}{R':J->OR}(m:bM R)(m':∀l,bM (R' l))(G:OF X.K B0 B R H0 H σ δ)(j:Nat)(hv:Xp X σ H0 H e P)(hP:∀l o Ha Hb,P Ha o->Hb l>>o->R' l Ha Hb [l])(hn:∀l,noOwn (δ.set j (.ref l))=true)(q:∀l σ' c9 H',OF X.K B0 B (Sep (R' l) R) c9 H' σ' (δ.set j (.ref l))->D.nx σ' H')(hN:X.N.Nodup)
  (hj:X.N[j]?>>y:=by rfl)(hx:Loc X.env.scope y:=by left)(pL:CN X pos e (.Name y px):=by rfl)(hf:zC X y:=by left):
  cS X (.Assign [.Name y px] e pos) D σ H:=Tw j (hv _ λl o Ha Hb g z1 z2 z3 z4=>by let G1:=G.add (R':=R' l) m g z1 z2 z3 (hP l o Ha Hb z4 z3);exact q l _ Ha Hb (G1.zdd (Sep.mono (m' l) m) j (hn l))) hN hj hx pL hf
theorem qO(G:OF X.K B0 B R H0 H σ δ)(h:VO X e δ ds):Xp X σ H0 H e (λHa o=>∃xs,o=.lst xs/\bQ X.K Ha xs ds):=RA G.own h
theorem Du(m:bM R)(G:OF X.K B0 B R H0 H σ δ)(j:Nat)(hv:Xp X σ H0 H e (λHa o=>∃xs,o=.lst xs/\bQ X.K Ha xs ds))(hn:∀l,noOwn (δ.set j (.ref l))=true)(q:∀l σ' c9 H',OF X.K B0 B (Sep (LR X.K l ds) R) c9 H' σ' (δ.set j (.ref l))->D.nx σ' H')(hN:X.N.Nodup)
  (hj:X.N[j]?>>y:=by rfl)(hx:Loc X.env.scope y:=by left)(pL:CN X pos e (.Name y px):=by rfl)(hf:zC X y:=by left):
  cS X (.Assign [.Name y px] e pos) D σ H:=HM m (λ_=>LR.mono) G j hv (λl o Ha Hb #[xs,e,r] h=>#[Y,xs,by rw[h,e],r]) hn q hN hj hx pL hf
theorem Wb(m:bM R)(G:OF X.K B0 B R H0 H σ δ)(j:Nat)(hn:∀l,noOwn (δ.set j (.ref l))=true)(q:∀l σ' c9 H',OF X.K B0 B (Sep (DL X.K l []) R) c9 H' σ' (δ.set j (.ref l))->D.nx σ' H')(hN:X.N.Nodup)
  (hj:X.N[j]?>>y:=by rfl)(hx:Loc X.env.scope y:=by left)(pL:CN X pos (.Dict [] [] pc) (.Name y px):=by rfl)(hf:zC X y:=by left):
  cS X (.Assign [.Name y px] (.Dict [] [] pc) pos) D σ H:=HM m (λ_=>DL.mono) G j (Rz G.fr.sub) (λl o Ha Hb e h=>#[[],Y,∅,by rw[h,e];rfl,Y,λi c q e1=>by simp at e1]) hn q hN hj hx pL hf
theorem Ou(f:fK X.K B0 B H0 H σ δ)(i:Nat)(hi:δ[i]?>>(.ref a))(q:D.rt (.ref a) H)(hN:u5 X i x:=by ac_rfl):
  cS X (.Return (some (.Name x px)) pos) D σ H:=λpins s I=>wX (xZ hN) pins s σ H D I #[_,f.slot i _ hi,q]
end
def EM:OR:=λ_ _ as=>as=[]
theorem EM.mono:bM EM:=λ_ _ _ _ _ h _ _=>h
theorem EM.nt:Qf EM:=λ_ _ as h a ha=>by rw[show as=[]from h]at ha;cases ha
section
variable{K:ai}{B0 B H0 H:Hp}{σ:St}{δ:!Slot}{R:OR}
theorem OF.em(G:OF K B0 B R H0 H σ δ):OF K B0 B (Sep R EM) H0 H σ δ:=by let#[as,h1,h2]:=G.ex;exact#[G.fr,G.no,as,h1,as,[],(bC _).symm,λa _ h=>(by cases h),h2,Y]
theorem OF.em'(G:OF K B0 B (Sep R EM) H0 H σ δ):OF K B0 B R H0 H σ δ:=by let#[as,h1,a1,a2,e,_,h2,h3]:=G.ex;let h3:a2=[]:=h3;subst h3;rw[bC]at e;subst e;exact#[G.fr,G.no,_,h1,h2]
end
section
variable{X:Cx}{δ δ':!Slot}{sc:nT}{N:!O}{cl:!(O×J)}{elt:bY}{tgt:NC}{es:!U}{x:O}{px pos sJ:Pos}
theorem Wc{H H0 B0 B:Hp}{ds:!U}{R:OR}{σ:St}{D:Ends}{own:!O}{cap:!Nat}{tg iter:bY}{ifs:!bY}(m:bM R)(nt:Qf R)(G:OF X.K B0 B R H0 H σ δ)(s:Seen X.K R δ δ')(i:Nat){F:U->Option U}(hc:X.calm=true)(CS:iM X sc own cap N cl)(hi:VI X tg iter δ' ds)(hg:∀f s3 H3,PG (eZ X sc N cl f s3 H3) tg (Gv X.K tgt))(ht:qc own.length tgt=true)(hz:ds.length<=sizeLine)
  (step:∀d∈ds,zS X sc own cap N cl tgt elt ifs δ' F d)(he:ds.filterMap F=es)(hd:∀d∈es,Bs d)(hn:noOwn (δ.set i (.val (.list es)))=true)(q:∀σ' c9 H',OF X.K B0 B R c9 H' σ' (δ.set i (.val (.list es)))->D.nx σ' H')(hN:X.N.Nodup)(Nr:X.N[i]?>>x:=by rfl)(hx:Loc X.env.scope x:=by left)
  (pL:swapsWith (.ListComp elt [#[tg,iter,ifs,0]] sc pos) (some (.Name x px)) sJ.line X.env=pure true:=by rfl)(hs:Jf X iter:=by intro _;rfl)(hf:zC X x:=by left):
  cS X (.Assign [.Name x px] (.ListComp elt [#[tg,iter,ifs,0]] sc pos) sJ) D σ H:=λpins s0 I=>by
 let#[wi,pi,qi]:=hi;refine qI (i:=i) (tc:=YT X sc N cl ifs) (te:=teC X sc N cl elt) hN Nr hx hc CS pi hg (λf s3 H3 pins s σ H Q I h=>h f s3 H3 pins s I) (λf s3 H3 pins s σ H Q I h=>h f s3 H3 pins s I) pL hs hf pins s0 σ H D I ?_;let#[as,h1,h2,f1]:=G.J1 s;refine qi _ H σ _ H _ f1 λJa C1 cY g it=>?_;refine sQ ht hz step (f1.grow g) it λp xs C2 f9 g2 a1 a2 a3 a4=>?_;let gg:=g.trans g2;let hp:H p=none:=g.big.free a1;let Zq:p∉as:=λz=>(h1 p z).2.2 hp;let g3:=G.V8 h1 gg;let r3:bQ X.K (nP as C2) xs es:=bQ.out (Zk nt h1 h2 gg.eE) hd ([<-he]▸a4);let z2:nP as C2 p=none:=[jf Zq]▸a2;generalize nP as C2=Ha at *;let sm:cy Ha (upd Ha p (.lst xs)):=λb u e=>[aI (bu e z2)]▸e;let g4:di H0 H (upd Ha p (.lst xs)) f9:=#[g3.big,g3.eE.trans sm,λb u e=>by
  by_cases hb:b=p
  .subst hb;rw[aP]at e;rw[a3];exact e
  .rw[aI hb]at e;exact g3.sub b u e,λb e=>by
  by_cases hb:b=p
  .subst hb;exact .inr hp
  .rw[aI hb]at e;exact g3.new b e];exact q _ _ _ ((G.go m (G.own.grow g4) G.no).V_ m i (.lst (jY.of aP) (r3.mono sm)) hn)
end
end L2
namespace L2
open PySem PySem.Spec PyProof.Rows PySem.W
variable{a p:J}{kb:Bool}{e:fq}{D:Ends}{tg:bY}{H:Hp}{l:!((O×O)×Int)}{elts es:!bY}{ds:!U}{ns:!O}{vs xs:!V}{k:Nat}{R':OR}{Q:Option M->aU->Prop}{p0 p1 pc pt En px tp:Pos}{P:bW}{d:U}{K:ai}{r:R2}{f x y z:O}{tn:String}{w:cP}
section
variable{X:Cx}{B0 B H0 H:Hp}{σ:St}{δ:!Slot}{R S1 S2 F:OR}{a b e:bY}{d d1 d2:U}{pos:Pos}
theorem OF.tr{A C D:OR}(mC:bM C)(G:OF X.K B0 B (Sep A (Sep C D)) H0 H σ δ):OF X.K B0 B (Sep C (Sep A D)) H0 H σ δ:=by let#[as,g,back]:=OF.frame mC G.rot.swap;exact(back g.swap).swap
def XE(X:Cx)(B0 B:Hp)(σ:St)(δ:!Slot)(R:OR)(e:bY)(R':OR)(d:U):Prop:=
 ∀(F:OR),bM F->∀H0 H,OF X.K B0 B (Sep R F) H0 H σ δ->∀Q:V->Hp->Prop,(∀v Ha Hb,OF X.K B0 B (Sep (kF X.K d v) (Sep R' F)) Ha Hb σ δ->Q v Hb)->cE X e σ H Q
theorem OF.newD{v:V}(m:bM R)(G:OF X.K B0 B R H0 H σ δ){Ha Hb:Hp}(g:di H0 H Ha Hb)(r:Rep X.K Ha v d):OF X.K B0 B (Sep (kF X.K d v) R) Ha Hb σ δ:=
 OF.new m G (λ_ _ _=>#[[],(λa ha=>by cases ha),Y,r]) g
theorem iB(m:bM R)(h:VE X e δ d):XE X B0 B σ δ R e R d:=λF mF H0 H G Q q=>h H0 H σ H0 H Q G.own λv Ha Hb g r=>q v Ha Hb (G.newD (Sep.mono m mF) g r)
theorem Zr(pe:PE X e (Xa r (cE X a) (cE X b)))(hd:zO X.K r d1 d2 d)(m1:bM S1)(m2:bM S2)(h1:XE X B0 B σ δ R a S1 d1)(h2:XE X B0 B σ δ S1 b S2 d2):XE X B0 B σ δ R e S2 d:=λF mF H0 H G Q q pins s I=>
 pe pins s σ H Q I (h1 F mF H0 H G _ λv Ha Hb G1=>h2 (Sep (kF X.K d1 v) F) (Sep.mono kF.mono mF) Ha Hb (G1.tr m1) _ λu Hc Hd G2=>by let#[r2,G3]:=G2.dat (Sep.mono m2 (Sep.mono kF.mono mF));let#[r1,G4]:=(G3.tr kF.mono).dat (Sep.mono m2 mF);exact hd v u Hc Hd Q G4.fr.sub r1 r2 λw He Hf g r3=>q w He Hf (G4.newD (Sep.mono m2 mF) g r3))
theorem uN{op:Operator}(ho:uj X (binaryOp op) r)(hd:zO X.K r d1 d2 d)(m1:bM S1)(m2:bM S2)(h1:XE X B0 B σ δ R a S1 d1)(h2:XE X B0 B σ δ S1 b S2 d2):XE X B0 B σ δ R (.BinOp a op b pos) S2 d:=Zr (Eo ho cA cA) hd m1 m2 h1 h2
theorem Cd(ho:M6 X r)(hd:zO X.K r d1 d2 d)(m1:bM S1)(m2:bM S2)(h1:XE X B0 B σ δ R a S1 d1)(h2:XE X B0 B σ δ S1 b S2 d2)(hs:oX b:=by intro _ _;rfl):XE X B0 B σ δ R (.Subscript a b pos) S2 d:=Zr (M7 ho cA cA hs) hd m1 m2 h1 h2
theorem Dv{S:Type}{PR:J->S->OR}{ok:S->!U->S->UV->Prop}{s s':S}(Ma:a_ X.prog X.w X.K X.mg X.base k f ns (Af X.K S PR ok))(hr:eL k X.A)(mR:bM (PR p s))(i:Nat)(hi:δ[i]?>>(.ref p))(ha:∀F,bM F->Xo X B0 B (Sep (PR p s) F) σ δ es ds)(hok:ok s ds s' (kF X.K d))
  (hN:u5 X i x:=by ac_rfl)
  (hg:Gl X f:=by rfl)(p5:uZ f:=by decide)(he:starEach (.Name x p0::es) X.env=(false,eval (.Name x p0) X.env)::starEach es X.env:=by rfl)(mw:rQ X pc es:=by rfl):
  XE X B0 B σ δ (PR p s) (.Call (.Name f p1) (.Name x p0::es) [] pc) (PR p s') d:=λF mF H0 H G Q q=>J3 Ma hr mR mF G i hi (ha F mF) hok q hN hg p5 he mw
def Ov(K:ai)(ds:!U)(vs:!V):OR:=λH0 _ as=>as=[]/\bQ K H0 vs ds
theorem OF.Ow(G:OF X.K B0 B (Sep (Ov X.K ds vs) R) H0 H σ δ):bQ X.K H0 vs ds/\OF X.K B0 B R H0 H σ δ:=by let#[_,h1,a1,a2,rfl,dj,#[rfl,h2],h3]:=G.ex;exact#[h2,G.fr,G.no,a2,λa ha=>h1 a ↑ha,h3]
theorem OF.Tz(m:bM R)(G:OF X.K B0 B R H0 H σ δ){Ha Hb:Hp}(g:di H0 H Ha Hb)(r:bQ X.K Ha vs ds):OF X.K B0 B (Sep (Ov X.K ds vs) R) Ha Hb σ δ:=
 OF.new m G (λ_ _ _=>#[[],(λa ha=>by cases ha),Y,r]) g
def XA(X:Cx)(B0 B:Hp)(σ:St)(δ:!Slot)(R:OR)(es:!bY)(R':OR)(ds:!U):Prop:=
 ∃t,PA X es t/\∀(F:OR),bM F->∀H0 H,OF X.K B0 B (Sep R F) H0 H σ δ->∀Q:!V->Hp->Prop,(∀vs Ha Hb,OF X.K B0 B (Sep (Ov X.K ds vs) (Sep R' F)) Ha Hb σ δ->Q vs Hb)->t σ H Q
theorem lX(m:bM R):XA X B0 B σ δ R [] R []:=#[_,dP,λF mF H0 H G Q q=>q [] H0 H (G.Tz (Sep.mono m mF) (.refl G.fr.sub) .nil)]
theorem eQ(m1:bM S1)(m2:bM S2)(h:XE X B0 B σ δ R e S1 d)(ha:XA X B0 B σ δ S1 es S2 ds)(he:lF X e es:=by rfl):XA X B0 B σ δ R (e::es) S2 (d::ds):=by let#[t,pt,qt]:=ha;refine#[_,cC cA pt he,λF mF H0 H G Q q=>h F mF H0 H G _ λv Ha Hb G1=>qt (Sep (kF X.K d v) F) (Sep.mono kF.mono mF) Ha Hb (G1.tr m1) _ λvs Hc Hd G2=>?_];let#[rs,G3]:=G2.Ow;let#[r,G4]:=(G3.tr kF.mono).dat (Sep.mono m2 mF);exact q (v::vs) Hc Hd (G4.Tz (Sep.mono m2 mF) (.refl G4.fr.sub) (.cons r rs))
theorem Ag{x1}(m:bM S1)(h:XA X B0 B σ δ R es S1 ds)(hz:ds.length<=sizeLine:=by(simp only[dq];rw[cL];decide)):XE X B0 B σ δ R (.Tuple es x1 pos) S1 (.tuple ds):=by
 let#[t,p,ht]:=h;exact λF mF H0 H G Q q pins s I=>zH p pins s σ H Q I (ht F mF H0 H G _ λvs Ha Hb G1=>by let#[rs,G2]:=G1.Ow;exact#[[rs.length]▸hz,λa ha=>q _ _ _ (G2.newD (Sep.mono m mF) (.laid G2.fr.sub ha) (.tup (nG.of aP) (rs.mono (di.laid G2.fr.sub ha).eE)))])
theorem Zt(m:bM S1)(h:XA X B0 B σ δ R es S1 ds)(hz:ds.length<=sizeLine:=by(simp only[dq];rw[cL];decide)):XE X B0 B σ δ R (.List es pos) S1 (.list ds):=by
 let#[t,p,ht]:=h;exact λF mF H0 H G Q q pins s I=>wZ p pins s σ H Q I (ht F mF H0 H G _ λvs Ha Hb G1=>by let#[rs,G2]:=G1.Ow;exact#[[rs.length]▸hz,λa ha=>q _ _ _ (G2.newD (Sep.mono m mF) (.laid G2.fr.sub ha) (.lst (jY.of aP) (rs.mono (di.laid G2.fr.sub ha).eE)))])
theorem zp{S:Type}{PR:J->S->OR}{ok:S->!U->S->UV->Prop}{s s1 s':S}(Ma:a_ X.prog X.w X.K X.mg X.base k f ns (Af X.K S PR ok))(hr:eL k X.A)(mR:bM (PR p s1))(i:Nat)(hi:δ[i]?>>(.ref p))(ha:XA X B0 B σ δ (PR p s) es (PR p s1) ds)(hok:ok s1 ds s' (kF X.K d))
  (hN:u5 X i x:=by ac_rfl)
  (hg:Gl X f:=by rfl)(p5:uZ f:=by decide)(he:starEach (.Name x p0::es) X.env=(false,eval (.Name x p0) X.env)::starEach es X.env:=by rfl)(mw:rQ X pc es:=by rfl):
  XE X B0 B σ δ (PR p s) (.Call (.Name f p1) (.Name x p0::es) [] pc) (PR p s') d:=λF mF H0 H G Q q pins s0 I=>by let#[fa,fd,Fn,hm,hk,hb]:=Ma;let#[t,pa,qa]:=ha;refine qE Fn hr hg hm hk hb .nil x8 (cC (xZ hN) pa he) p5 he mw pins s0 σ H Q I ?_;refine#[.ref p,G.fr.slot i _ hi,?_];refine qa F mF H0 H G _ λvs H1 cY G1=>?_;let#[rs,G2]:=G1.Ow;show Af _ _ _ _ ((V.ref p::vs) ++ []) _ _ _;rw[bC];let#[as,w1,w2,w3]:=Oo (Ua:=kF X.K d) mR mF G2 (.refl G2.fr.sub) q;exact#[H1,p,vs,as,s1,s',ds,kF X.K d,Y,G2.fr.sub,rs,w1,w2,hok,w3]
theorem vi(mE:bM R')(h:XE X B0 B σ δ R e R' d)(G:OF X.K B0 B R H0 H σ δ){Q:V->Hp->Prop}(q:∀v Ha Hb,Rep X.K Ha v d->OF X.K B0 B R' Ha Hb σ δ->Q v Hb):cE X e σ H Q:=
 h EM EM.mono H0 H G.em Q λv Ha Hb G1=>by let#[r,G2]:=G1.dat (Sep.mono mE EM.mono);exact q v Ha Hb r G2.em'
theorem kT(i:Nat)(mE:bM R')(h:XE X B0 B σ δ R e R' d)(G:OF X.K B0 B R H0 H σ δ)(w_:noOwn (δ.set i (.val d))=true)(q:∀v Ha Hb,OF X.K B0 B R' Ha Hb (σ.set i (some v)) (δ.set i (.val d))->D.nx (σ.set i (some v)) Hb)
  (hN:X.N.Nodup)(hi:X.N[i]?>>y:=by rfl)(hx:Loc X.env.scope y:=by left)(pL:CN X pos e (.Name y px):=by rfl)(hf:zC X y:=by left):
  cS X (.Assign [.Name y px] e pos) D σ H:=Tw i (vi mE h G λv Ha Hb r G2=>q v Ha Hb (G2.V_ mE i r w_)) hN hi hx pL hf
def XT(X:Cx)(B0 B:Hp)(σ:St)(δ:!Slot)(R:OR)(c:bY)(R':OR)(kb:Bool):Prop:=
 ∀(F:OR),bM F->∀H0 H,OF X.K B0 B (Sep R F) H0 H σ δ->∀Q:Bool->Hp->Prop,(∀Ha Hb,OF X.K B0 B (Sep R' F) Ha Hb σ δ->Q kb Hb)->cT X c σ H Q
theorem Wf{op:CmpOp}(ho:uj X (compareOp op) r)(hd:zO X.K r d1 d2 (.bool kb))(m1:bM S1)(m2:bM S2)(h1:XE X B0 B σ δ R a S1 d1)(h2:XE X B0 B σ δ S1 b S2 d2)(hm:behindInMarks op b=false):XT X B0 B σ δ R (.Compare a [op] [b] pos) S2 kb:=λF mF H0 H G Q q pins s I=>
 CZ ho cA cA hm pins s σ H Q I (h1 F mF H0 H G _ λv Ha Hb G1=>h2 (Sep (kF X.K d1 v) F) (Sep.mono kF.mono mF) Ha Hb (G1.tr m1) _ λu Hc Hd G2=>by let#[r2,G3]:=G2.dat (Sep.mono m2 (Sep.mono kF.mono mF));let#[r1,G4]:=(G3.tr kF.mono).dat (Sep.mono m2 mF);exact hd v u Hc Hd _ G4.fr.sub r1 r2 λw He Hf g r3=>by cases r3;exact#[_,Y,q He Hf (G4.newD (d:=.none) (v:=.non) (Sep.mono m2 mF) g .non |>.dat (Sep.mono m2 mF)).2])
theorem Zu(mE:bM R')(h:XT X B0 B σ δ R c R' kb)(G:OF X.K B0 B R H0 H σ δ)(qT:kb=true->∀Ha Hb,OF X.K B0 B R' Ha Hb σ δ->Ed X body D σ Hb)(qF:kb=false->∀Ha Hb,OF X.K B0 B R' Ha Hb σ δ->Ed X orelse D σ Hb):
  cS X (.If c body orelse pos) D σ H:=λpins s0 I=>by
 cases kb with
 |true=>refine x3 ou kY jZ pins s0 σ H D I ?_;exact h EM EM.mono H0 H G.em _ λHa Hb G1=>QQ (qT Y Ha Hb G1.em')
 |false=>refine x3 ou jZ kY pins s0 σ H D I ?_;exact h EM EM.mono H0 H G.em _ λHa Hb G1=>QP (qF Y Ha Hb G1.em')
theorem Ah{pa: Pos}{a:J}(mR:bM R)(mE:bM R')(G:OF X.K B0 B (Sep (LR X.K a ds) R) H0 H σ δ)(i:Nat)(hi:δ[i]?>>(.ref a))(h:XE X B0 B σ δ R e R' d)(hl:ds.length<sizeLine)(q:∀Ha Hb,OF X.K B0 B (Sep (LR X.K a (ds ++ [d])) R') Ha Hb σ δ->D.nx σ Hb)
  (hN:u5 X i x:=by ac_rfl)
  (gM:y6 X (.Name x px) "append":=by rfl)
  (hs:lF X e []:=by rfl)
  (om:Mx X pc [e]:=by rfl)
  (hline:(pa.endLine==pc.line)=true:=by rfl)(gN:rQ X pc []:=by rfl)(pL:XM X pos (.Call (.Attribute (.Name x px) "append" pa) [e] [] pc):=by rfl):
  cS X (.Expr (.Call (.Attribute (.Name x px) "append" pa) [e] [] pc) pos) D σ H:=λpins s I=>by let#[_,_,rfl,xs,h1,h2]:=G.at;refine oV (sE dZ fM fN lS (xZ hN) (cC cA dP hs) gM om hline hs gN) pL pins s σ H D I ?_;refine#[.ref a,G.fr.slot i _ hi,.inl #[Y,_,jY.of h1],?_];refine h (LR X.K a ds) LR.mono H0 H G.swap _ λv Ha Hb G1=>?_;let#[r,G2]:=G1.dat (Sep.mono mE LR.mono);let G3:=G2.swap;let#[_,_,_,ys,k1,k2]:=G3.at;refine#[a,ys,v,Y,Y,k1,[k2.length]▸hl,q Ha _ ?_];exact G3.putL LR.mono mE (.refl G3.fr.sub) λas #[e,_]=>#[by rw[e];simp,as,λ_ z=>z,e,_,aP,k2.append (.cons r .nil)]
def XI(X:Cx)(B0 B:Hp)(σ:St)(δ:!Slot)(R:OR)(tg iter:bY)(R':OR)(ds:!U):Prop:=
 ∃wi,PI X tg iter wi/\∀(F:OR),bM F->∀H0 H,OF X.K B0 B (Sep R F) H0 H σ δ->∀Q:It->Hp->Prop,(∀Ja Ha Hb,OF X.K B0 B (Sep R' F) Ha Hb σ δ->ItD X.K Ja Ha ds->Q Ja Hb)->wi σ H Q
theorem wg{p:Pos}{n:Int}(mE:bM S1)(h:XE X B0 B σ δ R a S1 (.int n))(hm:X.mg "range"=none)(h1:-(2^62)<=n)(h2:n<2^62)(hg:Gl X "range":=by rfl)(hs:starEach [a] X.env=[(false,eval a X.env)]:=by rfl):XI X B0 B σ δ R tg (.Call (.Name "range" p) [a] [] pos) S1 (gy n.toNat):=
 #[_,BO hg hm (cC cA dP hs) hs,λF mF H0 H G Q q=>h F mF H0 H G _ λv H1 cY G1=>by
  let#[r,G2]:=G1.dat (Sep.mono mE mF);cases r;refine#[n,Y,h1,h2,q _ H1 cY G2 λHa Hb s1 s2 i=>#[λhi=>(show i<n.toNat from by simpa[gy]using hi),λhi=>(show n.toNat<=i from by simpa[gy]using hi),λx wJ d hd #[e,y]=>?_]];subst e;subst y;unfold gy at hd;rw[ay]at hd;let hi:i<n.toNat:=by
   rcases Nat.lt_or_ge i n.toNat with z|z
   .exact z
   .rw[eO ↑z]at hd;cases hd
  rw[kK hi]at hd;cases hd;exact#[Ha,.refl s2,[Int.zero_add]▸.int _]]
theorem RD(mE:bM S1)(h:XE X B0 B σ δ R a S1 (.list ds)):XI X B0 B σ δ R tg a S1 ds:=#[_,Jk cA,λF mF H0 H G Q q=>h F mF H0 H G _ λv H1 cY G1=>by
 let#[r,G2]:=G1.dat (Sep.mono mE mF);cases r with
 |lst hq r=>
  refine#[_,Y,#[_,G2.fr.sub.seq hq],q _ H1 cY G2 λHa Hb s1 s2 i=>?_];let hl:=r.length;let hS:=(s1.trans s2).seq hq;refine#[λhi=>?_,λhi=>#[_,hS,()],λx wJ d hd #[e,y]=>?_]
  .let#[x,hx,_]:=r.get (i:=i) (d:=ds[i]) (by simp[hi]);exact#[_,x,hS,hx]
  .subst e;exact#[Ha,.refl s2,(r.mono s1).at hd (y _ hS)]]
theorem Ox(Rs:Nat->OR)(δs:Nat->!Slot)(m:∀k,bM (Rs k))(G:OF X.K B0 B R H0 H σ (δs 0))(hp:uz (model X.prog X.w) X.A X.env X.xe)(hc:X.calm=true)(hi:XI X B0 B σ (δs 0) R tg iter (Rs 0) ds)(hg:PG X tg (Gv X.K tgt))
  (step:∀k d,ds[k]?>>d->∃δ',sO tgt d (δs k)>>δ'/\noOwn δ'=true/\∀(D:Ends)C0 σ' c9 H',OF X.K C0 B (Rs k) c9 H' σ' δ'->(∀σ2 Ha Hb,OF X.K C0 B (Rs (k+1)) Ha Hb σ2 (δs (k+1))->D.nx σ2 Hb)->Ed X body D σ' H')
  (q:∀σ2 Ha Hb,OF X.K B0 B (Rs ds.length) Ha Hb σ2 (δs ds.length)->D.nx σ2 Hb)
  (hs:Jf X iter:=by intro _;rfl):cS X (.For tg iter body [] pos) D σ H:=λpins s I=>by
 let#[wi,pi,qi]:=hi;refine zE hp hc pi hg kY hs pins s σ H D I ?_;refine qi EM EM.mono H0 H G.em _ λJa H1 cY G0 it=>?_;let G1:=G0.em';refine#[λi mm σ' H'=>i<=ds.length/\mm=ds.length-i/\∃Ha,OF X.K H1 B (Rs i) Ha H' σ' (δs i),#[ds.length,aY _,Y,H1,G1.from #[G1.fr.ent.big,cy.refl _,G1.fr.sub,λ_ z=>.inl z]],?_];rintro i mm σ' H' ⟨hi,rfl,Ha,Ga⟩;let#[i1,i2,i3]:=it Ha H' Ga.fr.ent.eE Ga.fr.sub i;by_cases ng:i<ds.length
 .let hd:ds[i]?>>ds[i]:=by simp[ng]
  let#[δ',e1,e2,e3]:=step i _ hd;refine .inr #[i1 ng,λσ'' wJ=>∃Hb,OF X.K H1 B (Rs (i+1)) Hb wJ σ'' (δs (i+1)),λσ'' wJ #[Hb,z]=>#[ds.length-(i+1),(),ng,Y,Hb,z],λv H2 y=>?_];let#[Hb,g2,rx]:=i3 v H2 _ hd y;refine pN (Ga.own.grow g2) rx e1 λσ3 f3=>?_;exact e3 _ H1 σ3 Hb H2 (Ga.go (m i) f3 e2) λσ2 Hc Hd z=>#[Hc,z]
 .let e:i=ds.length:=();subst e;refine .inl #[i2 (aE _),q σ' Ha H' (Ga.from #[Ga.fr.ent.big,G1.fr.ent.eE.trans Ga.fr.ent.eE,Ga.fr.sub,λb z=>?_])];rcases Ga.fr.ent.new b z with z|z
  .exact G1.fr.ent.new b z
  .exact .inr z
end
def keepR:Slot->Slot
 | .val d=>.val d
 | .ref p=>.ref p
 |_=>.un
def kG(own:!O)(cap:!Nat)(δ:!Slot):!Slot:=bo own.length .un++cap.map λi=>keepR (δ.getD i .un)
section
variable{σ:St}{δ:!Slot}
theorem fK.Zv{H B0 B H0:Hp}{K:ai}(f:fK K B0 B H0 H σ δ)(own:!O)(cap:!Nat):fK K B0 B H0 H (kP own cap σ) (kG own cap δ):=by
 let noOwn:∀(i:Nat)ds,(kG own cap δ)[i]?≠some (.own ds):=λi ds e=>by
  unfold kG at e;by_cases hi:i<own.length
  .rw[bN ↑hi,cK]at e;split at e<;>cases e
  .rw[bF ↑(eI hi),ay]at e;cases q:cap[i-(bo own.length Slot.un).length]? with
   |none=>rw[q]at e;cases e
   |some j=>rw[q]at e;simp only[dJ,eY]at e;revert e;cases δ.getD j .un<;>(intro e;cases e)
 refine#[f.ent,by simp[kP,kG],λi sl e=>?_,λi j ds es p _ a1=>qQ7 a1 (noOwn i ds)];unfold kG at e;unfold kP;by_cases hi:i<own.length
 .rw[bN ↑hi,cK]at e;split at e<;>cases e<;>trivial
 .rw[bF ↑(eI hi),ay,dY]at e;rw[bF ↑(eI hi),ay,dY];cases q:cap[i-own.length]? with
  |none=>rw[q]at e;cases e
  |some j=>
   rw[q]at e;simp only[dJ,eY]at e ⊢;cases w:δ[j]? with
   |none=>rw[aQ,w]at e;subst e;trivial
   |some UO=>
    rw[aQ,w]at e;cases UO with
    |un=>subst e;trivial
    |ref a=>subst e;let h1:=f.slot j _ w;show some (σ.getD j none)=_;rw[aQ,show σ[j]?>>(some (.ref a))from h1];rfl
    |own ds=>subst e;trivial
    |val d=>subst e;let#[v,h1,h2]:=f.slot j _ w;exact#[v,by rw[aQ,h1];rfl,h2]
end
theorem Ai(ht:qc own.length tgt=true)(h:sO tgt d (kG own cap δ)>>δ'):
  δ'.length=(kG own cap δ).length/\∀(i:Nat)sl,(kG own cap δ)[i]?>>sl->sl=.un\/δ'[i]?>>sl:=by
 let low:∀(i:Nat)sl,i<own.length->(kG own cap δ)[i]?>>sl->sl=.un:=λi sl hi e=>by unfold kG at e;rw[bN ↑hi,cK]at e;split at e<;>cases e<;>rfl
 cases tgt with
 |one i=>
  cases h;refine#[∅,λj sl e=>?_];let hi:i<own.length:=by simpa[qc]using ht
  by_cases hj:j<own.length
  .exact .inl (low j sl hj e)
  .exact .inr ([aO ()]▸e)
 |tup is=>
  cases d with
  |tuple ds=>
   let h':(if ds.length=is.length then some (pM is ds (kG own cap δ))else none)>>δ':=h;by_cases hl:ds.length=is.length
   .rw[qQ3 hl]at h';cases h';refine#[pO _ _ _,λj sl e=>?_];by_cases hj:j<own.length
    .exact .inl (low j sl hj e)
    .refine .inr ?_;rw[vg _ _ _ _ λz=>hj ?_]
     .exact e
     .let:=cV.mp ht j z;simpa using this
   .rw[qQ2 hl]at h';cases h'
  |_=>cases h
def yi(K:ai)(a:J)(xs:!V)(ds:!U):OR:=λH0 H as=>as=[a]/\H a>>(.lst xs)/\bQ K H0 xs ds
theorem yi.mono:bM (yi K a xs ds):=λH0 H Ha Hb as #[e,h,r] sm hb=>#[e,by rw[hb a (by rw[e];simp)];exact h,r.mono sm]
section
theorem Oy(Rs:Nat->OR)(out:Nat->U)(m:∀k,bM (Rs k))(hc:X.calm=true)(CS:iM X sc own cap N cl)(hi:XI X B0 B σ δ R tg iter (Rs 0) ds)(hg:∀f s3 H3,PG (eZ X sc N cl f s3 H3) tg (Gv X.K tgt))(ht:qc own.length tgt=true)(hz:ds.length<=sizeLine)(w_:noOwn (kG own cap δ)=true)
  (step:∀k d,ds[k]?>>d->∃δ',sO tgt d (kG own cap δ)>>δ'/\noOwn δ'=true/\∀f s3 H3 C0 C σ',XE (eZ X sc N cl f s3 H3) C0 C σ' δ' (Rs k) elt (Rs (k+1)) (out k))
  (hs:Jf X iter:=by intro _;rfl):XE X B0 B σ δ R (.ListComp elt [#[tg,iter,[],0]] sc pos) (Rs ds.length) (.list ((cv ds.length).map out)):=by
 let#[wi,pi,qi]:=hi;intro F mF H0 H G Q q pins s I;refine Ju (tc:=K4) (te:=teC X sc N cl elt) hc CS pi hg (λf s3 H3=>De) (λf s3 H3 pins s σ H Q I h=>h f s3 H3 pins s I) hs pins s σ H Q I ?_;refine qi F mF H0 H G _ λJa H1 cY G1 it=>?_;intro D hD;let hD1:H1 D=none:=G1.fr.sub.free hD;let Ma:∀i (ys:!V) (es:!U),bM (Sep (yi X.K D ys es) (Sep (Rs i) F)):=λi ys es=>Sep.mono yi.mono (Sep.mono (m i) mF);let G2:OF X.K B0 B (Sep (yi X.K D [] []) (Sep (Rs 0) F)) H1 (upd cY D (.lst [])) σ δ:=G1.add (Sep.mono (m 0) mF) (.loose G1.fr.sub hD) hD hD1 aP #[Y,aP,.nil];let G3:OF X.K B0 B (Sep (yi X.K D [] []) (Sep (Rs 0) F)) H1 (upd cY D (.lst [])) (kP own cap σ) (kG own cap δ):=G2.go (Ma 0 [] []) (G2.own.Zv own cap) w_;refine#[λi mm ys σ' H'=>i<=ds.length/\mm=ds.length-i/\∃Ha,OF X.K H1 B (Sep (yi X.K D ys ((cv i).map out)) (Sep (Rs i) F)) Ha H' σ' (kG own cap δ),#[ds.length,aY _,Y,H1,G3.from #[G3.fr.ent.big,cy.refl _,G3.fr.sub,λ_ z=>.inl z]],?_];rintro i mm ys σ' H' ⟨hi,rfl,Ha,Ga⟩;let#[i1,i2,i3]:=it Ha H' Ga.fr.ent.eE Ga.fr.sub i;by_cases ng:i<ds.length
 .let hd:ds[i]?>>ds[i]:=by simp[ng]
  let#[δ',e1,e2,e3]:=step i _ hd;let#[k1,k2]:=Ai ht e1;refine .inr #[i1 ng,λx H2 y=>?_];let#[Hb,g2,rx]:=i3 x H2 _ hd y;refine pN (Ga.own.grow g2) rx e1 λσ3 f3=>?_;simp only[K4,if_true];intro fp s3 H3;let Gb:=Ga.go (Ma i _ _) f3 e2;refine e3 fp s3 H3 H1 B σ3 (Sep (yi X.K D ys ((cv i).map out)) F) (Sep.mono yi.mono mF) Hb H2 (Gb.tr (m i)) _ λv Hc Hd Gc=>?_;let#[r,Gd]:=Gc.dat (Sep.mono (m (i+1)) (Sep.mono yi.mono mF));let Ge:=Gd.tr yi.mono;let#[_,_,_,_,rfl,_,#[_,l1,l2],_]:=Ge.ex;let hly:=l2.length;rw[ae,cW]at hly;refine#[l1,(),ds.length-(i+1),(),ng,Y,Hc,?_];let er:(cv (i+1)).map out=(cv i).map out ++ [out i]:=by rw[sj,aH];rfl
  rw[er];let Gf:OF X.K H1 B (Sep (yi X.K D (ys ++ [v]) ((cv i).map out ++ [out i])) (Sep (Rs (i+1)) F)) Hc (upd Hd D (.lst (ys ++ [v]))) σ3 δ':=
   Ge.putL yi.mono (Sep.mono (m (i+1)) mF) (.refl Ge.fr.sub) λas #[z1,z2,z3]=>#[by rw[z1];simp,as,λ_ z=>z,z1,aP,z3.append (.cons r .nil)];exact Gf.go (Sep.mono yi.mono (Sep.mono (m (i+1)) mF)) (Gf.own.forget k1.symm k2) w_
 .let e:i=ds.length:=();subst e;refine .inl #[i2 (aE _),q (.ref D) (upd Ha D (.lst ys)) H' ?_];let#[as,own,a1,a2,rfl,dj,#[rfl,l1,l2],W]:=Ga.ex;let Ti:Ha D=none:=(own D ∅).1;let sm:cy Ha (upd Ha D (.lst ys)):=λb u e=>[aI (bu e Ti)]▸e;let TB:cy H1 (upd Ha D (.lst ys)):=Ga.fr.ent.eE.trans sm;refine#[#[#[Ga.fr.ent.big,G1.fr.ent.eE.trans TB,λb u e=>?_,λb z=>?_],G1.fr.len,λj sl e=>?_,G1.fr.apart],G1.no,a2,λa ha=>?_,[],a2,Y,(λa ha=>by cases ha),#[Y,.lst (jY.of aP) (l2.mono sm)],Sep.mono (m _) mF _ _ _ _ _ W sm λ_ _=>rfl]
  .by_cases hb:b=D
   .subst hb;rw[aP]at e;rw[<-e];exact l1
   .rw[aI hb]at e;exact Ga.fr.sub b u e
  .by_cases hb:b=D
   .subst hb;exact .inr (own b ∅).2.1
   .rw[aI hb]at z;rcases Ga.fr.ent.new b z with z|z
    .exact G1.fr.ent.new b z
    .exact .inr z
  .let w:=G1.fr.slot j sl e;cases sl with
   |un=>trivial
   |val d=>let#[v,w1,w2]:=w;exact#[v,w1,w2.mono TB]
   |ref p=>exact w
   |own es=>exact qQ7 e (fZ G1.no j es)
  .let nd:a≠D:=λz=>dj D ∅ ([<-z]▸ha);let#[o1,o2,o3]:=own a (by simp[ha]);exact#[[aI nd]▸o1,o2,o3]
end
theorem bQ.Zw:∀{xs:!V}{ds:!U}(j:Nat){v:V}{d:U},bQ K H xs ds->Rep K H v d->bQ K H (xs.set j v) (ds.set j d)
 |_,_,_,_,_,.nil,_=>.nil
 |_,_,0,_,_,.cons _ t,r=>.cons r t
 |_,_,j+1,_,_,.cons a t,r=>.cons a (bQ.Zw j t r)
section
variable{X:Cx}{b e:bY}{d:U}{px:Pos}{a:J}{ds:!U}{x:O}
theorem RG{D:Ends}{H B0 B H0:Hp}{δ:!Slot}{σ:St}{F:OR}{pos:Pos}{j:Nat}(mF:bM F)(G:OF X.K B0 B (Sep (LR X.K a ds) F) H0 H σ δ)(i:Nat)(hi:δ[i]?>>(.ref a))(hb:VE X b δ (.int (j:Nat)))(hj:j<ds.length)(hv:Xn X B0 B (Sep (LR X.K a ds) F) σ δ e d)(q:∀Ha Hb,OF X.K B0 B (Sep (LR X.K a (ds.set j d)) F) Ha Hb σ δ->D.nx σ Hb)
  (hN:u5 X i x:=by ac_rfl)(hs:swapsWithSole [.Subscript (.Name x px) b tp] e pos.line X.env=pure false:=by rfl)(hw:swappedStores [.Subscript (.Name x px) b tp] e X.env=pure none:=by rfl)
  (h1:(assignEach [.Subscript (.Name x px) b tp] X.env).map (·.2)=[assign (.Subscript (.Name x px) b tp) X.env]:=by rfl)
  (ha:∀v,assign (.Subscript (.Name x px) b tp) X.env v=(do
   let ov <-holding [v] (eval (.Name x px) X.env)
   let iv <-holding [v,ov] (eval b X.env)
   standAt tp
   holding [v,ov,iv] (setItem ov iv v)
   release [v,ov,iv] []):=by intro _;rfl):cS X (.Assign [.Subscript (.Name x px) b tp] e pos) D σ H:=λpins s I=>by let m:bM (Sep (LR X.K a ds) F):=Sep.mono LR.mono mF;refine MQ cA (GN (xZ hN) cA set_list ha) hs hw h1 pins s σ H D I (hv H0 H G _ λv H1 cY g r=>?_);let G1:=G.go m (G.own.grow g) G.no;refine#[.ref a,G1.fr.slot i _ hi,hb H1 cY σ H1 cY _ G1.own λv2 H2 f9 g2 r2=>?_];cases r2;let G2:=G1.go m (G1.own.grow g2) G1.no;let#[_,_,rfl,xs,k1,k2]:=G2.at;let hl:=k2.length;refine#[a,xs,_,j,Y,Y,k1,?_,q H2 _ (G2.putL LR.mono mF (.refl G2.fr.sub) λas #[e,_]=>#[by rw[e];simp,as,λ_ z=>z,e,_,aP,bQ.Zw j k2 (r.mono g2.eE)])];rw[hl];unfold Mz;rw[qQ3 (),qQ3 (),cN]
end
theorem Sep.qP(h:Sep R (Sep F R3) H0 H as):Sep (Sep R F) R3 H0 H as:=by
 let#[a1,_,rfl,dj,h1,a2,a3,rfl,dk,h2,h3]:=h;exact#[a1++a2,a3,∅,λa ha z=>by
  rcases aT.mp ha with y|y
  .exact dj a y (by simp[z])
  .exact dk a y z,#[a1,a2,Y,λa ha z=>dj a ha (by simp[z]),h1,h2],h3]
section
variable{X:Cx}{B0 B H0 H:Hp}{σ:St}{δ:!Slot}{R S1 S2 F La:OR}{a b e:bY}{d:U}{pos:Pos}
theorem RH{S:Type}{PR:J->S->OR}{ok:S->!U->S->UV->Prop}{s s':S}(Ma:a_ X.prog X.w X.K X.mg X.base k f ns (Af X.K S PR ok))(hr:eL k X.A)(mR:bM (PR p s))(mL:bM La)(i:Nat)(hi:δ[i]?>>(.ref p))(ha:∀F,bM F->Xo X B0 B (Sep (PR p s) (Sep La F)) σ δ es ds)(hok:ok s ds s' (kF X.K d))
  (hN:u5 X i x:=by ac_rfl)
  (hg:Gl X f:=by rfl)(p5:uZ f:=by decide)(he:starEach (.Name x p0::es) X.env=(false,eval (.Name x p0) X.env)::starEach es X.env:=by rfl)(mw:rQ X pc es:=by rfl):
  XE X B0 B σ δ (Sep (PR p s) La) (.Call (.Name f p1) (.Name x p0::es) [] pc) (Sep (PR p s') La) d:=λF mF H0 H G Q q=>J3 Ma hr mR (Sep.mono mL mF) G.assoc i hi (ha F mF) hok (λv Ha Hb G1=>q v Ha Hb (G1.zde λ_=>Sep.qP)) hN hg p5 he mw
theorem Wh{ap:Pos}{zs:!O}(m1:bM S1)(m2:bM S2)(h1:XE X B0 B σ δ R a S1 (.str y))(h2:XE X B0 B σ δ S1 b S2 (.list (zs.map .str)))(hz:(zs.map (·.length)).sum+zs.length*y.length<=16777216)
  (hs:lF X b []:=by rfl)(gM:y6 X a "join":=by rfl)
  (om:Mx X pos [b]:=by rfl)
  (hline:(ap.endLine==pos.line)=true:=by rfl)(gN:rQ X pos []:=by rfl):XE X B0 B σ δ R (.Call (.Attribute a "join" ap) [b] [] pos) S2 (.str (bB y zs)):=λF mF H0 H G Q q pins s I=>
 sE qB D8 D9 JC cA (cC cA dP hs) gM om hline hs gN pins s σ H Q I (h1 F mF H0 H G _ λv H1 cY G1=>by
  let#[r1,G2]:=G1.dat (Sep.mono m1 mF);cases r1;refine#[Y,h2 F mF H1 cY G2 _ λu H2 f9 G3=>?_];let#[r2,G4]:=G3.dat (Sep.mono m2 mF);cases r2 with
  |lst hq rs=>let e:=rs.strs;subst e;exact#[y,_,zs,Y,Y,.inl (G4.fr.sub.seq hq),hz,q _ H2 f9 (G4.newD (Sep.mono m2 mF) (.refl G4.fr.sub) (.str _))])
theorem Wi{pa: Pos}{a:J}(mR:bM R)(mE:bM R')(G:OF X.K B0 B (Sep R (LR X.K a ds)) H0 H σ δ)(i:Nat)(hi:δ[i]?>>(.ref a))(h:XE X B0 B σ δ (Sep R (LR X.K a ds)) e (Sep R' (LR X.K a ds)) d)(hl:ds.length<sizeLine)(q:∀Ha Hb,OF X.K B0 B (Sep R' (LR X.K a (ds ++ [d]))) Ha Hb σ δ->D.nx σ Hb)
  (hN:u5 X i x:=by ac_rfl)
  (gM:y6 X (.Name x px) "append":=by rfl)
  (hs:lF X e []:=by rfl)
  (om:Mx X pc [e]:=by rfl)
  (hline:(pa.endLine==pc.line)=true:=by rfl)(gN:rQ X pc []:=by rfl)(pL:XM X pos (.Call (.Attribute (.Name x px) "append" pa) [e] [] pc):=by rfl):
  cS X (.Expr (.Call (.Attribute (.Name x px) "append" pa) [e] [] pc) pos) D σ H:=λpins s I=>by let#[_,_,rfl,xs,h1,h2]:=G.swap.at;refine oV (sE dZ fM fN lS (xZ hN) (cC cA dP hs) gM om hline hs gN) pL pins s σ H D I ?_;refine#[.ref a,G.fr.slot i _ hi,.inl #[Y,_,jY.of h1],?_];refine vi (Sep.mono mE LR.mono) h G λv Ha Hb r G2=>?_;let G3:=G2.swap;let#[_,_,_,ys,k1,k2]:=G3.at;refine#[a,ys,v,Y,Y,k1,[k2.length]▸hl,q Ha _ (OF.swap ?_)];exact G3.putL LR.mono mE (.refl G3.fr.sub) λas #[e,_]=>#[by rw[e];simp,as,λ_ z=>z,e,_,aP,k2.append (.cons r .nil)]
end
theorem OF.Zx{δ:!Slot}{B0 B H0: Hp}{σ:St}{R:OR}(m:bM R)(G:OF K B0 B (Sep (LR K a ds) R) H0 H σ δ):∃Ha,OF K B0 B (Sep (kF K (.list ds) (.ref a)) R) Ha H σ δ:=by
 let#[as,own,a1,a2,rfl,dj,#[rfl,xs,l1,l2],W]:=G.ex;let Ti:H0 a=none:=(own a ∅).1;let sm:cy H0 (upd H0 a (.lst xs)):=λb u e=>[aI (bu e Ti)]▸e;refine#[upd H0 a (.lst xs),#[#[G.fr.ent.big,G.fr.ent.eE.trans sm,λb u e=>?_,λb z=>?_],G.fr.len,λj sl e=>?_,G.fr.apart],G.no,a2,λc hc=>?_,[],a2,Y,(λc hc=>by cases hc),#[Y,.lst (jY.of aP) (l2.mono sm)],m _ _ _ _ _ W sm λ_ _=>rfl]
 .by_cases hb:b=a
  .subst hb;rw[aP]at e;rw[<-e];exact l1
  .rw[aI hb]at e;exact G.fr.sub b u e
 .by_cases hb:b=a
  .subst hb;exact .inr (own b ∅).2.1
  .rw[aI hb]at z;exact G.fr.ent.new b z
 .let w:=G.fr.slot j sl e;cases sl with
  |un=>trivial
  |val d=>let#[v,w1,w2]:=w;exact#[v,w1,w2.mono sm]
  |ref p=>exact w
  |own es=>exact qQ7 e (fZ G.no j es)
 .let nd:c≠a:=λz=>dj a ∅ ([<-z]▸hc);let#[o1,o2,o3]:=own c (by simp[hc]);exact#[[aI nd]▸o1,o2,o3]
section
variable{X:Cx}{d:U}
theorem RJ{δ:!Slot}{B0 B:Hp}{σ:St}{S:Type}{PR:J->S->OR}{ok:S->!U->S->UV->Prop}{s s':S}{l: J}{p2: Pos}(Ma:a_ X.prog X.w X.K X.mg X.base k f ns (Af X.K S PR ok))(hr:eL k X.A)(mR:bM (PR p s))(Aj:∀Ha Hb Hc as,PR p s' Ha Hb as->PR p s' Hc Hb as)(i j:Nat)(hi:δ[i]?>>(.ref p))(hj:δ[j]?>>(.ref l))(hok:ok s [.list ds] s' (kF X.K d))(hsc:∀Ha Hb v,Rep X.K Ha v d->Rep X.K Hb v d)
  (hN:u5 X i x:=by ac_rfl)
  (hN2:u5 X j y:=by ac_rfl)
  (hg:Gl X f:=by rfl)(p5:uZ f:=by decide)(he:starEach [.Name x p0,.Name y p2] X.env=(false,eval (.Name x p0) X.env)::starEach [.Name y p2] X.env:=by rfl)(Nt:starEach [.Name y p2] X.env=(false,eval (.Name y p2) X.env)::starEach [] X.env:=by rfl)(mw:rQ X pc [.Name y p2]:=by rfl):
  XE X B0 B σ δ (Sep (PR p s) (LR X.K l ds)) (.Call (.Name f p1) [.Name x p0,.Name y p2] [] pc) (Sep (PR p s') (LR X.K l ds)) d:=λF mF H0 H G Q q pins s0 I=>by
 let#[fa,fd,Fn,hm,hk,hb]:=Ma;refine qE Fn hr hg hm hk hb .nil x8 (cC (xZ hN) (cC (xZ hN2) dP Nt) he) p5 he mw pins s0 σ H Q I ?_;refine#[.ref p,G.fr.slot i _ hi,.ref l,G.fr.slot j _ hj,?_];let#[_,own,_,a3,rfl,dj3,#[a1,_,rfl,dj1,W1,rfl,xs,l1,l2],W3]:=G.ex;let nl1:l∉a1:=λz=>dj1 l z ∅;let nl3:l∉a3:=λz=>dj3 l ∅ z;let hl0:H0 l=none:=(own l ∅).1;let sm:cy H0 (upd H0 l (.lst xs)):=λb u e=>[aI (bu e hl0)]▸e;refine#[upd H0 l (.lst xs),p,[.ref l],a1,s,s',[.list ds],kF X.K d,Y,λb u e=>?_,.cons (.lst (jY.of aP) (l2.mono sm)) .nil,λa ha=>?_,mR _ _ _ _ _ W1 sm λ_ _=>rfl,hok,λv Ha Hb as' s1 s2 c1 c2 c3 W=>?_]
 .by_cases z:b=l
  .subst z;rw[aP]at e;rw[<-e];exact l1
  .rw[aI z]at e;exact G.fr.sub b u e
 .let na:a≠l:=λz=>nl1 ([<-z]▸ha);let#[o1,o2,o3]:=own a (by simp[ha]);exact#[[aI na]▸o1,o3]
 .let#[b1,b2,rfl,djb,#[rfl,rv],W2]:=W;let smC:cy H0 (kS Ha l):=λb u e=>by let z:b≠l:=bu e hl0;unfold kS;rw[qQ2 z];exact s1 b u (sm b u e)
  let keep:∀b,b∉a1->H b≠none->Hb b=H b:=λb nb Rj=>by
   cases e:H b with
   |none=>exact qQ7 e Rj
   |some o=>exact c2 b o e nb
  let hBn:∀b,H b=none->B b=none:=λb e=>G.fr.ent.big.free e;let hH3:∀a∈a3,a∉a1/\H a≠none/\a≠l:=λa ha=>#[λz=>dj3 a (by simp[z]) ha,(own a (by simp[ha])).2.2,λz=>nl3 ([<-z]▸ha)];let hHb:Hb l=H l:=keep l nl1 (by rw[l1];simp);refine q v (kS Ha l) Hb #[#[#[λb u e=>?_,G.fr.ent.eE.trans smC,λb u e=>?_,λb z=>?_],G.fr.len,λj' sl e=>?_,G.fr.apart],G.no,b2++([l]++a3),λa ha=>?_,[],_,Y,(λa ha=>by cases ha),#[Y,hsc _ _ _ rv],b2 ++ [l],a3,∅,λa ha z=>?_,#[b2,[l],Y,λa ha z=>?_,Aj _ _ _ _ W2,Y,xs,[hHb]▸l1,l2.mono smC],mF _ _ _ _ _ W3 smC λa ha=>keep a (hH3 a ha).1 (hH3 a ha).2.1]
  .let nb:b∉a1:=λz=>by rw[(own b (by simp[z])).2.1]at e;cases e
   exact c2 b u (G.fr.ent.big b u e) nb
  .unfold kS at e;by_cases z:b=l
   .rw[qQ3 z]at e;cases e
   .rw[qQ2 z]at e;exact s2 b u e
  .unfold kS at z;by_cases zl:b=l
   .rw[qQ3 zl]at z;exact qQ7 Y z
   .rw[qQ2 zl]at z;rcases c1 b z with y|y|y
    .rw[aI zl]at y;exact G.fr.ent.new b y
    .exact .inr (hBn b y)
    .exact .inr (own b (by simp[y])).2.1
  .let w:=G.fr.slot j' sl e;cases sl with
   |un=>trivial
   |val d=>let#[v,w1,w2]:=w;exact#[v,w1,w2.mono smC]
   |ref p=>exact w
   |own es=>exact qQ7 e (fZ G.no j' es)
  .rcases aT.mp ha with h|h
   .let#[o1,o2,o3]:=c3 a ↑h;refine#[by unfold kS;split;rfl;exact o1,?_,o2];rcases o3 with y|y
    .exact(own a (by simp[y])).2.1
    .exact hBn a y
   .rcases aT.mp h with h|h
    .rw[aA]at h;subst h;exact#[by unfold kS;rw[qQ3 Y],(own a ∅).2.1,by rw[hHb,l1];simp]
    .let#[n1,n2,n3]:=hH3 a h;let#[o1,o2,o3]:=own a (by simp[h]);refine#[?_,o2,[keep a n1 n2]▸n2];unfold kS;rw[qQ2 n3];cases e:Ha a with
     |none=>rfl
     |some o=>
      rcases c1 a (by rw[e];simp)with y|y|y
      .rw[aI n3]at y;exact qQ7 o1 y
      .exact qQ7 y n2
      .exact qQ7 y n1
  .let#[n1,n2,n3]:=hH3 a z;rcases aT.mp ha with h|h
   .rcases(c3 a ↑h).2.2 with y|y
    .exact n1 y
    .exact n2 y
   .rw[aA]at h;exact n3 h
  .rw[aA]at z;subst z;rcases(c3 a ↑ha).2.2 with y|y
   .exact nl1 y
   .rw[l1]at y;cases y
end
section
variable{X:Cx}{B0 B H0 H:Hp}{σ:St}{δ:!Slot}{R F:OR}{sc:nT}{own N:!O}{cap:!Nat}{cl:!(O×J)}{elt iter:bY}{ds:!U}{tgt:NC}
theorem Wj{wi:TI}(Rs:Nat->OR)(out:Nat->U)(m:∀k,bM (Rs k))(qi:∀(F:OR),bM F->∀H0 H,OF X.K B0 B (Sep R F) H0 H σ δ->∀Q:It->Hp->Prop,(∀Ja Ha Hb,OF X.K B0 B (Sep (Rs 0) F) Ha Hb σ δ->ItD X.K Ja Ha ds->Q Ja Hb)->wi σ H Q)(ht:qc own.length tgt=true)(hz:ds.length<=sizeLine)(w_:noOwn (kG own cap δ)=true)
  (step:∀k d,ds[k]?>>d->∃δ',sO tgt d (kG own cap δ)>>δ'/\noOwn δ'=true/\∀f s3 H3 C0 C σ',XE (eZ X sc N cl f s3 H3) C0 C σ' δ' (Rs k) elt (Rs (k+1)) (out k))
  (mF:bM F)(G:OF X.K B0 B (Sep R F) H0 H σ δ){Q:V->Hp->Prop}(q:∀v Ha Hb,OF X.K B0 B (Sep (kF X.K (.list ((cv ds.length).map out)) v) (Sep (Rs ds.length) F)) Ha Hb σ δ->Q v Hb):Nq own cap wi (Gv X.K tgt) K4 (teC X sc N cl elt) σ H Q:=by
 refine qi F mF H0 H G _ λJa H1 cY G1 it=>?_;intro D hD;let hD1:H1 D=none:=G1.fr.sub.free hD;let Ma:∀i (ys:!V) (es:!U),bM (Sep (yi X.K D ys es) (Sep (Rs i) F)):=λi ys es=>Sep.mono yi.mono (Sep.mono (m i) mF);let G2:OF X.K B0 B (Sep (yi X.K D [] []) (Sep (Rs 0) F)) H1 (upd cY D (.lst [])) σ δ:=G1.add (Sep.mono (m 0) mF) (.loose G1.fr.sub hD) hD hD1 aP #[Y,aP,.nil];let G3:OF X.K B0 B (Sep (yi X.K D [] []) (Sep (Rs 0) F)) H1 (upd cY D (.lst [])) (kP own cap σ) (kG own cap δ):=G2.go (Ma 0 [] []) (G2.own.Zv own cap) w_;refine#[λi mm ys σ' H'=>i<=ds.length/\mm=ds.length-i/\∃Ha,OF X.K H1 B (Sep (yi X.K D ys ((cv i).map out)) (Sep (Rs i) F)) Ha H' σ' (kG own cap δ),#[ds.length,aY _,Y,H1,G3.from #[G3.fr.ent.big,cy.refl _,G3.fr.sub,λ_ z=>.inl z]],?_];rintro i mm ys σ' H' ⟨hi,rfl,Ha,Ga⟩;let#[i1,i2,i3]:=it Ha H' Ga.fr.ent.eE Ga.fr.sub i;by_cases ng:i<ds.length
 .let hd:ds[i]?>>ds[i]:=by simp[ng]
  let#[δ',e1,e2,e3]:=step i _ hd;let#[k1,k2]:=Ai ht e1;refine .inr #[i1 ng,λx H2 y=>?_];let#[Hb,g2,rx]:=i3 x H2 _ hd y;refine pN (Ga.own.grow g2) rx e1 λσ3 f3=>?_;simp only[K4,if_true];intro fp s3 H3;let Gb:=Ga.go (Ma i _ _) f3 e2;refine e3 fp s3 H3 H1 B σ3 (Sep (yi X.K D ys ((cv i).map out)) F) (Sep.mono yi.mono mF) Hb H2 (Gb.tr (m i)) _ λv Hc Hd Gc=>?_;let#[r,Gd]:=Gc.dat (Sep.mono (m (i+1)) (Sep.mono yi.mono mF));let Ge:=Gd.tr yi.mono;let#[_,_,_,_,rfl,_,#[_,l1,l2],_]:=Ge.ex;let hly:=l2.length;rw[ae,cW]at hly;refine#[l1,(),ds.length-(i+1),(),ng,Y,Hc,?_];let er:(cv (i+1)).map out=(cv i).map out ++ [out i]:=by rw[sj,aH];rfl
  rw[er];let Gf:OF X.K H1 B (Sep (yi X.K D (ys ++ [v]) ((cv i).map out ++ [out i])) (Sep (Rs (i+1)) F)) Hc (upd Hd D (.lst (ys ++ [v]))) σ3 δ':=
   Ge.putL yi.mono (Sep.mono (m (i+1)) mF) (.refl Ge.fr.sub) λas #[z1,z2,z3]=>#[by rw[z1];simp,as,λ_ z=>z,z1,aP,z3.append (.cons r .nil)];exact Gf.go (Sep.mono yi.mono (Sep.mono (m (i+1)) mF)) (Gf.own.forget k1.symm k2) w_
 .let e:i=ds.length:=();subst e;refine .inl #[i2 (aE _),q (.ref D) (upd Ha D (.lst ys)) H' ?_];let#[as,own,a1,a2,rfl,dj,#[rfl,l1,l2],W]:=Ga.ex;let Ti:Ha D=none:=(own D ∅).1;let sm:cy Ha (upd Ha D (.lst ys)):=λb u e=>[aI (bu e Ti)]▸e;let TB:cy H1 (upd Ha D (.lst ys)):=Ga.fr.ent.eE.trans sm;refine#[#[#[Ga.fr.ent.big,G1.fr.ent.eE.trans TB,λb u e=>?_,λb z=>?_],G1.fr.len,λj sl e=>?_,G1.fr.apart],G1.no,a2,λa ha=>?_,[],a2,Y,(λa ha=>by cases ha),#[Y,.lst (jY.of aP) (l2.mono sm)],Sep.mono (m _) mF _ _ _ _ _ W sm λ_ _=>rfl]
  .by_cases hb:b=D
   .subst hb;rw[aP]at e;rw[<-e];exact l1
   .rw[aI hb]at e;exact Ga.fr.sub b u e
  .by_cases hb:b=D
   .subst hb;exact .inr (own b ∅).2.1
   .rw[aI hb]at z;rcases Ga.fr.ent.new b z with z|z
    .exact G1.fr.ent.new b z
    .exact .inr z
  .let w:=G1.fr.slot j sl e;cases sl with
   |un=>trivial
   |val d=>let#[v,w1,w2]:=w;exact#[v,w1,w2.mono TB]
   |ref p=>exact w
   |own es=>exact qQ7 e (fZ G1.no j es)
  .let nd:a≠D:=λz=>dj D ∅ ([<-z]▸ha);let#[o1,o2,o3]:=own a (by simp[ha]);exact#[[aI nd]▸o1,o2,o3]
theorem RK{tg:bY}{pos:Pos}{sJ: Pos}(Rs:Nat->OR)(out:Nat->U)(m:∀k,bM (Rs k))(G:OF X.K B0 B R H0 H σ δ)(i:Nat)(hc:X.calm=true)(CS:iM X sc own cap N cl)(hi:XI X B0 B σ δ R tg iter (Rs 0) ds)(hg:∀f s3 H3,PG (eZ X sc N cl f s3 H3) tg (Gv X.K tgt))(ht:qc own.length tgt=true)(hz:ds.length<=sizeLine)(w_:noOwn (kG own cap δ)=true)
  (step:∀k d,ds[k]?>>d->∃δ',sO tgt d (kG own cap δ)>>δ'/\noOwn δ'=true/\∀f s3 H3 C0 C σ',XE (eZ X sc N cl f s3 H3) C0 C σ' δ' (Rs k) elt (Rs (k+1)) (out k))
  (hn:noOwn (δ.set i (.val (.list ((cv ds.length).map out))))=true)(q:∀v Ha Hb,OF X.K B0 B (Rs ds.length) Ha Hb (σ.set i (some v)) (δ.set i (.val (.list ((cv ds.length).map out))))->D.nx (σ.set i (some v)) Hb)(hN:X.N.Nodup)(Nr:X.N[i]?>>x:=by rfl)(hx:Loc X.env.scope x:=by left)
  (pL:swapsWith (.ListComp elt [#[tg,iter,[],0]] sc pos) (some (.Name x px)) sJ.line X.env=pure true:=by rfl)(hs:Jf X iter:=by intro _;rfl)(hf:zC X x:=by left):
  cS X (.Assign [.Name x px] (.ListComp elt [#[tg,iter,[],0]] sc pos) sJ) D σ H:=λpins s0 I=>by let#[wi,pi,qi]:=hi;refine qI (i:=i) (tc:=K4) (te:=teC X sc N cl elt) hN Nr hx hc CS pi hg (λf s3 H3=>De) (λf s3 H3 pins s σ H Q I h=>h f s3 H3 pins s I) pL hs hf pins s0 σ H D I ?_;refine Wj Rs out m qi ht hz w_ step EM.mono G.em λv Ha Hb G1=>?_;let#[r,G2]:=G1.dat (Sep.mono (m _) EM.mono);exact q v Ha Hb (G2.em'.V_ (m _) i r hn)
end
def OI(R R':OR):Prop:=∀H0 H as,R H0 H as->∃bs,(∀a,a∈bs↔a∈as)/\R' H0 H bs
section
theorem OI.rfl:OI R R:=λ_ _ as h=>#[as,λ_=>Iff.rfl,h]
theorem OI.trans(h:OI R R')(h':OI R' R1):OI R R1:=λ_ _ _ z=>by let#[bs,e1,z1]:=h _ _ _ z;let#[cs,e2,z2]:=h' _ _ _ z1;exact#[cs,λa=>(e2 a).trans (e1 a),z2]
theorem OI.comm:OI (Sep R S) (Sep S R):=λ_ _ _ #[a1,a2,e,dj,h1,h2]=>#[a2++a1,λa=>by rw[e];simp[or_comm],a2,a1,by rfl,λa ha z=>dj a z ha,h2,h1]
theorem OI.assoc:OI (Sep (Sep R S) F) (Sep R (Sep S F)):=λ_ _ as #[_,a3,e,dj,#[a1,a2,e2,dk,h1,h2],h3]=>by subst e2;exact#[as,λ_=>Iff.rfl,a1,a2++a3,by rw[e];simp,λa ha z=>(aT.mp z).elim (dk a ha) (dj a (by simp[ha])),h1,a2,a3,by rfl,λa ha=>dj a (by simp[ha]),h2,h3]
theorem OI.qP:OI (Sep R (Sep S F)) (Sep (Sep R S) F):=λ_ _ as h=>#[as,λ_=>Iff.rfl,Sep.qP h]
theorem OI.sep(h:OI R R')(h':OI S S'):OI (Sep R S) (Sep R' S'):=λ_ _ _ #[a1,a2,e,dj,h1,h2]=>by let#[b1,e1,z1]:=h _ _ _ h1;let#[b2,e2,z2]:=h' _ _ _ h2;exact#[b1++b2,λa=>by rw[e];simp[e1,e2],b1,b2,by rfl,λa ha z=>dj a ((e1 a).mp ha) ((e2 a).mp z),z1,z2]
theorem OI.tr:OI (Sep R (Sep S F)) (Sep S (Sep R F)):=OI.qP.trans ((OI.sep .comm .rfl).trans .assoc)
theorem OI.r3:OI (Sep R (Sep S F)) (Sep F (Sep R S)):=OI.qP.trans .comm
theorem OI.l3:OI (Sep F (Sep R S)) (Sep R (Sep S F)):=OI.comm.trans .assoc
end
section
variable{B0 B H0 H:Hp}{σ:St}{δ:!Slot}{R R':OR}{e:bY}
theorem OF.oi{K:ai}(G:OF K B0 B R H0 H σ δ)(h:OI R R'):OF K B0 B R' H0 H σ δ:=by let#[as,h1,h2]:=G.ex;let#[bs,e,z]:=h _ _ _ h2;exact#[G.fr,G.no,bs,λa ha=>h1 a ((e a).mp ha),z]
theorem XE.fr(mL:bM La)(h:XE X B0 B σ δ R e R' d):XE X B0 B σ δ (Sep R La) e (Sep R' La) d:=λF mF H0 H G Q q=>h (Sep La F) (Sep.mono mL mF) H0 H G.assoc Q λv Ha Hb G1=>q v Ha Hb (G1.oi (.sep .rfl .qP))
theorem XE.oi(i:OI R1 R)(o:OI R' R1')(h:XE X B0 B σ δ R e R' d):XE X B0 B σ δ R1 e R1' d:=λF mF H0 H G Q q=>h F mF H0 H (G.oi (.sep i .rfl)) Q λv Ha Hb G1=>q v Ha Hb (G1.oi (.sep .rfl (.sep o .rfl)))
theorem xx(mE:bM R')(h:XE X B0 B σ δ R e R' d)(G:OF X.K B0 B R H0 H σ δ)(q:∀v Ha Hb,OF X.K B0 B (Sep (kF X.K d v) R') Ha Hb σ δ->D.rt v Hb):cS X (.Return (some e) pos) D σ H:=
 J2 (vi mE h G λv Ha Hb r G1=>q v Ha Hb (G1.newD mE (.refl G1.fr.sub) r))
theorem Oz{d:U}{X:Cx}{pos:Pos}{id:String}{r:!V->Hp->VK->Prop}{p:Pos}(hc:iS X (.type id) r)(hd:ow X.K r ds d)(m:bM R')(ha:XA X B0 B σ δ R (e::es) R' ds)(hm:X.mg x=none)(hv:bootBuiltins x>>(.type id))(hg:Gl X x:=by rfl)(hn:x≠"__name__":=by decide)(p5:uZ x:=by decide)
  (he:lF X e es:=by rfl)(mw:rQ X pos es:=by rfl):XE X B0 B σ δ R (.Call (.Name x p) (e::es) [] pos) R' d:=by
 let#[t,pa,qa]:=ha;exact λF mF H0 H G Q q pins s I=>lQ hc hg hm hv pa hn p5 he mw pins s σ H Q I (qa F mF H0 H G _ λvs Ha Hb G1=>by let#[rs,G2]:=G1.Ow;exact hd vs Ha Hb Q G2.fr.sub rs λv Hc Hd g r=>q v Hc Hd (G2.newD (Sep.mono m mF) g r))
end
section
variable{K:ai}{B0 B H0 H:Hp}{σ:St}{δ:!Slot}{R F:OR}{a:J}{d:U}
theorem OF.zdi(m:bM F)(hR:xu K R a d)(G:OF K B0 B (Sep R F) H0 H σ δ):∃Ha,OF K B0 B (Sep (kF K d (.ref a)) F) Ha H σ δ:=by
 let#[as,own,a1,a2,rfl,dj,W1,W]:=G.ex;let sm:=kD (as:=a1) G.fr.sub;refine#[lG a1 H H0,#[#[G.fr.ent.big,G.fr.ent.eE.trans sm,v9 G.fr.sub,λb z=>?_],G.fr.len,λj sl e=>?_,G.fr.apart],G.no,a2,λc hc=>?_,[],a2,Y,(λc hc=>by cases hc),#[Y,hR _ _ _ G.fr.sub W1],m _ _ _ _ _ W sm λ_ _=>rfl]
 .by_cases hb:b∈a1
  .exact .inr (own b (by simp[hb])).2.1
  .rw[kC hb]at z;exact G.fr.ent.new b z
 .let w:=G.fr.slot j sl e;cases sl with
  |un=>trivial
  |val d=>let#[v,w1,w2]:=w;exact#[v,w1,w2.mono sm]
  |ref p=>exact w
  |own es=>exact qQ7 e (fZ G.no j es)
 .let#[o1,o2,o3]:=own c (by simp[hc]);exact#[[kC λz=>dj c z hc]▸o1,o2,o3]
theorem Lp(h:noOwn δ=true)(i:Nat):noOwn (δ.set i (.val d))=true:=by
 unfold noOwn at h ⊢;rw[cV]at h ⊢;intro x hx;rcases kx hx with z|rfl
 .exact h x z
 .rfl
theorem OF.HN(m:bM F)(hR:xu K R a d)(G:OF K B0 B (Sep R F) H0 H σ δ)(i:Nat)(hi:δ[i]?>>(.ref a)):∃Ha,OF K B0 B F Ha H σ (δ.set i (.val d)):=by
 let#[Ha,G1]:=G.zdi m hR;let hs:σ[i]?>>(some (.ref a)):=G.fr.slot i _ hi;let#[as,own,_,a2,rfl,_,#[rfl,r],W]:=G1.ex;let f1:=G1.own.qd (i:=i) (v:=.ref a) (sl:=.val d) #[_,Y,r] Y;let e:σ.set i (some (.ref a))=σ:=by
  apply iG;intro j;by_cases h:j=i
  .subst h;rw[aR (aq.mp hs).1,hs]
  .rw[aO (bD h)]
 rw[e]at f1;let G2:OF K B0 B F Ha H σ δ:=#[G1.fr,G1.no,a2,λc hc=>own c ↑hc,W];exact#[Ha,G2.go m f1 (Lp G.no i)]
theorem LL.see{ps:!J}{gs:!(!U)}:xu K (LL K a ps gs) a (.list (gs.map .list)):=λHa Hb as s h=>LL.rep Ha Hb as s h
end
section
variable{X:Cx}{sc:nT}{own N:!O}{cap:!Nat}{cl:!(O×J)}{δ:!Slot}{ds:!U}{px sJ lp:Pos}{tgt:NC}{x:O}
theorem OB{D:Ends}{tg iter:bY}{H B0 B H0:Hp}{pos:Pos}{σ:St}{R:OR}(i:Nat)(m:bM R)(G:OF X.K B0 B R H0 H σ δ)(hc:X.calm=true)(CS:iM X sc own cap N cl)(hi:VI X tg iter δ ds)(hg:∀f s3 H3,PG (eZ X sc N cl f s3 H3) tg (Gv X.K tgt))(ht:qc own.length tgt=true)(hz:ds.length<=sizeLine)
  (step:∀d∈ds,∃δ',sO tgt d (nF own cap δ)>>δ')(hN:X.N.Nodup)(q:∀σ' a ps c9 H',OF X.K B0 B (Sep (LL X.K a ps (bo ds.length [])) R) c9 H' σ' (δ.set i (.ref a))->D.nx σ' H')(hn:∀a,noOwn (δ.set i (.ref a))=true)(Nr:X.N[i]?>>x:=by rfl)(hx:Loc X.env.scope x:=by left)
  (pL:swapsWith (.ListComp (.List [] lp) [#[tg,iter,[],0]] sc pos) (some (.Name x px)) sJ.line X.env=pure true:=by rfl)(hs:Jf X iter:=by intro _;rfl)(hf:zC X x:=by left):
  cS X (.Assign [.Name x px] (.ListComp (.List [] lp) [#[tg,iter,[],0]] sc pos) sJ) D σ H:=by let#[as,G1,back]:=G.em.swap.frame m;exact Rr i G1.fr G1.no hc CS hi hg ht hz step hN (λσ' a ps c9 H' G2=>q σ' a ps c9 H' (back G2)) hn Nr hx pL hs hf
end
section
variable{X:Cx}{a:J}{ps:!J}{gs:!(!U)}{d:U}{ds:!U}{x:O}
theorem Lq{D:Ends}{H B0 B H0:Hp}{δ:!Slot}{R' R:OR}{px pos:Pos}{σ:St}{e1 e2 ea:bY}(mR:bM R)(mR':bM R')(G:OF X.K B0 B (Sep (LL X.K a ps gs) R) H0 H σ δ)(ig:Nat){j m:Nat}{p4 ap: Pos}(hga:δ[ig]?>>(.ref a))(ha:VE X ea δ (.int j))(hp:ps[j]?>>p)(hg:gs[j]?>>ds)(h1:XE X B0 B σ δ (Sep (LL X.K a ps gs) R) e1 (Sep (LL X.K a ps gs) R') (.int m))(hm:m<=ds.length)(h2:VE X e2 δ d)(hz:ds.length<sizeLine)
  (q:∀c9 H',OF X.K B0 B (Sep (LL X.K a ps (gs.set j (qe ds m d))) R') c9 H' σ δ->D.nx σ H')(hig:u5 X ig x:=by ac_rfl)(mw:oX ea:=by intro _ _;rfl)
  (hs:lF X e1 [e2]:=by rfl)(lP:lF X e2 []:=by rfl)(gM:y6 X (.Subscript (.Name x p0) ea p4) "insert":=by rfl)
  (om:Mx X px [e1,e2]:=by rfl)
  (hline:(ap.endLine==px.line)=true:=by rfl)(gN:rQ X px [e2]:=by rfl)(pL:swapsWith (.Call (.Attribute (.Subscript (.Name x p0) ea p4) "insert" ap) [e1,e2] [] px) none pos.line X.env=pure false:=by rfl):
  cS X (.Expr (.Call (.Attribute (.Subscript (.Name x p0) ea p4) "insert" ap) [e1,e2] [] px) pos) D σ H:=λpins s I=>by refine oV (sE dZ PySem.F.slot_list_insert PySem.F.type_list_insert Lg (M7 pK (xZ hig) cA mw) (cC cA (cC cA dP lP) hs) gM om hline hs gN) pL pins s σ H D I ?_;refine#[.ref a,G.fr.slot ig _ hga,?_];refine ha H0 H σ H0 H _ G.own λv H1 cY g r=>?_;cases r;let G1:=G.go (Sep.mono LL.mono mR) (G.own.grow g) G.no;let#[_,_,_,_,c1,c2,c3]:=G1.at;let#[xs,y1,y2]:=c3 j p ds hp hg;refine .inl #[a,_,_,.ref p,Y,Y,jY.of c1,cJ (by rw[ay,hp];rfl),.inl #[Y,_,jY.of y1],?_];refine vi (Sep.mono LL.mono mR') h1 G1 λv H2 f9 r2 G2=>?_;cases r2;refine h2 H2 f9 σ H2 f9 _ G2.own λv H3 yd g3 r3=>?_;let#[_,_,_,_,_,_,c6]:=G2.at;let#[xs,y1,y2]:=c6 j p ds hp hg;refine#[p,xs,m,v,Y,Y,g3.big _ _ y1,(),by rw[y2.length];omega,[y2.length]▸hz,q H3 _ (G2.putL LL.mono mR' g3 λas' hL=>?_)];let e:=hL.1;subst e;exact#[aD _ (aF hp),a::ps,λ_ z=>z,LL.row hL hp (cy.refl _) (λz _ hz=>aI hz) aP ((y2.mono g3.eE).ins r3 m)]
end
section
theorem RL{e:bY}{δ δ':!Slot}{d:U}{X:Cx}{B0 B:Hp}{σ:St}{R:OR}(s:Seen X.K R δ δ')(h:VE X e δ' d)(hs:o5 d=true):Xn X B0 B R σ δ e d:=λH0 H G Q q=>by let#[as,h1,h2,f1]:=G.J1 s;exact h _ H σ _ H _ f1 λv C1 H1 g r=>q v (nP as C1) H1 (G.V8 h1 g) (r.yN hs)
end
section
variable{σ:St}{px py pz:Pos}{x y z:O}
theorem Wk{a b c:bY}{D:Ends}{H:Hp}{X:Cx}{pos:Pos}(i j k:Nat){t:TA}{kt k2}(ha:PA X [a,b,c] t)(h:t σ H (λvs H1=>∃v w u,vs=[v,w,u]/\D.nx (((σ.set i (some v)).set j (some w)).set k (some u)) H1))(hc:X.calm=true)(hN:X.N.Nodup)(yK:i≠j)(hik:i≠k)(BX:j≠k)(hi:X.N[i]?>>x:=by rfl)(hj:X.N[j]?>>y:=by rfl)(hk:X.N[k]?>>z:=by rfl)(hx:X.env.scope.names.lookup x>>.local:=by rfl)(hy:X.env.scope.names.lookup y>>.local:=by rfl)(hz:X.env.scope.names.lookup z>>.local:=by rfl)
  (hw:swappedStores [.Tuple [.Name x px,.Name y py,.Name z pz] kt pt] (.Tuple [a,b,c] k2 En) X.env=pure (some [x,y,z]):=by rfl)(hs:swapsWithSole [.Tuple [.Name x px,.Name y py,.Name z pz] kt pt] (.Tuple [a,b,c] k2 En) pos.line X.env=pure false:=by rfl):
  cS X (.Assign [.Tuple [.Name x px,.Name y py,.Name z pz] kt pt] (.Tuple [a,b,c] k2 En) pos) D σ H:=λpins s I=>by
 rw[exec_Assign_arm];refine L (rX ?_);rw[hs];refine L (aM ?_);rw[qQ2 ⋯];refine L (Tuple_ (fV (ha _ pins s σ H _ I h) λus s1 #[vs,H1,I1,r1,q1]=>?_));let#[v,w,u,e1,q1]:=q1;subst e1;obtain⟨u1,u2,u3,rfl,rv,pZ,ru⟩:∃u1 u2 u3,us=[u1,u2,u3]/\RelV v u1/\RelV w u2/\RelV u u3:=by
  cases r1 with
  |cons p q=>
   cases q with
   |cons p' q'=>
    cases q' with
    |cons p2 q2=>cases q2;exact#[_,_,_,Y,p,p',p2]
 refine cR ?_ (by show 3<=sizeLine;decide);let I2:Inv X pins σ H1 { s1 with heap:=s1.heap.push { cls:=.type "tuple",data:=.seq [u1,u2,u3].toArray } }:=I1.kept (t':=s1.toks) λb o e=>av _ e;rw[hw];refine L (aM ?_);show wpAny (model X.prog X.w) X.A (do rule "assign.swapped-stores";let items <-unpackItems (.ref s1.heap.objs.size) 3 none;assignInOrder [λv=>bindName X.env z v,λv=>bindName X.env y v,λv=>bindName X.env x v] items.reverse;pure Flow.next) _ _ _;refine L (uU (L (unpackItems_tuple (items:=(bf [u1,u2,u3])) (I.ok.hd hc) (uG s1.heap _) λh' hx'=>?_)));let I3:=I2.kept (h':=h') (t':=s1.toks) λb o e=>hx' b o (aZ (aX e)) e;show wpAny _ _ (assignInOrder [λv=>bindName X.env z v,λv=>bindName X.env y v,λv=>bindName X.env x v] [u3,u2,u1] >>= λ_=>pure Flow.next) _ _ _;refine L (jK (qz (oh I3 hN hk (.inl hz) ru (λs2 I4=>?_) (.inr hz))));refine jK (qz (oh I4 hN hj (.inl hy) pZ (λs3 I5=>?_) (.inr hy)));refine jK (qz (oh I5 hN hi (.inl hx) rv (λs4 I6=>A7 (aM ?_)) (.inr hx)));let e:((σ.set k (some u)).set j (some w)).set i (some v)=((σ.set i (some v)).set j (some w)).set k (some u):=by rw[vQ _ _ (bD BX),vQ _ _ (bD hik),vQ _ _ (bD yK)]
 rw[e]at I6;exact#[_,H1,I6,q1]
end
section
variable{X:Cx}{B0 B H0 H:Hp}{σ:St}{δ:!Slot}{R:OR}{a b c:bY}{Gu TF Zy:!U}{D:Ends}{pos px py pz:Pos}{x y z:O}
theorem RM(m:bM R)(G:OF X.K B0 B R H0 H σ δ)(i j k:Nat){kt k2}(h1:VO X a δ Gu)(h2:VO X b δ TF)(h3:VO X c δ Zy)(hn:∀p q r,noOwn (((δ.set i (.ref p)).set j (.ref q)).set k (.ref r))=true)(q:∀p1 p2 p3 σ' c9 H',OF X.K B0 B (Sep (LR X.K p1 Gu) (Sep (LR X.K p2 TF) (Sep (LR X.K p3 Zy) R))) c9 H' σ' (((δ.set i (.ref p1)).set j (.ref p2)).set k (.ref p3))->D.nx σ' H')(hc:X.calm=true)(hN:X.N.Nodup)(yK:i≠j)(hik:i≠k)(BX:j≠k)(hi:X.N[i]?>>x:=by rfl)(hj:X.N[j]?>>y:=by rfl)(hk:X.N[k]?>>z:=by rfl)(hx:X.env.scope.names.lookup x>>.local:=by rfl)(hy:X.env.scope.names.lookup y>>.local:=by rfl)(hz:X.env.scope.names.lookup z>>.local:=by rfl)
  (hw:swappedStores [.Tuple [.Name x px,.Name y py,.Name z pz] kt pt] (.Tuple [a,b,c] k2 En) X.env=pure (some [x,y,z]):=by rfl)(hs:swapsWithSole [.Tuple [.Name x px,.Name y py,.Name z pz] kt pt] (.Tuple [a,b,c] k2 En) pos.line X.env=pure false:=by rfl)
  (Gw:lF X a [b,c]:=by rfl)(lP:lF X b [c]:=by rfl)(hs3:lF X c []:=by rfl):
  cS X (.Assign [.Tuple [.Name x px,.Name y py,.Name z pz] kt pt] (.Tuple [a,b,c] k2 En) pos) D σ H:=by refine Wk i j k (cC cA (cC cA (cC cA dP hs3) lP) Gw) ?_ hc hN yK hik BX hi hj hk hx hy hz hw hs;refine qO G h1 _ λp1 o1 Ha Hb g z1 z2 z3 #[xs1,e1,r1]=>?_;let G1:=G.add (R':=LR X.K p1 Gu) m g z1 z2 z3 #[Y,xs1,by rw[z3,e1],r1];refine qO G1 h2 _ λp2 o2 Hc Hd g2 y1 y2 y3 #[Q7,e2,r2]=>?_;let G2:=G1.add (R':=LR X.K p2 TF) (Sep.mono LR.mono m) g2 y1 y2 y3 #[Y,Q7,by rw[y3,e2],r2];refine qO G2 h3 _ λp3 o3 He Hf g3 w1 w2 w3 #[xs3,e3,r3]=>?_;let G3:=G2.add (R':=LR X.K p3 Zy) (Sep.mono LR.mono (Sep.mono LR.mono m)) g3 w1 w2 w3 #[Y,xs3,by rw[w3,e3],r3];let oi:OI (Sep (LR X.K p3 Zy) (Sep (LR X.K p2 TF) (Sep (LR X.K p1 Gu) R))) (Sep (LR X.K p1 Gu) (Sep (LR X.K p2 TF) (Sep (LR X.K p3 Zy) R))):=OI.tr.trans ((OI.sep .rfl .tr).trans .tr);let G4:=G3.oi oi;let f4:=(((G4.own.qd (i:=i) (v:=.ref p1) (sl:=.ref p1) Y Y).qd (i:=j) (v:=.ref p2) (sl:=.ref p2) Y Y).qd (i:=k) (v:=.ref p3) (sl:=.ref p3) Y Y);exact#[_,_,_,Y,q p1 p2 p3 _ He Hf (G4.go (Sep.mono LR.mono (Sep.mono LR.mono (Sep.mono LR.mono m))) f4 (hn _ _ _))]
theorem RN(m:bM R)(G:OF X.K B0 B R H0 H σ δ)(i j:Nat){kt k2}(h1:VO X a δ Gu)(h2:VO X b δ TF)(hn:∀p q,noOwn ((δ.set i (.ref p)).set j (.ref q))=true)(q:∀p1 p2 σ' c9 H',OF X.K B0 B (Sep (LR X.K p1 Gu) (Sep (LR X.K p2 TF) R)) c9 H' σ' ((δ.set i (.ref p1)).set j (.ref p2))->D.nx σ' H')(hc:X.calm=true)(hN:X.N.Nodup)(yK:i≠j)(hi:X.N[i]?>>x:=by rfl)(hj:X.N[j]?>>y:=by rfl)(hx:X.env.scope.names.lookup x>>.local:=by rfl)(hy:X.env.scope.names.lookup y>>.local:=by rfl)
  (hw:swappedStores [.Tuple [.Name x px,.Name y py] kt pt] (.Tuple [a,b] k2 En) X.env=pure (some [x,y]):=by rfl)(hs:swapsWithSole [.Tuple [.Name x px,.Name y py] kt pt] (.Tuple [a,b] k2 En) pos.line X.env=pure false:=by rfl)
  (Gw:lF X a [b]:=by rfl)(lP:lF X b []:=by rfl):
  cS X (.Assign [.Tuple [.Name x px,.Name y py] kt pt] (.Tuple [a,b] k2 En) pos) D σ H:=λpins s I=>by refine MR hc hN hi hj yK hx hy (cC cA (cC cA dP lP) Gw) hw hs pins s σ H D I ?_;refine qO G h1 _ λp1 o1 Ha Hb g z1 z2 z3 #[xs1,e1,r1]=>?_;let G1:=G.add (R':=LR X.K p1 Gu) m g z1 z2 z3 #[Y,xs1,by rw[z3,e1],r1];refine qO G1 h2 _ λp2 o2 Hc Hd g2 y1 y2 y3 #[Q7,e2,r2]=>?_;let G2:=(G1.add (R':=LR X.K p2 TF) (Sep.mono LR.mono m) g2 y1 y2 y3 #[Y,Q7,by rw[y3,e2],r2]).oi .tr;let f4:=((G2.own.qd (i:=i) (v:=.ref p1) (sl:=.ref p1) Y Y).qd (i:=j) (v:=.ref p2) (sl:=.ref p2) Y Y);exact#[_,_,Y,q p1 p2 _ Hc Hd (G2.go (Sep.mono LR.mono (Sep.mono LR.mono m)) f4 (hn _ _))]
theorem OF.none(f:fK K B0 B H0 H σ δ)(h:noOwn δ=true):OF K B0 B EM H0 H σ δ:=#[f,h,[],(λa ha=>by cases ha),Y]
theorem XE.fl{X:Cx}{R La: OR}{e:bY}(mL:bM La)(h:XE X B0 B σ δ R e R' d):XE X B0 B σ δ (Sep La R) e (Sep La R') d:=(h.fr mL).oi .comm .comm
end
section
variable{δ:!Slot}
theorem OI.em:OI (Sep R EM) R:=λ_ _ as #[a1,a2,e,_,h1,h2]=>#[a1,λa=>by rw[e,show a2=[]from h2,bC],h1]
theorem OF.un{H B0 B H0:Hp}{K:ai}{σ:St}{R:OR}(m:bM R)(G:OF K B0 B R H0 H σ δ)(i:Nat):OF K B0 B R H0 H σ (δ.set i .un):=by
 refine G.go m (G.own.forget eT λj sl e=>?_) ?_
 .by_cases hj:i=j
  .subst hj;let hl:=(aq.mp e).1;rw[eT]at hl;rw[aR hl]at e;cases e;exact .inl Y
  .rw[aO hj]at e;exact .inr e
 .let h:=G.no;unfold noOwn at h ⊢;rw[cV]at h ⊢;intro x hx;rcases kx hx with z|rfl
  .exact h x z
  .rfl
end
section
variable{X:Cx}{b b2 e:bY}{δ:!Slot}{d1 d2:U}{ds:!U}{px Lr:Pos}{x:O}{j j2:Nat}
theorem RP{pos:Pos}(i:Nat){Ls: Pos}{kt}(hc:X.calm=true)(hi:δ[i]?>>(.own ds))(hb:VE X b δ (.int (j:Nat)))(hj:j<ds.length)(Tt:VE X b2 (δ.set i (.own (ds.set j d1))) (.int (j2:Nat)))(hj2:j2<ds.length)(h:VE X e δ (.tuple [d1,d2]))(hN:u5 X i x:=by ac_rfl)(hs:swapsWithSole [.Tuple [.Subscript (.Name x px) b tp,.Subscript (.Name x Lr) b2 Ls] kt pt] e pos.line X.env=pure false:=by rfl)(hw:swappedStores [.Tuple [.Subscript (.Name x px) b tp,.Subscript (.Name x Lr) b2 Ls] kt pt] e X.env=pure none:=by rfl)
  (h1:(assignEach [.Tuple [.Subscript (.Name x px) b tp,.Subscript (.Name x Lr) b2 Ls] kt pt] X.env).map (·.2)=[assign (.Tuple [.Subscript (.Name x px) b tp,.Subscript (.Name x Lr) b2 Ls] kt pt) X.env]:=by rfl)
  (hg1:(assignEach [.Subscript (.Name x px) b tp,.Subscript (.Name x Lr) b2 Ls] X.env).map (·.2)=assign (.Subscript (.Name x px) b tp) X.env::(assignEach [.Subscript (.Name x Lr) b2 Ls] X.env).map (·.2):=by rfl)(Rc:(assignEach [.Subscript (.Name x Lr) b2 Ls] X.env).map (·.2)=assign (.Subscript (.Name x Lr) b2 Ls) X.env::(assignEach [] X.env).map (·.2):=by rfl)
  (hn:(assignEach [.Subscript (.Name x px) b tp,.Subscript (.Name x Lr) b2 Ls] X.env).length=2:=by rfl)(KC:(assignEach [.Subscript (.Name x px) b tp,.Subscript (.Name x Lr) b2 Ls] X.env).findIdx? (·.1)=none:=by rfl)
  (ha:∀v,assign (.Subscript (.Name x px) b tp) X.env v=(do
   let ov <-holding [v] (eval (.Name x px) X.env)
   let iv <-holding [v,ov] (eval b X.env)
   standAt tp
   holding [v,ov,iv] (setItem ov iv v)
   release [v,ov,iv] []):=by intro _;rfl)
  (ha2:∀v,assign (.Subscript (.Name x Lr) b2 Ls) X.env v=(do
   let ov <-holding [v] (eval (.Name x Lr) X.env)
   let iv <-holding [v,ov] (eval b2 X.env)
   standAt Ls
   holding [v,ov,iv] (setItem ov iv v)
   release [v,ov,iv] []):=by intro _;rfl) :
  VS X (.Assign [.Tuple [.Subscript (.Name x px) b tp,.Subscript (.Name x Lr) b2 Ls] kt pt] e pos) δ (.nx (δ.set i (.own ((ds.set j d1).set j2 d2)))):=λB0 B σ H0 H D f ok pins s I=>by
 refine MQ cA (fh hc (bx (GN (xZ hN) cA set_list ha) (bx (GN (xZ hN) cA set_list ha2) dU Rc) hg1) hn KC) hs hw h1 pins s σ H D I (h B0 B σ H0 H _ f λv H1 cY g r=>?_);let f1:=f.grow g;cases r with
 |tup hq rs=>
  let#[v1,v2,rfl,r1,r2]:=rs.two;refine#[_,_,Y,cy.oo g.sub hq,Y,v1,[v2],Y,?_];let#[p,xs,z1,z2,z3,z4,z5]:=f1.slot i _ hi;refine#[.ref p,z1,hb B0 B σ H1 cY _ f1 λw H2 f9 g2 q2=>?_];cases q2;let hl:=z5.length;refine#[p,xs,_,j,Y,Y,g2.big _ _ z2,by rw[hl];unfold Mz;rw[qQ3 (),qQ3 (),cN],v2,[],Y,?_];let f2:=(f1.grow g2).put hi z1 (g2.big _ _ z2) (r1.mono g2.eE) (j:=j);let Xr:(δ.set i (.own (ds.set j d1)))[i]?>>(.own (ds.set j d1)):=aR (aq.mp hi).1;let#[p',ys,y1,y2,y3,y4,y5]:=f2.slot i _ Xr;obtain rfl:p'=p:=by
   let:=y1.symm.trans z1;injection this with this
   injection this with this
   injection this
  refine#[.ref p',y1,Tt B0 B σ H2 _ _ f2 λw H3 yd g3 q3=>?_];cases q3;let B6:=y5.length;refine#[p',ys,_,j2,Y,Y,g3.big _ _ y2,by rw[B6,eT];unfold Mz;rw[qQ3 (),qQ3 (),cN],Y,?_];let f3:=(f2.grow g3).put Xr y1 (g3.big _ _ y2) (r2.mono (g2.eE.trans g3.eE)) (j:=j2);rw[List.set_set]at f3;exact ok σ H3 _ ((g.eE.trans g2.eE).trans g3.eE) f3
end
def Gx:!(O×!U)->O->U->!(O×!U)
 | [],z,d=>[(z,[d])]
 |q::l,z,d=>if q.1=z then(q.1,q.2 ++ [d])::l else q::Gx l z d
theorem Dw:∀{kl:!(O×!U)},z∉kl.map (·.1)->Gx kl z d=kl ++ [(z,[d])]
 | [],_=>rfl
 |q::l,h=>by rw[ao,au,not_or]at h;rw[Gx,qQ2 (bD h.1),Dw h.2];rfl
theorem zq:∀{kl:!(O×!U)},z∈kl.map (·.1)->∃j ds,kl[j]?>>(z,ds)/\Gx kl z d=kl.set j (z,ds ++ [d])
 | [],h=>by cases h
 |q::l,h=>by
  by_cases hz:q.1=z
  .exact#[0,q.2,by rw[<-hz];rfl,by rw[Gx,qQ3 hz,hz];rfl]
  .rw[ao,au]at h;let#[j,ds,h1,h2]:=zq (h.resolve_left (bD hz));exact#[j+1,ds,h1,by rw[Gx,qQ2 hz,h2];rfl]
theorem E6:∀{kl:!(O×!U)}{cs:!J},z∉kl.map (·.1)->iW (yg kl cs) (bh z)=none
 | [],_,_=>rfl
 |_::_,[],_=>rfl
 |q::l,c::cs,h=>by rw[ao,au,not_or]at h;let e:yg (q::l) (c::cs)=(bh q.1,V.ref c)::yg l cs:=Y;rw[e,jd (λw=>h.1 (by injection w with w;exact w.symm))];exact E6 h.2
section
variable{X:Cx}{B0 B H0 H:Hp}{σ:St}{D:Ends}{δ:!Slot}{F R:OR}{a:J}{kl:!(O×!U)}{d:U}{z:O}{pos px pa pc:Pos}{x:O}
theorem OD{e ek:bY}(mF:bM F)(G:OF X.K B0 B (Sep (DL X.K a kl) F) H0 H σ δ)(i:Nat){pl Dl Oc:Pos}(hi:δ[i]?>>(.ref a))(hk:VE X ek δ (.str z))(hv:VE X e δ d)(Bo:(kl.map (·.1)).Nodup)(hl:kl.length<sizeLine)(hx:∀q∈kl,q.2.length<sizeLine)
  (q:∀Ha Hb,OF X.K B0 B (Sep (DL X.K a (Gx kl z d)) F) Ha Hb σ δ->D.nx σ Hb)
  (hN:u5 X i x:=by ac_rfl)
  (m:M2 X (.Name x px) "setdefault" Dl ek (.List [] pl) Oc:=by exact#[rfl,rfl,rfl,rfl])
  (gM:y6 X (.Call (.Attribute (.Name x px) "setdefault" Dl) [ek,.List [] pl] [] Oc) "append":=by rfl)
  (hs:lF X e []:=by rfl)
  (om:Mx X pc [e]:=by rfl)
  (hline:(pa.endLine==pc.line)=true:=by rfl)(gN:rQ X pc []:=by rfl)(pL:swapsWith (.Call (.Attribute (.Call (.Attribute (.Name x px) "setdefault" Dl) [ek,.List [] pl] [] Oc) "append" pa) [e] [] pc) none pos.line X.env=pure false:=by rfl):
  cS X (.Expr (.Call (.Attribute (.Call (.Attribute (.Name x px) "setdefault" Dl) [ek,.List [] pl] [] Oc) "append" pa) [e] [] pc) pos) D σ H:=λpins s I=>by
 refine oV (sE dZ fM fN lS (JR (xZ hN) cA (wZ dP) m) (cC cA dP hs) gM om hline hs gN) pL pins s σ H D I ?_;let#[cs,G0]:=G.dlx;let#[_,_,_,nd,hd,hw]:=G0.at;let hlen:(yg kl cs).length=kl.length:=by let:=qQ6 dq (wa (kl:=kl) (cs:=cs) hw.1);simpa using this
 refine#[.ref a,G.fr.slot i _ hi,a,Y,.inl #[_,.inl hd],?_];refine hk H0 H σ H0 H _ G.own λu H1 cY g1 r1=>?_;cases r1;refine#[by show 0<=sizeLine;exact aY _,λt ht=>?_];let Xl:a≠t:=bu (g1.big _ _ hd) ht;let gl:di H0 H H1 (upd cY t (.lst [])):=g1.trans (.loose g1.sub ht);let mD:∀{cs kl},bM (Sep (DC X.K a cs kl) F):=Sep.mono DC.mono mF;refine#[yg kl cs,bh z,[aI Xl]▸g1.big _ _ hd,Y,[hlen]▸hl,λv Bp=>?_,λhn=>?_]
 .let hz:z∈kl.map (·.1):=Classical.byContradiction λhz=>by rw[E6 hz]at Bp;cases Bp
  let#[j,ds,hj,ea]:=zq (d:=d) hz;let E5:=(aq.mp hj).1;let Zz:cs[j]?>>(cs[j]'([hw.1]▸E5)):=ax _
  generalize(cs[j]'([hw.1]▸E5))=c at Zz
  let:=Dr Bo hj Zz;rw[show((z,ds):O×!U).1=z from Y,Bp]at this;cases this;let G1:=G0.go mD (G0.own.grow gl) G0.no;let#[_,_,_,_,_,hw1]:=G1.at;let#[ys,y1,y2]:=hw1.2 j c _ Zz hj;refine#[.inl #[Y,_,jY.of y1],?_];refine hv H1 _ σ H1 _ _ G1.own λv H2 f9 g2 r2=>?_;let G2:=G1.go mD (G1.own.grow g2) G1.no;refine#[c,ys,v,Y,Y,g2.big _ _ y1,?_,q H2 _ ?_]
  .rw[y2.length];exact hx _ (aF hj)
  .rw[ea];exact G2.putL DC.mono mF (.refl G2.fr.sub) λas hd2=>#[by rw[hd2.1];simp[aF Zz],as,λ_ w=>w,.of (hd2.row hj Zz ((y2.mono g2.eE).append (.cons r2 .nil)))]
 .let hz:z∉kl.map (·.1):=λhz=>by let#[j,ds,hj,_]:=zq (d:=d) hz;let E5:=(aq.mp hj).1;let:=Dr Bo hj (ax ([hw.1]▸E5));rw[show((z,ds):O×!U).1=z from Y,hn]at this;cases this
  let G1:OF X.K B0 B (Sep (DC X.K a (cs ++ [t]) (kl ++ [(z,[])])) F) H1 _ σ δ:=G0.Zn (ob':=.dK (putK (yg kl cs) (bh z) (.ref t))) DC.mono mF gl (g1.big.free ht) (g1.sub.free ht) aP λas Tx hd2=>#[by rw[hd2.1];simp,as ++ [t],λb hb=>(aT.mp hb).elim .inr λy=>.inl (aA.mp y),hd2.push hz Tx aP .nil];refine#[.inl #[Y,_,jY.of ([aI (bD Xl)]▸aP)],?_];refine hv H1 _ σ H1 _ _ G1.own λv H2 f9 g2 r2=>?_;let G2:=G1.go mD (G1.own.grow g2) G1.no;let RC:f9 t>>(.lst []):=g2.big _ _ ([aI (bD Xl)]▸aP);refine#[t,[],v,Y,Y,RC,by show 0<sizeLine;rw[cL];decide,q H2 _ ?_];rw[Dw hz];let hj:(kl ++ [(z,([]:!U))])[kl.length]?>>(z,[]):=∅
  let hc:(cs ++ [t])[kl.length]?>>t:=by rw[<-hw.1];simp
  let e2:kl ++ [(z,[d])]=(kl ++ [(z,([]:!U))]).set kl.length (z,[d]):=∅
  rw[e2];exact G2.putL DC.mono mF (.refl G2.fr.sub) λas hd2=>#[by rw[hd2.1];simp,as,λ_ w=>w,.of (hd2.row hj hc (.cons r2 .nil))]
def Ef(a:J)(l:!((O×O)×Int)):OR:=λ_ H as=>as=[a]/\H a>>(.dT (l.map λq=>(lV q.1,V.int q.2)))
theorem Ef.mono:bM (Ef a l):=λ_ _ _ _ _ #[h1,h2] _ hb=>#[h1,by rw[hb a (by rw[h1];simp)];exact h2]
theorem Ef.see:xu K (Ef a l) a (qM (l.map λq=>(q.1,.int q.2))):=by
 rintro Ha Hb as sb ⟨rfl,h1⟩;refine .Tf (kvs:=l.map λq=>(lV q.1,V.int q.2)) ([jy ∅]▸h1) ?_ ?_
 .simp only[aG];rfl
 .simp only[aG];induction l with
  |nil=>exact .nil
  |cons q l ih=>exact .cons (.int q.2) (bQ.mono (λ_ _ e=>e) (by
    let go:∀l:!((O×O)×Int),bQ K (lG [a] Hb Ha) (l.map λq=>V.int q.2) (l.map λq=>eJ q.2):=λl=>by
     induction l with
     |nil=>exact .nil
     |cons q l ih=>exact .cons (.int q.2) ih
    exact go l))
theorem OG(sm:cy H0 H):Xp X σ H0 H (.Dict [] [] pos) (λ_ o=>o=.dT []):=λQ q pins s I=>EB pins s σ H Q I λl hl=>q l _ H0 _ (.loose sm hl) hl (sm.free hl) aP Y
theorem Wm(m:bM R)(G:OF X.K B0 B R H0 H σ δ)(j:Nat)(hn:∀l,noOwn (δ.set j (.ref l))=true)(q:∀l σ' c9 H',OF X.K B0 B (Sep (Ef l []) R) c9 H' σ' (δ.set j (.ref l))->D.nx σ' H')(hN:X.N.Nodup)
  (hj:X.N[j]?>>y:=by rfl)(hx:Loc X.env.scope y:=by left)(pL:CN X pos (.Dict [] [] pc) (.Name y px):=by rfl)(hf:zC X y:=by left):
  cS X (.Assign [.Name y px] (.Dict [] [] pc) pos) D σ H:=HM m (λ_=>Ef.mono) G j (OG G.fr.sub) (λl o Ha Hb e h=>#[Y,by rw[h,e];rfl]) hn q hN hj hx pL hf
theorem Wn{k:Nat}{e1 e2 ev:bY}{z1 z2:O}{n:Int}{x1}{ps: Pos}(mF:bM F)(G:OF X.K B0 B (Sep (Ef a l) F) H0 H σ δ)(hr:eL k X.A)(i:Nat)(hi:δ[i]?>>(.ref a))(Jv:VE X e1 δ (.str z1))(VX:VE X e2 δ (.str z2))(hv:VE X ev δ (.int n))(hl:l.length<sizeLine)(hz:(z1,z2)∉l.map (·.1))
  (q:∀Ha Hb,OF X.K B0 B (Sep (Ef a (l ++ [((z1,z2),n)])) F) Ha Hb σ δ->D.nx σ Hb)
  (hN:u5 X i x:=by ac_rfl)
  (hs:CN X pos ev (.Subscript (.Name x px) (.Tuple [e1,e2] x1 pt) ps):=by rfl)
  (Gw:lF X e1 [e2]:=by rfl)(lP:lF X e2 []:=by rfl):
  cS X (.Assign [.Subscript (.Name x px) (.Tuple [e1,e2] x1 pt) ps] ev pos) D σ H:=λpins s I=>by
 refine zc (MD hr) (xZ hN) (zH (cC cA (cC cA dP lP) Gw)) cA hs pins s σ H D I ?_;refine hv H0 H σ H0 H _ G.own λv H1 cY g1 r1=>?_;cases r1;refine#[.ref a,G.fr.slot i _ hi,?_];let G1:=G.go (Sep.mono Ef.mono mF) (G.own.grow g1) G.no;refine Jv H1 cY σ H1 cY _ G1.own λu H2 f9 g2 r2=>?_;cases r2;let G2:=G1.go (Sep.mono Ef.mono mF) (G1.own.grow g2) G1.no;refine VX H2 f9 σ H2 f9 _ G2.own λu H3 yd g3 r3=>?_;cases r3;refine#[by show 2<=sizeLine;rw[cL];decide,λt ht=>?_];let g4:di H2 f9 H3 (upd yd t (.tup [.str z1,.str z2])):=g3.trans (.loose g3.sub ht);let G3:=G2.go (Sep.mono Ef.mono mF) (G2.own.grow g4) G2.no;let#[_,_,_,hd]:=G3.at;refine#[a,_,Y,Bg.t (k:=lV (z1,z2)) hd aP ([ae]▸hl),q H3 _ ?_];refine G3.putL Ef.mono mF (.refl G3.fr.sub) λas hd2=>#[by rw[hd2.1];simp,as,λ_ w=>w,hd2.1,?_];rw[aP,p7,aH]
 .rfl
 .let go:∀l:!((O×O)×Int),(z1,z2)∉l.map (·.1)->iW (l.map λq=>(lV q.1,V.int q.2)) (lV (z1,z2))=none:=by
   intro l;induction l with
   |nil=>intro _;rfl
   |cons w l ih=>
    intro h;rw[ao,au,not_or]at h;rw[ao,jd (λy=>h.1 (by
     let y:([bh w.1.1,bh w.1.2]:!Key)=[bh z1,bh z2]:=y;injection y with y1 y2
     injection y2 with y2 _
     injection y1 with y1
     injection y2 with y2
     exact Prod.ext y1.symm y2.symm)),ih h.2]
  exact go l hz
end
section
variable{prog:bW}{w:cP}{A:g7}{E:M->aU->Prop}{s:aU}{it d:J}{i ep:Nat}{od:Obj}{es:Array fq}
theorem E7{Q:M->aU->Prop}(lo:(d==sysModules)=false)(h1:s.heap.get? d>>od)(hc:od.ExactDict)(h2:od.data=.dict es ep)
  (q:Q (.ref s.heap.objs.size) { s with heap:=s.heap.push { cls:=.type "dict_keyiterator",data:=.fields (bf [.ref d,.int 0 0,.int es.size 0,.int ep 0]) } }):wpAny (model prog w) A (pyIter (.ref d)) Q E s:=by let T:s.TypeIs (.ref d) "dict":=#[od,h1,hc.1];refine wpAny_pyIter_slot T F.slot_dict_iter (eN F.slot_dict_iter T F.entry_dict_iter (show wpAny _ _ (rV.«dict.__iter__» _) _ _ _ from ?_) (F.args_dict_iter_1 _));refine L (L (vS T (aM (a:=ck d) (show wpAny _ _ (k5 d >>= _) _ _ s from ?_))));unfold k5;rw[lo,qQ2 ⋯];refine L (aM (L (kj h1 h2 (L (lK h1 h2 (L (cR (aM #[_,Y,"dict_keyiterator",_,#[_,aV _ Y,Y],gI.lookup,?_]))))))));simpa[rawInt]using q
theorem E8(hit:s.heap.IsKeyIter it d i es.size ep)(h1:s.heap.get? d>>od)(h2:od.data=.dict es ep)(hx:es[i]?>>e)
  (q:∀h',h'.IsKeyIter it d (i+1) es.size ep->dA it s.heap h'->Q (some e.key) { s with heap:=h' }):wpAny (model prog w) A (pyNext (.ref it)) Q E s:=by
 let T:=hit.typeIs;let#[oi,g1,g2,g3]:=hit;refine L (lE (dE (name:=sk "__next__") T gI (eN gI T BG (L (aM (L (L ?_)))) (Bb _))));refine L (jJ T (aM (L (wU g1 g3 ?_))));rw[show fx "dict_keyiterator"=false by decide];refine L (aM (L (kj h1 h2 ?_)));let lt:i<es.size:=(Bc.mp hx).1;rw[qQ2 ∅];refine L (aM (L (lK h1 h2 ?_)));rw[qQ2 ∅];refine aM ?_;simp only[show ¬((i:Int)<0)from by omega,if_false,cN,hx];refine L (L (jJ T (aM (L (wpAny_isOneOf_keyiter T (L (m:=setField (.ref it) 1 (rawInt ((i:Int)+1))) (qC g1 g3 ∅ ?_)))))));let k:(s.heap.update it (Obj.mapFields (·.setIfInBounds 1 (rawInt ((i:Int)+1))))).IsKeyIter it d (i+1) es.size ep:=
  #[_,ug _ g1 (Jb (pF g3 _)),[Obj.cls_mapFields]▸g2,by rw[pF g3];simp[rawInt]];exact L (hV (L (wpAny_isOneOf_keyiter k.typeIs (aM (aM #[_,Y,aM (q _ k (jI ..))])))))
theorem J4(hh:A.handled=none)(hit:s.heap.IsKeyIter it d i es.size ep)(h1:s.heap.get? d>>od)(h2:od.data=.dict es ep)(hi:es.size<=i)
  (q:∀h',zB it s.heap h'->Q none { s with heap:=h' }):wpAny (model prog w) A (pyNext (.ref it)) Q E s:=by let T:=hit.typeIs;let#[oi,g1,g2,g3]:=hit;refine L (lE (dE (name:=sk "__next__") T gI (eN gI T BG (L (aM (L (L ?_)))) (Bb _))));refine L (jJ T (aM (L (wU g1 g3 ?_))));rw[show fx "dict_keyiterator"=false by decide];refine L (aM (L (kj h1 h2 ?_)));rw[qQ2 ∅];refine L (aM (L (lK h1 h2 ?_)));rw[qQ2 ∅];refine aM ?_;simp only[show ¬((i:Int)<0)from by omega,if_false,cN,Ej hi];refine L (L (jJ T (aM (L (m:=setField (.ref it) 0 .none) (qC g1 g3 ∅ (L (m:=newExc (.type "StopIteration") []) ?_))))));simp only[newExc,newTuple];refine L (cR (L (m:=firstArgMember _ _) (wpAny_of_eq (a:=iJ) (by first|rfl|(simp only[firstArgMember];rfl)) (cR ?_ (by size_fits)))) (by size_fits));simp only[raiseNew];refine L (wpAny_handled ?_);rw[show A.in1.handled=none from hh];refine L (aM (wpAny_throw ?_));refine L (CM (b:=true) (T:="StopIteration") ?_ GH (aM (q _ (((jI ..).extBut.push _).push _))));exact#[_,aV _ Y,Y]
end
def OJ(d:J)(es:Array fq)(ep:Nat)(h:dv):Prop:=∃od,h.get? d>>od/\od.ExactDict/\od.data=.dict es ep
theorem RQ{prog:bW}{d:J}{es:Array fq}{ep:Nat}(lo:(d==sysModules)=false):KdlSrc prog w "dict" d d es.size (λi v=>∃e,es[i]?>>e/\v=e.key) (OJ d es ep) where
 type:=λ_ #[od,h1,hc,_]=>#[od,h1,hc.1]
 there:=λ_ #[_,h1,_]=>#[aX h1,aX h1]
 keep:=λ_ _ #[od,h1,r] hk=>#[od,hk d (.inl Y) od h1,r]
 notList:=⋯
 notTuple:=⋯
 hint:=λ_ _ _ _ #[od,h1,hc,_] hq=>kdl_hint_dict #[od,h1,hc.1] hq
 iter:=λA s hh #[od,h1,hc,h2]=>#[_,λi h=>h.IsKeyIter s.heap.objs.size d i es.size ep/\OJ d es ep h,λ_ _ hq=>E7 lo h1 hc h2 hq,{
   sub:=λb hb=>by simp at hb;simp[hb]
   frame:=λ_ _ _ #[#[o,e,r],od,h1,r2] hk=>#[#[o,hk _ ∅ o e,r],od,hk _ ∅ od h1,r2]
   item:=λi s' Q E hi #[st,od',k1,k2,k3] hQ=>E8 st k1 k3 (fA hi) λh' vU sb=>hQ _ h' s'.toks #[_,fA hi,Y] #[vU,od',sb.extBut d od' (aZ (aX h1)) k1,k2,k3] λb o hb e=>sb.extBut b o (λz=>hb (by simp[z])) e
   done:=λs' Q E #[st,od',k1,k2,k3] hQ=>J4 hh st k1 k3 (aE _) λh' eb=>hQ h' s'.toks λb o hb e=>eb b o (λz=>hb (by simp[z])) e
   self:=λ_ _ _ _ st hQ=>wR st.1 hQ },#[#[_,aV _ Y,Y,Y],od,av _ h1,hc,h2]]
section
variable{a:J}{kvs:!(!Key×V)}
theorem Inv.ents{H:Hp}{X:Cx}{pins:!(J×Obj)}{σ:St}{s:aU}(I:Inv X pins σ H s)(h:Rd H a (.dT kvs)):kvs.length<=sizeLine/\(a==sysModules)=false/\∃(es:Array fq)(ep:Nat)(ts:!J),OJ a es ep s.heap/\es.size=kvs.length/\ts.length=kvs.length/\(∀(i:Nat)q,kvs[i]?>>q->∃e t,es[i]?>>e/\ts[i]?>>t/\e.key=.ref t/\H t>>(.tup (q.1.map kV))):=by
 let#[z,lo,xs,r,od,es,ep,h1,h2,h3,h4,_]:=(show gf X.prog X.w H s.heap a (.dT kvs)from h.ok I.hok);let hl:xs.length=kvs.length:=r.length.symm;let ZC:es.size=kvs.length:=by rw[<-cu,h4,ae,hl]
 refine#[z,lo,es,ep,xs.map (·.2.1),#[od,h1,h2,h3],ZC,by rw[ae,hl],λi q hq=>?_];let go:∀{kvs:!(!Key×V)}{xs:!(!Key×J×M)},wK (λ(p:!Key×V)(q:!Key×J×M)=>p.1=q.1/\H q.2.1>>(.tup (p.1.map kV))/\RelV p.2 q.2.2) kvs xs->∀(i:Nat)q,kvs[i]?>>q->∃x,xs[i]?>>x/\H x.2.1>>(.tup (q.1.map kV)):=by
  intro kvs xs r;induction r with
  |nil=>intro i q h;cases h
  |cons h1 _ ih=>
   intro i q h;cases i with
   |zero=>cases h;exact#[_,Y,h1.2.1]
   |succ i=>exact ih i q h
 let#[x,hx,hH]:=go r i q hq;refine#[entryOfKey (tupleKind (eB X.prog X.w)) x,x.2.1,?_,by rw[ay,hx];rfl,Y,hH];rw[<-fD,h4,ay,hx];rfl
theorem rJ(hc:X.calm=true):iS X (.type "list") (λxs H Q=>∃p kvs,xs=[.ref p]/\Rd H p (.dT kvs)/\∀(l:J)(ts:!J),H l=none->ts.length=kvs.length->(∀(i:Nat)(t:J)(q:!Key×V),ts[i]?>>t->kvs[i]?>>q->H t>>(.tup (q.1.map kV)))->Q (.ref l) (upd H l (.lst (ts.map V.ref)))):=by
 intro pins s σ H xs us Q I r h;let#[p,kvs,rfl,hp,q]:=h;let#[u,rfl,rx]:=vals1 r;cases rx;let#[z,lo,es,ep,ts,en,ZC,OL,hk]:=I.ents hp;refine PySem.W.kdl_call (RQ (es:=es) (ep:=ep) lo) (I.ok.hd hc) en ([ZC]▸z) λh' tk Lh c' J5 hD Li=>?_;let zdm:Lh.toList=ts.map ck:=by
  refine iG λj=>?_;by_cases hj:j<kvs.length
  .let#[e,t,e1,e2,e3,_]:=hk j _ (ax hj);let E5:j<Lh.size:=[Li.1,ZC]▸hj;let#[e',g1,g2]:=Li.2 j Lh[j] (fA E5);rw[e1]at g1;cases g1;rw[fD,fA E5,g2,e3,ay,e2];rfl
  .rw[eO (by rw[cu,Li.1,ZC];omega),eO (by rw[ae];omega)]
 let rv:∀ts:!J,dw (ts.map V.ref) (ts.map ck):=λts=>by
  induction ts with
  |nil=>exact .nil
  |cons t ts ih=>exact .cons Y ih
 refine#[.ref _,_,I.laid J5 (aE _) (show gf X.prog X.w _ h' _ (.lst (ts.map V.ref)) from#[[ae,OL]▸z,Lh.toList,c',[zdm]▸rv ts,by simpa using hD]),Y,q _ ts (I.hok.fresh (aE _)) OL λj t q' h1 h2=>?_];let#[e,t',e1,e2,e3,e4]:=hk j q' h2;rw[h1]at e2;cases e2;exact e4
end
def J6(p:(O×O)×U):U:=.tuple [.str p.1.1,.str p.1.2]
def Bt(l:!((O×O)×U)):U:=.dict ((.none,.int 2)::l.map λp=>(J6 p,p.2))
theorem E9:∀{l:!((O×O)×U)}{ws:!(!Key×V)},(ws.map λp=>dg (p.1.map nJ))=l.map J6->ws.map (·.1)=l.map λp=>lV p.1
 | [],[],_=>rfl
 | [],_::_,e=>by simp at e
 |_::_,[],e=>by simp at e
 |p::l,(ks,v)::ws,e=>by
  rw[ao,ao]at e;injection e with h1 h2
  rw[ao,ao,E9 h2]
  congr 1
  let h1:ks.map nJ=[.str p.1.1,.str p.1.2]:=by injection h1
  let one:∀(k:Key)(x:O),nJ k=.str x->k=.inr x:=λk x h=>by
   cases k with
   |inl i=>cases h
   |inr y=>injection h with h;rw[h]
  cases ks with
  |nil=>cases h1
  |cons k1 r=>
   cases r with
   |nil=>simp at h1
   |cons k2 r2=>
    cases r2 with
    |cons _ _=>simp at h1
    |nil=>simp only[ao,eC,List.cons.injEq,and_true]at h1;show [k1,k2]=[bh p.1.1,bh p.1.2];rw[one k1 _ h1.1,one k2 _ h1.2]
section
variable{K:ai}{H:Hp}{v:V}
theorem Rep.E_{l:!((O×O)×U)}(r:Rep K H v (Bt l)):∃(a:J)(o:Obj)(ws:!(!Key×V))(es:Array fq)(ep:Nat)(ts:!J),v=.ref a/\H a>>(.jx o (.dT ws))/\o.data=.dict es ep/\es.toList.map (·.key)=ts.map ck/\(∀(i:Nat)(t:J)(q:!Key×V),ts[i]?>>t->ws[i]?>>q->H t>>(.tup (q.1.map kV)))/\ws.map (·.1)=l.map (λp=>lV p.1)/\bQ K H (ws.map (·.2)) (l.map (·.2)):=by
 unfold Bt at r;generalize e:l.map (λp=>(J6 p,p.2))=ds at r;cases r with
 |dct h k t=>
  rename_i a ws
  exfalso;cases ws with
  |nil=>simp at k
  |cons q ws=>
   rw[ao,ao]at k;injection k with k1 _
   cases eq:q.1 with
   |inl i=>rw[eq]at k1;cases k1
   |inr x=>rw[eq]at k1;cases k1
 |Xi h h2 h3 h4 k t=>
  rename_i a o ws es ep ts
  refine#[a,o,ws,es,ep,ts,Y,h,h2,h3,h4,E9 ?_,?_]
  .rw[<-k,<-e,aG];rfl
  .rw[<-e,aG]at t;exact t
theorem Dx:∀{l:!((O×O)×U)}{ws:!(!Key×V)}{H:Hp}{p:O×O}{d:U},ws.map (·.1)=l.map (λp=>lV p.1)->bQ K H (ws.map (·.2)) (l.map (·.2))->iz l p>>d->∃v,iW ws (lV p)>>v/\Rep K H v d
 | [],_,_,_,_,_,_,h=>by cases h
 |_::_,[],_,_,_,e,_,_=>by simp at e
 |q::l,w::ws,H,p,d,e,r,h=>by
  rw[ao,ao]at e;injection e with e1 e2
  cases r with
  |cons r1 r2=>
   by_cases hq:q.1=p
   .rw[ei hq]at h;cases h;exact#[w.2,mN (by rw[e1,hq]),r1]
   .rw[bT hq]at h;rw[jd (λz=>hq (zV (by rw[<-e1,<-z])))];exact Dx e2 r2 h
end
def ItG(a:J)(o:Obj)(kvs:!(!Key×V))(ts:!J):It:=#[λi H=>i<kvs.length/\H a>>(.jx o (.dT kvs)),λi H x H'=>H'=H/\∃t,ts[i]?>>t/\x=.ref t,λi H=>kvs.length<=i/\H a>>(.jx o (.dT kvs))]
section
variable{X:Cx}{σ:St}{H:Hp}{a:J}{kvs:!(!Key×V)}{o:Obj}{es:Array fq}{ep:Nat}{ts:!J}
theorem qQ{pins:!(J×Obj)}{s:aU}(I:Inv X pins σ H s)(h:H a>>(.jx o (.dT kvs)))(h2:o.data=.dict es ep):s.heap.get? a>>o/\o.ExactDict/\(a==sysModules)=false/\es.size=kvs.length:=by let#[ho,z,lo,xs,r,o',Qq,Qr,h1,hc,h3,h4,_]:=(show gf X.prog X.w H s.heap a (.jx o (.dT kvs))from I.hok a _ h);rw[ho]at h1;cases h1;rw[h2]at h3;cases h3;exact#[ho,hc,lo,[<-cu,h4,ae]▸r.length.symm]
theorem HP(a it:J)(he:o.data=.dict es ep)(ht:es.toList.map (·.key)=ts.map ck):Turn P w K tg (ItG a o kvs ts) [it] it (λi h=>h.IsKeyIter it a i es.size ep) where
 mem:=∅
 obj:=λi h st b hb=>by
  let e:b=it:=by simpa using hb
  subst e;let#[o,e,c,d]:=st;exact#[o,e,λv z=>by rw[d]at z;cases z]
 keep:=λi h h' st k=>let#[o,e,r]:=st;#[o,k it ∅ o e,r]
 item:=by
  intro X hP hw hK hc i pins s σ H E I hf st hg;subst hP hw hK;let#[f0,f1,f2,f3,f4,f5]:=hf it ∅;let#[hi,ha]:=hg;let#[ho,_,_,yL]:=qQ I ha he;let hie:i<es.size:=[yL]▸hi;obtain⟨t,Q5,RC⟩:∃t,ts[i]?>>t/\es[i].key=.ref t:=by
   let e1:=qQ6 (·[i]?) ht;simp only[ay,fD,fA hie,dJ]at e1;cases ZD:ts[i]? with
   |none=>rw[ZD]at e1;cases e1
   |some t=>rw[ZD]at e1;exact#[t,Y,bK e1]
  refine E8 st ho he (fA hie) λh' vU sb=>?_;let I1:Inv X pins σ H { s with heap:=h' }:=I.turned (t':=s.toks) (λb o hb e=>(sb.2 b hb).trans e) f0 f1 f3 f4 f5;let#[oi,e,c,d]:=id vU;rw[RC];exact#[_,Y,BM (s:={ s with heap:=h' }) e c d ⋯ #[.ref t,H,I1,Y,#[Y,t,Q5,Y],vU,λb hb=>(hf b hb).1]]
 done:=by intro X hP hw hK hc i pins s σ H E I hf st hg;subst hP hw hK;let#[f0,f1,f2,f3,f4,f5]:=hf it ∅;let#[hi,ha]:=hg;let#[ho,_,_,yL]:=qQ I ha he;exact J4 (I.ok.hd hc) st ho he ([yL]▸hi) λh' eb=>#[Y,I.turned (t':=s.toks) (λb o hb e=>eb b o hb e) f0 f1 f3 f4 f5]
 self:=λ_ _ _ _ _ st h=>wR st h
def Wo(tl:TE):TI:=λσ H R=>tl σ H λv H1=>∃(a:J)(o:Obj)(kvs:!(!Key×V))(es:Array fq)(ep:Nat)(ts:!J),v=.ref a/\H1 a>>(.jx o (.dT kvs))/\o.data=.dict es ep/\es.toList.map (·.key)=ts.map ck/\R (ItG a o kvs ts) H1
theorem OO{l: bY}{tl:TE}(hl:PE X l tl):PI X tg l (Wo tl):=by
 intro pins s σ H R I h;refine fV (hl pins s σ H _ I h) λv s1 #[y,H1,I1,r1,q1]=>?_;let#[a,o,kvs,es,ep,ts,e,ha,he,ht,q]:=q1;subst e;cases r1;let#[ho,hc,lo,yL]:=qQ I1 ha he;refine E7 lo ho hc he ?_;refine#[s1.heap.objs.size,[s1.heap.objs.size],_,_,H1,Y,I1.kept (t':=s1.toks) λb o e=>av _ e,HP a _ he ht,#[_,aV _ Y,Y,Y],λb hb=>?_,q];let e:b=s1.heap.objs.size:=by simpa using hb
 subst e;exact I1.uE (aE _) (I1.hok.fresh (aE _))
theorem Fb{e i:bY}{td ty:TE}{pos:Pos}(hu:X.A.units+1<cLine)(ho:PE X e td)(hi:PE X i ty)(hs:Ey i):PE X (.Subscript e i pos) (λσ H Q=>td σ H λx H1=>ty σ H1 λy H2=>∃a kvs k b v,x=.ref a/\y=.ref b/\Rd H2 a (.dT kvs)/\nG X.K H2 b (k.map kV)/\iW kvs k>>v/\Q v H2):=by intro pins s σ H Q I h;refine C_ oS.lookup hs (fV (ho pins s σ H _ I h) λu s1 #[x,H1,I1,rx,q1]=>fV (hi pins s1 σ H1 _ I1 q1) λiv s2 #[y,H2,I2,ry,a,kvs,k,b,v,ex,ey,hd,hq,l,q2]=>?_);subst ex ey;obtain rfl:u=ck a:=rx;obtain rfl:iv=ck b:=ry;let#[_,_,xs,rel,dd]:=yb I2.hok hd;let#[w',hw,pZ]:=uC.some_of (v:=v) (o:=(atKey xs k).map (·.2)) ([<-l]▸rel.val k);let#[p,hp,Yx]:=rB.mp hw;let#[its,rv,#[ot,g1,g2,n,g3],_]:=I2.tuple hq;refine#[dd.typeIs,wpAny_getItem_heap (jL hu) #[ot,its.toArray,n,g1,g2,g3,by simpa using xg rv] dd hp ?_];rw[Yx];exact#[v,H2,I2.tok _,pZ,q2]
end
section
variable{X:Cx}{a b:bY}{δ:!Slot}{d:U}{l:!((O×O)×U)}{pos p p2:Pos}{k:Nat}{x:O×O}
theorem Fc{tg:bY}(h:VE X a δ (Bt l)):VI X tg a δ (l.map J6):=#[_,OO cA,λB0 B σ H0 H R f q=>h B0 B σ H0 H _ f λv H1 cY g r=>by
 let#[a,o,ws,es,ep,ts,rfl,ha,he,ht,hk,ke,rs]:=r.E_;let hl:ws.length=l.length:=by let:=qQ6 dq ke;simpa using this
 refine#[a,o,ws,es,ep,ts,Y,g.sub _ _ ha,he,ht,q _ H1 cY g λHa Hb s1 s2 i=>#[λhi=>#[by simpa[hl]using hi,s2 _ _ (s1 _ _ ha)],λhi=>#[by simpa[hl]using hi,s2 _ _ (s1 _ _ ha)],λx wJ d hd #[e,t,hz,ex]=>?_]];subst e;subst ex;rw[ay]at hd;cases hp:l[i]? with
 |none=>rw[hp]at hd;cases hd
 |some w=>
  rw[hp]at hd;cases hd;let e1:=qQ6 (·[i]?) ke;simp only[ay,hp,dJ]at e1;cases hw:ws[i]? with
  |none=>rw[hw]at e1;cases e1
  |some w'=>rw[hw]at e1;let e2:w'.1=lV w.1:=bK e1;let ht':=hk i t w' hz hw;rw[e2]at ht';exact#[Ha,.refl s2,.tup (nG.of (s1 _ _ ht')) (.cons (.str _) (.cons (.str _) .nil))]]
theorem bQ.two_str(r:bQ K H xs [.str y,.str z]):xs=(lV (y,z)).map kV:=by cases r with|cons a t=>cases t with|cons b t=>cases t;cases a;cases b;rfl
theorem Lv(hr:eL k X.A)(h1:VE X a δ (qM l))(h2:VE X b δ (.tuple [.str x.1,.str x.2]))(hx:iz l x>>d)(hs:Ey b:=by intro _ _;rfl):VE X (.Subscript a b pos) δ d:=
 .of (Fb (MD hr) cA cA hs) λB0 B σ H0 H Q fr q=>h1 B0 B σ H0 H _ fr λv H1 cY g r=>h2 B0 B σ H1 cY _ (fr.grow g) λu H2 f9 g2 r2=>by
  let#[p,ws,rfl,hp,ke,rs]:=r.mQ;cases r2 with
  |tup hq JL=>rw[JL.two_str]at hq;let#[w,hw,pZ]:=Dx ke rs hx;exact#[p,ws,lV x,_,w,Y,Y,.inl (g2.sub _ _ (g2.eE _ _ hp)),cy.oo g2.sub hq,hw,q w H2 f9 (g.trans g2) (pZ.mono g2.eE)]
theorem Ak(hr:eL k X.A)(h1:VE X a δ (Bt l))(h2:VE X b δ (.tuple [.str x.1,.str x.2]))(hx:iz l x>>d)(hs:Ey b:=by intro _ _;rfl):VE X (.Subscript a b pos) δ d:=
 .of (Fb (MD hr) cA cA hs) λB0 B σ H0 H Q fr q=>h1 B0 B σ H0 H _ fr λv H1 cY g r=>h2 B0 B σ H1 cY _ (fr.grow g) λu H2 f9 g2 r2=>by
  let#[p,o,ws,es,ep,ts,rfl,hp,_,_,_,ke,rs]:=r.E_;cases r2 with
  |tup hq JL=>rw[JL.two_str]at hq;let#[w,hw,pZ]:=Dx ke rs hx;exact#[p,ws,lV x,_,w,Y,Y,.inr #[o,g2.sub _ _ (g2.eE _ _ hp)],cy.oo g2.sub hq,hw,q w H2 f9 (g.trans g2) (pZ.mono g2.eE)]
theorem Lw(hk:bp X.K (.type "dict") (.type tn)>>kb):iS X (.builtin "isinstance") (λxs H Q=>∃a ws,xs=[.ref a,.ty tn]/\Rd H a (.dT ws)/\Q (.bl kb) H):=by intro pins s σ H xs us Q I r h;let#[a,ws,rfl,rx,q]:=h;let#[u,w',rfl,r1,r2]:=vals2 r;cases r2;cases r1;let#[_,_,es,_,_,#[o,e,ex,_],_]:=I.ents rx;exact hX Jd I.Be #[o,e,ex.1] hk (λz=>nomatch z) λtk=>#[.bl kb,H,I.tok tk,Y,q]
theorem yj(h:VE X a δ (qM l))(hk:bp X.K (.type "dict") (.type tn)>>kb)(hb:bootBuiltins y>>(.type tn))(m1:X.mg "isinstance"=none)(m2:X.mg y=none)(hv:bootBuiltins "isinstance"=some (.builtin "isinstance"))
  (hg:Gl X "isinstance":=by rfl)(Rc:Gl X y:=by rfl)(hn:y≠"__name__":=by decide)(p5:uZ y:=by decide)(hs:starEach [a,.Name y p2] X.env=(false,eval a X.env)::starEach [.Name y p2] X.env:=by rfl)(lP:starEach [.Name y p2] X.env=(false,eval (.Name y p2) X.env)::starEach [] X.env:=by rfl)
  (mw:rQ X pos [.Name y p2]:=by rfl):VE X (.Call (.Name "isinstance" p) [a,.Name y p2] [] pos) δ (.bool kb):=
 .of (sD (Lw hk) hg m1 hv (cC cA (cC (CV Rc m2 hb (v:=.ty tn) Y hn p5) dP lP) hs) ⋯ ⋯ hs mw) λB0 B σ H0 H Q f q=>h B0 B σ H0 H _ f λv H1 cY g r=>by let#[b,ws,rfl,hb,_,_]:=r.mQ;exact#[b,ws,Y,.inl (g.sub _ _ hb),q _ H1 cY g (.bl _)]
theorem RT{pp1 pp2 q1 q2:Pos}(hr:eL k X.A)(ly:Lay 20 (.list (l.map J6)))(hc:X.calm=true)(h1:VE X a δ (qM l))(h2:VE X b δ (qM l))(m1:X.mg "list"=none)(hg:Gl X "list":=by rfl)(Gw:lF X a []:=by rfl)(lP:lF X b []:=by rfl)(hp1:rQ X q1 []:=by rfl)(Yx:rQ X q2 []:=by rfl):
  VT X (.Compare (.Call (.Name "list" pp1) [a] [] q1) [.NotEq] [.Call (.Name "list" pp2) [b] [] q2] pos) δ false:=
 .of (CZ (Hq (zQ hr)) (lQ (rJ hc) hg m1 Y (cC cA dP Gw) ⋯ ⋯ Gw hp1) (lQ (rJ hc) hg m1 Y (cC cA dP lP) ⋯ ⋯ lP Yx) (fX _)) λB0 B σ H0 H Q f q=>h1 B0 B σ H0 H _ f λv H1 cY g r=>by
  let#[p,ws,rfl,hp,ke,rs]:=r.mQ;refine#[p,ws,Y,.inl (g.sub _ _ hp),λl1 ts1 EJ Q5 Jv=>?_];let g1:di H0 H H1 (upd cY l1 (.lst (ts1.map V.ref))):=g.trans (.loose g.sub EJ);refine h2 B0 B σ H1 _ _ (f.grow g1) λu H2 f9 g2 r2=>?_;let#[p',ws',rfl,hp',ke',_]:=r2.mQ;refine#[p',ws',Y,.inl (g2.sub _ _ hp'),λl2 ZE B6 RC VX=>?_];let g3:=g2.trans (.loose (o:=.lst (ZE.map V.ref)) g2.sub B6);let big:∀b o,cY b>>o->(upd f9 l2 (.lst (ZE.map V.ref))) b>>o:=λb o e=>g3.big _ _ ([aI (bu e EJ)]▸e);let rp:∀{ws:!(!Key×V)}{ts:!J}{Hz:Hp}(l:!((O×O)×U)),ws.map (·.1)=l.map (λp=>lV p.1)->ts.length=ws.length->(∀(i:Nat)(t:J)(q:!Key×V),ts[i]?>>t->ws[i]?>>q->Hz t>>(.tup (q.1.map kV)))->bQ X.K Hz (ts.map V.ref) (l.map J6):=by
   intro ws;induction ws with
   |nil=>
    intro ts Hz l e hl _;cases l with
    |nil=>
     cases ts with
     |nil=>exact .nil
     |cons _ _=>cases hl
    |cons _ _=>simp at e
   |cons w ws ih=>
    intro ts Hz l e hl hk;cases l with
    |nil=>simp at e
    |cons q l=>
     cases ts with
     |nil=>cases hl
     |cons t ts=>
      rw[ao,ao]at e;injection e with e1 e2
      let h0:=hk 0 t w Y Y;rw[e1]at h0;exact .cons (.tup (nG.of h0) (.cons (.str _) (.cons (.str _) .nil))) (ih l e2 ↑hl λi t' q' a b=>hk (i+1) t' q' a b)
  let hz1:(upd f9 l2 (.lst (ZE.map V.ref))) l1>>(.lst (ts1.map V.ref)):=g3.big _ _ aP;let R1:Rep X.K (upd f9 l2 (.lst (ZE.map V.ref))) (.ref l1) (.list (l.map J6)):=.lst (jY.of hz1) (rp l ke Q5 λi t q a b=>big _ _ (Jv i t q a b));let R2:Rep X.K (upd f9 l2 (.lst (ZE.map V.ref))) (.ref l2) (.list (l.map J6)):=.lst (jY.of aP) (rp l ke' RC λi t q a b=>[aI (bu (VX i t q a b) B6)]▸VX i t q a b);exact#[_,_,R1,R2,ly,ly,false,qQ6 (λz=>V.bl (not z)) (SeqAt.eqv_refl _ ly.1),q H2 _ (g1.trans g3)]
end
theorem bQ.yk{H': Hp}:∀{ds:!U}{xs:!V},bQ K H xs ds->(∀d∈ds,o5 d=true)->bQ K H' xs ds
 | [],_,r,_=>by cases r;exact .nil
 |d::ds,_,r,h=>by cases r with|cons a t=>exact .cons (a.yN (h d aB)) (t.yk λd hd=>h d (aD _ hd))
section
variable{X:Cx}{pins:!(J×Obj)}{σ:St}{H:Hp}{s:aU}{a:J}{ws:!(!Key×V)}
theorem Inv.J7(I:Inv X pins σ H s)(h:H a>>(.dT ws)):∃(o:Obj)(es:Array fq)(ep:Nat)(ts:!J),o.data=.dict es ep/\es.toList.map (·.key)=ts.map ck/\(∀(i:Nat)(t:J)(q:!Key×V),ts[i]?>>t->ws[i]?>>q->H t>>(.tup (q.1.map kV)))/\Inv X pins σ (upd H a (.jx o (.dT ws))) s:=by
 let#[z,lo,xs,r,o,es,ep,h1,h2,h3,h4,h5]:=(show gf X.prog X.w H s.heap a (.dT ws)from I.hok a _ h);let nt:∀{t:J}{ys:!V}{u:HO},H t>>(.tup ys)->(upd H a u) t>>(.tup ys):=λ{t ys u}e=>by rw[aI λz=>by subst z;rw[h]at e;cases e];exact e
 let go:∀{ws:!(!Key×V)}{xs:!(!Key×J×M)},wK (λ(p:!Key×V)(q:!Key×J×M)=>p.1=q.1/\H q.2.1>>(.tup (p.1.map kV))/\RelV p.2 q.2.2) ws xs->∀(i:Nat)(t:J)q,(xs.map (·.2.1))[i]?>>t->ws[i]?>>q->H t>>(.tup (q.1.map kV)):=by
  intro ws xs r;induction r with
  |nil=>intro i t q _ h;cases h
  |cons h1 _ ih=>
   intro i t q e h;cases i with
   |zero=>cases h;cases e;exact h1.2.1
   |succ i=>exact ih i t q e h
 refine#[o,es,ep,xs.map (·.2.1),h3,by rw[h4,aG,aG];rfl,go r,?_];exact I.write (x:=a) (e:=a) (h':=s.heap) (t':=s.toks) (o:=.jx o (.dT ws)) (by rw[h];trivial) (.inl Y) (λb u _ q=>q) #[o,h1] #[h1,z,lo,xs,wK.Qn r λ_ _ y=>#[y.1,nt y.2.1,y.2.2],o,es,ep,h1,h2,h3,h4,h5]
theorem Inv.TH{o:Obj}(I:Inv X pins σ H s)(h:H a>>(.jx o (.dT ws)))(hn:∀o u,X.H₀ a≠some (.jx o u)):Inv X pins σ (upd H a (.dT ws)) s:=by
 let ne:∀{b:J},H b=none->b≠a:=λe z=>by subst z;rw[h]at e;cases e
 let ob:gf X.prog X.w H s.heap a (.dT ws):=(Rd.ok (.inr #[o,h]) I.hok);refine#[I.ok,I.os,I.bare,#[I.base.keep,I.base.slot,λb u e n hx=>?_,I.base.there,λb xs e=>?_,λb ob u e=>?_,λb ps e=>?_],I.loc,I.cell,?_,λx c e=>?_,λp hp=>?_,λb u e=>?_,I.len]
 .let q:=I.base.free b u e n hx;rw[aI (ne q)];exact q
 .let q:=I.base.tups b xs e;rw[aI (λz=>by subst z;rw[h]at q;cases q)];exact q
 .let q:=I.base.sx b ob u e;rw[aI (λz=>by subst z;exact hn _ _ e)];exact q
 .let#[more,q]:=I.base.yH b ps e;exact#[more,by rw[aI (λz=>by subst z;rw[h]at q;cases q)];exact q]
 .rw[aI (ne I.free)];exact I.free
 .rw[aI (ne (I.og x c e))];exact I.og x c e
 .let#[q1,q2,q3]:=I.pin p hp;exact#[q1,[aI (ne q2)]▸q2,q3]
 .let st:∀{b:J}{u:HO},gf X.prog X.w H s.heap b u->gf X.prog X.w (upd H a (.dT ws)) s.heap b u:=λx=>x.stay (λc v _ q=>q) (λc q=>by rw[aI (λz=>by subst z;rw[h]at q;cases q)];exact q) λc xs q=>by rw[aI (λz=>by subst z;rw[h]at q;cases q)];exact q
  by_cases hb:b=a
  .subst hb;rw[aP]at e;cases e;exact st ob
  .rw[aI hb]at e;exact st (I.hok b u e)
end
section
variable{X:Cx}{e:bY}{δ δ1 δ2:!Slot}{d:U}{kvs:!(O×U)}{l:!((O×O)×U)}
theorem Ce(sub:cy H0 H)(ha:H a>>u)(g:cy (upd H a u') Hb):di H0 H H0 (upd Hb a u):=by
 let big:cy H (upd Hb a u):=λb w e=>by
  by_cases hb:b=a
  .subst hb;rw[aP];rw[ha]at e;exact e
  .rw[aI hb];exact g b w ([aI hb]▸e)
 exact#[big,cy.refl _,λb w e=>big b w (sub b w e),λ_ z=>.inl z]
theorem OQ(i j:Nat)(hi:δ[i]?>>(.val (je kvs)))(hj:δ[j]?>>(.val (je kvs)))(Wp:∀q∈kvs,Ee q.2)(hs:o5 d=true)(EJ:δ1.length=δ.length)(B6:δ2.length=δ.length)(c1:∀(k:Nat)(sl:Slot),δ1[k]?>>sl->sl=.un\/(k=i/\sl=.val (Br kvs))\/(k=j/\sl=.val (je kvs)))(c2:∀(k:Nat)(sl:Slot),δ2[k]?>>sl->sl=.un\/((k=i\/k=j)/\sl=.val (Br kvs)))(h1:VE X e δ1 d)(h2:VE X e δ2 d):VE X e δ d:=λB0 B σ H0 H Q f q pins s I=>by
 let#[v,hv,rv]:=f.val hi;let#[a,ws,rfl,ha,ke,rs]:=rv.kB;let#[v2,ZF,Qe]:=f.val hj;let#[b,ws2,rfl,hb,ke2,JL]:=Qe.kB;let Dy:H a>>(.dK ws):=f.sub _ _ ha;let#[o,I']:=I.freeze Dy;let hn:∀o u,X.H₀ a≠some (.jx o u):=λo u z=>by let:=I.base.sx a o u z;rw[Dy]at this;cases this
 let cs:cy (kS H0 a) (upd H a (.jx o (.dK ws))):=λc u z=>by
  let hc:c≠a:=λy=>by subst y;rw[ur]at z;cases z
  rw[jA hc]at z;rw[aI hc];exact f.sub _ _ z
 let vl:∀{ws:!(Key×V)},bQ X.K H0 (ws.map (·.2)) (kvs.map (·.2))->bQ X.K (upd H a (.jx o (.dK ws))) (ws.map (·.2)) (kvs.map (·.2))/\∀{Hx:Hp},cy (kS H0 a) Hx->bQ X.K Hx (ws.map (·.2)) (kvs.map (·.2)):=λ{ws}r=>by
  let r':=bQ.Og (JX ha) r λd hd=>by let#[w,hw,rfl]:=aj.mp hd;exact Wp w hw
  refine#[r'.mono λc u z=>?_,λs=>r'.mono s];let hc:c≠a:=λy=>by subst y;rw[ur]at z;cases z
  rw[jA hc]at z;rw[aI hc];exact f.sub _ _ z
 let kd:∀{ws:!(Key×V)},ws.map (·.1)=kvs.map (λp=>(bh p.1:Key))->(kvs.map λp=>(aJ p.1,p.2)).map (·.1)=ws.map λp=>nJ p.1:=λ{ws}ke=>by let:=qQ6 (rC nJ) ke;rw[aG,aG]at this;rw[aG];exact this.symm
 let RF:Rep X.K (upd H a (.jx o (.dK ws))) (.ref a) (Br kvs):=.Xh aP (kd ke) ([aG]▸(vl rs).2 cs);let fin:∀{δ':!Slot},δ'.length=δ.length->(∀(k:Nat)(sl:Slot),δ'[k]?>>sl->sl=.un\/∃d v,sl=.val d/\σ[k]?>>(some v)/\Rep X.K (upd H a (.jx o (.dK ws))) v d)->VE X e δ' d->wpAny (model X.prog X.w) X.A (eval e X.env) (EP X pins σ Q) X.xe s:=λ{δ'}hl hc h=>by
  let f':fK X.K (upd H a (.jx o (.dK ws))) (upd H a (.jx o (.dK ws))) (upd H a (.jx o (.dK ws))) (upd H a (.jx o (.dK ws))) σ δ':=by
   refine#[.refl (cy.refl _),[hl]▸f.len,λk sl z=>?_,λk k' ds es p _ z1 _ _=>?_]
   .rcases hc k sl z with rfl|⟨d,v,rfl,y1,y2⟩
    .trivial
    .exact#[v,y1,y2]
   .rcases hc k _ z1 with y|⟨_,_,y,_⟩<;>cases y
  exact fV (h _ _ σ _ _ (λv H2=>H2 a>>(.jx o (.dK ws))/\Q v (upd H2 a (.dK ws))) f' (λv Ha Hb g r=>#[g.big _ _ aP,q v H0 _ (Ce f.sub Dy g.big) (r.yN hs)]) pins s I') λu s1 #[v,H1,I1,r1,hfz,q1]=>#[v,_,I1.Zh hfz hn,r1,q1]
 by_cases N3:b=a
 .subst N3;refine fin B6 (λk sl z=>?_) h2;rcases c2 k sl z with y|⟨rfl|rfl,rfl⟩
  .exact .inl y
  .exact .inr #[_,_,Y,hv,RF]
  .exact .inr #[_,_,Y,ZF,RF]
 .refine fin EJ (λk sl z=>?_) h1;rcases c1 k sl z with y|⟨rfl,rfl⟩|⟨rfl,rfl⟩
  .exact .inl y
  .exact .inr #[_,_,Y,hv,RF]
  .exact .inr #[_,_,Y,ZF,.dct (kvs:=ws2) ([aI N3]▸f.sub _ _ hb) (kd ke2) ([aG]▸(vl JL).2 cs)]
theorem OS(i j:Nat)(hi:δ[i]?>>(.val (qM l)))(hj:δ[j]?>>(.val (qM l)))(Wp:∀q∈l,o5 q.2=true)(hs:o5 d=true)(EJ:δ1.length=δ.length)(B6:δ2.length=δ.length)(c1:∀(k:Nat)(sl:Slot),δ1[k]?>>sl->sl=.un\/(k=i/\sl=.val (Bt l))\/(k=j/\sl=.val (qM l)))(c2:∀(k:Nat)(sl:Slot),δ2[k]?>>sl->sl=.un\/((k=i\/k=j)/\sl=.val (Bt l)))(h1:VE X e δ1 d)(h2:VE X e δ2 d):VE X e δ d:=λB0 B σ H0 H Q f q pins s I=>by
 let#[v,hv,rv]:=f.val hi;let#[a,ws,rfl,ha,ke,rs]:=rv.mQ;let#[v2,ZF,Qe]:=f.val hj;let#[b,ws2,rfl,hb,ke2,JL]:=Qe.mQ;let Dy:H a>>(.dT ws):=f.sub _ _ ha;let#[o,es,ep,ts,hd,ht,hk,I']:=I.J7 Dy;let hn:∀o u,X.H₀ a≠some (.jx o u):=λo u z=>by let:=I.base.sx a o u z;rw[Dy]at this;cases this
 let sc:∀d∈l.map (·.2),o5 d=true:=λd hd=>by let#[w,hw,rfl]:=aj.mp hd;exact Wp w hw
 let kd:∀{ws:!(!Key×V)},ws.map (·.1)=l.map (λp=>lV p.1)->(ws.map λp=>dg (p.1.map nJ))=l.map J6:=λ{ws}ke=>by let:=qQ6 (rC λks:!Key=>dg (ks.map nJ)) ke;rw[aG,aG]at this;exact this
 let RF:Rep X.K (upd H a (.jx o (.dT ws))) (.ref a) (Bt l):=.Xi aP hd ht (λi t q y1 y2=>by
  let:=hk i t q y1 y2;rw[aI λz=>by subst z;rw[Dy]at this;cases this];exact this) (by rw[kd ke,aG];rfl) ([aG]▸rs.yk sc);let fin:∀{δ':!Slot},δ'.length=δ.length->(∀(k:Nat)(sl:Slot),δ'[k]?>>sl->sl=.un\/∃d v,sl=.val d/\σ[k]?>>(some v)/\Rep X.K (upd H a (.jx o (.dT ws))) v d)->VE X e δ' d->wpAny (model X.prog X.w) X.A (eval e X.env) (EP X pins σ Q) X.xe s:=λ{δ'}hl hc h=>by
  let f':fK X.K (upd H a (.jx o (.dT ws))) (upd H a (.jx o (.dT ws))) (upd H a (.jx o (.dT ws))) (upd H a (.jx o (.dT ws))) σ δ':=by
   refine#[.refl (cy.refl _),[hl]▸f.len,λk sl z=>?_,λk k' ds es p _ z1 _ _=>?_]
   .rcases hc k sl z with rfl|⟨d,v,rfl,y1,y2⟩
    .trivial
    .exact#[v,y1,y2]
   .rcases hc k _ z1 with y|⟨_,_,y,_⟩<;>cases y
  exact fV (h _ _ σ _ _ (λv H2=>H2 a>>(.jx o (.dT ws))/\Q v (upd H2 a (.dT ws))) f' (λv Ha Hb g r=>#[g.big _ _ aP,q v H0 _ (Ce f.sub Dy g.big) (r.yN hs)]) pins s I') λu s1 #[v,H1,I1,r1,hfz,q1]=>#[v,_,I1.TH hfz hn,r1,q1]
 by_cases N3:b=a
 .subst N3;refine fin B6 (λk sl z=>?_) h2;rcases c2 k sl z with y|⟨rfl|rfl,rfl⟩
  .exact .inl y
  .exact .inr #[_,_,Y,hv,RF]
  .exact .inr #[_,_,Y,ZF,RF]
 .refine fin EJ (λk sl z=>?_) h1;rcases c1 k sl z with y|⟨rfl,rfl⟩|⟨rfl,rfl⟩
  .exact .inl y
  .exact .inr #[_,_,Y,hv,RF]
  .exact .inr #[_,_,Y,ZF,.Tf (kvs:=ws2) ([aI N3]▸f.sub _ _ hb) (by rw[kd ke2,aG];rfl) ([aG]▸JL.yk sc)]
end
section
variable{prog:bW}{w:cP}{A:g7}{E:M->aU->Prop}{s:aU}{it d:J}{i ep:Nat}{od:Obj}{es:Array fq}{ok ov:M}
theorem Dz(d:J)(hd:(d==sysModules)=false):
  MeetsIn prog w (rV.«dict.items» #[[.ref d],[]]) (λ_ R s=>s.TypeIs (.ref d) "dict"/\R (.ok (.ret (.ref s.heap.objs.size))) { s with heap:=s.heap.push { cls:=.type "dict_items",data:=.fields (bf [.ref d]) } }):=
 .of_wp λA R s #[T,h]=>by refine L (L (vS T (aM (a:=d) (show wpAny _ _ (k5 d >>= _) _ _ s from ?_))));unfold k5;rw[hd,qQ2 ⋯];exact L (aM (L (cR (aM #[_,Y,h]))))
theorem Lx{v:J}{Q:M->aU->Prop}(hv:s.heap.IsItemsView v d)(h1:s.heap.get? d>>od)(h2:od.data=.dict es ep)
  (q:Q (.ref s.heap.objs.size) { s with heap:=s.heap.push { cls:=.type "dict_itemiterator",data:=.fields (bf [.none,.bool false,.ref d,.int 0 0,.int es.size 0,.int ep 0,.none,.none]) } }):wpAny (model prog w) A (pyIter (.ref v)) Q E s:=by let T:=hv.typeIs;let#[o,g1,g2,g3]:=hv;refine wpAny_pyIter_slot T F.slot_dict_items_iter (eN F.slot_dict_items_iter T F.entry_dict_items_iter (L (aM (L (L (dM g1 g3 (x:=.ref d) Y (aM (L (L (kj h1 h2 (L (lK h1 h2 ?_)))))))))))  (F.args_dict_items_iter_1 _));simp only[show fx "dict_itemiterator"=true by decide,if_true];refine cR (aM #[_,Y,"dict_itemiterator",_,#[_,aV _ Y,Y],gu.lookup,?_]) (by simp only[sizeOk,pH,bJ,aN,bj,cx,cL];omega);simpa[rawInt,pH]using q
theorem Ly(hit:lO s.heap it d i es.size ep ok ov)(h1:s.heap.get? d>>od)(h2:od.data=.dict es ep)(hx:es[i]?>>e)
  (q:∀h',IsItemIterOut h' it d (i+1) es.size ep e.key e.val s.heap.objs.size->h'.get? s.heap.objs.size=some { cls:=.type "tuple",data:=.seq (bf [e.key,e.val]) }->(∀b o,b≠it->s.heap.get? b>>o->h'.get? b>>o)->Q (some (.ref s.heap.objs.size)) { s with heap:=h' }):wpAny (model prog w) A (pyNext (.ref it)) Q E s:=by
 let#[hp,g,dr,tk,os]:=s;let T:uW #[hp,g,dr,tk,os] (.ref it) "dict_itemiterator":=#[_,hit,Y];refine L (lE (dE (name:=sk "__next__") T gu (eN gu T Bd (L (aM (L (L ?_)))) (A3 _))));refine L (jq T (aM (L (wU hit Y ?_))));simp only[show fx "dict_itemiterator"=true by decide,if_true];show wpAny _ _ (if(ck d==iJ)=true then _ else _) _ _ _;rw[qQ2 (show ¬((ck d==iJ)=true)from gV)];refine L (aM (L (kj h1 h2 ?_)));rw[qQ2 ∅];refine L (aM (L (lK h1 h2 ?_)));rw[qQ2 ∅];refine aM ?_;simp only[show ¬((i:Int)<0)from by omega,if_false,cN,hx];refine L (L (jq T (aM (L (uX T ?_)))));show wpAny _ _ (setField (.ref it) 3 (rawInt ((i:Int)+1)) >>= _) _ _ #[hp,g,dr,tk,os];refine L (dO hit ∅ λh₁ ZG ZH=>?_);replace ZH:dA it hp h₁:=ZH;replace ZG:lO h₁ it d (i+1) es.size ep ok ov:=by let e:((i+1:Nat):Int)=(i:Int)+1:=();unfold lO;rw[e];simpa[rawInt]using ZG
 let T₁:uW #[h₁,g,dr,tk,os] (.ref it) "dict_itemiterator":=#[_,ZG,Y];refine L (hV (L (uX T₁ (L (uX T₁ ?_)))));show wpAny _ _ (rV.Dict_items.pairFromOwner (.ref it) 6 e.key e.val) _ _ #[h₁,g,dr,tk,os];refine L (wpAny_newTuple ?_);let ZI:lO (h₁.push { cls:=.type "tuple",data:=.seq (bf [e.key,e.val]) }) it d (i+1) es.size ep ok ov:=av _ ZG;generalize hh₂:h₁.push { cls:=.type "tuple",data:=.seq (bf [e.key,e.val]) }=h₂ at ZI;let hz₁:h₁.objs.size=hp.objs.size:=ZH.1;let Lz:it<hp.objs.size:=aX hit;let ht₂:h₂.get? hp.objs.size=some { cls:=.type "tuple",data:=.seq (bf [e.key,e.val]) }:=[<-hh₂,<-hz₁]▸aV _ Y;let hk₂:∀b o,b≠it->hp.get? b>>o->h₂.get? b>>o:=λb o hb e=>[<-hh₂]▸av _ (ZH.extBut b o hb e);show wpAny _ _ (rV.Dict_items.ownedTupleIsFree (.ref it) >>= _) _ _ #[h₂,g,dr,tk,os];rw[hz₁];clear hh₂ ZG ZH T₁ hz₁ h₁;refine L (L (dM ZI Y (x:=.none) Y (aM ?_)));simp only[if_true];refine L (dM ZI Y (x:=ok) Y (L (dM ZI Y (x:=ov) Y ?_)));refine L (dO ZI ∅ λh₃ he₃ hs₃=>?_);replace hs₃:dA it h₂ h₃:=hs₃;replace he₃:lO h₃ it d (i+1) es.size ep e.key ov:=he₃;refine L (dO he₃ ∅ λh₄ he₄ hs₄=>?_);replace hs₄:dA it h₃ h₄:=hs₄;replace he₄:lO h₄ it d (i+1) es.size ep e.key e.val:=he₄;refine L (dO he₄ ∅ λh₅ he₅ hs₅=>?_);replace hs₅:dA it h₄ h₅:=hs₅;replace he₅:IsItemIterOut h₅ it d (i+1) es.size ep e.key e.val hp.objs.size:=he₅;refine L (dO he₅ ∅ λh₆ he₆ hs₆=>?_);replace hs₆:dA it h₅ h₆:=hs₆;replace he₆:IsItemIterOut h₆ it d (i+1) es.size ep e.key e.val hp.objs.size:=he₆;let al:∀b o,b≠it->h₂.get? b>>o->h₆.get? b>>o:=λb o hb e=>hs₆.extBut b o hb (hs₅.extBut b o hb (hs₄.extBut b o hb (hs₃.extBut b o hb e)));exact L (Ea (aM (aM #[_,Y,aM (q h₆ he₆ (al _ _ (eG Lz) ht₂) λb o hb e=>al b o hb (hk₂ b o hb e))])))
theorem OU(hh:A.handled=none)(hit:lO s.heap it d i es.size ep ok ov)(h1:s.heap.get? d>>od)(h2:od.data=.dict es ep)(hi:es.size<=i)
  (q:∀h',zB it s.heap h'->Q none { s with heap:=h' }):wpAny (model prog w) A (pyNext (.ref it)) Q E s:=by let T:s.TypeIs (.ref it) "dict_itemiterator":=#[_,hit,Y];refine L (lE (dE (name:=sk "__next__") T gu (eN gu T Bd (L (aM (L (L ?_)))) (A3 _))));refine L (jq T (aM (L (wU hit Y ?_))));simp only[show fx "dict_itemiterator"=true by decide,if_true];show wpAny _ _ (if(ck d==iJ)=true then _ else _) _ _ s;rw[qQ2 (show ¬((ck d==iJ)=true)from gV)];refine L (aM (L (kj h1 h2 ?_)));rw[qQ2 ∅];refine L (aM (L (lK h1 h2 ?_)));rw[qQ2 ∅];refine aM ?_;simp only[show ¬((i:Int)<0)from by omega,if_false,cN,Ej hi];refine L (L (jq T (aM ?_)));show wpAny _ _ (setField (.ref it) 2 .none >>= _) _ _ s;refine L (qC hit Y ∅ ?_);show wpAny _ _ (newExc (.type "StopIteration") [] >>= _) _ _ _;refine L ?_;simp only[newExc,newTuple];refine L (cR (L (m:=firstArgMember _ _) (wpAny_of_eq (a:=iJ) (by first|rfl|(simp only[firstArgMember];rfl)) (cR ?_ (by size_fits)))) (by size_fits));simp only[raiseNew];refine L (wpAny_handled ?_);rw[show A.in1.handled=none from hh];refine L (aM (wpAny_throw ?_));exact L (CM (T:="StopIteration") (b:=true) #[_,aV _ Y,Y] GH (aM (q _ (((jI ..).extBut.push _).push _))))
end
def ItH(a:J)(o:Obj)(kvs:!(!Key×V))(ts:!J):It:=#[λi H=>i<kvs.length/\H a>>(.jx o (.dT kvs)),λi H x H'=>∃t q u,x=.ref t/\H t=none/\kvs[i]?>>q/\ts[i]?>>u/\H'=upd H t (.tup [.ref u,q.2]),λi H=>kvs.length<=i/\H a>>(.jx o (.dT kvs))]
section
variable{X:Cx}{kvs:!(!Key×V)}{o:Obj}{es:Array fq}{ep:Nat}{ts:!J}
theorem OV{a:J}{H:Hp}{pins:!(J×Obj)}{σ:St}{s:aU}(I:Inv X pins σ H s)(h:H a>>(.jx o (.dT kvs)))(h2:o.data=.dict es ep)(ht:es.toList.map (·.key)=ts.map ck){i:Nat}{q:!Key×V}(hq:kvs[i]?>>q):∃e u,es[i]?>>e/\ts[i]?>>u/\e.key=.ref u/\RelV q.2 e.val:=by
 let#[ho,z,lo,xs,r,o',Qq,Qr,h1,hc,h3,h4,_]:=(show gf X.prog X.w H s.heap a (.jx o (.dT kvs))from I.hok a _ h);rw[ho]at h1;cases h1;rw[h2]at h3;cases h3;let go:∀{kvs:!(!Key×V)}{xs:!(!Key×J×M)},wK (λ(p:!Key×V)(q:!Key×J×M)=>p.1=q.1/\H q.2.1>>(.tup (p.1.map kV))/\RelV p.2 q.2.2) kvs xs->∀(i:Nat)q,kvs[i]?>>q->∃x,xs[i]?>>x/\RelV q.2 x.2.2:=by
  intro kvs xs r;induction r with
  |nil=>intro i q h;cases h
  |cons h1 _ ih=>
   intro i q h;cases i with
   |zero=>cases h;exact#[_,Y,h1.2.2]
   |succ i=>exact ih i q h
 let#[x,hx,hv]:=go r i q hq;let he:es[i]?>>(entryOfKey (tupleKind (eB X.prog X.w)) x):=by rw[<-fD,h4,ay,hx];rfl
 refine#[_,x.2.1,he,?_,Y,hv];let e1:=qQ6 (·[i]?) ht;simp only[ay,fD,he,dJ]at e1;cases ZD:ts[i]? with
 |none=>rw[ZD]at e1;cases e1
 |some t=>rw[ZD]at e1;let e2:ck x.2.1=ck t:=bK e1;cases e2;rfl
theorem Fd{kk}(a it:J)(he:o.data=.dict es ep)(ht:es.toList.map (·.key)=ts.map ck):Turn P w K (.Tuple elts kk tp) (ItH a o kvs ts) [it] it (λi h=>∃ok ov,lO h it a i es.size ep ok ov) where
 mem:=∅
 obj:=λi h st b hb=>by
  let e:b=it:=by simpa using hb
  subst e;let#[_,_,e]:=st;exact#[_,e,λv z=>by cases z]
 keep:=λi h h' st k=>let#[ok,ov,e]:=st;#[ok,ov,k it ∅ _ e]
 item:=by
  intro X hP hw hK hc i pins s σ H E I hf st hg;subst hP hw hK;let#[hi,ha]:=hg;let#[ho,_,_,yL]:=qQ I ha he;let#[ok,ov,st]:=st;obtain⟨q,hq⟩:∃q,kvs[i]?>>q:=#[kvs[i],ax hi];let#[e,u,hx,hu,ek,rv]:=OV I ha he ht hq;let Vs:it<s.heap.objs.size:=aX st;refine Ly st ho he hx λh1 Mv Q5 Jv=>?_;refine#[.ref s.heap.objs.size,Y,Gm Mv λh2 Nt lP=>?_];replace lP:dA it h1 h2:=lP;let k2:∀b o,b∉[it]->s.heap.get? b>>o->h2.get? b>>o:=λb o hb q=>by let n1:b≠it:=λz=>hb (by simp[z]);exact(lP.2 b n1).trans (Jv b o n1 q)
  let I2:Inv X pins σ H { s with heap:=h2 }:=I.oY (t':=s.toks) k2 hf;let RC:h2.get? s.heap.objs.size=some { cls:=.type "tuple",data:=.seq (bf [e.key,e.val]) }:=(lP.2 _ (eG Vs)).trans Q5;let fT:uD X pins H s.heap.objs.size:=I.uE (aE _) I.fresh;let I3:Inv X pins σ (upd H s.heap.objs.size (.tup [.ref u,q.2])) { s with heap:=h2 }:=
   I2.track fT #[by show 2<=sizeLine;rw[cL];decide,[e.key,e.val],.cons (by rw[ek];rfl) (.cons rv .nil),#[_,RC,Y,_,Y]];refine#[.ref s.heap.objs.size,_,I3,Y,#[_,q,u,Y,I.fresh,hq,hu,Y],#[_,_,Nt],λb hb=>?_];let z':b=it:=by simpa using hb
  subst z';rw[aI (aZ Vs)];exact(hf b hb).1
 done:=by intro X hP hw hK hc i pins s σ H E I hf st hg;subst hP hw hK;let#[hi,ha]:=hg;let#[ho,_,_,yL]:=qQ I ha he;let#[ok,ov,st]:=st;exact OU (I.ok.hd hc) st ho he ([yL]▸hi) λh' eb=>#[Y,I.oY (ch:=[it]) (t':=s.toks) (λb o hb e=>eb b o (λz=>hb (by simp[z])) e) hf]
 self:=λ_ _ _ _ _ st h=>let#[_,_,e]:=st;PySem.W.kcp_self e h
def RV(to:TE):TI:=λσ H R=>to σ H λv H1=>∃(a:J)(o:Obj)(kvs:!(!Key×V))(es:Array fq)(ep:Nat)(ts:!J),v=.ref a/\H1 a>>(.jx o (.dT kvs))/\o.data=.dict es ep/\es.toList.map (·.key)=ts.map ck/\R (ItH a o kvs ts) H1
theorem LC{e:bY}{to:TE}{kk}{apos k6: Pos}(ho:PE X e to)(gM:y6 X e "items")(hline:(apos.endLine==k6.line)=true):PI X (.Tuple elts kk tp) (.Call (.Attribute e "items" apos) [] [] k6) (RV to):=by
 intro pins s σ H R I h;refine rU (T:="dict") (id:="dict.items") gM Y hline F.plainAttrs_dict rD F.type_dict_items (fV (ho pins s σ H _ I h) λu s1 #[x,H1,I1,rx,a,ob,kvs,es,ep,ts,ex,ha,he,ht,q]=>?_);subst ex;cases rx;let#[hg,hc,lo,yL]:=qQ I1 ha he;let T:s1.TypeIs (.ref a) "dict":=#[ob,hg,hc.1];refine#[T,?nd,?_]
 case nd=>exact λb z=>by cases z;exact#[ob,hg,hc.2.1]
 show wpAny _ _ (callWith k6 (.builtin "dict.items") [.ref a] [] []) _ _ _;refine method_meetsIn rD F.entry_dict_items Y (Je #[Y,T,F.args_dict_items_1 _,_,Dz a lo,T,?_]);refine Lx (d:=a) #[_,aV _ Y,Y,Y] (av _ hg) he ?_;let I2:Inv X pins σ H1 { s1 with heap:=s1.heap.push { cls:=.type "dict_items",data:=.fields (bf [.ref a]) } }:=I1.kept (t':=s1.toks) λb o e=>av _ e;refine#[_,[_],_,_,H1,Y,I2.kept (t':=s1.toks) λb o e=>av _ e,Fd a _ he ht,#[_,_,aV _ Y],λb hb=>?_,q];let e:=aA.mp hb;subst e;exact I2.uE (aE _) (I2.hok.fresh (aE _))
end
def Flat(d:U):Prop:=∃ds,d=.list ds/\∀e∈ds,o5 e=true
def J8(H H':Hp):Prop:=∀b,(∀xs,H b>>(.lst xs)->H' b>>(.lst xs))/\∀o xs,H b>>(.jx o (.lst xs))->H' b>>(.jx o (.lst xs))
theorem LD{H': Hp}(k:J8 H H'){v:V}(h:Flat d)(r:Rep K H v d):Rep K H' v d:=by
 let#[ds,rfl,hs]:=h;cases r with
 |lst hq rs=>
  refine .lst ?_ (rs.yk hs);rcases hq with(h|⟨o,h⟩)|h
  .exact .inl (.inl ((k _).1 _ h))
  .exact .inl (.inr #[o,(k _).2 _ _ h])
  .exact .inr h
theorem vj{H': Hp}(k:J8 H H'):∀{ds:!U}{xs:!V},(∀d∈ds,Flat d)->bQ K H xs ds->bQ K H' xs ds
 | [],_,_,r=>by cases r;exact .nil
 |d::ds,_,h,r=>by cases r with|cons a t=>exact .cons (LD k (h d aB) a) (vj k (λd hd=>h d (aD _ hd)) t)
def HQ(sl:Slot):Prop:=sl=.un\/∃ds,sl=.own ds/\∀d∈ds,Flat d
def sY(H:Hp)(ts:!J)(h:Hp):Hp:=λb=>if b∈ts then H b else h b
def isD:HO->Prop
 | .dK _=>True
 | .dT _=>True
 |_=>False
section
variable{K:ai}{B0 B H0 H Ha Hb:Hp}{σ σ2:St}{δ δ2:!Slot}{a p:J}{u z:HO}{ts:!J}{i:Nat}{d:U}
theorem J9(f:fK K B0 B H0 H σ δ)(ha:H0 a>>u)(hu:isD u)(OL:∀t∈ts,∃ys,H t>>(.tup ys))(hi:δ[i]?>>(.val d))(hv:σ[i]?>>(some (.ref p)))(hs:∀j sl,δ[j]?>>sl->j≠i->HQ sl):fK K (sY H ts (kS B0 a)) (upd B a z) (sY H ts (kS H0 a)) (upd H a z) σ (δ.set i (.ref p)):=by
 let Dy:=f.sub _ _ ha;let tne:∀{b:J},b∈ts->b≠a:=λhb e=>by let#[ys,y]:=OL _ hb;rw[e,Dy]at y;cases y;exact hu
 let TJ:∀{h:Hp}{b:J},b∈ts->sY H ts h b=H b:=λhb=>qQ3 hb;let out:∀{h:Hp}{b:J},b∉ts->sY H ts h b=h b:=λhb=>qQ2 hb;let kl:J8 H0 (sY H ts (kS H0 a)):=λb=>by
  by_cases hb:b∈ts
  .rw[TJ hb];exact#[λxs e=>f.sub _ _ e,λo xs e=>f.sub _ _ e]
  .rw[out hb];by_cases Fe:b=a
   .subst Fe;rw[ha];exact#[λxs e=>by cases e;exact hu.elim,λo xs e=>by cases e;exact hu.elim]
   .rw[jA Fe];exact#[λ_ e=>e,λ_ _ e=>e]
 refine#[#[λb w e=>?_,λb w e=>?_,λb w e=>?_,λb e=>?_],[eT]▸f.len,λj sl e=>?_,λj k ds es q BX e1 e2=>?_]
 .by_cases hb:b=a
  .subst hb;rw[aP]at e ⊢;exact e
  .rw[aI hb]at e ⊢;exact f.ent.big b w e
 .by_cases hb:b∈ts
  .rw[TJ hb]at e ⊢;exact e
  .rw[out hb]at e ⊢;let Fe:b≠a:=λy=>by subst y;rw[ur]at e;cases e
   rw[jA Fe]at e ⊢;exact f.ent.eE b w e
 .by_cases hb:b∈ts
  .rw[TJ hb]at e;rw[aI (tne hb)];exact e
  .rw[out hb]at e;let Fe:b≠a:=λy=>by subst y;rw[ur]at e;cases e
   rw[jA Fe]at e;rw[aI Fe];exact f.sub b w e
 .by_cases hb:b∈ts
  .rw[TJ hb]at e;exact .inl ([TJ hb]▸e)
  .rw[out hb]at e;let Fe:b≠a:=λy=>by subst y;rw[ur]at e;exact e Y
   rw[jA Fe]at e;rcases f.ent.new b e with y|y
   .exact .inl ([out hb,jA Fe]▸y)
   .exact .inr ([aI Fe]▸y)
 .by_cases hj:j=i
  .subst hj;rw[aR (aq.mp hi).1]at e;cases e;exact hv
  .rw[aO (bD hj)]at e;rcases hs j sl e hj with rfl|⟨ds,rfl,ZJ⟩
   .trivial
   .let#[q,xs,h1,h2,h3,h4,h5]:=f.slot j _ e;let TK:q≠a:=λy=>by subst y;rw[ha]at h3;cases h3
    let hqt:q∉ts:=λy=>by let#[ys,y]:=OL _ y;rw[h2]at y;cases y
    exact#[q,xs,h1,[aI TK]▸h2,[out hqt,jA TK]▸h3,[aI TK]▸h4,vj kl ZJ h5]
 .let hji:j≠i:=λy=>by subst y;rw[aR (aq.mp hi).1]at e1;cases e1
  let hki:k≠i:=λy=>by subst y;rw[aR (aq.mp hi).1]at e2;cases e2
  rw[aO (bD hji)]at e1;rw[aO (bD hki)]at e2;exact f.apart j k ds es q BX e1 e2
theorem Ff(f:fK K B0 B H0 H σ δ)(ha:H0 a>>u)(hu:isD u)(hz:∀xs,z≠.lst xs)(OL:∀t∈ts,∃ys,H t>>(.tup ys))(g:fK K (sY H ts (kS B0 a)) (upd B a z) Ha Hb σ2 (δ2.set i (.ref p)))(sm:cy (sY H ts (kS H0 a)) Ha)(rp:Rep K H0 (.ref p) d)(hi:δ2[i]?>>(.val d))(hs:∀j sl,δ2[j]?>>sl->j≠i->HQ sl):Hb a>>z/\∃Hc,cy H0 Hc/\fK K B0 B Hc (upd Hb a u) σ2 δ2:=by
 let Dy:=f.sub _ _ ha;let tne:∀{b:J},b∈ts->b≠a:=λhb e=>by let#[ys,y]:=OL _ hb;rw[e,Dy]at y;cases y;exact hu
 let TJ:∀{h:Hp}{b:J},b∈ts->sY H ts h b=H b:=λhb=>qQ3 hb;let out:∀{h:Hp}{b:J},b∉ts->sY H ts h b=h b:=λhb=>qQ2 hb;let ant:a∉ts:=λy=>tne y Y;let Fe:Hb a>>z:=g.ent.big _ _ aP;let han:Ha a=none:=by
  cases e:Ha a with
  |none=>rfl
  |some w=>
   rcases g.ent.new a (by rw[e];simp)with y|y
   .rw[out ant,ur]at y;exact(y Y).elim
   .rw[aP]at y;cases y
 letI Hc:Hp:=λb=>if b=a then some u else if b∈ts/\H0 b=none then none else Ha b
 let ca:Hc a>>u:=qQ3 Y;let cn:∀{b:J},b≠a->¬(b∈ts/\H0 b=none)->Hc b=Ha b:=λh1 h2=>(qQ2 h1).trans (qQ2 h2);let ct:∀{b:J},b≠a->(b∈ts/\H0 b=none)->Hc b=none:=λh1 h2=>(qQ2 h1).trans (qQ3 h2);let s0:cy H0 Hc:=λb w e=>by
  by_cases hb:b=a
  .subst hb;rw[ca];rw[ha]at e;exact e
  .rw[cn hb (λy=>by rw[y.2]at e;cases e)];refine sm b w ?_;by_cases ht:b∈ts
   .rw[TJ ht];exact f.sub _ _ e
   .rw[out ht,jA hb];exact e
 let kl:J8 Ha Hc:=λb=>by
  let key:∀{w:HO},Ha b>>w->(∀ys,w≠.tup ys)->Hc b>>w:=λ{w}e hw=>by
   let hb:b≠a:=λy=>by subst y;rw[han]at e;cases e
   rw[cn hb (λy=>?_)];exact e;let#[ys,q]:=OL b y.1;let:=sm b _ ([TJ y.1]▸q);rw[e]at this;exact hw ys (bK this)
  exact#[λxs e=>key e (λys=>nofun),λo xs e=>key e (λys=>nofun)]
 refine#[Fe,Hc,s0,#[λb w e=>?_,λb w e=>s0 b w (f.ent.eE b w e),λb w e=>?_,λb e=>?_],by rw[g.len,eT],λj sl e=>?_,λj k ds es q BX e1 e2=>?_]
 .by_cases hb:b=a
  .subst hb;rw[aP];let:=f.ent.big b w e;rw[Dy]at this;exact this
  .rw[aI hb];exact g.ent.big b w ([aI hb]▸e)
 .by_cases hb:b=a
  .subst hb;rw[aP];rw[ca]at e;exact e
  .rw[aI hb];by_cases ht:b∈ts/\H0 b=none
   .rw[ct hb ht]at e;cases e
   .rw[cn hb ht]at e;exact g.sub b w e
 .by_cases hb:b=a
  .subst hb;exact f.ent.new b (by rw[ha];simp)
  .by_cases ht:b∈ts/\H0 b=none
   .rw[ct hb ht]at e;exact(e Y).elim
   .rw[cn hb ht]at e;by_cases hbt:b∈ts
    .exact f.ent.new b λy=>ht #[hbt,y]
    .rcases g.ent.new b e with y|y
     .rw[out hbt,jA hb]at y;exact .inl y
     .rw[aI hb]at y;exact .inr y
 .by_cases hj:j=i
  .subst hj;rw[hi]at e;cases e;let:=g.slot j (.ref p) (by rw[aR (aq.mp hi).1]);exact#[_,this,rp.mono s0]
  .rcases hs j sl e hj with rfl|⟨ds,rfl,ZJ⟩
   .trivial
   .let#[q,xs,h1,h2,h3,h4,h5]:=g.slot j (.own ds) ([aO (bD hj)]▸e);let TK:q≠a:=λy=>by subst y;rw[Fe]at h2;exact hz _ (bK h2)
    refine#[q,xs,h1,[aI TK]▸h2,?_,by rw[aI TK]at h4;exact h4,vj kl ZJ h5];by_cases ht:q∈ts/\H0 q=none
    .exact ct TK ht
    .rw[cn TK ht];exact h3
 .let hji:j≠i:=λy=>by subst y;rw[hi]at e1;cases e1
  let hki:k≠i:=λy=>by subst y;rw[hi]at e2;cases e2
  exact g.apart j k ds es q BX ([aO (bD hji)]▸e1) ([aO (bD hki)]▸e2)
end
section
variable{X:Cx}{δ δ2:!Slot}{o:Out}{fs:!(O×U)}{kvs:!(O×U)}{l:!((O×O)×U)}{f nm:O}{elts:!bY}{kk:Nat}{is:!Nat}{body rest:!kr}{pos tp px po apos k6:Pos}
theorem uv(i:Nat)(hi:δ[i]?>>(.val (EH fs)))(hf:iz fs f>>(je kvs))(Wp:∀q∈kvs,Ee q.2)(hs:∀j sl,δ[j]?>>sl->j≠i->HQ sl)(hp:uz (model X.prog X.w) X.A X.env X.xe)(hc:X.calm=true)(hg:PG X (.Tuple elts kk tp) (Gv X.K (.tup is)))
  (δs:J->Nat->!Slot)(h0:∀p,δs p 0=δ.set i (.ref p))(step:∀p k q,kvs[k]?>>q->∃δ',sO (.tup is) (.tuple [.str q.1,q.2]) (δs p k)>>δ'/\qK X body δ' (.nx (δs p (k+1))))
  (OW:∀p,δs p kvs.length=δ2.set i (.ref p))(Xr:δ2[i]?>>(.val (EH fs)))(lP:∀j sl,δ2[j]?>>sl->j≠i->HQ sl)(OX:qK X rest δ2 o)
  (hN:u5 X i nm:=by ac_rfl)
  (Y7:y6 X (.Name nm px) f:=by rfl)(gM:y6 X (.Attribute (.Name nm px) f po) "items":=by rfl)(hline:(apos.endLine==k6.line)=true:=by rfl)
  (hsf:∀z,foldedSetIterable (.Call (.Attribute (.Attribute (.Name nm px) f po) "items" apos) [] [] k6) X.env z=pure z:=by intro _;rfl):
  qK X (.For (.Tuple elts kk tp) (.Call (.Attribute (.Attribute (.Name nm px) f po) "items" apos) [] [] k6) body [] pos::rest) δ o:=λB0 B σ H0 H D fr ok=>by
 refine bO λpins s I=>?_;let#[v,hv,rv]:=fr.val hi;let#[p,C,dx,ws0,rfl,OY,cl,nn,ke0,rs0]:=id rv.zW;let#[uu,l1,l2,l3]:=Dg ke0 rs0 f _ hf;let#[a,ws,rfl,ha,ke,rs]:=l3.kB;let Dy:=fr.sub _ _ ha;let#[ob,I']:=I.freeze Dy;let hn:∀o u,X.H₀ a≠some (.jx o u):=λo u z=>by let:=I.base.sx a o u z;rw[Dy]at this;cases this
 let Zq:p≠a:=λz=>by subst z;rw[ha]at OY;cases OY
 let fin:=J9 (z:=.jx ob (.dK ws)) (ts:=[]) fr ha trivial ∅ hi hv hs;let hlen:ws.length=kvs.length:=by let:=qQ6 dq ke;simpa using this
 let rc:bQ X.K (kS H0 a) (ws.map (·.2)) (kvs.map (·.2)):=bQ.Og (JX ha) rs λd hd=>by let#[w,hw,rfl]:=aj.mp hd;exact Wp w hw
 refine zE hp hc (Oq (u9 (xZ hN) Y7) gM hline) hg kY hsf pins s σ _ _ I' ?_;refine#[.ref p,hv,p,C,dx,ws0,.ref a,Y,[aI Zq]▸fr.sub _ _ OY,cl,nn f l2,l1,a,ob,ws,Y,aP,?_];refine#[λk mm σ' H'=>k<=kvs.length/\mm=kvs.length-k/\∃Ha,cy (sY H [] (kS H0 a)) Ha/\fK X.K (sY H [] (kS B0 a)) (upd B a (.jx ob (.dK ws))) Ha H' σ' (δs p k),#[kvs.length,aY _,Y,_,cy.refl _,[h0]▸fin],?_];rintro n mm σ' H' ⟨hk,rfl,Ha,sm,fa⟩;let Wq:H' a>>(.jx ob (.dK ws)):=fa.ent.big _ _ aP;by_cases ng:n<kvs.length
 .refine .inr #[#[[hlen]▸ng,Wq],λσ'' wJ=>∃Hb,cy (sY H [] (kS H0 a)) Hb/\fK X.K (sY H [] (kS B0 a)) (upd B a (.jx ob (.dK ws))) Hb wJ σ'' (δs p (n+1)),λσ'' wJ #[Hb,z1,z2]=>#[kvs.length-(n+1),(),ng,Y,Hb,z1,z2],λv H2 #[t,qq,ev,ht,hq,e2]=>?_];subst ev;subst e2;obtain⟨q,TL⟩:∃q,kvs[n]?>>q:=#[kvs[n],ax ng];let e1:qq.1=bh q.1:=by let:=qQ6 (·[n]?) ke;simp only[ay,hq,TL,dJ]at this;exact bK this
  let r2:Rep X.K (kS H0 a) qq.2 q.2:=rc.at (i:=n) (by rw[ay,TL];rfl) (by rw[ay,hq];rfl);let r3:Rep X.K Ha qq.2 q.2:=r2.mono λb w e=>sm b w (by show(if b∈([]:!J)then _ else _)=_;rw[qQ2 ∅];exact e);let#[δ',as,vs]:=step p n q TL;let g:di Ha H' (upd Ha t (.tup [kV qq.1,qq.2])) (upd H' t (.tup [kV qq.1,qq.2])):=.laid fa.sub ht;refine pN (fa.grow g) (d:=.tuple [.str q.1,q.2]) (.tup (nG.of aP) (.cons ([e1]▸.str _) (.cons (r3.mono g.eE) .nil))) as λσ3 f3=>?_;exact vs _ _ σ3 _ _ _ f3 λσ4 Hc H4 s4 f4=>#[Hc,(sm.trans g.eE).trans s4,f4]
 .let en:n=kvs.length:=();subst en;rw[OW]at fa;let#[_,Hc,s0,f2]:=Ff fr ha trivial (λxs h=>by cases h) ∅ fa sm rv Xr lP;exact .inl #[#[[hlen]▸aE _,Wq],λpins s I=>OX B0 B σ' Hc _ D f2 (ok.mono s0) pins s (I.Zh Wq hn)]
theorem HR(i:Nat)(hi:δ[i]?>>(.val (EH fs)))(hf:iz fs f>>(qM l))(Wp:∀q∈l,o5 q.2=true)(hs:∀j sl,δ[j]?>>sl->j≠i->HQ sl)(hp:uz (model X.prog X.w) X.A X.env X.xe)(hc:X.calm=true)(hg:PG X (.Tuple elts kk tp) (Gv X.K (.tup is)))
  (δs:J->Nat->!Slot)(h0:∀p,δs p 0=δ.set i (.ref p))(step:∀p k q,l[k]?>>q->∃δ',sO (.tup is) (.tuple [J6 q,q.2]) (δs p k)>>δ'/\qK X body δ' (.nx (δs p (k+1))))
  (OW:∀p,δs p l.length=δ2.set i (.ref p))(Xr:δ2[i]?>>(.val (EH fs)))(lP:∀j sl,δ2[j]?>>sl->j≠i->HQ sl)(OX:qK X rest δ2 o)
  (hN:u5 X i nm:=by ac_rfl)
  (Y7:y6 X (.Name nm px) f:=by rfl)(gM:y6 X (.Attribute (.Name nm px) f po) "items":=by rfl)(hline:(apos.endLine==k6.line)=true:=by rfl)
  (hsf:∀z,foldedSetIterable (.Call (.Attribute (.Attribute (.Name nm px) f po) "items" apos) [] [] k6) X.env z=pure z:=by intro _;rfl):
  qK X (.For (.Tuple elts kk tp) (.Call (.Attribute (.Attribute (.Name nm px) f po) "items" apos) [] [] k6) body [] pos::rest) δ o:=λB0 B σ H0 H D fr ok=>by
 refine bO λpins s I=>?_;let#[v,hv,rv]:=fr.val hi;let#[p,C,dx,ws0,rfl,OY,cl,nn,ke0,rs0]:=id rv.zW;let#[uu,l1,l2,l3]:=Dg ke0 rs0 f _ hf;let#[a,ws,rfl,ha,ke,rs]:=l3.mQ;let Dy:=fr.sub _ _ ha;let#[ob,es,ep,ts,hd,hte,hk,I']:=I.J7 Dy;let hn:∀o u,X.H₀ a≠some (.jx o u):=λo u z=>by let:=I.base.sx a o u z;rw[Dy]at this;cases this
 let Zq:p≠a:=λz=>by subst z;rw[ha]at OY;cases OY
 let hlen:ws.length=l.length:=by let:=qQ6 dq ke;simpa using this
 let yL:es.size=ws.length:=(qQ I' aP hd).2.2.2;let htl:ts.length=ws.length:=by let:=qQ6 dq hte;rw[ae,ae,cu]at this;omega
 let OL:∀t∈ts,∃ys,H t>>(.tup ys):=λt ht=>by let#[j,hj]:=mM.mp ht;let E5:=(aq.mp hj).1;exact#[_,hk j t _ hj (ax ([<-htl]▸E5))]
 let fin:=J9 (z:=.jx ob (.dT ws)) (ts:=ts) fr ha trivial OL hi hv hs;refine zE hp hc (LC (u9 (xZ hN) Y7) gM hline) hg kY hsf pins s σ _ _ I' ?_;refine#[.ref p,hv,p,C,dx,ws0,.ref a,Y,[aI Zq]▸fr.sub _ _ OY,cl,nn f l2,l1,a,ob,ws,es,ep,ts,Y,aP,hd,hte,?_];refine#[λk mm σ' H'=>k<=l.length/\mm=l.length-k/\∃Ha,cy (sY H ts (kS H0 a)) Ha/\fK X.K (sY H ts (kS B0 a)) (upd B a (.jx ob (.dT ws))) Ha H' σ' (δs p k),#[l.length,aY _,Y,_,cy.refl _,[h0]▸fin],?_];rintro n mm σ' H' ⟨hkn,rfl,Ha,sm,fa⟩;let Wq:H' a>>(.jx ob (.dT ws)):=fa.ent.big _ _ aP;by_cases ng:n<l.length
 .refine .inr #[#[[hlen]▸ng,Wq],λσ'' wJ=>∃Hb,cy (sY H ts (kS H0 a)) Hb/\fK X.K (sY H ts (kS B0 a)) (upd B a (.jx ob (.dT ws))) Hb wJ σ'' (δs p (n+1)),λσ'' wJ #[Hb,z1,z2]=>#[l.length-(n+1),(),ng,Y,Hb,z1,z2],λv H2 #[t,qq,u,ev,ht,hq,hu,e2]=>?_];subst ev;subst e2;obtain⟨q,TL⟩:∃q,l[n]?>>q:=#[l[n],ax ng];let e1:qq.1=lV q.1:=by let:=qQ6 (·[n]?) ke;simp only[ay,hq,TL,dJ]at this;exact bK this
  let r2:Rep X.K H0 qq.2 q.2:=rs.at (i:=n) (by rw[ay,TL];rfl) (by rw[ay,hq];rfl);let hut:Ha u>>(.tup ((lV q.1).map kV)):=by refine sm u _ ?_;show(if u∈ts then _ else _)=_;rw[qQ3 (aF hu),<-e1];exact hk n u qq hu hq
  let#[δ',as,vs]:=step p n q TL;let g:di Ha H' (upd Ha t (.tup [.ref u,qq.2])) (upd H' t (.tup [.ref u,qq.2])):=.laid fa.sub ht;refine pN (fa.grow g) (d:=.tuple [J6 q,q.2]) (.tup (nG.of aP) (.cons (.tup (nG.of (g.eE _ _ hut)) (.cons (.str _) (.cons (.str _) .nil))) (.cons (r2.yN (Wp q (aF TL))) .nil))) as λσ3 f3=>?_;exact vs _ _ σ3 _ _ _ f3 λσ4 Hc H4 s4 f4=>#[Hc,(sm.trans g.eE).trans s4,f4]
 .let en:n=l.length:=();subst en;rw[OW]at fa;let#[_,Hc,s0,f2]:=Ff fr ha trivial (λxs h=>by cases h) OL fa sm rv Xr lP;exact .inl #[#[[hlen]▸aE _,Wq],λpins s I=>OX B0 B σ' Hc _ D f2 (ok.mono s0) pins s (I.TH Wq hn)]
end
end L2
namespace Mg
open L2 PySem PyProof.Rows
def top(i:Nat):kr:=PySem.Challenge.pw_mergeline_k02_plants_written.main.body.getD i (.Pass #[0,0,0,0])
theorem small(h:n<=1000000):n<=sizeLine:=bZ h (by rw[cL];decide)
theorem dQ(h:n<=1000000):n<sizeLine:=Nat.lt_of_le_of_lt h (by rw[cL];decide)
def lD(x:O):Prop:=bR (.str x)=true
theorem bG(a b:O):df (.str a) (.str b)=decide (a=b):=by rw[df,gx];simp
theorem o7(a b:Int):df (.int a) (.int b)=decide (a=b):=by rw[df,gx];simp
end Mg
namespace L2
open PySem PySem.Spec PyProof.Rows
section
variable{X:Cx}{δ:!Slot}{pos:Pos}
theorem Fg(ho:uj X (compareOp op) r)(CP:uj X (compareOp op') r')(od1:zO X.K r d1 d2 (.bool k1))(od2:zO X.K r' d2 d3 (.bool k2))(h1:VE X a δ d1)(h2:VE X b δ d2)(h3:k1=true->VE X c δ d3)
  (hm:lastMarks [op,op'] [b,c]=false:=by with_unfolding_all rfl):VE X (.Compare a [op,op'] [b,c] pos) δ (.bool (k1&&k2)):=by
 cases k1 with
 |true=>refine .of (Ep ho CP cA cA cA hm) λB0 B σ H0 H Q f q=>h1 B0 B σ H0 H _ f λv H1 cY g1 r1=>h2 B0 B σ H1 cY _ (f.grow g1) λu H2 f9 g2 r2=>od1 v u H2 f9 _ g2.sub (r1.mono g2.eE) r2 λz H3 yd g3 r3=>?_;cases r3;exact#[true,Y,(h3 Y B0 B σ H3 yd _ (((f.grow g1).grow g2).grow g3) λx H4 H4' g4 r4=>od2 u x H4 H4' _ g4.sub ((r2.mono g3.eE).mono g4.eE) r4 λy H5 H5' g5 r5=>q y H5 H5' ((((g1.trans g2).trans g3).trans g4).trans g5) r5)]
 |false=>refine .of (Ep ho CP cA cA zT hm) λB0 B σ H0 H Q f q=>h1 B0 B σ H0 H _ f λv H1 cY g1 r1=>h2 B0 B σ H1 cY _ (f.grow g1) λu H2 f9 g2 r2=>od1 v u H2 f9 _ g2.sub (r1.mono g2.eE) r2 λz H3 yd g3 r3=>?_;cases r3;exact#[false,Y,(q _ H3 yd ((g1.trans g2).trans g3) (.bl false))]
theorem OZ{x:O}{s:O}{t:Tok}(hm:X.mg x>>(.str s t))(hg:Gl X x:=by rfl)(hd:uZ x:=by decide):VE X (.Name x pos) δ (.str s):=.of (y8 hg hm (v:=.str s) #[t,Y] hd) λ_ _ _ _ _ _ f k=>k _ _ _ (.refl f.sub) (.str s)
theorem J_{x:O}{i:Int}{t:Tok}(hm:X.mg x>>(.int i t))(hg:Gl X x:=by rfl)(hd:uZ x:=by decide):VE X (.Name x pos) δ (.int i):=.of (y8 hg hm (v:=.int i) #[t,Y] hd) λ_ _ _ _ _ _ f k=>k _ _ _ (.refl f.sub) (.int i)
end
end L2
namespace Mg
open L2 PySem PyProof.Rows
seal L2.VE L2.VS L2.qK L2.VT L2.VO L2.Q_
variable{fd:iu}{ds:!U}{d:U}
structure Nw(mg:O->Option M):Prop where
 len:mg "len"=none
 all:mg "all"=none
 YY:mg "enumerate"=none
 let_:∃t,mg "LETTERS"=some (.str "abcdefghijklmnopqrstuvwxyz" t)
 fig:∃t,mg "FIGURES"=some (.str "0123456789" t)
 lna:∃t,mg "LONGEST_NAME"=some (.int 8 t)
 lnu:∃t,mg "LONGEST_NUMBER"=some (.int 6 t)
def one(c:Nat):O:=#[(bf [c])]
def qR(signs:O)(longest:Int)(w:O):Bool:=(decide (1<=(w.length:Int))&&decide ((w.length:Int)<=longest))&&w.cps.toList.all λc=>EG (one c) signs
def ZK(signs:O):U->Option U
 | .str x=>some (.bool (EG x signs))
 |_=>none
theorem LJ(signs w:O):(ni w).filterMap (ZK signs)=(w.cps.toList.map λc=>EG (one c) signs).map .bool:=by unfold ni;rw[cO,aG];exact filterMap_some λc _=>rfl
def isName(w:O):Bool:=qR "abcdefghijklmnopqrstuvwxyz" 8 w
def isNumber(w:O):Bool:=qR "0123456789" 6 w&&(decide (w="0") || not (decide ((w.cps.toList.head?.map one).getD fW="0")))
def wordsOf(row:O):!O:=(cz row " ").filter λw=>decide (w≠"")
def rowsOf(text:O):!(Nat×!O):=(cz text "\n").zipIdx.filterMap λp=>if(wordsOf p.1).isEmpty then none else some (p.2,wordsOf p.1)
theorem jB(x:O):lD x↔∀c∈x.cps.toList,c<0x110000:=by show(x.cps.all λc=>decide (c<0x110000))=true↔_;rw[<-Array.all_toList,cV];exact#[λh c hc=>qQ4 (h c hc),λh c hc=>qQ1 (h c hc)]
theorem Wr(h:lD x)(hc:c∈x.cps.toList):lD (one c):=by
 rw[jB]at h ⊢;intro z hz;let:z=c:=by simpa[one]using hz
 rw[this];exact h c hc
def yl(x:O):Prop:=x.length<=100000/\lD x
section
variable{P:bW}{w:cP}{K:ai}{mg:O->Option M}{base:dv}{f:J}
abbrev ZL:!O:=["signs","longest","word"]
theorem ZM:cg ZL ZL (bA (top 16)):=by grind
def Rmo(ds:!U)(d:U):Prop:=∃(signs:O)(longest:Int)(x:O),ds=[.str signs,.int longest,.str x]/\x.length<=100000/\d=.bool (qR signs longest x)
theorem zdJ(F:kz K "is_made_of" "is_made_of" (top 16) f fd)(n:Nw mg):dW P w K mg base jO 1 f fd ZL (gi K Rmo):=
 iO F ZM (by ext) λ_ _ h=>by
  let#[signs,longest,x,rfl,hx,rfl]:=h;intro gk A outer s H E hr;let nc:(["sign","signs"]:!O).Nodup:=∎;let hl:(ni x).length<=100000:=by unfold ni;rw[ae,cu];exact hx
  refine a8 (b9 (VE.to (jQ (Fg Jl Jl (EC 1 x.length) (EC x.length longest) aK (JG 2. (small ()) n.len) (λ_=>pJ 1 Y)) (λ_=>g_ (gv (jR Y) sU (du (VO.ve (VO.to (dF (own:=["sign"]) (cap:=[0]) (tgt:=.one 0) Y #[Y,∎,∎,Y,Y,?_] (Hu 2.) (λf s3 H3=>fP 0 nc) Y
   (small ()) (λd hd=>?_)) (LJ signs x))) cZ) n.all Y))) ?_))
  .intro j hj;rcases au.mp hj with rfl|hj
   .exact#[(by show(0:Nat)<3;decide),jc Y,Y]
   .cases hj
  .let#[c,_,rfl]:=aj.mp hd;exact#[_,Y,λf s3 H3=>mI,λr oO f s3 H3=>by cases oO;exact VC 0. 1.]
  .unfold qR rH;rw[Gn];rfl
theorem ZN:cg ["word"] ["word"] (bA (top 17)):=by grind
theorem ZO:cg ["word"] ["word"] (bA (top 18)):=by grind
def ZP(ds:!U)(d:U):Prop:=∃x:O,ds=[.str x]/\x.length<=100000/\d=.bool (isName x)
def Rnu(ds:!U)(d:U):Prop:=∃x:O,ds=[.str x]/\yl x/\d=.bool (isNumber x)
theorem zdK(F:kz K "is_name" "is_name" (top 17) f fd)(n:Nw mg)(C:a_ P w K mg base 1 "is_made_of" ZL (gi K Rmo)):dW P w K mg base jO 2 f fd ["word"] (gi K ZP):=
 iO F ZN (by ext) λ_ _ h=>by let#[x,rfl,hx,rfl]:=h;intro gk A outer s H E hr;let#[t1,m1]:=n.let_;let#[t2,m2]:=n.lna;exact a8 (b9 (bE C hr {OZ m1,J_ m2,0.} #[_,8,x,Y,hx,Y]))
theorem zdL(F:kz K "is_number" "is_number" (top 18) f fd)(n:Nw mg)(C:a_ P w K mg base 1 "is_made_of" ZL (gi K Rmo)):dW P w K mg base jO 2 f fd ["word"] (gi K Rnu):=
 iO F ZO (by ext) λ_ _ h=>by
  let#[x,rfl,#[hx,okx],rfl]:=h;intro gk A outer s H E hr;let#[t1,m1]:=n.fig;let#[t2,m2]:=n.lnu;let o0:Lay 20 (.str "0"):=a9 ∎;cases em:qR "0123456789" 6 x with
  |false=>refine a8 (b9 (VE.to (jQ (k2:=false) (VE.to (bE C hr {OZ m1,J_ m2,0.} #[_,6,x,Y,hx,Y]) (by rw[em])) (λz=>by cases z)) ?_));unfold isNumber;rw[em];rfl
  |true=>
   obtain⟨c,hc⟩:∃c,x.cps.toList.head?>>c:=by
    cases e:x.cps.toList with
    |cons c l=>exact#[c,Y]
    |nil=>
     exfalso;let:x.length=0:=by let:=qQ6 dq e;exact this
     unfold qR at em;rw[this]at em;cases em
   let h0:uk x.cps.toList 0>>c:=by
    cases e:x.cps.toList with
    |nil=>rw[e]at hc;cases hc
    |cons a l=>rw[e]at hc;cases hc;exact cJ Y
   let okc:lD (one c):=by
    let hm:c∈x.cps.toList:=by
     cases e:x.cps.toList with
     |nil=>rw[e]at hc;cases hc
     |cons a l=>rw[e]at hc;cases hc;exact aB
    exact Wr okx hm
   refine a8 (b9 (VE.to (jQ (VE.to (bE C hr {OZ m1,J_ m2,0.} #[_,6,x,Y,hx,Y]) (by rw[em])) (λ_=>g_ (uM (nE hr (a9 okx) o0 0. aW) (λ_=>g_ (JB hr (a9 okc) o0 (VB 0. aK (small ()) h0) aW))))) ?_));unfold isNumber;rw[em,bG,bG,hc];rfl
end
theorem Fh:∀{zs:!O},p∈zs->c∈p.cps.toList->c∈(bB y zs).cps.toList
 | [],h,_=>by cases h
 | [x],h,hc=>by rw[aA]at h;subst h;exact hc
 |x::x2::zs,h,hc=>by
  show c∈(x++y++bB y (x2::zs)).cps.toList;let e:(x++y++bB y (x2::zs)).cps.toList=(x.cps.toList++y.cps.toList)++(bB y (x2::zs)).cps.toList:=by show(x.cps++y.cps++(bB y (x2::zs)).cps).toList=_;simp
  rw[e];rcases au.mp h with rfl|h
  .exact bH _ (bH _ hc)
  .exact bt _ (Fh h hc)
theorem Fi(h:yl x)(hp:p∈cz x y):yl p:=by refine#[bZ (part_short hp) h.1,(jB p).mpr λc hc=>(jB x).mp h.2 c ?_];let:=Fh (y:=y) hp hc;rwa[n_]at this
def ZQ:U->Option U
 | .str w=>if decide (w≠"")=true then some (.str w)else none
 |_=>none
theorem LK(l:!O):(l.map aJ).filterMap ZQ=(l.filter λw:O=>decide (w≠"")).map aJ:=by
 induction l with
 |nil=>rfl
 |cons w l ih=>
  rw[ao,iR];by_cases h:decide (w≠"")=true
  .rw[qQ3 h,c5 (by show(if _ then _ else _)=_;rw[qQ3 h]),ih];rfl
  .rw[qQ2 h,f6 (by show(if _ then _ else _)=_;rw[qQ2 h]),ih]
def Fj(p:Nat×!O):U:=.tuple [.int p.1,.list (p.2.map .str)]
def vk(text:O)(i:Nat):!(Nat×!O):=((cz text "\n").zipIdx.take i).filterMap λp=>if(wordsOf p.1).isEmpty then none else some (p.2,wordsOf p.1)
theorem ym(h:(cz text "\n")[i]?>>row):vk text (i+1)=vk text i++(if(wordsOf row).isEmpty then []else [(i,wordsOf row)]):=by
 unfold vk;rw[cB,I_,h];simp only[dJ,vM,uh,r9]
 congr 1
 cases e:(wordsOf row).isEmpty
 .rw[c5 (by simp only[e];rfl)];rfl
 .rw[f6 (by simp only[e];rfl)];rfl
theorem HS(text:O):vk text (cz text "\n").length=rowsOf text:=by unfold vk rowsOf;rw[gJ ∅]
theorem HV(text:O)(i:Nat):(vk text i).length<=i:=by exact bZ (f7 _ _) (by rw[bU];omega)
theorem yn(h:x.length<=100000):(cz x y).length<=100002:=by
 let e1:=D7 x y 0 x.length (x.length+1);unfold cz;split
 .show 1<=100002;omega
 .split
  .show 1<=100002;omega
  .rw[yD];omega
section
variable{P:bW}{w:cP}{K:ai}{mg:O->Option M}{base:dv}{f:J}
theorem ZR:cg ["row"] ["row"] (bA (top 19)):=by grind
def Rwo(ds es:!U):Prop:=∃x:O,ds=[.str x]/\yl x/\es=(wordsOf x).map .str
theorem zdM(F:kz K "words_of" "words_of" (top 19) f fd):dW P w K mg base jO 1 f fd ["row"] (Qd K Rwo):=
 Rb F ZR (by ext) λ_ _ h=>by
  let#[x,rfl,ok,rfl]:=h;intro gk A outer s H E hr;let nc:(["word"]:!O).Nodup:=∎;let hx:=ok.1;refine a8 (Jx (VO.to (dF (own:=["word"]) (cap:=[]) (tgt:=.one 0) Y #[Y,∎,∎,Y,Y,∅] (dX (VO.ve (jS 0. aW Y (small ())))) (λf s3 H3=>fP 0 nc) Y
   (small (by rw[ae];let:=yn (y:=" ") hx;omega)) (λd hd=>?_)) (LK _)));let#[p,hp,rfl]:=aj.mp hd;refine#[_,Y,λf s3 H3=>?_,λr oO f s3 H3=>?_]
  .refine uo (VT.to (lL hr (a9 (Fi ok hp).2) (a9 ∎) 0. aW) ?_);show(not (decide (p="")))=(if decide (p≠"")=true then some (aJ p)else none).isSome;by_cases h:p=""
   .subst h;rfl
   .rw[qQ3 ↑h,qQ0 h];rfl
  .let Ws:(if decide (p≠"")=true then some (aJ p)else none)>>r:=oO;split at Ws
   .cases Ws;exact pJ 0 Y
   .cases Ws
abbrev Nro:!O:=["text","rows","number","row","words"]
theorem TN:cg Nro ["text"] (bA (top 20)):=by grind
def Rro(ds es:!U):Prop:=∃x:O,ds=[.str x]/\yl x/\es=(rowsOf x).map Fj
theorem zdN(F:kz K "rows_of" "rows_of" (top 20) f fd)(n:Nw mg)(C:a_ P w K mg base 1 "words_of" ["row"] (Qd K Rwo)):dW P w K mg base jO 2 f fd ["text"] (Qd K Rro):=
 Rb F TN (by ext) λ_ _ h=>by
  let#[x,rfl,ok,rfl]:=h;intro gk A outer s H E hr;let nd:=TN.nd;let hx:=ok.1;let hc:=yn (y:="\n") hx;refine aL (j0 1 (da cZ) nd) ?_;refine aL (lU (tgt:=.tup [2,3]) bL Y (zj (VO.ve (jS 0. aW Y (small ()))) n.YY)
   (fh Y (bx (fP 2 nd) (bx (fP 3 nd) dU))) (λi=>[.val _,.own ((vk x i).map Fj),.un,.un,.un]) (cz x "\n").length Y (by rw[h_];simp) (λi d hi hd=>?_) (.inl #[by rw[h_];simp,Y])) ?_
  .let#[y,hy,rfl]:=um hd;obtain⟨row,Al⟩:∃row,(cz x "\n")[i]?>>row:=#[(cz x "\n")[i],by simp[hi]];rw[ay,Al]at hy;cases hy;let Xs:=Fi ok (aF Al);let hle:=HV x i;refine#[_,Y,?_];refine aL (dC 4 (VO.ve (zk C hr {3.} #[row,Y,Xs,Y])) nd) ?_;cases ew:(wordsOf row).isEmpty with
   |true=>refine eW (a8 (bP (VT.to (e8 4. Y) (by cases e:wordsOf row with|nil=>rfl|cons _ _=>rw[e]at ew;cases ew)) bw)) #[.inr Y,.inr ?_,.inl Y,.inl Y,.inl Y,trivial];rw[ym Al,ew,qQ3 Y,bC]
   |false=>refine eW (a8 (dH (VT.to (e8 4. Y) (by cases e:wordsOf row with|nil=>rw[e]at ew;cases ew|cons _ _=>rfl)) (a8 (fk 1 Y (iX {2.,4.}) (dQ (by rw[ae];omega)))))) #[.inr Y,.inr ?_,.inl Y,.inl Y,.inl Y,trivial];rw[ym Al,ew,qQ2 gV,aH];rfl
  .rw[HS];exact a8 (Jy 1 Y)
end
def O1(ns:!Int):U:=.list (ns.map .int)
def gP(c k:Int):Int:=((c%2147483629+k*k*7919+11)*48271%2147483647)*((c%2147483629+k*k*7919+11)*48271%2147483647)%1999999973
theorem RW(c k:Int):0<=gP c k:=cX _ ⋯
abbrev ABC:O:="abcdefghijklmnopqrstuvwxyz"
theorem O2:(ABC:O).cps.toList=(cv 26).map (97 + ·):=∎
def cU(x:O):Prop:=1<=x.cps.toList.length/\x.cps.toList.length<=8/\∀c∈x.cps.toList,97<=c/\c<123
theorem RX(h:97<=c/\c<123):c∈(ABC:O).cps.toList:=by rw[O2];exact aj.mpr #[c-97,gb.mpr (),()]
theorem cU.is(h:cU x):isName x=true:=by let#[h1,h2,h3]:=h;rw[cu]at h1 h2;let e:x.length=x.cps.size:=Y;unfold isName qR;rw[qQ1 (),qQ1 (),qv,qv,cV];intro c hc;let:EG (one c) ABC=decide (c∈ABC.cps.toList):=vT ..;rw[this];exact qQ1 (RX (h3 c hc))
theorem cU.ok(h:cU x):yl x:=by let#[h1,h2,h3]:=h;rw[cu]at h1 h2;refine#[by show x.cps.size<=_;omega,(jB x).mpr λc hc=>?_];let:=h3 c hc;omega
theorem Fk(x:O):∀n,(gA x n).cps.toList=(bo n x.cps.toList).flatten
 |0=>rfl
 |n+1=>by
  let e:(gA x (n+1)).cps.toList=x.cps.toList++(gA x n).cps.toList:=by show(x.cps++(gA x n).cps).toList=_;simp
  rw[e,Fk x n];rfl
theorem DE(c n:Nat):(gA (one c) n).cps.toList=bo n c:=by
 rw[Fk];induction n with
 |zero=>rfl
 |succ n ih=>rw[eM,ft,ih];rfl
section
variable{P:bW}{w:cP}{K:ai}{mg:O->Option M}{base:dv}{f:J}{k:Nat}
def J'(ds:!U)(d:U):Prop:=∃(ns:!Int)(k:Nat),ds=[O1 ns,.int k]/\d=.int (ns.getD k 0)
theorem RZ:cg ["_law_script","_law_k"] ["_law_script","_law_k"] (bA (top 43)):=by grind
theorem Wt(m1:mg "len"=none)(h:J' ds d):sS P w K mg base ["_law_script","_law_k"] "_law_cell_at" (top 43) f k ds (.rt d):=by
 let#[ns,n,rfl,rfl]:=h;intro gk A outer s H E hr;by_cases hn:n<ns.length
 .refine dB (dH (VT.to (v5 1. (iN 0. m1)) (by simp only[ae];exact qQ1 ())) (a8 (b9 (eS 0. 1. (cJ ?_))))) Y;rw[ay,aQ,ax hn];rfl
 .refine aL (bP (VT.to (v5 1. (iN 0. m1)) (by simp only[ae];exact qQ0 ())) bw) ?_;let e:ns.getD n 0=0:=by rw[aQ,eO ()];rfl
  rw[e];exact a8 (b9 aK)
theorem Wu(F:kz K "_law_cell_at" "_law_cell_at" (top 43) f fd)(m1:mg "len"=none):dW P w K mg base jO 1 f fd ["_law_script","_law_k"] (gi K J'):=iO F RZ (by ext) λ_ _ h=>Wt m1 h
def HW(ds:!U)(d:U):Prop:=∃(c k:Int),ds=[.int c,.int k]/\0<=k/\k<=1000/\d=.int (gP c k)
abbrev ZS:!O:=["_law_cell","_law_k","_law_m"]
theorem O4:cg ZS ["_law_cell","_law_k"] (bA (top 44)):=by grind
theorem ZT(h:HW ds d):sS P w K mg base ZS "_law_mix" (top 44) f k ds (.rt d):=by let#[c,n,rfl,h0,h1,rfl]:=h;intro gk A outer s H E hr;let nd:=O4.nd;exact aL (dC 2 (fY (vb (fE (fE (fY 0. aK ⋯) (vb (vb 1. 1. (.inl #[(),()])) aK (.inr #[⋯,⋯]))) aK) aK (.inr #[⋯,⋯])) aK ⋯) nd) (a8 (b9 (fY (vb 2. 2. (.inl #[(),()])) aK ⋯)))
theorem ZU(F:kz K "_law_mix" "_law_mix" (top 44) f fd):dW P w K mg base jO 1 f fd ["_law_cell","_law_k"] (gi K HW):=iO F O4 (by ext) λ_ _ h=>ZT h
end
inductive Rl where
 |meet
 |gather (most age:Int)
 |many (most:Int)
 |rank (bound:Option Int)
 |turns (shares:!Int)
 |eldest
def mV:Option Int->U
 |none=>.none
 |some i=>.int i
def oP:Rl->O
 | .meet=>"meet"
 | .gather _ _=>"gather"
 | .many _=>"many"
 | .rank _=>"rank"
 | .turns _=>"turns"
 | .eldest=>"eldest"
def qg:Rl->!U
 | .meet=>[]
 | .gather m a=>[.int m,.int a]
 | .many m=>[.int m]
 | .rank b=>[mV b]
 | .turns s=>[.tuple (s.map .int)]
 | .eldest=>[]
def Kc(r:Rl):U:=.tuple (.str (oP r)::qg r)
def gQ:Rl->Nat->Int
 | .many m,_=>m
 | .gather m _,_=>m
 | .meet,n=>n
 |_,_=>1
section
variable{K:ai}
theorem ZV:cg ["_law_rule","_law_many"] ["_law_rule","_law_many"] (bA (top 45)):=by grind
def Rgr(ds:!U)(d:U):Prop:=∃(r:Rl)(many:Nat),ds=[Kc r,.int many]/\d=.int (gQ r many)
theorem zdO{P:bW}{w:cP}{mg:O->Option M}{base:dv}{f:J}(F:kz K "_law_greatest" "_law_greatest" (top 45) f fd):dW P w K mg base jO 1 f fd ["_law_rule","_law_many"] (gi K Rgr):=
 iO F ZV (by ext) λ_ _ h=>by
  let#[r,many,rfl,rfl]:=h;unfold Kc;intro gk A outer s H E hr;let hl:(qg r).length<=2:=by cases r<;>simp[qg]
  let x1:∃x,(aJ (oP r)::qg r ++ [.int 0])[1]?>>x/\((iz [(("many":O),x),("gather",x),("meet",.int many)] (oP r)).getD (.int 1))=.int (gQ r many):=by cases r<;>exact#[_,Y,Y]
  let#[x,hx,hv]:=x1;let hn3:=(show([("many":O),"gather","meet"]).Nodup by symm);let hx1:=cJ hx;let hz:(aJ (oP r)::qg r).length + [eJ 0].length<=sizeLine:=small (by simp;omega);let zm:(aJ (oP r)::qg r)≠[]:=∅
  generalize qg r=ra at *;generalize oP r=pZ at *;refine a8 (b9 (VE.to (N4 hr (JN (.cons aW ?_ (.cons aW ?_ (.cons aW 1. .nil))) hn3 ∅ (by show 3<=15;decide)) ?_ aK) hv))
  .exact dm (zo 0. (iX (du aK cZ)) zm hz) aK hx1
  .exact dm (zo 0. (iX (du aK cZ)) zm hz) aK hx1
  .exact dm 0. aK (cJ Y)
end
structure Dk where
 name:O
 to:O
 rule:Rl
 places:!O
def fy(l:!O):U:=.list (l.map .str)
def gZ(d:Dk):U:=.tuple [.str d.name,.str d.to,Kc d.rule,.tuple (d.places.map .str)]
theorem Fm{α:Type}(l:!α)(i:Nat)(y:α):(qe l i y).length=l.length+1:=by unfold qe;rw[aN,bj,bU,iQ];omega
theorem O5{α:Type}{l:!α}{i:Nat}{x y:α}(h:x∈qe l i y):x∈l\/x=y:=by
 rcases aT.mp h with h|h
 .exact .inl (iH h)
 .rcases au.mp h with h|h
  .exact .inr h
  .exact .inl (nD h)
def Wv(ns:!Int):Int:=ns.getD 0 0
def Ww(ns:!Int):Int:=ns.getD 1 0
def R4(ns:!Int):Int:=ns.getD 2 0
def sZ(p:O×Option Int):U:=.tuple [.str p.1,mV p.2]
def gw(gK:!Dk)(name:O):!Int:=gK.filterMap λd=>if decide (d.to=name)=true then some (gQ d.rule d.places.length)else none
def maxOf(l:!Int):Int:=l.foldl (λm z=>if m<z then z else m) 1
def Am(p:O×Int):U:=.tuple [.str p.1,.int p.2]
def uO(p:O×O×Int):U:=.tuple [.str p.1,.str p.2.1,.int p.2.2]
def jg(p:O×Int×Int):U:=.tuple [.str p.1,.int p.2.1,.int p.2.2]
structure Pl where
 kinds:!(O×Option Int)
 gates:!O
 lines:!(O×Int)
 desks:!Dk
 times:!(O×O×Int)
 hours:!(O×Int×Int)
 paces:!(O×O×Int×Int)
def tj(p:O×O×Int×Int):U:=.tuple [.str p.1,.str p.2.1,.int p.2.2.1,.int p.2.2.2]
def gB(p:Pl):!(O×U):=[("kinds",.list (p.kinds.map sZ)),("gates",fy p.gates),("lines",.list (p.lines.map Am)),("desks",.list (p.desks.map gZ)),("times",.list (p.times.map uO)),("hours",.list (p.hours.map jg)),("paces",.list (p.paces.map tj))]
def fc(p:Pl):U:=je (gB p)
theorem An(l:!Int):maxOf l∈(1::l)/\∀z∈(1::l),z<=maxOf l:=by
 let go:∀(l:!Int)(m0:Int),(l.foldl (λm z=>if m<z then z else m) m0)∈m0::l/\∀z∈m0::l,z<=l.foldl (λm z=>if m<z then z else m) m0:=by
  intro l;induction l with
  |nil=>intro m0;exact#[aB,λz hz=>by simp at hz;rw[hz];exact Int.le_refl _]
  |cons x l ih=>
   intro m0;let#[h1,h2]:=ih (if m0<x then x else m0);rw[dN];refine#[?_,λz hz=>?_]
   .rcases au.mp h1 with h|h
    .rw[h];split<;>simp
    .exact aD _ (aD _ h)
   .let hm:=h2 _ aB;rcases au.mp hz with rfl|hz
    .refine Int.le_trans ?_ hm;split<;>omega
    .rcases au.mp hz with rfl|hz
     .refine Int.le_trans ?_ hm;split<;>omega
     .exact h2 z (aD _ hz)
 exact go l 1
def Cg(r:U)(n:Nat):Int:=match r with
 | .tuple [.str w,.int m]=>if w="many" then m else 1
 | .tuple [.str w,.int m,_]=>if w="gather" then m else 1
 | .tuple [.str w]=>if w="meet" then n else 1
 |_=>1
theorem DF(r:Rl)(n:Nat):Cg (Kc r) n=gQ r n:=by
 cases r with
 |rank b=>cases b<;>rfl
 |_=>rfl
def Kd(name:O):U->Option U
 | .tuple [_,.str to,r,.tuple ps]=>if decide (to=name)=true then some (.int (Cg r ps.length))else none
 |_=>none
theorem vm(name:O)(d:Dk):Kd name (gZ d)=(if decide (d.to=name)=true then some (.int (gQ d.rule d.places.length))else none):=by show(if decide (d.to=name)=true then some (eJ _)else none)=_;rw[DF,ae]
theorem LN(name:O)(gK:!Dk):(gK.map gZ).filterMap (Kd name)=(gw gK name).map .int:=by
 unfold gw;rw[cO,List.map_filterMap]
 congr 1
 funext d;show Kd name _=_;rw[vm];split<;>rfl
theorem Ke{α β:Type}(g:α->β)(l:!α)(lo hi:Option Int):L2.cutD (l.map g) lo hi=(L2.cutD l lo hi).map g:=by unfold L2.cutD;rw[ae,Eb,qw]
theorem lq{α:Type}(l:!α)(n:Nat):L2.cutD l (some (n:Int)) none=l.drop n:=by
 unfold L2.cutD;rw[HT.nH,HT.Et];by_cases h:n<=l.length
 .rw[nZ h,gJ (by rw[iQ];omega)]
 .rw[Nat.min_eq_right (),rW (),rW ()];simp
end Mg
namespace Mg
open L2 PySem PyProof.Rows
variable{ws:!O}{x:O}
theorem wj(p:Pl):iz (gB p) "kinds"=some (.list (p.kinds.map sZ)):=ei Y
theorem Ao(p:Pl):iz (gB p) "gates"=some (fy p.gates):=(bT (show ¬(("kinds":O)="gates") by symm)).trans (ei Y)
theorem Fo(p:Pl):iz (gB p) "lines"=some (.list (p.lines.map Am)):=(bT (show ¬(("kinds":O)="lines") by symm)).trans ((bT (show ¬(("gates":O)="lines") by symm)).trans (ei Y))
theorem tq(p:Pl):iz (gB p) "desks"=some (.list (p.desks.map gZ)):=(bT (show ¬(("kinds":O)="desks") by symm)).trans ((bT (show ¬(("gates":O)="desks") by symm)).trans ((bT (show ¬(("lines":O)="desks") by symm)).trans (ei Y)))
theorem Fp(p:Pl):iz (gB p) "times"=some (.list (p.times.map uO)):=(bT (show ¬(("kinds":O)="times") by symm)).trans ((bT (show ¬(("gates":O)="times") by symm)).trans ((bT (show ¬(("lines":O)="times") by symm)).trans ((bT (show ¬(("desks":O)="times") by symm)).trans (ei Y))))
theorem tD(p:Pl):iz (gB p) "hours"=some (.list (p.hours.map jg)):=(bT (show ¬(("kinds":O)="hours") by symm)).trans ((bT (show ¬(("gates":O)="hours") by symm)).trans ((bT (show ¬(("lines":O)="hours") by symm)).trans ((bT (show ¬(("desks":O)="hours") by symm)).trans ((bT (show ¬(("times":O)="hours") by symm)).trans (ei Y)))))
theorem O6(p:Pl):iz (gB p) "paces"=some (.list (p.paces.map tj)):=(bT (show ¬(("kinds":O)="paces") by symm)).trans ((bT (show ¬(("gates":O)="paces") by symm)).trans ((bT (show ¬(("lines":O)="paces") by symm)).trans ((bT (show ¬(("desks":O)="paces") by symm)).trans ((bT (show ¬(("times":O)="paces") by symm)).trans ((bT (show ¬(("hours":O)="paces") by symm)).trans (ei Y))))))
def pickOf{α:Type}(l:!α)(d:α)(j:Int):α:=l.getD (j%l.length).toNat d
theorem zr{α:Type}{l:!α}{d:α}{F:α->U}(h:1<=l.length)(j:Int):uk (l.map F) (j%(l.length:Int))>>(F (pickOf l d j))/\pickOf l d j∈l:=by
 unfold pickOf;let a1:0<=j%l.length:=cX _ ();let a2:j%l.length<l.length:=cQ _ ();generalize j%l.length=i at *;let#[n,rfl]:=rP a1;let hn:n<l.length:=();let e:l.getD ((n:Int)).toNat d=l[n]:=by rw[cN,aQ,ax hn];rfl
 rw[e];exact#[cJ (by rw[ay,ax hn];rfl),eD hn]
structure Ka(K:ai):Prop where
 ss:bp K (.type "str") (.type "str")>>true
 is:bp K (.type "int") (.type "str")>>false
 ts:bp K (.type "tuple") (.type "str")>>false
 ls:bp K (.type "list") (.type "str")>>false
 ii:bp K (.type "int") (.type "int")>>true
 ti:bp K (.type "tuple") (.type "int")>>false
 li:bp K (.type "list") (.type "int")>>false
 ib:bp K (.type "int") (.type "bool")>>false
 tt:bp K (.type "tuple") (.type "tuple")>>true
 tl:bp K (.type "tuple") (.type "list")>>false
 lt:bp K (.type "list") (.type "tuple")>>false
 ll:bp K (.type "list") (.type "list")>>true
def yk:U->Prop
 | .none=>True
 | .int _=>True
 | .str x=>lD x
 |_=>False
def zdP:U->Bool
 | .none=>true
 |_=>false
theorem mW{K:ai}{d:U}:zO K (λx y H Q=>y=.non/\Q (.bl (decide (x=.non))) H) d .none (.bool (zdP d)):=λv u H0 H Q s r1 r2 k=>by cases r2;refine#[Y,k _ _ _ (.refl s) ?_];cases r1<;>exact .bl _
theorem mX(n:Nat)(b:Bool):Lay n (.bool b):=#[Y,aY _]
structure Na(mg:O->Option M):Prop extends Nm mg where
 str:mg "str"=none
 all:mg "all"=none
def R5:U->Option U:=λ_=>some (.bool true)
theorem o8:∀l:!U,l.filterMap R5=(bo l.length true).map .bool
 | []=>rfl
 |d::l=>by rw[c5 (f:=R5) Y,o8 l];rfl
theorem lY(n:Nat):rH (bo n true)=true:=by unfold rH;rw[cV];intro b hb;exact(jm.mp hb).2
def Ci(c:Nat):!(!Nat)->!Nat
 | []=>[]
 | [x]=>x
 |x::y::r=>x++c::Ci c (y::r)
theorem Fq:∀{a b r s:!Nat},c∉a->c∉b->a++c::r=b++c::s->a=b/\r=s
 | [],[],r,s,_,_,h=>#[Y,(jb h).2]
 | [],y::b,r,s,_,hb,h=>qQ7 (jb h).1 (λz=>hb ([z]▸aB))
 |x::a,[],r,s,ha,_,h=>qQ7 (jb h).1 (λz=>ha ([<-z]▸aB))
 |x::a,y::b,r,s,ha,hb,h=>by let#[h1,h2]:=jb h;let#[h3,h4]:=Fq (λz=>ha (aD _ z)) (λz=>hb (aD _ z)) h2;exact#[by rw[h1,h3],h4]
theorem Cj:∀{ps qs:!(!Nat)},ps≠[]->qs≠[]->(∀p∈ps,c∉p)->(∀p∈qs,c∉p)->Ci c ps=Ci c qs->ps=qs
 | [],_,h,_,_,_,_=>qQ7 Y h
 |_,[],_,h,_,_,_=>qQ7 Y h
 | [x],[y],_,_,_,_,h=>by let h:x=y:=h;rw[h]
 | [x],y::y2::qs,_,_,hp,_,h=>by let h:x=y++c::Ci c (y2::qs):=h;exact qQ7 ([h]▸bt _ aB) (hp x aB)
 |x::x2::ps,[y],_,_,_,hq,h=>by let h:x++c::Ci c (x2::ps)=y:=h;exact qQ7 ([<-h]▸bt _ aB) (hq y aB)
 |x::x2::ps,y::y2::qs,_,_,hp,hq,h=>by let#[h1,h2]:=Fq (hp x aB) (hq y aB) h;let:=Cj ∅ ∅ (λp z=>hp p (aD _ z)) (λp z=>hq p (aD _ z)) h2;rw[h1,this]
theorem add_list(x y:O):(x++y).cps.toList=x.cps.toList++y.cps.toList:=by show(x.cps++y.cps).toList=_;simp
theorem str_inj{y: O}(h:x.cps.toList=y.cps.toList):x=y:=Str.ext' (Array.toList_inj.mp h)
theorem join_list(c:Nat):∀ps:!O,(bB (one c) ps).cps.toList=Ci c (ps.map λp=>p.cps.toList)
 | []=>rfl
 | [x]=>rfl
 |x::y::r=>by show(x++one c++bB (one c) (y::r)).cps.toList=_;rw[add_list,add_list,join_list c (y::r)];show x.cps.toList ++ [c]++_=x.cps.toList++c::_;simp
theorem wm(x y:O):cz x y≠[]:=by
 intro h;unfold cz at h;split at h
 .cases h
 .split at h
  .cases h
  .let:=qQ6 dq h;rw[yD]at this;simp at this
theorem oy(h:ps≠[])(hf:∀p∈ps,c∉p.cps.toList):cz (bB (one c) ps) (one c)=ps:=by
 let h1:=n_ (bB (one c) ps) (one c);let h3:=wm (bB (one c) ps) (one c);generalize hq:cz (bB (one c) ps) _=qs at *;let h2:∀p∈qs,c∉p.cps.toList:=[<-hq]▸uY (bB (one c) ps) c;let e:=qQ6 (λs:O=>s.cps.toList) h1;simp only[join_list]at e;let:=Cj ↑h3 ↑h
  (λp hp=>by let#[q,hq,rfl]:=aj.mp hp;exact h2 q hq) (λp hp=>by let#[q,hq,rfl]:=aj.mp hp;exact hf q hq) e;let inj:∀{l m:!O},(l.map λp=>p.cps.toList)=(m.map λp=>p.cps.toList)->l=m:=by
  intro l;induction l with
  |nil=>intro m hm;cases m with|nil=>rfl|cons _ _=>cases hm
  |cons x l ih=>
   intro m hm;cases m with
   |nil=>cases hm
   |cons y m=>let#[a1,a2]:=jb hm;rw[str_inj a1,ih a2]
 exact inj this
theorem Ap(c:Nat):∀{ps qs:!O},ps≠[]->qs≠[]->bB (one c) (ps++qs)=bB (one c) ps++one c++bB (one c) qs
 | [],_,h,_=>qQ7 Y h
 | [x],q::qs,_,_=>rfl
 | [x],[],_,h=>qQ7 Y h
 |x::y::r,qs,_,h=>by show x++one c++bB (one c) ((y::r)++qs)=_;rw[Ap c ∅ h];apply str_inj;show _=(x++one c++bB (one c) (y::r)++one c++bB (one c) qs).cps.toList;simp[add_list,bS]
theorem LQ(c:Nat)(x y:O):cz (x++one c++y) (one c)=cz x (one c)++cz y (one c):=by
 let e:x++one c++y=bB (one c) (cz x (one c)++cz y (one c)):=by rw[Ap c (wm _ _) (wm _ _),n_,n_]
 rw[e];refine oy (by simp[wm]) λp hp=>?_;rcases aT.mp hp with hp|hp
 .exact uY x c p hp
 .exact uY y c p hp
theorem HX(h:c∉x.cps.toList):cz x (one c)=[x]:=by let:=oy (ps:=[x]) ∅ (λp hp=>[aA.mp hp]▸h);exact this
theorem lZ:(" ":O)=one 32:=∎
theorem O7:("\n":O)=one 10:=∎
theorem mh(x y:O):wordsOf (x++" "++y)=wordsOf x++wordsOf y:=by unfold wordsOf;rw[lZ,LQ,oU]
theorem qS:wordsOf ""=[]:=by rfl
theorem xA{w:O}(h:w≠"")(hb:32∉w.cps.toList):wordsOf w=[w]:=by unfold wordsOf;rw[lZ,HX hb,iR,qQ3 ↑h];rfl
theorem LV(x y z:O):x++y++z=x++(y++z):=by apply str_inj;simp[add_list,bS]
theorem xB(x:O):x++""=x:=by apply str_inj;rw[add_list];show x.cps.toList ++ []=_;simp
theorem empty_app(x:O):""++x=x:=by apply str_inj;rw[add_list];rfl
theorem Fs(x:O)(n:Nat):gA x (n+1)=x++gA x n:=by apply str_inj;rw[add_list];show(x.cps++(gA x n).cps).toList=_;simp
theorem vn(n:Nat)(y:O):wordsOf (gA " " n++y)=wordsOf y:=by
 induction n with
 |zero=>rw[show gA " " 0="" from Y,empty_app]
 |succ n ih=>
  let e:gA " " (n+1)++y=""++" "++(gA " " n++y):=by rw[Fs,empty_app,LV]
  rw[e,mh,qS,ih];rfl
theorem Ck(n:Nat)(x y:O):wordsOf (x++gA " " (n+1)++y)=wordsOf x++wordsOf y:=by
 let e:x++gA " " (n+1)++y=x++" "++(gA " " n++y):=by rw[Fs];apply str_inj;simp[add_list,bS]
 rw[e,mh,vn]
theorem HY(n:Nat)(x:O):wordsOf (x++gA " " n)=wordsOf x:=by
 cases n with
 |zero=>rw[show gA " " 0="" from Y,xB]
 |succ n=>let:=Ck n x "";rw[xB,qS,bC]at this;exact this
theorem vo(n:Nat):∀{ws:!O},(∀w∈ws,w≠""/\32∉w.cps.toList)->wordsOf (bB (gA " " (n+1)) ws)=ws
 | [],_=>qS
 | [w],h=>xA (h w aB).1 (h w aB).2
 |w::v::ws,h=>by show wordsOf (w++gA " " (n+1)++bB (gA " " (n+1)) (v::ws))=_;rw[Ck,xA (h w aB).1 (h w aB).2,vo n (λu hu=>h u (aD _ hu))];rfl
theorem mY(h:∀w∈ws,w≠""/\32∉w.cps.toList):wordsOf (bB " " ws)=ws:=by let:=vo 0 h;exact this
theorem Ft(a n b:Nat)(h:∀w∈ws,w≠""/\32∉w.cps.toList):wordsOf (gA " " a++bB (gA " " (n+1)) ws++gA " " b)=ws:=by rw[HY,vn,vo n h]
theorem Fu(n:Nat):wordsOf (gA " " n)=[]:=by let:=vn n "";rw[xB,qS]at this;exact this
theorem Cm(h0:rows≠[])(h:∀r∈rows,10∉r.cps.toList):rowsOf (bB "\n" rows)=rows.zipIdx.filterMap λp=>if(wordsOf p.1).isEmpty then none else some (p.2,wordsOf p.1):=by unfold rowsOf;rw[O7,oy h0 h]
def cM(n:Int):O:=sk (toString n)
theorem DG(h:¬m<10):iK 10 m=iK 10 (m/10) ++ [Nat.digitChar (m%10)]:=by let hm:m%10<10:=Nat.mod_lt m ⋯;let t:iK 10 (m/10)++iK 10 (m%10)=iK 10 _:=Nat.toDigits_append_toDigits ⋯ () hm;rw[Nat.div_add_mod]at t;rw[<-t,lC hm]
theorem Kf:∀(k m:Nat),1<=k->m<10^k->(iK 10 m).length<=k
 |0,_,h,_=>()
 |k+1,m,_,h=>by
  by_cases hm:m<10
  .rw[lC hm];simp
  .rw[DG hm,aN];let hk:1<=k:=by
    rcases wN k with rfl|hk
    .exact qQ7 h ↑hm
    .exact hk
   let:=Kf k (m/10) hk (by rw[Nat.div_lt_iff_lt_mul ⋯];rw[Nat.pow_succ]at h;exact h);simp;omega
theorem R6(m:Nat):1<=(iK 10 m).length:=by
 by_cases hm:m<10
 .rw[lC hm];simp
 .rw[DG hm,aN];simp
theorem O8(m:Nat)(h:0<m):∃c,(iK 10 m).head?>>c/\c≠'0':=by
 induction m using Nat.strongRecOn with
 |_ m ih=>
  by_cases hm:m<10
  .rw[lC hm];refine#[_,Y,?_];let:∀d:Nat,d<10->0<d->Nat.digitChar d≠'0':=⋯;exact this m hm h
  .let#[c,h1,h2]:=ih (m/10) () ();refine#[c,?_,h2];rw[DG hm,List.head?_append,h1];rfl
theorem xC(h0:0<=n):(cM n).cps.toList=(iK 10 n.toNat).map Char.toNat:=by let#[m,rfl]:=rP h0;exact PySem.W.KIN.signs_num m
theorem mj(h0:0<=n)(hc:c∈(cM n).cps.toList):48<=c/\c<=57:=by rw[xC h0]at hc;let#[ch,My,e]:=aj.mp hc;let r:=digit_range (Nat.isDigit_of_mem_toDigits ⋯ ⋯ My);rwa[<-e]
theorem wo(h0:0<=n)(h1:n<1000000):1<=(cM n).length/\(cM n).length<=6:=by
 let e:(cM n).length=(iK 10 n.toNat).length:=by show(cM n).cps.size=_;rw[<-cu,xC h0,ae]
 rw[e];exact#[R6 _,Kf 6 _ ⋯ ()]
theorem Fv:("0123456789":O).cps.toList=(cv 10).map (48 + ·):=∎
theorem nq(h0:0<=n)(h1:n<1000000):yl (cM n):=by refine#[by let:=wo h0 h1;omega,(jB _).mpr λc hc=>?_];let:=mj h0 hc;omega
theorem Aq(h0:0<=n)(h1:n<1000000):isNumber (cM n)=true:=by
 let#[l1,l2]:=wo h0 h1;let em:qR "0123456789" 6 (cM n)=true:=by unfold qR;rw[qQ1 (),qQ1 (),qv,qv,cV];intro c hc;let hd:=mj h0 hc;let:EG (one c) "0123456789"=decide (c∈("0123456789":O).cps.toList):=vT ..;rw[this,Fv];exact qQ1 (aj.mpr #[c-48,gb.mpr (),()])
 unfold isNumber;rw[em,qv];by_cases hn:n=0
 .subst hn;rfl
 .let#[c,c1,c2]:=O8 n.toNat ();let hh:(cM n).cps.toList.head?>>c.toNat:=by rw[xC h0,List.head?_map,c1];rfl
  rw[hh];let:one c.toNat≠"0":=by
   intro z;let z2:(one c.toNat).cps.toList=("0":O).cps.toList:=by rw[z]
   let z3:[c.toNat]=[48]:=z2;let z4:c.toNat=48:=by simpa using z3
   exact c2 (Char.toNat_inj.mp z4)
  show(_ || not (decide (one c.toNat="0")))=true;rw[qQ0 this];simp
theorem num_reads(h0:0<=n)(h1:n<1000000):intText? (cM n)>>n:=PySem.W.KIN.num_reads h0 ()
theorem kH(h0:0<=n)(h1:n<1000000):cM n≠""/\32∉(cM n).cps.toList/\10∉(cM n).cps.toList:=by
 refine#[λz=>?_,λz=>?_,λz=>?_]
 .let:=(wo h0 h1).1;rw[z]at this;exact qQ7 this ⋯
 .let:=mj h0 z;omega
 .let:=mj h0 z;omega
theorem fG(h:cU x):x≠""/\32∉x.cps.toList/\10∉x.cps.toList:=by
 refine#[λz=>?_,λz=>?_,λz=>?_]
 .let:=h.1;rw[z]at this;exact qQ7 this ⋯
 .let:=h.2.2 _ z;omega
 .let:=h.2.2 _ z;omega
end Mg
namespace Mg
open L2 PySem PyProof.Rows
seal L2.VE L2.VS L2.qK L2.VT L2.VO L2.Q_
variable{fd:iu}
def cH(i:Int):Prop:=0<=i/\i<1000000
theorem cH.log(h:cH i):i.natAbs.log2<1920:=by
 let:i.natAbs<2^20:=by let:=h.1;let:=h.2;omega
 let h2:i.natAbs.log2<=20:=by
  rcases wN i.natAbs with e|e
  .rw[e];decide
  .exact yz ((Nat.log2_lt ()).mpr this)
 omega
def MF:U->Prop
 | .none=>True
 | .int i=>cH i
 | .str x=>x=""\/cU x
 |_=>False
def dG:U->O
 | .str x=>if x="" then "-" else x
 | .int i=>cM i
 |_=>"-"
section
variable{P:bW}{w:cP}{K:ai}{mg:O->Option M}{base:dv}{f:J}
theorem ZW:cg ["_law_thing"] ["_law_thing"] (bA (top 46)):=by grind
def Rda(ds:!U)(d:U):Prop:=∃x,ds=[x]/\MF x/\d=.str (dG x)
theorem zdR(F:kz K "_law_dash" "_law_dash" (top 46) f fd)(n:Na mg):dW P w K mg base jO 1 f fd ["_law_thing"] (gi K Rda):=
 iO F ZW (by ext) λ_ _ h=>by
  let#[x,rfl,ho,rfl]:=h;intro gk A outer s H E hr;let l0:Lay 20 (.str ""):=a9 ∎;cases x with
  |none=>exact dB (dH (VT.to (gY (k2:=true) (gO jM mW 0. g8 (fX _)) (λz=>by cases z)) Y) (a8 (b9 aW))) Y
  |int i=>exact aL (bP (VT.to (gY (gO jM mW 0. g8 (fX _)) (λ_=>j9 hr (eK 20 _) l0 0. aW)) Y) bw) (a8 (b9 (iY 0. (cH.log ho) n.str)))
  |str z=>
   let oz:lD z:=by
    rcases ho with rfl|ho
    .show bR _=true;symm
    .exact ho.ok.2
   by_cases hz:z=""
   .refine dB (dH (VT.to (gY (gO jM mW 0. g8 (fX _)) (λ_=>j9 hr (a9 oz) l0 0. aW)) ?_) (a8 (b9 (VE.to aW ?_)))) Y
    .rw[bG,qQ1 hz];rfl
    .show aJ "-"=.str (if z="" then "-" else z);rw[qQ3 hz]
   .refine aL (bP (VT.to (gY (gO jM mW 0. g8 (fX _)) (λ_=>j9 hr (a9 oz) l0 0. aW)) ?_) bw) ?_
    .rw[bG,qQ0 hz];rfl
    .refine a8 (b9 (VE.to (Ro 0. n.str) ?_));show aJ z=.str (if z="" then "-" else z);rw[qQ2 hz]
  |_=>exact ho.elim
def xD:Rl->Prop
 | .meet=>True
 | .gather m a=>cH m/\cH a
 | .many m=>cH m
 | .rank none=>True
 | .rank (some b)=>cH b
 | .turns s=>s.length<=60/\∀z∈s,cH z
 | .eldest=>True
def cj:Rl->!O
 | .turns s=>"turns"::s.map cM
 |r=>oP r::(qg r).map dG
def oA(r:Rl):O:=bB " " (cj r)
theorem ZX:cg ["_law_rule"] ["_law_rule"] (bA (top 47)):=by grind
def Rrt(ds:!U)(d:U):Prop:=∃r,ds=[Kc r]/\xD r/\d=.str (oA r)
def zdS:U->Option U
 | .int i=>some (.str (cM i))
 |_=>none
theorem O9(l:!Int):(l.map eJ).filterMap zdS=(l.map cM).map .str:=by rw[cO,aG];exact filterMap_some λk _=>rfl
def O_:U->Option U:=λd=>some (.str (dG d))
theorem xE(l:!U):l.filterMap O_=(l.map dG).map .str:=by rw[aG];exact filterMap_some λk _=>rfl
theorem fH(h:cH i):(cM i).length<=6:=(wo h.1 h.2).2
theorem j7:∀{l:!O}{b:Nat},(∀x∈l,x.length<=b)->(l.map (·.length)).sum<=l.length*b
 | [],_,_=>∅
 |x::l,b,h=>by let h1:=h x aB;let h2:=j7 λy hy=>h y (aD _ hy);rw[ao,qx,bj,Nat.add_mul];omega
theorem ml(h:MF d):(dG d).length<=8:=by
 cases d with
 |none=>decide
 |int i=>exact bZ (fH h) ⋯
 |str x=>
  show(if x="" then("-":O)else x).length<=8;split
  .decide
  .rename_i hx
   rcases h with h|h
   .exact qQ7 h hx
   .let:=h.2.1;exact this
 |_=>exact h.elim
theorem xF(ht:∀s,r≠.turns s)(h:xD r):∀d∈qg r,MF d:=by
 intro d hd;cases r with
 |meet=>cases hd
 |eldest=>cases hd
 |gather m a=>
  rcases au.mp hd with rfl|hd
  .exact h.1
  .rw[aA.mp hd];exact h.2
 |many m=>rw[aA.mp hd];exact h
 |rank b=>rw[aA.mp hd];cases b with|none=>trivial|some b=>exact h
 |turns s=>exact qQ7 Y (ht s)
theorem zdT(F:kz K "_law_rule_text" "_law_rule_text" (top 47) f fd)(n:Na mg)(C:a_ P w K mg base 1 "_law_dash" ["_law_thing"] (gi K Rda)):dW P w K mg base jO 2 f fd ["_law_rule"] (gi K Rrt):=
 iO F ZX (by ext) λ_ _ h=>by
  let#[r,rfl,ho,rfl]:=h;intro gk A outer s H E hr;let oR:lD (oP r):=by cases r<;>dsimp only[oP,lD]<;>symm
  let lT:Lay 20 (.str "turns"):=a9 ∎;let h0:uk (aJ (oP r)::qg r) 0>>_:=cJ Y;by_cases ht:∃sh,r=.turns sh
  .let#[sh,rfl]:=ht;let nc:(["_law_share"]:!O).Nodup:=∎;refine dB (dH (VT.to (j9 hr (a9 oR) lT (dm 0. aK h0) aW) ([bG]▸qQ1 Y)) (a8 (b9 (kL aW (VE.to (VO.ve (jt (VO.ve (da (du aW cZ))) (VO.ve (VO.to (dF (own:=["_law_share"]) (cap:=[]) (tgt:=.one 0) Y #[Y,∎,∎,Y,Y,∅] (vf (dm 0. aK (cJ Y))) (λf s3 H3=>fP 0 nc) Y
    (small (by rw[ae];let:=ho.1;omega)) (λd hd=>?_)) (O9 _))) (small (by simp;let:=ho.1;omega)))) Y) ?_)))) Y
   .let#[z,hz,rfl]:=aj.mp hd;exact Bi Y Y λf s3 H3=>iY 0. (cH.log (ho.2 z hz)) n.str
   .let h1:=j7 (l:=cj (.turns sh)) (b:=6) λx hx=>by
     rcases au.mp hx with rfl|hx
     .decide
     .let#[z,hz,rfl]:=aj.mp hx;exact fH (ho.2 z hz)
    let h2:(cj (.turns sh)).length=sh.length+1:=by simp[cj]
    let h3:=ho.1;let h4:(" ":O).length=1:=⋯;rw[h4];omega
  .let zt:=λsh z=>ht #[sh,z];let hw:oP r≠"turns":=by
    cases r with
    |turns sh=>exact qQ7 Y (zt sh)
    |_=>dsimp only[oP];symm
   let HZ:cj r=oP r::(qg r).map dG:=by
    cases r with
    |turns sh=>exact qQ7 Y (zt sh)
    |_=>rfl
   let hl:(qg r).length<=2:=by cases r<;>simp[qg]
   let Yt:(oP r).length<=8:=by cases r<;>dsimp only[oP]<;>symm
   let hok:=xF zt ho;unfold oA;rw[HZ];unfold Kc;generalize qg r=ra at *;generalize oP r=pZ at *;let nc:(["_law_one"]:!O).Nodup:=∎;let Aj:L2.cutD (aJ pZ::ra) (some 1) none=ra:=(lq (aJ pZ::ra) 1).trans Y;refine aL (bP (VT.to (j9 hr (a9 oR) lT (dm 0. aK h0) aW) ([bG]▸qQ0 hw)) bw) ?_;refine a8 (b9 (kL aW (VE.to (VO.ve (jt (VO.ve (da {dm 0. aK h0})) (VO.ve (VO.to (dF (own:=["_law_one"]) (cap:=[]) (tgt:=.one 0) Y #[Y,∎,∎,Y,Y,∅] (vf (VE.to (p_ 0. (.yes aK) .no ?_) (by rw[Aj]))) (λf s3 H3=>fP 0 nc) Y
    (small ()) (λd hd=>?_)) (xE _))) (small (by simp;omega)))) Y) ?_))
   .intro z;let:=z.1;rw[show(1:Int)=((1:Nat):Int)from Y,HT.nH,bj]at this;omega
   .exact Bi Y Y λf s3 H3=>bE C hr {0.} #[d,Y,hok d hd,Y]
   .let h1:=j7 (l:=pZ::ra.map dG) λx hx=>by
     rcases au.mp hx with rfl|hx
     .exact Yt
     .let#[z,hz,rfl]:=aj.mp hx;exact ml (hok z hz)
    let h2:(pZ::ra.map dG).length=ra.length+1:=∅
    let h4:(" ":O).length=1:=⋯;rw[h4];omega
end
def o9(p:O×Option Int):O:="kind "++p.1++" "++dG (mV p.2)
def o_(g:O):O:="gate "++g
def mJ(p:O×Int):O:="line "++p.1++" "++cM p.2
def oB(d:Dk):O:="desk "++d.name++" to "++dG (.str d.to)++" by "++oA d.rule
def lr(d:Dk):O:=oB d++" from "++bB " " d.places
def pj(p:O×O×Int):O:=bB " " ["time",p.1,p.2.1,cM p.2.2]
def qU(p:O×Int×Int):O:=bB " " ["open",p.1,cM p.2.1,cM p.2.2]
def pq(p:O×O×Int×Int):O:=bB " " ["pace",p.1,p.2.1,cM p.2.2.1,cM p.2.2.2]
structure jh(p:Pl):Prop where
 kn:p.kinds.length<=60
 gn:p.gates.length<=60
 ln:p.lines.length<=60
 dn:p.desks.length<=60
 tn:p.times.length<=600
 hn:p.hours.length<=600
 kinds:∀q∈p.kinds,cU q.1/\MF (mV q.2)
 gates:∀g∈p.gates,cU g
 lines:∀q∈p.lines,cU q.1/\cH q.2
 desks:∀d∈p.desks,cU d.name/\(d.to=""\/cU d.to)/\xD d.rule/\d.places.length<=60/\∀x∈d.places,cU x
 times:∀q∈p.times,cU q.1/\cU q.2.1/\cH q.2.2
 hours:∀q∈p.hours,cU q.1/\cH q.2.1/\cH q.2.2
 an:p.paces.length<=60
 paces:∀q∈p.paces,cU q.1/\cU q.2.1/\cH q.2.2.1/\cH q.2.2.2
theorem cU.short(h:cU x):x.length<=8:=by let:=h.2.1;exact this
theorem kU(hy:y.length<=1):∀{l:!O}{b:Nat},(∀x∈l,x.length<=b)->(bB y l).length<=l.length*(b+1)
 | [],_,_=>by exact aY _
 | [x],b,h=>by let:=h x aB;show x.length<=1*(b+1);omega
 |x::z::l,b,h=>by let h1:=h x aB;let h2:=kU hy λu hu=>h u (aD _ hu);show(x++y++bB y (z::l)).length<=(z::l).length.succ*(b+1);rw[cG,cG,GB];omega
theorem tE(h:xD r):(oA r).length<=700:=by
 let hl:(cj r).length<=61/\∀x∈cj r,x.length<=8:=by
  by_cases ht:∃sh,r=.turns sh
  .let#[sh,rfl]:=ht;refine#[by let:=h.1;simp[cj];omega,λx hx=>?_];rcases au.mp hx with rfl|hx
   .decide
   .let#[z,hz,rfl]:=aj.mp hx;exact bZ (fH (h.2 z hz)) ⋯
  .let zt:=λsh z=>ht #[sh,z];let HZ:cj r=oP r::(qg r).map dG:=by
    cases r with
    |turns sh=>exact qQ7 Y (zt sh)
    |_=>rfl
   let hl:(qg r).length<=2:=by cases r<;>simp[qg]
   rw[HZ];refine#[by rw[bj,ae];omega,λx hx=>?_];rcases au.mp hx with rfl|hx
   .exact (by cases r<;>dsimp only[oP]<;>symm)
   .let#[z,hz,rfl]:=aj.mp hx;exact ml ((xF zt h) z hz)
 let:=kU (y:=" ") ⋯ hl.2;unfold oA;omega
def Fkr:U->Option U
 | .tuple [.str a,k]=>some (.str ("kind "++a++" "++dG k))
 |_=>none
def Fgr:U->Option U
 | .str a=>some (.str (o_ a))
 |_=>none
def Flr:U->Option U
 | .tuple [.str a,.int i]=>some (.str (mJ (a,i)))
 |_=>none
def Ftr:U->Option U
 | .tuple [.str a,.str b,.int i]=>some (.str (pj (a,b,i)))
 |_=>none
def Fhr:U->Option U
 | .tuple [.str a,.int i,.int j]=>some (.str (qU (a,i,j)))
 |_=>none
theorem R7(l:!(O×Option Int)):(l.map sZ).filterMap Fkr=(l.map o9).map .str:=by rw[cO,aG];exact filterMap_some λk _=>rfl
theorem R8(l:!O):(l.map aJ).filterMap Fgr=(l.map o_).map .str:=by rw[cO,aG];exact filterMap_some λk _=>rfl
theorem R9(l:!(O×Int)):(l.map Am).filterMap Flr=(l.map mJ).map .str:=by rw[cO,aG];exact filterMap_some λk _=>rfl
theorem R_(l:!(O×O×Int)):(l.map uO).filterMap Ftr=(l.map pj).map .str:=by rw[cO,aG];exact filterMap_some λk _=>rfl
theorem Sb(l:!(O×Int×Int)):(l.map jg).filterMap Fhr=(l.map qU).map .str:=by rw[cO,aG];exact filterMap_some λk _=>rfl
def pw(p:Pl):!O:=p.kinds.map o9++p.gates.map o_++p.lines.map mJ
def oC(p:Pl):!O:=pw p++p.desks.map lr++p.times.map pj++p.hours.map qU
def fJ(p:Pl):!O:=oC p++p.paces.map pq
def lu(p:Pl):O:=bB "\n" (fJ p)
section
variable{K:ai}
abbrev Npt:!O:=["_law_h","_law_rows","_law_name","_law_to","_law_rule","_law_places","_law_row","_law_gate","_law_kind","_law_burst","_law_gap"]
theorem TQ:cg Npt ["_law_h"] (bA (top 48)):=by grind
def Rpt(ds:!U)(d:U):Prop:=∃p,ds=[fc p]/\jh p/\d=.str (lu p)
theorem zdU{P:bW}{w:cP}{mg:O->Option M}{base:dv}{f:J}(F:kz K "_law_plant_text" "_law_plant_text" (top 48) f fd)(n:Na mg)(C1:a_ P w K mg base 1 "_law_dash" ["_law_thing"] (gi K Rda))(C2:a_ P w K mg base 2 "_law_rule_text" ["_law_rule"] (gi K Rrt)):dW P w K mg base jO 3 f fd ["_law_h"] (gi K Rpt):=
 iO F TQ (by ext) λ_ _ h=>by
  let#[p,rfl,ok,rfl]:=h;intro gk A outer s H E hr;let nd:Npt.Nodup:=TQ.nd;let pQ:eL 1 _:=hr.mono ();let b1:=ok.kn;let b2:=ok.gn;let b3:=ok.ln;let b4:=ok.dn;let b5:=ok.tn;let b6:=ok.hn;let nk:(["_law_name","_law_keep"]:!O).Nodup:=∎;refine aL (Df 1 (own:=["_law_name","_law_keep"]) (cap:=[]) (N:=["_law_name","_law_keep"]) (cl:=[]) (tgt:=.tup [0,1]) (F:=Fkr) (ds:=p.kinds.map sZ) Y #[Y,∎,∎,Y,Y,∅] (dX (eP pQ 0. aW (wj p))) (λf s3 H3=>fh Y (bx (fP 0 nk) (bx (fP 1 nk) dU))) Y (small (by rw[ae];omega)) (λd hd=>?_) nd) ?_
  .let#[q,hq,rfl]:=aj.mp hd;let#[h1,h2]:=ok.kinds q hq;refine#[_,Y,λf s3 H3=>mI,λr oO f s3 H3=>?_];cases oO;let s1:=h1.short;let s2:=ml h2;let e1:("kind ":O).length=5:=⋯;let e2:(" ":O).length=1:=⋯;exact eX (eX (eX aW 0. (small ())) aW (small (by simp only[cG];omega))) (bE C1 pQ {1.} #[_,Y,h2,Y]) (small (by simp only[cG];omega))
  rw[R7];refine fF 1 Y ?_;let n1:(["_law_name"]:!O).Nodup:=∎;refine aL (j0 1 (ds:=(p.kinds.map o9++p.gates.map o_).map .str) (VO.to (jt (d2:=(p.gates.map o_).map .str) 1. (VO.ve (VO.to (dF (own:=["_law_name"]) (cap:=[]) (N:=["_law_name"]) (cl:=[]) (tgt:=.one 0) (F:=Fgr) (ds:=p.gates.map .str) Y #[Y,∎,∎,Y,Y,∅] (dX (eP pQ 0. aW (Ao p))) (λf s3 H3=>fP 0 n1) Y (small (by rw[ae];omega)) (λd hd=>?_)) (R8 _))) (small (by simp only[ae];omega))) (by rw[aH])) nd) ?_
  .let#[q,hq,rfl]:=aj.mp hd;let s1:=(ok.gates q hq).short;let e1:("gate ":O).length=5:=⋯;exact Bi Y Y λf s3 H3=>eX aW 0. (small ())
  refine fF 1 Y ?_;let n2:(["_law_name","_law_room"]:!O).Nodup:=∎;refine aL (j0 1 (ds:=(pw p).map .str) (VO.to (jt (d2:=(p.lines.map mJ).map .str) 1. (VO.ve (VO.to (dF (own:=["_law_name","_law_room"]) (cap:=[]) (N:=["_law_name","_law_room"]) (cl:=[]) (tgt:=.tup [0,1]) (F:=Flr) (ds:=p.lines.map Am) Y #[Y,∎,∎,Y,Y,∅] (dX (eP pQ 0. aW (Fo p))) (λf s3 H3=>fh Y (bx (fP 0 n2) (bx (fP 1 n2) dU))) Y (small (by rw[ae];omega)) (λd hd=>?_)) (R9 _))) (small (by simp only[ae,aN];omega))) (by unfold pw;rw[aH (l₂:=rC mJ _)])) nd) ?_
  .let#[#[qa,qi],hq,rfl]:=aj.mp hd;obtain⟨h1,h2⟩:cU qa/\cH qi:=ok.lines (qa,qi) hq;let s1:=h1.short;let s2:=fH h2;let e1:("line ":O).length=5:=⋯;let e2:(" ":O).length=1:=⋯;exact Bi Y Y λf s3 H3=>VE.to (eX (x:="line "++qa++" ") (y:=cM qi) (eX (x:="line "++qa) (eX (y:=qa) aW 0. (small ())) aW (small (by simp only[cG];omega))) (iY 1. (cH.log h2) n.str) (small (by simp only[cG];omega))) Y
  let r1:(pw p).length=p.kinds.length+p.gates.length+p.lines.length:=by unfold pw;simp only[aN,ae]
  refine aL (lU (tgt:=.tup [2,3,4,5]) (o:=.nx [.val (fc p),.own ((pw p++(p.desks.take p.desks.length).map lr).map .str),.un,.un,.un,.un,.un,.un,.un,.un,.un]) bL Y (dX (eP pQ 0. aW (tq p)))
   (fh Y (bx (fP 2 nd) (bx (fP 3 nd) (bx (fP 4 nd) (bx (fP 5 nd) dU))))) (λi=>[.val (fc p),.own ((pw p++(p.desks.take i).map lr).map .str),.un,.un,.un,.un,.un,.un,.un,.un,.un]) p.desks.length (by show([.val (fc p),.own ((pw p++(p.desks.take 0).map lr).map .str),.un,.un,.un,.un,.un,.un,.un,.un,.un]:!Slot)=_;rw[BF,eC,bC];rfl) ([ae]▸aE _) (λi d hi hd=>?_) (.inl #[by rw[ae],Y])) ?_
  .obtain⟨dk,Wx,rfl⟩:∃dk,p.desks[i]?>>dk/\d=gZ dk:=by rw[ay,ax ()]at hd;cases hd;exact#[_,ax (),Y]
   let#[h1,h2,h3,h4,h5]:=ok.desks dk (aF Wx);let Xt:MF (.str dk.to):=h2;let s1:=h1.short;let s2:=ml Xt;let s3:=tE h3;let s4:=kU (y:=" ") ⋯ (l:=dk.places) (b:=8) λx hx=>(h5 x hx).short;let s5:dk.places.length*(8+1)<=60*9:=fu h4 (aE _);let s6:=j7 (l:=dk.places) (b:=8) λx hx=>(h5 x hx).short;let e1:("desk ":O).length=5:=⋯;let e2:(" to ":O).length=4:=⋯;let e3:(" by ":O).length=4:=⋯;let e4:(" from ":O).length=6:=⋯;let e5:(" ":O).length=1:=⋯;let eh:(oB dk).length<=800:=by unfold oB;simp only[cG];omega
   refine#[_,Y,?_];refine aL (dC 6 (d:=.str (oB dk)) (eX (eX (eX (eX (eX aW 2. (small ())) aW (small (by simp only[cG];omega))) (bE C1 pQ {3.} #[_,Y,Xt,Y]) (small (by simp only[cG];omega))) aW (small (by simp only[cG];omega))) (bE C2 hr {4.} #[_,Y,h3,Y]) (small (by simp only[cG];omega))) nd) ?_;refine eW (a8 (fk 1 Y (d:=.str (lr dk)) (eX (eX 6. aW (small ())) (kL (zs:=dk.places) aW (VO.ve (nW nI JQ {5.} n.lst Y)) (by rw[e5];omega)) (small (by simp only[cG];omega))) (dQ (by simp only[ae,aN,bU];omega)))) #[.inr Y,.inr ?_,.inl Y,.inl Y,.inl Y,.inl Y,.inl Y,.inr Y,.inr Y,.inr Y,.inr Y,trivial];rw[cB,Wx];simp only[vM,aH,ao,eC,bS]
  rw[bV];refine fF 1 Y ?_;let n3:(["_law_desk","_law_kind","_law_work"]:!O).Nodup:=∎;refine aL (j0 1 (ds:=(pw p++p.desks.map lr++p.times.map pj).map .str) (VO.to (jt (d2:=(p.times.map pj).map .str) 1. (VO.ve (VO.to (dF (own:=["_law_desk","_law_kind","_law_work"]) (cap:=[]) (N:=["_law_desk","_law_kind","_law_work"]) (cl:=[]) (tgt:=.tup [0,1,2]) (F:=Ftr) (ds:=p.times.map uO) Y #[Y,∎,∎,Y,Y,∅] (dX (eP pQ 0. aW (Fp p))) (λf s3 H3=>fh Y (bx (fP 0 n3) (bx (fP 1 n3) (bx (fP 2 n3) dU)))) Y (small (by rw[ae];omega)) (λd hd=>?_)) (R_ _))) (small (by simp only[ae,aN];omega))) (by rw[aH (l₂:=rC pj _)])) nd) ?_
  .let#[#[qa,qb,qi],hq,rfl]:=aj.mp hd;obtain⟨h1,h2,h3⟩:cU qa/\cU qb/\cH qi:=ok.times (qa,qb,qi) hq;let s1:=h1.short;let s2:=h2.short;let s3:=fH h3;let e1:("time":O).length=4:=⋯;let e2:(" ":O).length=1:=⋯;exact Bi Y Y λf s3 H3=>kL (zs:=["time",qa,qb,cM qi]) aW (VO.ve (da {aW,0.,1.,iY 2. (cH.log h3) n.str} (small (by show 4<=_;decide)))) (by rw[e2];simp only[ao,eC,qx,Gp,bj,cx];omega)
  refine fF 1 Y ?_;let n4:(["_law_desk","_law_begin","_law_end"]:!O).Nodup:=∎;refine aL (j0 1 (ds:=(oC p).map .str) (VO.to (jt (d2:=(p.hours.map qU).map .str) 1. (VO.ve (VO.to (dF (own:=["_law_desk","_law_begin","_law_end"]) (cap:=[]) (N:=["_law_desk","_law_begin","_law_end"]) (cl:=[]) (tgt:=.tup [0,1,2]) (F:=Fhr) (ds:=p.hours.map jg) Y #[Y,∎,∎,Y,Y,∅] (dX (eP pQ 0. aW (tD p))) (λf s3 H3=>fh Y (bx (fP 0 n4) (bx (fP 1 n4) (bx (fP 2 n4) dU)))) Y (small (by rw[ae];omega)) (λd hd=>?_)) (Sb _))) (small (by simp only[ae,aN];omega))) (by unfold oC;rw[aH (l₂:=rC qU _)])) nd) ?_
  .let#[#[qa,qb,qi],hq,rfl]:=aj.mp hd;obtain⟨h1,h2,h3⟩:cU qa/\cH qb/\cH qi:=ok.hours (qa,qb,qi) hq;let s1:=h1.short;let s2:=fH h2;let s3:=fH h3;let e1:("open":O).length=4:=⋯;let e2:(" ":O).length=1:=⋯;exact Bi Y Y λf s3 H3=>kL (zs:=["open",qa,cM qb,cM qi]) aW (VO.ve (da {aW,0.,iY 1. (cH.log h2) n.str,iY 2. (cH.log h3) n.str} (small (by show 4<=_;decide)))) (by rw[e2];simp only[ao,eC,qx,Gp,bj,cx];omega)
  refine aL (lU (tgt:=.tup [7,8,9,10]) (o:=.nx [.val (fc p),.own ((oC p++(p.paces.take p.paces.length).map pq).map .str),.un,.un,.un,.un,.un,.un,.un,.un,.un]) bL Y (dX (eP pQ 0. aW (O6 p)))
   (fh Y (bx (fP 7 nd) (bx (fP 8 nd) (bx (fP 9 nd) (bx (fP 10 nd) dU))))) (λi=>[.val (fc p),.own ((oC p++(p.paces.take i).map pq).map .str),.un,.un,.un,.un,.un,.un,.un,.un,.un]) p.paces.length (by show([.val (fc p),.own ((oC p++(p.paces.take 0).map pq).map .str),.un,.un,.un,.un,.un,.un,.un,.un,.un]:!Slot)=_;rw[BF,eC,bC];rfl) ([ae]▸aE _) (λi d hi hd=>?_) (.inl #[by rw[ae],Y])) ?_
  .obtain⟨⟨qa,qb,qi,qj⟩,Wx,rfl⟩:∃dk,p.paces[i]?>>dk/\d=tj dk:=by rw[ay,ax ()]at hd;cases hd;exact#[_,ax (),Y]
   obtain⟨h1,h2,h3,h4⟩:cU qa/\cU qb/\cH qi/\cH qj:=ok.paces (qa,qb,qi,qj) (aF Wx);let s1:=h1.short;let s2:=h2.short;let s3:=fH h3;let s4:=fH h4;let e1:("pace":O).length=4:=⋯;let e2:(" ":O).length=1:=⋯;let b7:=ok.an;let r6:(oC p).length<=1440:=by unfold oC;simp only[aN,ae];omega
   refine#[_,Y,?_];refine eW (a8 (fk 1 Y (d:=.str (pq (qa,qb,qi,qj))) (kL (zs:=["pace",qa,qb,cM qi,cM qj]) aW (VO.ve (da {aW,7.,8.,iY 9. (cH.log h3) n.str,iY 10. (cH.log h4) n.str} (small (by show 5<=_;decide)))) (by rw[e2];simp only[ao,eC,qx,Gp,bj,cx];omega)) (dQ (by simp only[ae,aN,bU];omega)))) #[.inr Y,.inr ?_,.inr Y,.inr Y,.inr Y,.inr Y,.inr Y,.inl Y,.inl Y,.inl Y,.inl Y,trivial];rw[cB,Wx];simp only[vM,aH,ao,eC,bS]
  rw[bV];rw[show oC p++p.paces.map pq=fJ p from Y];refine fF 1 Y ?_;refine a8 (b9 (kL (zs:=fJ p) aW 1. ?_));let e5:("\n":O).length=1:=⋯;let e2:(" ":O).length=1:=⋯;let b7:=ok.an;let hl:(fJ p).length<=1500:=by unfold fJ oC;simp only[aN,ae];omega
  let hs:=j7 (l:=fJ p) (b:=2000) λx hx=>by
   unfold fJ oC pw at hx;simp only[aT,aj]at hx;rcases hx with(((((⟨q,hq,rfl⟩|⟨q,hq,rfl⟩)|⟨q,hq,rfl⟩)|⟨dk,hq,rfl⟩)|⟨q,hq,rfl⟩)|⟨q,hq,rfl⟩)|⟨q,hq,rfl⟩
   .let#[h1,h2]:=ok.kinds q hq;let s1:=h1.short;let s2:=ml h2;let e1:("kind ":O).length=5:=⋯;unfold o9;simp only[cG];omega
   .let s1:=(ok.gates q hq).short;let e1:("gate ":O).length=5:=⋯;unfold o_;simp only[cG];omega
   .let#[h1,h2]:=ok.lines q hq;let s1:=h1.short;let s2:=fH h2;let e1:("line ":O).length=5:=⋯;unfold mJ;simp only[cG];omega
   .let#[h1,h2,h3,h4,h5]:=ok.desks dk hq;let Xt:MF (.str dk.to):=h2;let s1:=h1.short;let s2:=ml Xt;let s3:=tE h3;let s4:=kU (y:=" ") ⋯ (l:=dk.places) (b:=8) λx hx=>(h5 x hx).short;let s5:dk.places.length*(8+1)<=60*9:=fu h4 (aE _);let e1:("desk ":O).length=5:=⋯;let e2:(" to ":O).length=4:=⋯;let e3:(" by ":O).length=4:=⋯;let e4:(" from ":O).length=6:=⋯;unfold lr oB;simp only[cG];omega
   .let#[h1,h2,h3]:=ok.times q hq;let s1:=h1.short;let s2:=h2.short;let s3:=fH h3;let:=kU (y:=" ") ⋯ (l:=["time",q.1,q.2.1,cM q.2.2]) (b:=8) λx hx=>by
     simp only[au,aS,or_false]at hx;rcases hx with rfl|rfl|rfl|rfl
     .decide
     .exact s1
     .exact s2
     .omega
    unfold pj;exact bZ this (by simp only[bj,cx];omega)
   .let#[h1,h2,h3]:=ok.hours q hq;let s1:=h1.short;let s2:=fH h2;let s3:=fH h3;let:=kU (y:=" ") ⋯ (l:=["open",q.1,cM q.2.1,cM q.2.2]) (b:=8) λx hx=>by
     simp only[au,aS,or_false]at hx;rcases hx with rfl|rfl|rfl|rfl
     .decide
     .exact s1
     .omega
     .omega
    unfold qU;exact bZ this (by simp only[bj,cx];omega)
   .let#[h1,h2,h3,h4]:=ok.paces q hq;let s1:=h1.short;let s2:=h2.short;let s3:=fH h3;let s4:=fH h4;let:=kU (y:=" ") ⋯ (l:=["pace",q.1,q.2.1,cM q.2.2.1,cM q.2.2.2]) (b:=8) λx hx=>by
     simp only[au,aS,or_false]at hx;rcases hx with rfl|rfl|rfl|rfl|rfl
     .decide
     .exact s1
     .exact s2
     .omega
     .omega
    unfold pq;exact bZ this (by simp only[bj,cx];omega)
  let hb:(fJ p).length*2000<=1500*2000:=fu hl (aE _);rw[e5];omega
end
end Mg
namespace Mg
open L2 PySem PyProof.Rows
def g0(x:O):Prop:=x≠""/\32∉x.cps.toList/\10∉x.cps.toList
theorem g0.one(h:g0 x):wordsOf x=[x]:=xA h.1 h.2.1
theorem qV{l k:O}(hl:l=k++" ")(hk:g0 k)(x:O):wordsOf (l++x)=k::wordsOf x:=by rw[hl,mh,hk.one];rfl
theorem vp{l k:O}(hl:l=" "++k++" ")(hk:g0 k)(x y:O):wordsOf (x++l++y)=wordsOf x++k::wordsOf y:=by
 let e:x++l++y=x++" "++(k++" "++y):=by rw[hl];apply str_inj;simp[add_list,bS]
 rw[e,mh,mh,hk.one];rfl
theorem uw(h:MF d):g0 (dG d):=by
 let e:g0 "-":=by unfold g0;symm
 cases d with
 |none=>exact e
 |int i=>exact kH h.1 h.2
 |str x=>
  show g0 (if x="" then "-" else x);split
  .exact e
  .rename_i hx
   rcases h with h|h
   .exact qQ7 h hx
   .exact fG h
 |_=>exact h.elim
theorem rule_words(h:xD r):∀w∈cj r,g0 w:=by
 intro w hw;by_cases ht:∃sh,r=.turns sh
 .let#[sh,rfl]:=ht;rcases au.mp hw with rfl|hw
  .unfold g0;symm
  .let#[z,hz,rfl]:=aj.mp hw;exact kH (h.2 z hz).1 (h.2 z hz).2
 .let zt:=λsh z=>ht #[sh,z];let HZ:cj r=oP r::(qg r).map dG:=by
   cases r with
   |turns sh=>exact qQ7 Y (zt sh)
   |_=>rfl
  rw[HZ]at hw;rcases au.mp hw with rfl|hw
  .cases r<;>dsimp[oP,g0]<;>symm
  .let#[z,hz,rfl]:=aj.mp hw;exact uw ((xF zt h) z hz)
theorem H_(h:cU q.1/\MF (mV q.2)):wordsOf (o9 q)=[("kind":O),q.1,dG (mV q.2)]:=by unfold o9;rw[mh,qV (k:="kind") ∎ (by unfold g0;symm),(show g0 q.1 from fG h.1).one,(uw h.2).one];rfl
theorem Ia(h:cU g):wordsOf (o_ g)=[("gate":O),g]:=by unfold o_;rw[qV (k:="gate") ∎ (by unfold g0;symm),(show g0 g from fG h).one]
theorem Ib(h:cU q.1/\cH q.2):wordsOf (mJ q)=[("line":O),q.1,cM q.2]:=by unfold mJ;rw[mh,qV (k:="line") ∎ (by unfold g0;symm),(show g0 q.1 from fG h.1).one,(show g0 (cM q.2)from kH h.2.1 h.2.2).one];rfl
theorem Ie{d:Dk}(h:cU d.name/\(d.to=""\/cU d.to)/\xD d.rule/\d.places.length<=60/\∀x∈d.places,cU x):wordsOf (lr d)=[("desk":O),d.name,"to",dG (.str d.to),"by"]++cj d.rule ++ [("from":O)]++d.places:=by let#[h1,h2,h3,h4,h5]:=h;let Xt:MF (.str d.to):=h2;let hr:wordsOf (oA d.rule)=cj d.rule:=mY λw hw=>#[(rule_words h3 w hw).1,(rule_words h3 w hw).2.1];unfold lr oB;rw[vp (k:="from") ∎ (by unfold g0;symm),vp (k:="by") ∎ (by unfold g0;symm),vp (k:="to") ∎ (by unfold g0;symm),qV (k:="desk") ∎ (by unfold g0;symm),(show g0 d.name from fG h1).one,(uw Xt).one,hr,mY λw hw=>#[(fG (h5 w hw)).1,(fG (h5 w hw)).2.1]];simp
theorem Ig(h:cU q.1/\cU q.2.1/\cH q.2.2):wordsOf (pj q)=[("time":O),q.1,q.2.1,cM q.2.2]:=by
 refine mY λw hw=>?_;let:g0 w:=by
  simp[au,aS,or_false]at hw;rcases hw with rfl|rfl|rfl|rfl
  .unfold g0;symm
  .exact fG h.1
  .exact fG h.2.1
  .exact kH h.2.2.1 h.2.2.2
 exact#[this.1,this.2.1]
theorem Ih(h:cU q.1/\cH q.2.1/\cH q.2.2):wordsOf (qU q)=[("open":O),q.1,cM q.2.1,cM q.2.2]:=by
 refine mY λw hw=>?_;let:g0 w:=by
  simp[au,aS,or_false]at hw;rcases hw with rfl|rfl|rfl|rfl
  .unfold g0;symm
  .exact fG h.1
  .exact kH h.2.1.1 h.2.1.2
  .exact kH h.2.2.1 h.2.2.2
 exact#[this.1,this.2.1]
theorem Ii(h:cU q.1/\cU q.2.1/\cH q.2.2.1/\cH q.2.2.2):wordsOf (pq q)=[("pace":O),q.1,q.2.1,cM q.2.2.1,cM q.2.2.2]:=by
 refine mY λw hw=>?_;let:g0 w:=by
  simp only[au,aS,or_false]at hw;rcases hw with rfl|rfl|rfl|rfl|rfl
  .unfold g0;symm
  .exact fG h.1
  .exact fG h.2.1
  .exact kH h.2.2.1.1 h.2.2.1.2
  .exact kH h.2.2.2.1 h.2.2.2.2
 exact#[this.1,this.2.1]
end Mg
namespace Mg
open L2 PySem PyProof.Rows
seal L2.VE L2.VS L2.qK L2.VT L2.VO L2.Q_
variable{p:J}{fd:iu}{H:Hp}{n:Int}{l:!O}{d:U}{K:ai}{r:Rl}{x:O}
inductive Sh where
 |name|number|count|share|nr|oE|nQ
def Sh.tx:Sh->O
 | .name=>"name"
 | .number=>"number"
 | .count=>"count"
 | .share=>"share"
 | .nr=>"count or -"
 | .oE=>"name or -"
 | .nQ=>"number or -"
def jC(x:O):Bool:=isNumber x && not (decide (x="0"))
def oF:Sh->O->Bool
 | .name,x=>isName x
 | .number,x=>isNumber x
 | .count,x=>jC x
 | .share,x=>jC x&&decide ((x.length:Int)=1)
 | .nr,x=>decide (x="-")||jC x
 | .oE,x=>decide (x="-")||isName x
 | .nQ,x=>decide (x="-")||isNumber x
def DH(x:O):Int:=(intText? x).getD 0
def iC:Sh->O->U
 | .name,x=>.str x
 | .oE,x=>.str (if x="-" then "" else x)
 |_,x=>if x="-" then .none else .int (DH x)
def Sh.base:Sh->Bool
 | .name=>true
 | .number=>true
 | .count=>true
 |_=>false
theorem Sh.ok(s:Sh):lD s.tx:=by cases s<;>(show bR _=true)<;>symm
theorem Ar(h:isNumber x=true):1<=x.length/\x.length<=6/\∀c∈x.cps.toList,48<=c/\c<=57:=by let#[h1,h2]:=iI.mp ((iI.mp h).1);let#[h3,h4]:=iI.mp h1;let h3:=qQ4 h3;let h4:=qQ4 h4;refine#[(),(),λc hc=>?_];let:=cV.mp h2 c hc;let e:EG (one c) "0123456789"=decide (c∈("0123456789":O).cps.toList):=vT ..;rw[e,Fv]at this;let#[i,hi,rfl]:=aj.mp (qQ4 this);let:=gb.mp hi;omega
theorem Bu(h:isNumber x=true):intText? x>>(DH x):=by let#[h1,h2,h3]:=Ar h;let hd:=λc hc=>h3 c hc;let hl:x.cps.toList.length=x.length:=cu;let e:=intText_digits hd (λz=>by rw[z]at hl;simp only[cx]at hl;omega) ();unfold DH;rw[e];rfl
theorem Fw(h:cH n):DH (cM n)=n:=by unfold DH;rw[num_reads h.1 h.2];rfl
theorem qW(h:jC x=true):isNumber x=true:=(iI.mp h).1
theorem yo(h:oF s x=true)(h1:s≠.name)(h2:s≠.oE)(hx:x≠"-"):isNumber x=true:=by
 cases s with
 |name=>exact qQ7 Y h1
 |oE=>exact qQ7 Y h2
 |number=>exact h
 |count=>exact qW h
 |share=>exact qW (iI.mp h).1
 |nr=>
  rcases Bool.or_eq_true_iff.mp h with h|h
  .exact qQ7 (qQ4 h) hx
  .exact qW h
 |nQ=>
  rcases Bool.or_eq_true_iff.mp h with h|h
  .exact qQ7 (qQ4 h) hx
  .exact h
section
abbrev MG:!O:=["shape","word"]
theorem TR:cg MG MG (bA (top 27)):=by grind
def Xu(b:Bool)(ds:!U)(d:U):Prop:=∃(s:Sh)(x:O),ds=[.str s.tx,.str x]/\yl x/\(b=true\/s.base=true)/\d=.bool (oF s x)
theorem dz(h:bR (.str x)=true:=by symm):Lay 20 (.str x):=a9 h
theorem gL{X:L2.Cx}{k:Nat}{z y: O}{δ:!L2.Slot}{b:Bool}{p0 q pos:Pos}{j}(hr:L2.eL k X.A)(hl:Lay 20 (.str z))(i:Nat)(h:δ[i]?>>(.val (.str z)))(e:df (.str z) (.str y)=b)(hN:u5 X i x:=by ac_rfl)(hy:bR (.str y)=true:=by symm):VT X (.Compare (.Name x p0) [.Eq] [.Constant (.str y) j q] pos) δ b:=VT.to (j9 hr hl (dz hy) (pJ i h hN) aW) e
theorem ZY(n:Na mg)(C1:a_ P w K mg base 2 "is_name" ["word"] (gi K ZP))(C2:a_ P w K mg base 2 "is_number" ["word"] (gi K Rnu))(k2:2<=k)(C3:fb=true->a_ P w K mg base k "fits" MG (gi K (Xu false)))(h:Xu fb ds d):sS P w K mg base MG "fits" (top 27) f k ds (.rt d):=by
 let#[s,x,rfl,ox,hb,rfl]:=h;intro gk A outer sh H E hr;let Bv:eL 2 _:=hr.mono k2;let ls:=a9 (n:=20) s.ok;let lx:=a9 (n:=20) ox.2;cases s with
 |name=>exact dB (dH (gL hr ls 0 Y ([bG]▸qQ1 Y)) (a8 (b9 (bE C1 Bv {1.} #[x,Y,ox.1,Y])))) Y
 |number=>exact aL (bP (gL hr ls 0 Y (by rw[bG];symm)) bw) (dB (dH (gL hr ls 0 Y ([bG]▸qQ1 Y)) (a8 (b9 (bE C2 Bv {1.} #[x,Y,ox,Y])))) Y)
 |count=>exact aL (bP (gL hr ls 0 Y (by rw[bG];symm)) bw) (aL (bP (gL hr ls 0 Y (by rw[bG];symm)) bw) (dB (dH (gL hr ls 0 Y ([bG]▸qQ1 Y)) (a8 (b9 (VE.to (jQ (bE C2 Bv {1.} #[x,Y,ox,Y]) (λ_=>g_ (JB hr lx dz 1. aW))) (by rw[bG];rfl))))) Y))
 |share=>let C3:=C3 (hb.resolve_right ⋯);refine aL (bP (gL hr ls 0 Y (by rw[bG];symm)) bw) ?_;exact aL (bP (gL hr ls 0 Y (by rw[bG];symm)) bw) (aL (bP (gL hr ls 0 Y (by rw[bG];symm)) bw) (dB (dH (gL hr ls 0 Y ([bG]▸qQ1 Y)) (a8 (b9 (VE.to (jQ (bE C3 hr {aW,1.} #[.count,x,Y,ox,.inr Y,Y]) (λ_=>g_ (nE hr (eK 20 _) (eK 20 _) (JG 1. (small (by let:=ox.1;omega)) n.len) aK))) (by rw[o7];rfl))))) Y))
 |nr=>
  let C3:=C3 (hb.resolve_right ⋯);refine aL (bP (gL hr ls 0 Y (by rw[bG];symm)) bw) ?_;refine aL (bP (gL hr ls 0 Y (by rw[bG];symm)) bw) ?_;refine aL (bP (gL hr ls 0 Y (by rw[bG];symm)) bw) ?_;refine aL (bP (gL hr ls 0 Y (by rw[bG];symm)) bw) ?_;let y9:(cz (Sh.nr.tx) " ").map aJ=[.str "count",.str "or",.str "-"]:=by rw[show cz _ " "=[("count":O),"or","-"]from by symm];rfl
  exact a8 (b9 (VE.to (uM (nE hr lx dz 1. aW) (λ_=>g_ (bE C3 hr {eS (VE.to (VO.ve (jS 0. aW Y (small ⋯))) (by rw[y9])) aK (cJ Y),1.} #[.count,x,Y,ox,.inr Y,Y]))) (by rw[bG];rfl)))
 |oE=>
  let C3:=C3 (hb.resolve_right ⋯);refine aL (bP (gL hr ls 0 Y (by rw[bG];symm)) bw) ?_;refine aL (bP (gL hr ls 0 Y (by rw[bG];symm)) bw) ?_;refine aL (bP (gL hr ls 0 Y (by rw[bG];symm)) bw) ?_;refine aL (bP (gL hr ls 0 Y (by rw[bG];symm)) bw) ?_;let y9:(cz (Sh.oE.tx) " ").map aJ=[.str "name",.str "or",.str "-"]:=by rw[show cz _ " "=[("name":O),"or","-"]from by symm];rfl
  exact a8 (b9 (VE.to (uM (nE hr lx dz 1. aW) (λ_=>g_ (bE C3 hr {eS (VE.to (VO.ve (jS 0. aW Y (small ⋯))) (by rw[y9])) aK (cJ Y),1.} #[.name,x,Y,ox,.inr Y,Y]))) (by rw[bG];rfl)))
 |nQ=>
  refine aL (bP (gL hr ls 0 Y (by rw[bG];symm)) bw) ?_;refine aL (bP (gL hr ls 0 Y (by rw[bG];symm)) bw) ?_;refine aL (bP (gL hr ls 0 Y (by rw[bG];symm)) bw) ?_;refine aL (bP (gL hr ls 0 Y (by rw[bG];symm)) bw) ?_;let y9:(cz (Sh.nQ.tx) " ").map aJ=[.str "number",.str "or",.str "-"]:=by rw[show cz _ " "=[("number":O),"or","-"]from by symm];rfl
  exact a8 (b9 (VE.to (uM (nE hr lx dz 1. aW) (λ_=>g_ (bE (C3 (hb.resolve_right ⋯)) hr {eS (VE.to (VO.ve (jS 0. aW Y (small ⋯))) (by rw[y9])) aK (cJ Y),1.} #[.number,x,Y,ox,.inr Y,Y]))) (by rw[bG];rfl)))
theorem ZZ(F:kz K "fits" "fits" (top 27) f fd)(n:Na mg)(C1:a_ P w K mg base 2 "is_name" ["word"] (gi K ZP))(C2:a_ P w K mg base 2 "is_number" ["word"] (gi K Rnu)):dW P w K mg base jO 3 f fd MG (gi K (Xu false)):=
 iO F TR (by ext) λ_ _ h=>ZY n C1 C2 () (λz=>by cases z) h
theorem zdV(F:kz K "fits" "fits" (top 27) f fd)(n:Na mg)(C1:a_ P w K mg base 2 "is_name" ["word"] (gi K ZP))(C2:a_ P w K mg base 2 "is_number" ["word"] (gi K Rnu))(C3:a_ P w K mg base 3 "fits" MG (gi K (Xu false))):dW P w K mg base jO 4 f fd MG (gi K (Xu true)):=
 iO F TR (by ext) λ_ _ h=>ZY n C1 C2 ⋯ (λ_=>C3) h
theorem Z0:cg MG MG (bA (top 28)):=by grind
def Rvo(ds:!U)(d:U):Prop:=∃(s:Sh)(x:O),ds=[.str s.tx,.str x]/\yl x/\oF s x=true/\d=iC s x
theorem zdW(F:kz K "value_of" "value_of" (top 28) f fd)(n:Na mg):dW P w K mg base jO 1 f fd MG (gi K Rvo):=
 iO F Z0 (by ext) λ_ _ h=>by
  let#[s,x,rfl,ox,hf,rfl]:=h;intro gk A outer sh H E hr;let ls:=a9 (n:=20) s.ok;let lx:=a9 (n:=20) ox.2;by_cases h1:s=.name
  .subst h1;exact dB (dH (gL hr ls 0 Y ([bG]▸qQ1 Y)) (a8 (b9 1.))) Y
  .let d1:s.tx≠"name":=by cases s<;>first|exact qQ7 Y h1|(dsimp;symm)
   refine aL (bP (gL hr ls 0 Y ([bG]▸qQ0 d1)) bw) ?_;by_cases h2:s=.oE
   .subst h2;refine dB (dH (gL hr ls 0 Y ([bG]▸qQ1 Y)) (a8 (b9 (qJ (gL hr lx 1 Y (by rw[bG])) (λz=>VE.to aW ?_) (λz=>VE.to 1. ?_))))) Y
    .show aJ ""=.str (if x="-" then "" else x);rw[qQ3 (qQ4 z)]
    .show aJ x=.str (if x="-" then "" else x);rw[qQ2 (qQ5 z)]
   .let d2:s.tx≠"name or -":=by cases s<;>first|exact qQ7 Y h2|exact qQ7 Y h1|(dsimp;symm)
    let ev:iC s x=if x="-" then .none else .int (DH x):=by cases s<;>first|exact qQ7 Y h1|exact qQ7 Y h2|rfl
    rw[ev];refine aL (bP (gL hr ls 0 Y ([bG]▸qQ0 d2)) bw) ?_;refine a8 (b9 (qJ (gL hr lx 1 Y (by rw[bG])) (λz=>VE.to g8 (by rw[qQ3 (qQ4 z)])) (λz=>VE.to (Rg 1. (Bu (yo hf h1 h2 (qQ5 z))) (by let:=(Ar (yo hf h1 h2 (qQ5 z))).2.1;omega) n.int) (by rw[qQ2 (qQ5 z)]))))
def Sd(qk:!Sh):U:=.tuple (qk.map λs=>.str s.tx)
def tF(qk:!Sh)(ws:!O):Bool:=decide (ws.length=qk.length)&&(qk.zip ws).all λp=>oF p.1 p.2
def qX(qk:!Sh)(ws:!O):!U:=(qk.zip ws).map λp=>iC p.1 p.2
def jD(qk:!Sh)(ws:!O):U:=if tF qk ws then .tuple (qX qk ws)else .none
abbrev Xv:!O:=["shapes","words"]
theorem Z1:cg Xv Xv (bA (top 29)):=by grind
def Rvs(ds:!U)(d:U):Prop:=∃(qk:!Sh)(ws:!O),ds=[Sd qk,fy ws]/\qk.length<=1000/\ws.length<=100002/\(∀x∈ws,yl x)/\d=jD qk ws
def Wy(x:O):Sh:=if x="name" then .name else if x="number" then .number else if x="count" then .count else if x="share" then .share else if x="count or -" then .nr else if x="name or -" then .oE else .nQ
theorem wq(s:Sh):Wy s.tx=s:=by cases s<;>rfl
def zdX:U->Option U
 | .tuple [.str s,.str x]=>some (.bool (oF (Wy s) x))
 |_=>none
def zdY:U->Option U
 | .tuple [.str s,.str x]=>some (iC (Wy s) x)
 |_=>none
theorem tG:∀(qk:!Sh)(ws:!O),uF (qk.map λs=>aJ s.tx) (ws.map aJ)=(qk.zip ws).map λp=>.tuple [.str p.1.tx,.str p.2]
 | [],_=>rfl
 |_::_,[]=>rfl
 |s::qk,x::ws=>by let:=tG qk ws;unfold uF at this ⊢;rw[ao,ao,eV,eV,ao,ao,this]
theorem Fx(qk:!Sh)(ws:!O):(uF (qk.map λs=>aJ s.tx) (ws.map aJ)).filterMap zdX=((qk.zip ws).map λp=>oF p.1 p.2).map .bool:=by rw[tG,cO,aG];exact filterMap_some λp _=>by show some (iq _)=_;rw[wq];rfl
theorem Pa(qk:!Sh)(ws:!O):(uF (qk.map λs=>aJ s.tx) (ws.map aJ)).filterMap zdY=qX qk ws:=by rw[tG,cO];exact filterMap_some λp _=>by show some _=_;rw[wq]
theorem zdZ(F:kz K "values_of" "values_of" (top 29) f fd)(n:Na mg)(mz:mg "zip"=none)(C1:a_ P w K mg base 4 "fits" MG (gi K (Xu true)))(C2:a_ P w K mg base 1 "value_of" MG (gi K Rvo)):dW P w K mg base jO 5 f fd Xv (gi K Rvs):=
 iO F Z1 (by ext) λ_ _ h=>by
  let#[qk,ws,rfl,Gw,hw1,hok,rfl]:=h;intro gk A outer sh H E hr;let pQ:eL 1 _:=hr.mono ();let nc:(["shape","word"]:!O).Nodup:=∎;let hzl:(uF (qk.map λs=>aJ s.tx) (ws.map aJ)).length<=1000:=by rw[tG,ae,sr];omega
  let hlen:∀b,decide (ws.length=qk.length)=b->df (.int ((ws.map aJ).length:Nat)) (.int ((qk.map λs=>aJ s.tx).length:Nat))=b:=λb hb=>by rw[o7,ae,ae,<-hb,gx,decide_eq_true_iff,decide_eq_true_iff];omega
  let Hj:∀d∈uF (qk.map λs=>aJ s.tx) (ws.map aJ),∃s x,d=.tuple [.str (Sh.tx s),.str x]/\(s,x)∈qk.zip ws/\yl x:=λd hd=>by rw[tG]at hd;let#[p,hp,rfl]:=aj.mp hd;exact#[p.1,p.2,Y,hp,hok _ (nU hp).2]
  by_cases hl:ws.length=qk.length
  .let Eu:∀b,((qk.zip ws).all λp=>oF p.1 p.2)=b->rH ((qk.zip ws).map λp=>oF p.1 p.2)=b:=λb hb=>by unfold rH;rwa[Gn]
   by_cases ha:((qk.zip ws).all λp=>oF p.1 p.2)=true
   .let ev:jD qk ws=.tuple (qX qk ws):=by unfold jD tF;rw[ha,qQ1 hl];rfl
    rw[ev];refine aL (bP (VT.to (gY (k1:=false) (VT.to (lL hr (eK 20 _) (eK 20 _) (iN 1. n.len) (mB 0. n.len)) (by rw[hlen true (qQ1 hl)];rfl)) (λ_=>VT.to (vd (e8 (gv (jR Y) sU (du (VO.ve (VO.to (dF (own:=["shape","word"]) (cap:=[]) (cl:=[]) (tgt:=.tup [0,1]) Y #[Y,∎,∎,Y,Y,∅] (xn .tup .lst 0. 1. mz) (λf s3 H3=>fh Y (bx (fP 0 nc) (bx (fP 1 nc) dU))) Y
     (small ()) (λd hd=>?_)) (Fx qk ws))) cZ) n.all Y) (by show some _>>_;rw[Eu true ha]))) Y)) Y) bw) ?_
    .let#[s,x,rfl,hp,ox]:=Hj d hd;refine#[_,Y,λf s3 H3=>mI,λr oO f s3 H3=>?_];let oO:some (iq _)>>r:=oO;rw[wq]at oO;cases oO;exact bE C1 hr {0.,1.} #[s,x,Y,ox,.inl Y,Y]
    refine a8 (b9 (kZ mx zh (du (VO.ve (VO.to (dF (own:=["shape","word"]) (cap:=[]) (cl:=[]) (tgt:=.tup [0,1]) Y #[Y,∎,∎,Y,Y,∅] (xn .tup .lst 0. 1. mz) (λf s3 H3=>fh Y (bx (fP 0 nc) (bx (fP 1 nc) dU))) Y
     (small ()) (λd hd=>?_)) (Pa qk ws))) cZ) n.tup Y));let#[s,x,rfl,hp,ox]:=Hj d hd;refine#[_,Y,λf s3 H3=>mI,λr oO f s3 H3=>?_];let oO:some _>>r:=oO;rw[wq]at oO;cases oO;exact bE C2 pQ {0.,1.} #[s,x,Y,ox,cV.mp ha (s,x) hp,Y]
   .let ha:=yZ _▸ha;let ev:jD qk ws=.none:=by unfold jD tF;rw[ha,Bool.and_false];rfl
    rw[ev];refine dB (dH (VT.to (gY (k1:=false) (VT.to (lL hr (eK 20 _) (eK 20 _) (iN 1. n.len) (mB 0. n.len)) (by rw[hlen true (qQ1 hl)];rfl)) (λ_=>VT.to (vd (e8 (gv (jR Y) sU (du (VO.ve (VO.to (dF (own:=["shape","word"]) (cap:=[]) (cl:=[]) (tgt:=.tup [0,1]) Y #[Y,∎,∎,Y,Y,∅] (xn .tup .lst 0. 1. mz) (λf s3 H3=>fh Y (bx (fP 0 nc) (bx (fP 1 nc) dU))) Y
     (small ()) (λd hd=>?_)) (Fx qk ws))) cZ) n.all Y) (by show some _>>_;rw[Eu false ha]))) Y)) Y) (a8 (b9 g8))) Y;let#[s,x,rfl,hp,ox]:=Hj d hd;refine#[_,Y,λf s3 H3=>mI,λr oO f s3 H3=>?_];let oO:some (iq _)>>r:=oO;rw[wq]at oO;cases oO;exact bE C1 hr {0.,1.} #[s,x,Y,ox,.inl Y,Y]
  .let ev:jD qk ws=.none:=by unfold jD tF;rw[qQ0 hl];rfl
   rw[ev];exact dB (dH (VT.to (gY (k1:=true) (k2:=true) (VT.to (lL hr (eK 20 _) (eK 20 _) (iN 1. n.len) (mB 0. n.len)) (by rw[hlen false (qQ0 hl)];rfl)) (λz=>by cases z)) Y) (a8 (b9 g8))) Y
end
def pR:Rl->Nat->Prop
 | .meet,n=>2<=n
 | .gather m a,_=>1<=m/\cH m/\cH a
 | .many m,_=>1<=m/\cH m
 | .rank none,_=>True
 | .rank (some b),_=>cH b
 | .turns s,n=>s.length=n/\∀z∈s,1<=z/\z<=9
 | .eldest,_=>True
theorem Wz(h:cH n)(hx:DH x≠n):cM n≠x:=λz=>hx (by rw[<-z,Fw h])
theorem Pb(h:cH n):cM n≠"-":=λz=>by
 let hd:45∈(cM n).cps.toList:=by rw[z];symm
 let:=mj h.1 hd;omega
theorem mn(h:cH n)(h1:1<=n):jC (cM n)=true:=by unfold jC;rw[Aq h.1 h.2,qQ0 (Wz h (by rw[show DH "0"=0 from by symm];omega))];rfl
theorem LW(h1:1<=n)(h9:n<=9):oF .share (cM n)=true:=by show(jC _&&decide (((cM n).length:Int)=1))=true;rcases(by omega:n=1\/n=2\/n=3\/n=4\/n=5\/n=6\/n=7\/n=8\/n=9)with rfl|rfl|rfl|rfl|rfl|rfl|rfl|rfl|rfl<;>symm
theorem kM(h:cH n)(h1:s≠.name)(h2:s≠.oE):iC s (cM n)=.int n:=by
 let e:iC s (cM n)=if cM n="-" then .none else .int (DH (cM n)):=by cases s<;>first|exact qQ7 Y h1|exact qQ7 Y h2|rfl
 rw[e,qQ2 (Pb h),Fw h]
theorem wt:∀s:!Int,(∀z∈s,1<=z/\z<=9)->tF (bo s.length .share) (s.map cM)=true/\qX (bo s.length .share) (s.map cM)=s.map .int
 | [],_=>#[Y,Y]
 |z::s,h=>by
  let#[i1,i2]:=wt s λx hx=>h x (aD _ hx);let#[z1,z9]:=h z aB;unfold tF at i1 ⊢;unfold qX at i2 ⊢;let#[j1,j2]:=iI.mp i1;rw[bj,eM,ao,eV,List.all_cons,ao,ao,i2];refine#[?_,?_]
  .rw[j2,show oF (Sh.share,cM z).1 (Sh.share,cM z).2=true from LW z1 z9];simp
  .rw[show iC (Sh.share,cM z).1 (Sh.share,cM z).2=.int z from kM #[(),()] (by intro z;cases z) (by intro z;cases z)]
def vq:Rl->!Sh
 | .rank _=>[.nQ]
 | .many _=>[.count]
 | .gather _ _=>[.count,.number]
 |_=>[]
theorem Fy{n:Nat}(h:pR r n)(ht:∀s,r≠.turns s):tF (vq r) ((qg r).map dG)=true/\qX (vq r) ((qg r).map dG)=qg r:=by
 cases r with
 |meet=>exact#[Y,Y]
 |eldest=>exact#[Y,Y]
 |turns s=>exact qQ7 Y (ht s)
 |many m=>
  let#[h1,h2]:=h;constructor
  .show(true&&(jC (cM m)&&true))=true;rw[mn h2 h1];rfl
  .show [iC .count (cM m)]=[eJ m];rw[kM h2 (by intro z;cases z) (by intro z;cases z)]
 |gather m a=>
  let#[h1,h2,h3]:=h;constructor
  .show(true&&(jC (cM m)&&(isNumber (cM a)&&true)))=true;rw[mn h2 h1,Aq h3.1 h3.2];rfl
  .show [iC .count (cM m),iC .number (cM a)]=[eJ m,.int a];rw[kM h2 (by intro z;cases z) (by intro z;cases z),kM h3 (by intro z;cases z) (by intro z;cases z)]
 |rank b=>
  cases b with
  |none=>exact#[∎,Y]
  |some b=>
   constructor
   .show(true&&((decide _||isNumber (cM b))&&true))=true;rw[Aq h.1 h.2];simp
   .show [iC .nQ (cM b)]=[eJ b];rw[kM h (by intro z;cases z) (by intro z;cases z)]
theorem pR.ok{n:Nat}(hn:n<=60)(h:pR r n):xD r:=by
 cases r with
 |meet=>trivial
 |eldest=>trivial
 |gather m a=>exact h.2
 |many m=>exact h.2
 |rank b=>cases b with|none=>trivial|some b=>exact h
 |turns s=>exact#[by let:=h.1;omega,λz hz=>by let:=h.2 z hz;exact#[(),()]]
abbrev pA:!(O×!O):=[("kind",[("name":O),"count or -"]),("gate",[("name":O)]),("line",[("name":O),"count"]),("time",[("name":O),"name","count"]),("open",[("name":O),"number","number"]),("pace",[("name":O),"name","count","count"])]
abbrev wu:!(O×!O):=[("eldest",[]),("rank",[("number or -":O)]),("many",[("count":O)]),("gather",[("count":O),"number"]),("meet",[])]
structure Np(mg:O->Option M)(pr:GC)(K:ai):Prop extends Na mg where
 zip:mg "zip"=none
 set:mg "set"=none
 any:mg "any"=none
 mp:∃t,mg "MOST_PLACES"=some (.int 6 t)
 fo:∃g,mg "FORMS"=some (.ref g)/\GD pr K g pA
 ru:∃g,mg "RULES"=some (.ref g)/\GD pr K g wu
theorem Fz{α:Type}(x:α):∀n,(bo n [x]).flatten=bo n x
 |0=>rfl
 |n+1=>by rw[eM,ft,Fz x n];rfl
theorem As(x:U)(l:!U):L2.cutD (x::l) (some 1) none=l:=(lq (x::l) 1).trans Y
section
abbrev zd0:!O:=["words","many","shares","values"]
theorem Pg:cg zd0 ["words","many"] (bA (top 32)):=by grind
def Z2(ds:!U)(d:U):Prop:=∃(r:Rl)(n:Nat),ds=[fy (cj r),.int n]/\1<=n/\n<=6/\pR r n/\d=Kc r
theorem Z3(F:kz K "rule_of" "rule_of" (top 32) f fd)(n:Np mg w.params K)(C:a_ P w K mg base 5 "values_of" Xv (gi K Rvs)):dW P w K mg base jO 6 f fd ["words","many"] (gi K Z2):=
 iO F Pg (by ext) λ_ _ h=>by
  let#[r,m,rfl,m1,m6,hg,rfl]:=h;intro gk A outer s H E hr;let nd:=Pg.nd;let Xs:=hg.ok ();by_cases ht:∃sh,r=.turns sh
  .let#[sh,rfl]:=ht;let#[hl,hz]:=hg;let#[v1,v2]:=wt sh hz;let ev:jD (bo m .share) (sh.map cM)=.tuple (sh.map .int):=by unfold jD;rw[<-hl,v1,v2];rfl
   refine dB (dH (VT.to (j9 hr dz dz (eS 0. aK (cJ Y)) aW) ([bG]▸qQ1 Y)) (aL (dC 2 (bE C hr {VE.to (Rq (iX (du aW cZ)) 1. () () ⋯ ∅) (by rw[Fz];unfold Sd;rw[List.map_replicate,cN];rfl),VE.to (VO.ve (mP 0. (.yes aK) .no)) (by show pG (L2.cutD (_::_) _ _)=_;rw[As];rfl)} #[_,_,Y,by rw[dY];omega,by rw[ae];omega,λx hx=>?_,ev.symm]) nd) (a8 (b9 (qJ (VT.to (gO jM mW 2. g8 (fX _)) Y) (λz=>by cases z) (λ_=>VE.to (iX {aW,2.}) Y)))))) Y;let#[z,hz',rfl]:=aj.mp hx;let:=hz z hz';exact nq () ()
  .let zt:=λsh z=>ht #[sh,z];let#[v1,v2]:=Fy hg zt;let HZ:cj r=oP r::(qg r).map dG:=by
    cases r with
    |turns sh=>exact qQ7 Y (zt sh)
    |_=>rfl
   let hw:oP r≠"turns":=by
    cases r with
    |turns sh=>exact qQ7 Y (zt sh)
    |_=>dsimp only[oP];symm
   let oR:lD (oP r):=by cases r<;>dsimp only[oP,lD]<;>symm
   let hk:jT wu (oP r)>>((vq r).map Sh.tx):=by
    cases r with
    |turns sh=>exact qQ7 Y (zt sh)
    |meet=>symm
    |eldest=>symm
    |rank b=>show jT wu "rank"=some ([Sh.nQ].map Sh.tx);symm
    |many m=>show jT wu "many"=some ([Sh.count].map Sh.tx);symm
    |gather m a=>show jT wu "gather"=some ([Sh.count,Sh.number].map Sh.tx);symm
   let hme:decide (oP r="meet")=true->¬(m:Int)<2:=by
    cases r with
    |meet=>intro _;let:2<=m:=hg;omega
    |turns sh=>exact qQ7 Y (zt sh)
    |eldest=>intro z;exact qQ7 z ∎
    |rank b=>intro z;exact qQ7 z (show ¬decide ("rank"="meet")=true by symm)
    |many m=>intro z;exact qQ7 z (show ¬decide ("many"="meet")=true by symm)
    |gather m a=>intro z;exact qQ7 z (show ¬decide ("gather"="meet")=true by symm)
   let hal:(qg r).length<=2:=by cases r<;>simp[qg]
   let hok:=xF zt Xs;let hsl:(vq r).length<=2:=by cases r<;>simp[vq]
   let ev:jD (vq r) ((qg r).map dG)=.tuple (qg r):=by unfold jD;rw[v1,v2];rfl
   rw[HZ];unfold Kc;generalize hA:qg r=ra at *;generalize hW:oP r=pZ at *;let#[g1,q1,q2]:=n.ru;let a0:uk ((pZ::ra.map dG).map aJ) 0>>_:=cJ Y;refine aL (bP (VT.to (j9 hr (a9 oR) dz (eS 0. aK a0) aW) ([bG]▸qQ0 hw)) bw) ?_;refine aL (bP (VT.to (gY (k1:=false) (VT.to (B7 q1 q2 (eS 0. aK a0)) (by rw[hk];rfl)) (λ_=>sN (VT.to (j9 hr (a9 oR) dz (eS 0. aK a0) aW) (by rw[bG])) (λ_=>v5 1. aK))) ?_) bw) ?_
   .cases hd:decide (pZ="meet") with
    |false=>rfl
    |true=>rw[qQ0 (hme hd)];rfl
   refine aL (dC 3 (bE C hr {VE.to (JM q1 q2 (eS 0. aK a0) hk) (by unfold Sd;rw[aG];rfl),VE.to (VO.ve (mP 0. (.yes aK) .no)) (by show pG (L2.cutD (_::_) _ _)=_;rw[As];rfl)} #[vq r,_,Y,(),by rw[ae];omega,λx hx=>?_,ev.symm]) nd) ?_
   .let#[z,hz,rfl]:=aj.mp hx;let:=hok z hz;cases z with
    |none=>exact#[⋯,by show bR _=true;symm]
    |int i=>exact nq this.1 this.2
    |str x=>
     show yl (if x="" then "-" else x);split
     .exact#[⋯,by show bR _=true;symm]
     .rename_i hx
      exact(this.resolve_left hx).ok
    |_=>exact this.elim
   .exact a8 (b9 (qJ (VT.to (gO jM mW 3. g8 (fX _)) Y) (λz=>by cases z) (λ_=>VE.to (zo (iX {eS 0. aK a0}) 3. ∅ (small (by simp;omega))) Y)))
theorem Z4:cg ["names"] ["names"] (bA (top 33)):=by grind
def Ij(l:!O):Prop:=1<=l.length/\l.length<=6/\l.Nodup/\∀x∈l,cU x
def Rap(ds:!U)(d:U):Prop:=∃l:!O,ds=[.tuple (l.map .str)]/\Ij l/\d=.bool true
def Z5:U->Option U
 | .str x=>some (.bool (isName x))
 |_=>none
theorem LX(l:!O):(l.map aJ).filterMap Z5=(l.map isName).map .bool:=by rw[cO,aG];exact filterMap_some λk _=>rfl
theorem zd2(F:kz K "are_places" "are_places" (top 33) f fd)(n:Np mg w.params K)(C:a_ P w K mg base 2 "is_name" ["word"] (gi K ZP)):dW P w K mg base jO 3 f fd ["names"] (gi K Rap):=
 iO F Z4 (by ext) λ_ _ h=>by
  let#[l,rfl,#[l1,l6,lnd,lnm],rfl]:=h;intro gk A outer s H E hr;let#[t,m6]:=n.mp;let nc:(["name"]:!O).Nodup:=∎;let hdd:dd [] l=l:=EF ↑lnd;let Eu:rH (l.map isName)=true:=by unfold rH;rw[Gn,cV];intro x hx;exact(lnm x hx).is
  refine a8 (b9 (VE.to (jQ (k1:=true) (VE.to (Fg Jl Jl (EC 1 l.length) (EC l.length 6) aK (VE.to (mB 0. n.len) (by rw[ae])) (λ_=>J_ m6)) (by rw[qQ1 (),qQ1 ()];rfl)) (λ_=>jQ (VE.to (gv (jR Y) sU (du (VO.ve (VO.to (dF (own:=["name"]) (cap:=[]) (tgt:=.one 0) Y #[Y,∎,∎,Y,Y,∅] (vf 0.) (λf s3 H3=>fP 0 nc) Y
   (small (by rw[ae];omega)) (λd hd=>?_)) (LX _))) cZ) n.all Y) (by rw[Eu])) (λ_=>g_ (nE hr (eK 20 _) (eK 20 _) (ER 0. () Y n.len n.set) (mB 0. n.len))))) ?_))
  .let#[z,hz,rfl]:=aj.mp hd;exact Bi Y Y λf s3 H3=>bE C hr {0.} #[z,Y,(lnm z hz).ok.1,Y]
  .rw[o7,hdd,ae,qQ1 Y];rfl
end
inductive Ent where
 |kind (n:O) (k:Option Int)
 |gate (n:O)
 |line (n:O) (r:Int)
 |desk (d:Dk)
 |time (d k:O) (w:Int)
 |hour (d:O) (a b:Int)
 |pace (g k:O) (a b:Int)
variable{e:Ent}
def Ent.form:Ent->O
 | .kind _ _=>"kind"
 | .gate _=>"gate"
 | .line _ _=>"line"
 | .desk _=>"desk"
 | .time _ _ _=>"time"
 | .hour _ _ _=>"open"
 | .pace _ _ _ _=>"pace"
def Ent.rest:Ent->!U
 | .kind n k=>[.str n,mV k]
 | .gate n=>[.str n]
 | .line n r=>[.str n,.int r]
 | .desk d=>[.str d.name,.str d.to,Kc d.rule,.tuple (d.places.map .str)]
 | .time d k w=>[.str d,.str k,.int w]
 | .hour d a b=>[.str d,.int a,.int b]
 | .pace g k a b=>[.str g,.str k,.int a,.int b]
def Ik(e:Ent):U:=.tuple (.str e.form::e.rest)
def fL(d:Dk):!O:=[("desk":O),d.name,"to",dG (.str d.to),"by"]++cj d.rule ++ [("from":O)]++d.places
def gS:Ent->!O
 | .kind n k=>[("kind":O),n,dG (mV k)]
 | .gate n=>[("gate":O),n]
 | .line n r=>[("line":O),n,cM r]
 | .desk d=>fL d
 | .time d k w=>[("time":O),d,k,cM w]
 | .hour d a b=>[("open":O),d,cM a,cM b]
 | .pace g k a b=>[("pace":O),g,k,cM a,cM b]
def Il(d:Dk):Prop:=cU d.name/\(d.to=""\/cU d.to)/\pR d.rule d.places.length/\Ij d.places
def kI:Ent->Prop
 | .kind n k=>cU n/\∀i,k>>i->1<=i/\cH i
 | .gate n=>cU n
 | .line n r=>cU n/\1<=r/\cH r
 | .desk d=>Il d
 | .time d k w=>cU d/\cU k/\1<=w/\cH w
 | .hour d a b=>cU d/\cH a/\cH b/\a<b
 | .pace g k a b=>cU g/\cU k/\(1<=a/\cH a)/\1<=b/\cH b
theorem DI(h:cU x):x≠"-":=λz=>by
 let hd:45∈x.cps.toList:=by rw[z];symm
 let:=h.2.2 _ hd;omega
theorem LY(h:cU x):dG (.str x)=x:=by show(if x="" then("-":O)else x)=x;rw[qQ2 (fG h).1]
theorem Au(h:MF d):yl (dG d):=by
 let h0:yl "-":=#[⋯,by show bR _=true;symm];cases d with
 |none=>exact h0
 |int i=>exact nq h.1 h.2
 |str x=>
  show yl (if x="" then "-" else x);split
  .exact h0
  .rename_i hx
   exact(h.resolve_left hx).ok
 |_=>exact h.elim
theorem Ph(h:xD r):∀x∈cj r,yl x:=by
 intro x hx;by_cases ht:∃sh,r=.turns sh
 .let#[sh,rfl]:=ht;rcases au.mp hx with rfl|hx
  .exact#[⋯,by show bR _=true;symm]
  .let#[z,hz,rfl]:=aj.mp hx;exact nq (h.2 z hz).1 (h.2 z hz).2
 .let zt:=λsh z=>ht #[sh,z];let HZ:cj r=oP r::(qg r).map dG:=by
   cases r with
   |turns sh=>exact qQ7 Y (zt sh)
   |_=>rfl
  rw[HZ]at hx;rcases au.mp hx with rfl|hx
  .cases r<;>(refine#[?_,?_]<;>dsimp[oP,lD]<;>symm)
  .let#[z,hz,rfl]:=aj.mp hx;exact Au (xF zt h z hz)
theorem Pj{n:Nat}(hn:n<=6)(h:pR r n):1<=(cj r).length/\(cj r).length<=7:=by
 cases r with
 |turns s=>have:=h.1;simp[cj];omega
 |_=>simp[cj,qg]
theorem DJ(h:xD r):∀x∈(cj r).drop 1,x≠"from":=by
 let hd:∀d,MF d->(∀x,d≠.str x)->dG d≠"from":=by
  intro d hd hs;cases d with
  |none=>symm
  |int i=>
   intro z;let:102∈(cM i).cps.toList:=by let z:cM i="from":=z;rw[z];symm
   let:=mj hd.1 this;omega
  |str x=>exact qQ7 Y (hs x)
  |_=>exact hd.elim
 intro x hx;cases r with
 |turns s=>let#[z,hz,rfl]:=aj.mp hx;exact hd (.int z) (h.2 z hz) (by intro x z;cases z)
 |meet=>cases hx
 |eldest=>cases hx
 |gather m a=>
  simp[cj,qg,ao,eC,vN,uH,au,aS,or_false]at hx;rcases hx with rfl|rfl
  .exact hd _ h.1 (by intro x z;cases z)
  .exact hd _ h.2 (by intro x z;cases z)
 |many m=>simp[cj,qg,ao,eC,vN,uH,au,aS,or_false]at hx;rw[hx];exact hd _ h (by intro x z;cases z)
 |rank b=>
  simp[cj,qg,ao,eC,vN,uH,au,aS,or_false]at hx;rw[hx];cases b with
  |none=>exact hd .none trivial (by intro x z;cases z)
  |some b=>exact hd _ h (by intro x z;cases z)
section
abbrev Nde:!O:=["words","end","head","places","rule"]
theorem TV:cg Nde ["words"] (bA (top 31)):=by grind
def Rde(ds:!U)(d:U):Prop:=∃q:Dk,ds=[fy (fL q)]/\Il q/\d=Ik (.desk q)
theorem zd3{α:Type}(l:!α)(a b:Nat)(ha:a<=b)(hb:b<=l.length):L2.cutD l (some (a:Int)) (some (b:Int))=(l.drop a).take (b-a):=by unfold L2.cutD;rw[HT.nH,HT.nH,nZ hb,nZ (show a<=l.length by omega)]
theorem DK(h:∀x∈l,yl x):Lay 20 (fy l):=k_ λd hd=>by let#[x,hx,rfl]:=aj.mp hd;exact a9 (h x hx).2
theorem kW(x:O)(l:!O):rG (.str x) (.list (l.map aJ))=decide (x∈l):=by
 show((l.map aJ).any λy=>df y _)=_;rw[List.any_map];induction l with
 |nil=>rfl
 |cons y l ih=>
  rw[m_,ih];show(df _ _||decide (x∈l))=_;rw[bG,gx];simp;constructor
  .rintro(h|h)
   .exact .inl h.symm
   .exact .inr h
  .rintro(h|h)
   .exact .inl h.symm
   .exact .inr h
theorem zd4(F:kz K "desk_entry" "desk_entry" (top 31) f fd)(n:Np mg w.params K)(C1:a_ P w K mg base 5 "values_of" Xv (gi K Rvs))(C2:a_ P w K mg base 6 "rule_of" ["words","many"] (gi K Z2))(C3:a_ P w K mg base 3 "are_places" ["names"] (gi K Rap)):dW P w K mg base jO 7 f fd ["words"] (gi K Rde):=
 iO F TV (by ext) λ_ _ h=>by
  let#[q,rfl,#[hn,Xw,WB,V0],rfl]:=h;intro gk A outer s H E hr;let nd:Nde.Nodup:=TV.nd;let zd5:=V0;let#[p1,p6,pnd,pnm]:=zd5;let Xs:=WB.ok ();let#[r1,r7]:=Pj p6 WB;let rok:=Ph Xs;let rnf:=DJ Xs;let Z6:yl (dG (.str q.to)):=Au Xw;obtain⟨rw0,rest,Xx⟩:∃a l,cj q.rule=a::l:=by
   cases e:cj q.rule with
   |nil=>rw[e]at r1;simp at r1
   |cons a l=>exact#[a,l,Y]
  let Z7:yl "from":=#[⋯,by show bR _=true;symm];let hW:fL q=("desk":O)::q.name::"to"::dG (.str q.to)::"by"::rw0::(rest++("from":O)::q.places):=by unfold fL;rw[Xx];simp
  let zjI:rest.length<=6:=by rw[Xx]at r7;simp at r7;omega
  let lit:∀x:O,bR (.str x)=true->x.length<=100000->yl x:=λx h1 h2=>#[h2,h1];let hok:∀x∈fL q,yl x:=by
   intro x hx;rw[hW]at hx;simp only[au,aT]at hx;rcases hx with rfl|rfl|rfl|rfl|rfl|rfl|hx|rfl|hx
   .exact lit _ ∎ ⋯
   .exact hn.ok
   .exact lit _ ∎ ⋯
   .exact Z6
   .exact lit _ ∎ ⋯
   .exact rok _ ([Xx]▸aB)
   .exact (λx hx=>rok x ([Xx]▸aD _ hx)) x hx
   .exact Z7
   .exact(pnm x hx).ok
  let hlay:=DK hok;let hlen:(fL q).length=7+rest.length+q.places.length:=by rw[hW];simp;omega
  let Z8:(fL q).drop 6=rest++("from":O)::q.places:=by rw[hW];rfl
  let Z9:L2.cutD ((fL q).map aJ) (some 6) none=(rest++("from":O)::q.places).map aJ:=[<-Z8,qw]▸lq _ 6;let Z_:Lay 20 (.list ((rest++("from":O)::q.places).map aJ)):=DK λx hx=>by refine hok x ?_;rw[<-Z8]at hx;exact nD hx
  let TX:Lay 20 (.str "from"):=dz;let Se:∀(j:Nat)(x:O),(fL q)[j]?>>x->uk ((fL q).map aJ) (j:Int)>>(.str x):=λj x h=>cJ (by rw[ay,h];rfl);let g1:(fL q)[1]?>>q.name:=by rw[hW];rfl
  let g2:(fL q)[2]?>>("to":O):=by rw[hW];rfl
  let g4:(fL q)[4]?>>("by":O):=by rw[hW];rfl
  let Ri:(fL q)[6+rest.length]?>>("from":O):=by
   let:(fL q)[6+rest.length]?=((fL q).drop 6)[rest.length]?:=by rw[List.getElem?_drop]
   rw[this,Z8,bF (aE _),yG];rfl
  let w_:∀j (h:j<(fL q).length),6<=j->j<6+rest.length->(fL q)[j]≠"from":=by
   intro j h j6 jr;let:(fL q)[j]?=((fL q).drop 6)[j-6]?:=by rw[List.getElem?_drop];congr 1;omega
   rw[Z8,bN (),ax h,ax ()]at this;rw[bK this];exact (λx hx=>rnf x ([Xx]▸hx)) _ (eD _)
  let Sf:L2.cutD ((fL q).map aJ) (some ((6+rest.length:Nat)+1:Int)) none=q.places.map aJ:=by
   rw[show((6+rest.length:Nat)+1:Int)=((6+rest.length+1:Nat):Int)from by omega,lq,<-qw]
   congr 1
   rw[show 6+rest.length+1=6+(rest.length+1)from by omega,<-List.drop_drop,Z8,List.drop_append,rW (),show rest.length+1-rest.length=1 from by omega];rfl
  let Z':L2.cutD ((fL q).map aJ) (some 5) (some ((6+rest.length:Nat):Int))=(cj q.rule).map aJ:=by
   rw[show(5:Int)=((5:Nat):Int)from Y,zd3 _ 5 (6+rest.length) () (by rw[ae];omega),<-qw,<-Eb]
   congr 1
   rw[hW,Xx];show((rw0::(rest++("from":O)::q.places))).take _=rw0::rest;rw[show 6+rest.length-5=rest.length+1 from by omega,List.take_succ_cons,List.take_left' Y]
  refine aL (bP (VT.to (Hr (k1:=false) (k2:=false) (VT.to (sL hr Y TX Z_ aW (VE.to (VO.ve (mP 0. (.yes aK) .no)) (by rw[Z9]))) (by rw[kW,qQ1 ∅];rfl)) (λ_=>VT.to (lL hr dz dz (eS 0. aK (Se 2 _ g2)) aW) (by rw[bG,qQ1 Y];rfl)) (λ_ _=>VT.to (lL hr dz dz (eS 0. aK (Se 4 _ g4)) aW) (by rw[bG,qQ1 Y];rfl))) Y) bw) ?_;refine aL (dC 1 (Lf (i:=6) (j:=6+rest.length) hr 0. aW aK hlay TX () #[by rw[ae];omega,?_] (λj h j6 jr=>?_)) nd) ?_
  .let:(fL q)[6+rest.length]'()="from":=by rw[ax ()]at Ri;exact bK Ri
   rw[ko,bG,this];exact qQ1 Y
  .rw[ae]at h;rw[ko,bG];exact qQ0 (w_ j h j6 jr)
  let VQ:jD [.name,.oE] [q.name,dG (.str q.to)]=.tuple [.str q.name,.str q.to]:=by
   let f2:oF .oE (dG (.str q.to))=true/\iC .oE (dG (.str q.to))=.str q.to:=by
    rcases Xw with h|h
    .rw[h];exact#[∎,Y]
    .rw[LY h];refine#[?_,?_]
     .show(decide (q.to="-")||isName q.to)=true;rw[h.is,Gq]
     .show aJ (if q.to="-" then "" else q.to)=_;rw[qQ2 (DI h)]
   unfold jD tF qX;show(if(true&&(isName q.name&&(oF .oE _&&true)))=true then dg [.str q.name,iC .oE _]else .none)=_;rw[hn.is,f2.1,f2.2];rfl
  refine aL (dC 2 (bE C1 (hr.mono ()) {VE.to (iX (du aW (du aW cZ))) Y,VE.to (VO.ve (da {eS 0. aK (Se 1 _ g1),eS 0. aK (Se 3 _ (by rw[hW];rfl))})) Y} #[_,_,Y,by show 2<=1000;decide,by show 2<=100002;decide,λx hx=>?_,VQ.symm]) nd) ?_
  .simp only[au,aS,or_false]at hx;rcases hx with rfl|rfl
   .exact hn.ok
   .exact Z6
  refine aL (dC 3 (kZ mx zh {VE.to (VO.ve (mP 0. (.yes (fE 1. aK)) .no)) (by rw[Sf])} n.tup Y) nd) ?_;refine aL (dC 4 (bE C2 hr {VE.to (VO.ve (mP 0. (.yes aK) (.yes 1.))) (by rw[Z'];rfl),VE.to (mB 3. n.len) (by rw[ae])} #[q.rule,q.places.length,Y,p1,p6,WB,Y]) nd) ?_;refine aL (bP (VT.to (Hr (VT.to (gO jM mW 2. g8 (fX _)) Y) (λ_=>VT.to (gO jM mW 4. g8 (fX _)) Y) (λ_ _=>VT.to (vd (e8 (bE C3 (hr.mono ()) {3.} #[q.places,Y,V0,Y]) Y)) Y)) Y) bw) ?_;exact a8 (b9 (VE.to (iX {aW,Bh 2 0 Y Y,Bh 2 1 Y Y,4.,3.}) Y))
abbrev Neo:!O:=["words","form","values"]
theorem TY:cg Neo ["words"] (bA (top 30)):=by grind
def Reo(ds:!U)(d:U):Prop:=∃e:Ent,ds=[fy (gS e)]/\kI e/\d=Ik e
def FC:Ent->!Sh
 | .kind _ _=>[.name,.nr]
 | .gate _=>[.name]
 | .line _ _=>[.name,.count]
 | .desk _=>[]
 | .time _ _ _=>[.name,.name,.count]
 | .hour _ _ _=>[.name,.number,.number]
 | .pace _ _ _ _=>[.name,.name,.count,.count]
theorem Im(h:kI e)(hd:∀q,e≠.desk q):∃ws,gS e=e.form::ws/\ws.length<=4/\(∀x∈ws,yl x)/\jD (FC e) ws=.tuple e.rest/\jT pA e.form>>((FC e).map Sh.tx)/\e.form≠"desk"/\lD e.form:=by
 cases e with
 |desk q=>exact qQ7 Y (hd q)
 |kind n k=>
  let#[hn,hk]:=h;let Sg:yl (dG (mV k))/\oF .nr (dG (mV k))=true/\iC .nr (dG (mV k))=mV k:=by
   cases k with
   |none=>exact#[Au (d:=.none) trivial,∎,Y]
   |some i=>let#[h1,h2]:=hk i Y;refine#[nq h2.1 h2.2,?_,kM h2 (by intro z;cases z) (by intro z;cases z)];show(decide (cM i="-")||jC (cM i))=true;rw[mn h2 h1,Gq]
  refine#[[n,dG (mV k)],Y,by show 2<=4;decide,λx hx=>?_,?_,(show jT pA "kind"=some ([Sh.name,Sh.nr].map Sh.tx) by symm),(show("kind":O)≠"desk" by symm),(show bR (.str ("kind":O))=true by symm)]
  .simp only[au,aS,or_false]at hx;rcases hx with rfl|rfl
   .exact hn.ok
   .exact Sg.1
  .show(if(true&&(isName n&&(oF .nr (dG (mV k))&&true)))=true then dg [.str n,iC .nr (dG (mV k))]else .none)=_;rw[hn.is,Sg.2.1,Sg.2.2];rfl
 |gate n=>
  refine#[[n],Y,by show 1<=4;decide,λx hx=>?_,?_,(show jT pA "gate"=some ([Sh.name].map Sh.tx) by symm),(show("gate":O)≠"desk" by symm),(show bR (.str ("gate":O))=true by symm)]
  .rw[aA.mp hx];exact(show cU n from h).ok
  .show(if(true&&(isName n&&true))=true then dg [.str n]else .none)=_;rw[(show cU n from h).is];rfl
 |line n r=>
  let#[hn,h1,h2]:=h;refine#[[n,cM r],Y,by show 2<=4;decide,λx hx=>?_,?_,(show jT pA "line"=some ([Sh.name,Sh.count].map Sh.tx) by symm),(show("line":O)≠"desk" by symm),(show bR (.str ("line":O))=true by symm)]
  .simp only[au,aS,or_false]at hx;rcases hx with rfl|rfl
   .exact hn.ok
   .exact nq h2.1 h2.2
  .show(if(true&&(isName n&&(jC (cM r)&&true)))=true then dg [.str n,iC .count (cM r)]else .none)=_;rw[hn.is,mn h2 h1,kM h2 (by intro z;cases z) (by intro z;cases z)];rfl
 |time d k w=>
  let#[hn,hk,h1,h2]:=h;refine#[[d,k,cM w],Y,by show 3<=4;decide,λx hx=>?_,?_,(show jT pA "time"=some ([Sh.name,Sh.name,Sh.count].map Sh.tx) by symm),(show("time":O)≠"desk" by symm),(show bR (.str ("time":O))=true by symm)]
  .simp only[au,aS,or_false]at hx;rcases hx with rfl|rfl|rfl
   .exact hn.ok
   .exact hk.ok
   .exact nq h2.1 h2.2
  .show(if(true&&(isName d&&(isName k&&(jC (cM w)&&true))))=true then dg [.str d,.str k,iC .count (cM w)]else .none)=_;rw[hn.is,hk.is,mn h2 h1,kM h2 (by intro z;cases z) (by intro z;cases z)];rfl
 |hour d a b=>
  let#[hn,h1,h2,_]:=h;refine#[[d,cM a,cM b],Y,by show 3<=4;decide,λx hx=>?_,?_,(show jT pA "open"=some ([Sh.name,Sh.number,Sh.number].map Sh.tx) by symm),(show("open":O)≠"desk" by symm),(show bR (.str ("open":O))=true by symm)]
  .simp only[au,aS,or_false]at hx;rcases hx with rfl|rfl|rfl
   .exact hn.ok
   .exact nq h1.1 h1.2
   .exact nq h2.1 h2.2
  .show(if(true&&(isName d&&(isNumber (cM a)&&(isNumber (cM b)&&true))))=true then dg [.str d,iC .number (cM a),iC .number (cM b)]else .none)=_;rw[hn.is,Aq h1.1 h1.2,Aq h2.1 h2.2,kM h1 (by intro z;cases z) (by intro z;cases z),kM h2 (by intro z;cases z) (by intro z;cases z)];rfl
 |pace g k a b=>
  let#[hn,hk,#[h1,h2],h3,h4]:=h;refine#[[g,k,cM a,cM b],Y,by show 4<=4;decide,λx hx=>?_,?_,(show jT pA "pace"=some ([Sh.name,Sh.name,Sh.count,Sh.count].map Sh.tx) by symm),(show("pace":O)≠"desk" by symm),(show bR (.str ("pace":O))=true by symm)]
  .simp only[au,aS,or_false]at hx;rcases hx with rfl|rfl|rfl|rfl
   .exact hn.ok
   .exact hk.ok
   .exact nq h2.1 h2.2
   .exact nq h4.1 h4.2
  .show(if(true&&(isName g&&(isName k&&(jC (cM a)&&(jC (cM b)&&true)))))=true then dg [.str g,.str k,iC .count (cM a),iC .count (cM b)]else .none)=_;rw[hn.is,hk.is,mn h2 h1,mn h4 h3,kM h2 (by intro z;cases z) (by intro z;cases z),kM h4 (by intro z;cases z) (by intro z;cases z)];rfl
theorem zd7(F:kz K "entry_of" "entry_of" (top 30) f fd)(n:Np mg w.params K)(C1:a_ P w K mg base 5 "values_of" Xv (gi K Rvs))(C2:a_ P w K mg base 7 "desk_entry" ["words"] (gi K Rde)):dW P w K mg base jO 8 f fd ["words"] (gi K Reo):=
 iO F TY (by ext) λ_ _ h=>by
  let#[e,rfl,ok,rfl]:=h;intro gk A outer s H E hr;let nd:=TY.nd;by_cases hd:∃q,e=.desk q
  .let#[q,rfl]:=hd;exact aL (dC 1 (eS 0. aK (cJ Y)) nd) (dB (dH (gL hr dz 1 Y ([bG]▸qQ1 Y)) (a8 (b9 (bE C2 hr {0.} #[q,Y,ok,Y])))) Y)
  .let Bo:=λq z=>hd #[q,z];let#[ws,w1,w2,w3,w4,w5,w6,w7]:=Im ok Bo;let#[g1,q1,q2]:=n.fo;rw[w1];let hsl:(FC e).length<=4:=by cases e<;>simp[FC]
   refine aL (dC 1 (eS 0. aK (cJ Y)) nd) ?_;refine aL (bP (gL hr (a9 w7) 1 Y ([bG]▸qQ0 w6)) bw) ?_;refine aL (bP (VT.to (B7 q1 q2 1.) (by rw[w5];rfl)) bw) ?_;refine aL (dC 2 (bE C1 (hr.mono ()) {VE.to (JM q1 q2 1. w5) (by unfold Sd;rw[aG];rfl),VE.to (VO.ve (mP 0. (.yes aK) .no)) (by show pG (L2.cutD (_::_) _ _)=_;rw[As];rfl)} #[FC e,ws,Y,(),(),w3,w4.symm]) nd) ?_;let WB:e.rest.length<=4:=by cases e<;>simp[Ent.rest]
   refine aL (bP ?_ bw) (a8 (b9 (VE.to (zo (iX {1.}) 2. ∅ (small (by simp;omega))) Y)));cases e with
   |hour d a b=>exact VT.to (gY (VT.to (gO jM mW 2. g8 (fX _)) Y) (λ_=>VT.to (sN (k1:=true) (gL hr (a9 w7) 1 Y ([bG]▸qQ1 Y)) (λ_=>VT.to (YN (Bh 2 1 Y Y) (Bh 2 2 Y Y)) (qQ0 (by let:=ok.2.2.2;omega)))) Y)) Y
   |_=>exact VT.to (gY (VT.to (gO jM mW 2. g8 (fX _)) Y) (λ_=>VT.to (sN (k1:=false) (k2:=false) (gL hr (a9 w7) 1 Y (by rw[bG];dsimp only[Ent.form];exact qQ0 ∎)) (λz=>by cases z)) Y)) Y
end
def hG:!(O×!(Int×Int))->O->Int×Int->!(O×!(Int×Int))
 | [],n,z=>[(n,[z])]
 |q::l,n,z=>if q.1=n then(q.1,q.2 ++ [z])::l else q::hG l n z
def cw(l:!(O×Int×Int)):!(O×!(Int×Int)):=l.foldl (λacc q=>hG acc q.1 q.2) []
def pairD(z:Int×Int):U:=.tuple [.int z.1,.int z.2]
def ia(p:Pl):!(O×U):=p.kinds.map λq=>(q.1,mV q.2)
def gC(p:Pl):!(O×U):=p.lines.map λq=>(q.1,.int q.2)
def iZ(p:Pl):!((O×O)×U):=p.times.map λq=>((q.1,q.2.1),.int q.2.2)
def ic(p:Pl):!(O×U):=(cw p.hours).map λq=>(q.1,.list (q.2.map pairD))
def Cp(q:O×O×Int×Int):U:=.tuple [.str q.2.1,.int q.2.2.1,.int q.2.2.2]
def gD(p:Pl):!(O×U):=p.paces.map λq=>(q.1,Cp q)
def j8(p:Pl):!(O×U):=[("kinds",je (ia p)),("gates",fy p.gates),("lines",je (gC p)),("desks",.list (p.desks.map gZ)),("times",qM (iZ p)),("hours",je (ic p)),("paces",je (gD p))]
def gE(p:Pl):U:=EH (j8 p)
theorem tH(p:Pl):iz (j8 p) "kinds"=some (je (ia p)):=ei Y
theorem wx(p:Pl):iz (j8 p) "gates"=some (fy p.gates):=(bT (show ¬(("kinds":O)="gates") by symm)).trans (ei Y)
theorem tJ(p:Pl):iz (j8 p) "lines"=some (je (gC p)):=(bT (show ¬(("kinds":O)="lines") by symm)).trans ((bT (show ¬(("gates":O)="lines") by symm)).trans (ei Y))
theorem wy(p:Pl):iz (j8 p) "desks"=some (.list (p.desks.map gZ)):=(bT (show ¬(("kinds":O)="desks") by symm)).trans ((bT (show ¬(("gates":O)="desks") by symm)).trans ((bT (show ¬(("lines":O)="desks") by symm)).trans (ei Y)))
theorem Av(p:Pl):iz (j8 p) "times"=some (qM (iZ p)):=(bT (show ¬(("kinds":O)="times") by symm)).trans ((bT (show ¬(("gates":O)="times") by symm)).trans ((bT (show ¬(("lines":O)="times") by symm)).trans ((bT (show ¬(("desks":O)="times") by symm)).trans (ei Y))))
theorem FD(p:Pl):iz (j8 p) "hours"=some (je (ic p)):=(bT (show ¬(("kinds":O)="hours") by symm)).trans ((bT (show ¬(("gates":O)="hours") by symm)).trans ((bT (show ¬(("lines":O)="hours") by symm)).trans ((bT (show ¬(("desks":O)="hours") by symm)).trans ((bT (show ¬(("times":O)="hours") by symm)).trans (ei Y)))))
theorem Aw(p:Pl):iz (j8 p) "paces"=some (je (gD p)):=(bT (show ¬(("kinds":O)="paces") by symm)).trans ((bT (show ¬(("gates":O)="paces") by symm)).trans ((bT (show ¬(("lines":O)="paces") by symm)).trans ((bT (show ¬(("desks":O)="paces") by symm)).trans ((bT (show ¬(("times":O)="paces") by symm)).trans ((bT (show ¬(("hours":O)="paces") by symm)).trans (ei Y))))))
theorem DM(p:Pl):(gD p).map (·.1)=p.paces.map (·.1):=by unfold gD;rw[aG];rfl
theorem ie{κ:Type}[DecidableEq κ]:∀(kvs:!(κ×U))(x:κ),(iz kvs x).isSome=decide (x∈kvs.map (·.1))
 | [],x=>by simp[iz]
 |q::l,x=>by
  by_cases h:q.1=x
  .rw[ei h,qQ1 (by simp[h])];rfl
  .rw[bT h,ie l x,gx,decide_eq_true_iff,decide_eq_true_iff,ao,au];exact#[.inr,λz=>z.resolve_left λe=>h e.symm]
theorem qY(p:Pl):(ia p).map (·.1)=p.kinds.map (·.1):=by unfold ia;rw[aG];rfl
theorem nR(p:Pl):(gC p).map (·.1)=p.lines.map (·.1):=by unfold gC;rw[aG];rfl
theorem DN(p:Pl):(iZ p).map (·.1)=p.times.map λq=>(q.1,q.2.1):=by unfold iZ;rw[aG];rfl
def jU(p:Pl)(x:O):Prop:=x∈p.gates\/x∈p.lines.map (·.1)
instance (p : Pl) (x : O) : Decidable (jU p x) := by unfold jU; infer_instance
def qZ(p:Pl)(x:O):Prop:=x∈p.desks.map (·.name)
instance (p : Pl) (x : O) : Decidable (qZ p x) := by unfold qZ; infer_instance
def FE(p:Pl)(x:O):Prop:=∃q∈p.desks,x∈q.places
def tK(p:Pl):Ent->Prop
 | .kind n _=>n∉p.kinds.map (·.1)
 | .gate n=>¬jU p n
 | .line n _=>¬jU p n
 | .desk d=>¬qZ p d.name/\(∀x∈d.places,¬FE p x)/\(∀x∈d.places,jU p x)/\(d.to=""\/∃r:Int,iz (gC p) d.to>>(.int r)/\gQ d.rule d.places.length<=r)
 | .time d k _=>(d,k)∉p.times.map (λq=>(q.1,q.2.1))/\qZ p d/\k∈p.kinds.map (·.1)
 | .hour d _ _=>qZ p d
 | .pace g k _ _=>g∉p.paces.map (·.1)/\g∈p.gates/\k∈p.kinds.map (·.1)
section
abbrev Qg:!O:=["plant","name"]
abbrev Npp:!O:=["plant","place"]
theorem zaa:cg Qg Qg (bA (top 38)):=by grind
theorem zab:cg Qg Qg (bA (top 39)):=by grind
theorem zac:cg Npp Npp (bA (top 40)):=by grind
def Rip(ds:!U)(d:U):Prop:=∃(p:Pl)(x:O),ds=[gE p,.str x]/\jh p/\lD x/\d=.bool (decide (jU p x))
def Rid(ds:!U)(d:U):Prop:=∃(p:Pl)(x:O),ds=[gE p,.str x]/\jh p/\lD x/\d=.bool (decide (qZ p x))
def Ax(p:Pl)(x:O):!Dk:=p.desks.filter λq=>decide (x∈q.places)
def Rit(ds es:!U):Prop:=∃(p:Pl)(x:O),ds=[gE p,.str x]/\jh p/\lD x/\es=(Ax p x).map gZ
theorem Io{p:Pl}(h:¬FE p x):Ax p x=[]:=by unfold Ax;rw[Gr];intro q hq z;exact h #[q,hq,qQ4 z]
theorem xG(h:∀x∈l,cU x):Lay 20 (.list (l.map aJ)):=DK λx hx=>(h x hx).ok
theorem zea(F:kz K "is_place" "is_place" (top 38) f fd):dW P w K mg base jO 1 f fd Qg (gi K Rip):=
 iO F zaa (by ext) λ_ _ h=>by
  let#[p,x,rfl,ok,ox,rfl]:=h;intro gk A outer s H E hr;refine a8 (b9 (VE.to (uM (Tn hr Y (a9 ox) (xG ok.gates) 1. (iA 0. (wx p))) (λ_=>g_ (Dh hr 1. (iA 0. (tJ p))))) ?_));rw[kW,ie,nR]
  congr 1
  rw[gx];simp only[Bool.or_eq_true,decide_eq_true_eq];exact Iff.rfl
def Fdn:U->Option U
 | .tuple (x::_)=>some x
 |_=>none
theorem Si(l:!Dk):(l.map gZ).filterMap Fdn=(l.map (·.name)).map .str:=by rw[cO,aG];exact filterMap_some λk _=>rfl
theorem zeb(F:kz K "is_desk" "is_desk" (top 39) f fd):dW P w K mg base jO 1 f fd Qg (gi K Rid):=
 iO F zab (by ext) λ_ _ h=>by
  let#[p,x,rfl,ok,ox,rfl]:=h;intro gk A outer s H E hr;let nc:(["desk"]:!O).Nodup:=∎;let hn:=ok.dn;refine a8 (b9 (VE.to (Tn hr Y (a9 ox) (xG λy hy=>?_) 1. (VO.ve (VO.to (dF (own:=["desk"]) (cap:=[]) (tgt:=.one 0) Y #[Y,∎,∎,Y,Y,∅] (dX (iA 0. (wy p))) (λf s3 H3=>fP 0 nc) Y
   (small (by rw[ae];omega)) (λd hd=>?_)) (Si _)))) ?_))
  .let#[q,hq,rfl]:=aj.mp hy;exact(ok.desks q hq).1
  .let#[z,hz,rfl]:=aj.mp hd;exact Bi Y Y λf s3 H3=>Bh 0 0 Y Y
  .rw[kW];rfl
theorem yp(x:O)(l:!O):rG (.str x) (.tuple (l.map aJ))=decide (x∈l):=kW x l
def Pk(x:O):U->Bool
 | .tuple [_,_,_,.tuple l]=>l.any λy=>df y (.str x)
 |_=>false
def Fin(x:O)(d:U):Option U:=if Pk x d=true then some d else none
theorem tL(x:O)(q:Dk):Pk x (gZ q)=decide (x∈q.places):=yp x q.places
theorem Sj(x:O)(l:!Dk):(l.map gZ).filterMap (Fin x)=(l.filter λq=>decide (x∈q.places)).map gZ:=by
 induction l with
 |nil=>rfl
 |cons q l ih=>
  rw[ao,iR];by_cases h:x∈q.places
  .rw[c5 (by unfold Fin;rw[tL,qQ3 (qQ1 h)]),ih,qQ3 (qQ1 h),ao]
  .rw[f6 (by unfold Fin;rw[tL,qQ2 (by rw[qQ0 h];decide)]),ih,qQ2 (by rw[qQ0 h];decide)]
theorem zec(F:kz K "takers_of" "takers_of" (top 40) f fd):dW P w K mg base jO 1 f fd Npp (Qd K Rit):=
 Rb F zac (by ext) λ_ _ h=>by
  let#[p,x,rfl,ok,ox,rfl]:=h;intro gk A outer s H E hr;let nc:(["desk","place"]:!O).Nodup:=∎;let hn:=ok.dn;refine a8 (Jx (VO.to (dF (own:=["desk"]) (cap:=[1]) (tgt:=.one 0) Y #[Y,∎,∎,Y,Y,?_] (dX (iA 0. (wy p))) (λf s3 H3=>fP 0 nc) Y
   (small (by rw[ae];omega)) (λd hd=>?_)) (Sj x _)))
  .intro j hj;rcases au.mp hj with rfl|hj
   .exact#[(by show(1:Nat)<2;decide),jc Y,Y]
   .cases hj
  .let#[z,hz,rfl]:=aj.mp hd;refine#[_,Y,λf s3 H3=>?_,λr oO f s3 H3=>?_]
   .refine uo (VT.to (NB hr Y (a9 ox) (uq λd hd=>by let#[y,hy,rfl]:=aj.mp hd;exact a9 ((ok.desks z hz).2.2.2.2 y hy).ok.2) 1. (dm 0. aK (cJ Y))) ?_);unfold Fin;rw[tL,yp];by_cases h:x∈z.places
    .rw[qQ1 h];rfl
    .rw[qQ0 h];rfl
   .unfold Fin at oO;split at oO
    .cases oO;exact pJ 0 Y
    .cases oO
def zad:Rl->Bool
 | .many _=>true
 | .gather _ _=>true
 |_=>false
theorem zae:cg ["rule","many"] ["rule","many"] (bA (top 10)):=by grind
theorem zed(F:kz K "greatest_load" "greatest_load" (top 10) f fd):dW P w K mg base jO 1 f fd ["rule","many"] (gi K Rgr):=
 iO F zae (by ext) λ_ _ h=>by
  let#[r,m,rfl,rfl]:=h;intro gk A outer s H E hr;let oR:lD (oP r):=by cases r<;>dsimp[oP,lD]<;>symm
  let h0:uk (aJ (oP r)::qg r) 0>>_:=cJ Y;let MA:(decide (oP r="many")||decide (oP r="gather"))=zad r:=by
   cases r with
   |meet=>symm
   |eldest=>symm
   |many m=>exact(show(decide ("many"="many")||decide ("many"="gather"))=true by symm)
   |gather m a=>exact(show(decide ("gather"="many")||decide ("gather"="gather"))=true by symm)
   |rank b=>exact(show(decide ("rank"="many")||decide ("rank"="gather"))=false by symm)
   |turns l=>exact(show(decide ("turns"="many")||decide ("turns"="gather"))=false by symm)
  by_cases h1:zad r=true
  .refine dB (dH (VT.to (gY (j9 hr (a9 oR) dz (dm 0. aK h0) aW) (λ_=>j9 hr (a9 oR) dz (dm 0. aK h0) aW)) (by rw[bG,bG,MA,h1])) (a8 (b9 (dm 0. aK ?_)))) Y;cases r with
   |many m=>exact cJ Y
   |gather m a=>exact cJ Y
   |_=>cases h1
  .let h1:=yZ _▸h1;refine aL (bP (VT.to (gY (j9 hr (a9 oR) dz (dm 0. aK h0) aW) (λ_=>j9 hr (a9 oR) dz (dm 0. aK h0) aW)) (by rw[bG,bG,MA,h1])) bw) ?_;by_cases h2:oP r="meet"
   .refine dB (dH (VT.to (j9 hr (a9 oR) dz (dm 0. aK h0) aW) ([bG]▸qQ1 h2)) (a8 (b9 (VE.to 1. ?_)))) Y;cases r with
    |meet=>rfl
    |many m=>cases h1
    |gather m a=>cases h1
    |eldest=>exact qQ7 h2 ∎
    |rank b=>exact qQ7 h2 (show ¬(("rank":O)="meet") by symm)
    |turns l=>exact qQ7 h2 (show ¬(("turns":O)="meet") by symm)
   .refine aL (bP (VT.to (j9 hr (a9 oR) dz (dm 0. aK h0) aW) ([bG]▸qQ0 h2)) bw) ?_;refine a8 (b9 (VE.to aK ?_));cases r with
    |meet=>exact qQ7 Y h2
    |many m=>cases h1
    |gather m a=>cases h1
    |_=>rfl
end
theorem cI(e:Ent):lD e.form:=by cases e<;>(dsimp[Ent.form,lD];symm)
theorem ux(e:Ent):uk (aJ e.form::e.rest) 0>>(.str e.form):=cJ Y
def Ent.name:Ent->O
 | .kind n _=>n
 | .gate n=>n
 | .line n _=>n
 | .desk d=>d.name
 | .time d _ _=>d
 | .hour d _ _=>d
 | .pace g _ _ _=>g
theorem Kg(e:Ent):uk (aJ e.form::e.rest) 1>>(.str e.name):=by cases e<;>exact cJ Y
theorem Kh(h:kI e):cU e.name:=by
 cases e with
 |gate n=>exact h
 |_=>exact h.1
theorem ef(h:a≠b):df (.str a) (.str b)=false:=[bG]▸qQ0 h
theorem i_(a:O):df (.str a) (.str a)=true:=[bG]▸qQ1 Y
section
abbrev FG:!O:=["plant","entry"]
def Xy(ds:!U)(d:U):Prop:=∃(p:Pl)(e:Ent),ds=[gE p,Ik e]/\jh p/\kI e/\tK p e/\d=.bool false
def Ip:U->Option U:=λ_=>some (.bool false)
theorem Ay:∀l:!U,l.filterMap Ip=(bo l.length false).map .bool
 | []=>rfl
 |d::l=>by rw[c5 (f:=Ip) Y,Ay l];rfl
theorem LZ(n:Nat):B_ (bo n false)=false:=by rw[pY];intro z;let#[b,hb,h]:=mZ.mp z;rw[(jm.mp hb).2]at h;cases h
abbrev Ntt:!O:=["plant","entry","form","name"]
theorem T1:cg Ntt FG (bA (top 35)):=by grind
theorem zee(F:kz K "tells_twice" "tells_twice" (top 35) f fd)(n:Np mg w.params K)(C1:a_ P w K mg base 1 "is_place" Qg (gi K Rip))(C2:a_ P w K mg base 1 "is_desk" Qg (gi K Rid))(C3:a_ P w K mg base 1 "takers_of" Npp (Qd K Rit)):dW P w K mg base jO 2 f fd FG (gi K Xy):=
 iO F T1 (by ext) λ_ _ h=>by
  let#[p,e,rfl,ok,oe,oa,rfl]:=h;intro gk A outer s H E hr;let nd:Ntt.Nodup:=T1.nd;let WC:=(Kh oe).ok.2;let ofm:=cI e;refine aL (dC 2 (d:=.str e.form) (dm 1. aK (ux e)) nd) ?_;refine aL (dC 3 (d:=.str e.name) (dm 1. aK (Kg e)) nd) ?_;cases e with
  |kind m k=>refine dB (dH (gL hr (a9 (cI _)) 2 Y (i_ _)) (a8 (b9 (VE.to (Dh hr 3. (iA 0. (tH p))) ?_)))) Y;rw[ie,qY];exact qQ6 iq (qQ0 oa)
  |gate m=>refine aL (bP (gL hr (a9 (cI _)) 2 Y (ef (show("gate":O)≠"kind" by symm))) bw) ?_;exact dB (dH (VT.to (gY (k1:=true) (k2:=true) (gL hr (a9 (cI _)) 2 Y (i_ _)) (λz=>by cases z)) Y) (a8 (b9 (bE C1 hr {0.,3.} #[p,m,Y,ok,WC,by rw[qQ0 oa]])))) Y
  |line m r=>refine aL (bP (gL hr (a9 (cI _)) 2 Y (ef (show("line":O)≠"kind" by symm))) bw) ?_;exact dB (dH (VT.to (gY (k1:=false) (k2:=true) (gL hr (a9 (cI _)) 2 Y (ef (show("line":O)≠"gate" by symm))) (λ_=>gL hr (a9 (cI _)) 2 Y (i_ _))) Y) (a8 (b9 (bE C1 hr {0.,3.} #[p,m,Y,ok,WC,by rw[qQ0 oa]])))) Y
  |desk q=>
   refine aL (bP (gL hr (a9 (cI _)) 2 Y (ef (show("desk":O)≠"kind" by symm))) bw) ?_;refine aL (bP (VT.to (gY (k1:=false) (k2:=false) (gL hr (a9 (cI _)) 2 Y (ef (show("desk":O)≠"gate" by symm))) (λ_=>gL hr (a9 (cI _)) 2 Y (ef (show("desk":O)≠"line" by symm)))) Y) bw) ?_;let nc:(["place","plant"]:!O).Nodup:=∎;let#[a1,a2,a3,a4]:=oa;let l6:=oe.2.2.2.2.1;refine dB (dH (gL hr (a9 (cI _)) 2 Y (i_ _)) (a8 (b9 (VE.to (uM (bE C2 hr {0.,3.} #[p,q.name,Y,ok,WC,Y]) (λ_=>g_ (gv (N6 Y) Y8 (du (VO.ve (VO.to (dF (own:=["place"]) (cap:=[0]) (N:=["place","plant"]) (tgt:=.one 0) (F:=Ip) (ds:=q.places.map .str) Y #[Y,∎,∎,Y,Y,?_] (vf (dm (d:=.tuple (q.places.map .str)) 1. aK (cJ (j:=4) Y))) (λf s3 H3=>fP 0 nc) Y
    (small (by rw[ae];omega)) (λd hd=>?_)) (Ay _))) cZ) n.any Y))) ?_)))) Y
   .intro j hj;rcases au.mp hj with rfl|hj
    .exact#[(by show(0:Nat)<4;decide),jc Y,Y]
    .cases hj
   .let#[z,hz,rfl]:=aj.mp hd;exact Bi Y Y λf s3 H3=>VE.to (JB hr JA JA (VE.to (VO.ve (zk C3 hr {1.,0.} #[p,z,Y,ok,(oe.2.2.2.2.2.2 z hz).ok.2,Y])) (by rw[Io (a2 z hz)];rfl)) (VO.ve (da (ds:=[]) cZ))) Y
   .rw[qQ0 a1,LZ];rfl
  |time d k wk=>refine aL (bP (gL hr (a9 (cI _)) 2 Y (ef (show("time":O)≠"kind" by symm))) bw) ?_;refine aL (bP (VT.to (gY (k1:=false) (k2:=false) (gL hr (a9 (cI _)) 2 Y (ef (show("time":O)≠"gate" by symm))) (λ_=>gL hr (a9 (cI _)) 2 Y (ef (show("time":O)≠"line" by symm)))) Y) bw) ?_;refine aL (bP (gL hr (a9 (cI _)) 2 Y (ef (show("time":O)≠"desk" by symm))) bw) ?_;refine dB (dH (gL hr (a9 (cI _)) 2 Y (i_ _)) (a8 (b9 (VE.to (Rh hr 3. (Bh 1 2 Y Y) (iA 0. (Av p))) ?_)))) Y;refine qQ6 iq ?_;rw[ie,DN];rw[pY];intro z;exact oa.1 (@of_decide_eq_true _ (_) z)
  |hour d a b=>refine aL (bP (gL hr (a9 (cI _)) 2 Y (ef (show("open":O)≠"kind" by symm))) bw) ?_;refine aL (bP (VT.to (gY (k1:=false) (k2:=false) (gL hr (a9 (cI _)) 2 Y (ef (show("open":O)≠"gate" by symm))) (λ_=>gL hr (a9 (cI _)) 2 Y (ef (show("open":O)≠"line" by symm)))) Y) bw) ?_;refine aL (bP (gL hr (a9 (cI _)) 2 Y (ef (show("open":O)≠"desk" by symm))) bw) ?_;refine aL (bP (gL hr (a9 (cI _)) 2 Y (ef (show("open":O)≠"time" by symm))) bw) ?_;exact a8 (b9 (VE.to (jQ (k1:=false) (k2:=false) (VE.to (nE hr (a9 (cI _)) dz 2. aW) (qQ6 iq (ef (show("open":O)≠"pace" by symm)))) (λz=>by cases z)) Y))
  |pace g k a b=>refine aL (bP (gL hr (a9 (cI _)) 2 Y (ef (show("pace":O)≠"kind" by symm))) bw) ?_;refine aL (bP (VT.to (gY (k1:=false) (k2:=false) (gL hr (a9 (cI _)) 2 Y (ef (show("pace":O)≠"gate" by symm))) (λ_=>gL hr (a9 (cI _)) 2 Y (ef (show("pace":O)≠"line" by symm)))) Y) bw) ?_;refine aL (bP (gL hr (a9 (cI _)) 2 Y (ef (show("pace":O)≠"desk" by symm))) bw) ?_;refine aL (bP (gL hr (a9 (cI _)) 2 Y (ef (show("pace":O)≠"time" by symm))) bw) ?_;refine a8 (b9 (VE.to (jQ (k1:=true) (k2:=false) (VE.to (nE hr (a9 (cI _)) dz 2. aW) (qQ6 iq (i_ _))) (λ_=>g_ (VE.to (Dh hr 3. (iA 0. (Aw p))) ?_))) Y));rw[ie,DM];exact qQ6 iq (qQ0 oa.1)
abbrev Nln:!O:=["plant","entry","form","into_line"]
theorem T2:cg Nln FG (bA (top 36)):=by grind
theorem zef(F:kz K "lacks_name" "lacks_name" (top 36) f fd)(n:Np mg w.params K)(C1:a_ P w K mg base 1 "is_place" Qg (gi K Rip))(C2:a_ P w K mg base 1 "is_desk" Qg (gi K Rid)):dW P w K mg base jO 2 f fd FG (gi K Xy):=
 iO F T2 (by ext) λ_ _ h=>by
  let#[p,e,rfl,ok,oe,oa,rfl]:=h;intro gk A outer s H E hr;let nd:Nln.Nodup:=T2.nd;let WC:=(Kh oe).ok.2;refine aL (dC 2 (d:=.str e.form) (dm 1. aK (ux e)) nd) ?_;cases e with
  |desk q=>
   let#[a1,a2,a3,a4]:=oa;let nc:(["place","plant"]:!O).Nodup:=∎;let oto:lD q.to:=by
    rcases oe.2.1 with h|h
    .rw[h];show bR (.str ("":O))=true;symm
    .exact h.ok.2
   let l6:=oe.2.2.2.2.1;refine dB (dH (gL hr (a9 (cI _)) 2 Y (i_ _)) (aL (dC 3 (d:=.bool true) (VE.to (uM (nE hr (a9 oto) dz (Bh 1 2 Y Y) aW) (λ_=>g_ (Dh hr (Bh 1 2 Y Y) (iA 0. (tJ p))))) ?_) nd) (a8 (b9 (VE.to (uM (k1:=false) (k2:=false) (VE.to (v8 3.) Y) (λ_=>g_ (VE.to (v8 (gv (jR Y) sU (du (VO.ve (VO.to (dF (own:=["place"]) (cap:=[0]) (N:=["place","plant"]) (tgt:=.one 0) (F:=R5) (ds:=q.places.map .str) Y #[Y,∎,∎,Y,Y,?_] (vf (dm (d:=.tuple (q.places.map .str)) 1. aK (cJ (j:=4) Y))) (λf s3 H3=>fP 0 nc) Y
    (small (by rw[ae];omega)) (λd hd=>?_)) (o8 _))) cZ) n.all Y)) (by rw[lY];rfl)))) Y))))) Y
   .rw[bG,ie,nR]
    congr 1
    rcases a4 with h|⟨r,h,_⟩
    .rw[qQ1 h];rfl
    .let:(iz (gC p) q.to).isSome=true:=by rw[h];rfl
     rw[ie,nR]at this;rw[this,Gq]
   .intro j hj;rcases au.mp hj with rfl|hj
    .exact#[(by show(0:Nat)<4;decide),jc Y,Y]
    .cases hj
   .let#[z,hz,rfl]:=aj.mp hd;exact Bi Y Y λf s3 H3=>bE C1 hr {1.,0.} #[p,z,Y,ok,(oe.2.2.2.2.2.2 z hz).ok.2,by rw[qQ1 (a3 z hz)]]
  |time d k wk=>refine aL (bP (gL hr (a9 (cI _)) 2 Y (ef (show("time":O)≠"desk" by symm))) bw) ?_;refine dB (dH (gL hr (a9 (cI _)) 2 Y (i_ _)) (a8 (b9 (VE.to (uM (k1:=false) (VE.to (v8 (bE C2 hr {0.,Bh 1 1 Y Y} #[p,d,Y,ok,WC,Y])) (by rw[qQ1 oa.2.1];rfl)) (λ_=>g_ (B5 hr (Bh 1 2 Y Y) (iA 0. (tH p))))) ?_)))) Y;rw[ie,qY,qQ1 oa.2.2];rfl
  |hour d a b=>refine aL (bP (gL hr (a9 (cI _)) 2 Y (ef (show("open":O)≠"desk" by symm))) bw) ?_;refine aL (bP (gL hr (a9 (cI _)) 2 Y (ef (show("open":O)≠"time" by symm))) bw) ?_;exact dB (dH (gL hr (a9 (cI _)) 2 Y (i_ _)) (a8 (b9 (VE.to (v8 (bE C2 hr {0.,Bh 1 1 Y Y} #[p,d,Y,ok,WC,Y])) (by rw[qQ1 (show qZ p d from oa)];rfl))))) Y
  |pace g k a b=>
   refine aL (bP (gL hr (a9 (cI _)) 2 Y (ef (show("pace":O)≠"desk" by symm))) bw) ?_;refine aL (bP (gL hr (a9 (cI _)) 2 Y (ef (show("pace":O)≠"time" by symm))) bw) ?_;refine aL (bP (gL hr (a9 (cI _)) 2 Y (ef (show("pace":O)≠"open" by symm))) bw) ?_;let hg:lD g:=WC;let hz:=oe.2.1.ok.2;refine a8 (b9 (VE.to (jQ (k1:=true) (k2:=false) (VE.to (nE hr (a9 (cI _)) dz 2. aW) (qQ6 iq (i_ _))) (λ_=>g_ (VE.to (uM (k1:=false) (k2:=false) (VE.to (NP hr Y (a9 hg) (xG ok.gates) (Bh 1 1 Y Y) (iA 0. (wx p))) ?_) (λ_=>g_ (VE.to (B5 hr (Bh 1 2 Y Y) (iA 0. (tH p))) ?_))) Y))) Y))
   .rw[kW,qQ1 oa.2.1];rfl
   .rw[ie,qY,qQ1 oa.2.2];rfl
  |_=>refine aL (bP (gL hr (a9 (cI _)) 2 Y (by rw[bG];dsimp only[Ent.form];exact qQ0 ∎)) bw) ?_;refine aL (bP (gL hr (a9 (cI _)) 2 Y (by rw[bG];dsimp only[Ent.form];exact qQ0 ∎)) bw) ?_;refine aL (bP (gL hr (a9 (cI _)) 2 Y (by rw[bG];dsimp only[Ent.form];exact qQ0 ∎)) bw) ?_;exact a8 (b9 (VE.to (jQ (k1:=false) (k2:=false) (VE.to (nE hr (a9 (cI _)) dz 2. aW) (by rw[bG];dsimp only[Ent.form];exact qQ6 iq (qQ0 ∎))) (λz=>by cases z)) Y))
theorem WD:cg FG FG (bA (top 37)):=by grind
theorem zaf(F:kz K "lacks_room" "lacks_room" (top 37) f fd)(n:Np mg w.params K)(C1:a_ P w K mg base 1 "greatest_load" ["rule","many"] (gi K Rgr)):dW P w K mg base jO 2 f fd FG (gi K Xy):=
 iO F WD (by ext) λ_ _ h=>by
  let#[p,e,rfl,ok,oe,oa,rfl]:=h;intro gk A outer s H E hr;by_cases hd:∃q,e=.desk q
  .let#[q,rfl]:=hd;let#[a1,a2,a3,a4]:=oa;let oto:lD q.to:=by
    rcases oe.2.1 with h|h
    .rw[h];show bR _=true;symm
    .exact h.ok.2
   by_cases ht:q.to=""
   .exact dB (dH (VT.to (gY (VT.to (lL hr (a9 (cI _)) dz (dm 1. aK (ux _)) aW) (qQ6 (λb=>not b) (i_ _))) (λ_=>VT.to (j9 hr (a9 oto) dz (Bh 1 2 Y Y) aW) ([bG]▸qQ1 ht))) Y) (a8 (b9 Tg))) Y
   .let#[r,h1,h2]:=a4.resolve_left ht;exact aL (bP (VT.to (gY (VT.to (lL hr (a9 (cI _)) dz (dm 1. aK (ux _)) aW) (qQ6 (λb=>not b) (i_ _))) (λ_=>VT.to (j9 hr (a9 oto) dz (Bh 1 2 Y Y) aW) ([bG]▸qQ0 ht))) Y) bw) (a8 (b9 (VE.to (YM (bE C1 hr {dm 1. aK (cJ Y),VE.to (mB (Bh 1 4 Y Y) n.len) (by rw[ae])} #[q.rule,q.places.length,Y,Y]) (eP hr (iA 0. (tJ p)) (Bh 1 2 Y Y) h1)) (qQ6 iq (qQ0 ())))))
  .let hf:e.form≠"desk":=by
    cases e with
    |desk q=>exact qQ7 #[q,Y] hd
    |_=>dsimp only[Ent.form];symm
   exact dB (dH (VT.to (gY (k1:=true) (k2:=true) (VT.to (lL hr (a9 (cI e)) dz (dm 1. aK (ux _)) aW) (by rw[bG,qQ0 hf];rfl)) (λz=>by cases z)) Y) (a8 (b9 Tg))) Y
theorem zag:cg FG FG (bA (top 34)):=by grind
def Rfo(ds:!U)(d:U):Prop:=∃(p:Pl)(e:Ent),ds=[gE p,Ik e]/\jh p/\kI e/\tK p e/\d=.str ""
theorem zeg(F:kz K "fault_of" "fault_of" (top 34) f fd)(C1:a_ P w K mg base 2 "tells_twice" FG (gi K Xy))(C2:a_ P w K mg base 2 "lacks_name" FG (gi K Xy))(C3:a_ P w K mg base 2 "lacks_room" FG (gi K Xy)):dW P w K mg base jO 3 f fd FG (gi K Rfo):=
 iO F zag (by ext) λ_ _ h=>by let#[p,e,rfl,ok,oe,oa,rfl]:=h;intro gk A outer s H E hr;refine aL (bP (VT.to (gO jM mW 1. g8 (fX _)) Y) bw) ?_;refine aL (bP (e8 (bE C1 hr {0.,1.} #[p,e,Y,ok,oe,oa,Y]) Y) bw) ?_;exact aL (bP (e8 (bE C2 hr {0.,1.} #[p,e,Y,ok,oe,oa,Y]) Y) bw) (aL (bP (e8 (bE C3 hr {0.,1.} #[p,e,Y,ok,oe,oa,Y]) Y) bw) (a8 (b9 aW)))
end
def Sl:Option Int->V
 |none=>.non
 |some i=>.int i
theorem Pm(o:Option Int):Rep K H (Sl o) (mV o):=by
 cases o with
 |none=>exact .non
 |some i=>exact .int i
theorem Rep.Sn(r:Rep K H v (mV o)):v=Sl o:=by
 cases o with
 |none=>cases r;rfl
 |some i=>cases r;rfl
def vt(p:Pl):!(Key×V):=p.kinds.map λq=>(bh q.1,Sl q.2)
def vv(p:Pl):!(Key×V):=p.lines.map λq=>(bh q.1,V.int q.2)
def vw(p:Pl):!(!Key×V):=p.times.map λq=>(lV (q.1,q.2.1),V.int q.2.2)
def gF(h:!(O×!(Int×Int)))(cs:!J):!(Key×V):=(h.zip cs).map λz=>(bh z.1.1,V.ref z.2)
def j_(l:!(O×O×Int×Int))(xp:!V):!(Key×V):=(l.zip xp).map λz=>(bh z.1.1,z.2)
abbrev fsN:!O:=["kinds","gates","lines","desks","times","hours","paces"]
def Qh(ak ag al ad at_ ah ap:J):!(O×V):=[("kinds",.ref ak),("gates",.ref ag),("lines",.ref al),("desks",.ref ad),("times",.ref at_),("hours",.ref ah),("paces",.ref ap)]
structure PlW(K:ai)(p:J)(st:Pl)(H0 H:Hp)(C dx ak ag al ad at_ ah ap:J)(cs:!J)(xd xp:!V):Prop where
 ins:H p>>(.ins C dx (Qh ak ag al ad at_ ah ap))
 cls:Ec K C
 rS:∀f∈fsN,jN K C f
 ki:H ak>>(.dK (vt st))
 ga:H ag>>(.lst (st.gates.map V.str))
 li:H al>>(.dK (vv st))
 de:H ad>>(.lst xd)
 dr:bQ K H0 xd (st.desks.map gZ)
 ti:H at_>>(.dT (vw st))
 ho:H ah>>(.dK (gF (cw st.hours) cs))
 hl:cs.length=(cw st.hours).length
 pa:H ap>>(.dK (j_ st.paces xp))/\bQ K H0 xp (st.paces.map Cp)
 ce:∀(i:Nat)c q,cs[i]?>>c->(cw st.hours)[i]?>>q->∃xs,H c>>(.lst xs)/\bQ K H0 xs (q.2.map pairD)
def Az(K:ai)(p:J)(st:Pl):OR:=λH0 H as=>∃C dx ak ag al ad at_ ah ap cs xd xp,as=p::ak::ag::al::ad::at_::ah::ap::cs/\as.Nodup/\PlW K p st H0 H C dx ak ag al ad at_ ah ap cs xd xp
theorem Az.mono{st:Pl}:bM (Az K p st):=by
 rintro H0 H Ha Hb as ⟨C,dx,ak,ag,al,ad,at_,ah,ap,cs,xd,xp,rfl,nd,W⟩ s e;refine#[C,dx,ak,ag,al,ad,at_,ah,ap,cs,xd,xp,Y,nd,?_];exact#[[e p ∅]▸W.ins,W.cls,W.rS,[e ak ∅]▸W.ki,[e ag ∅]▸W.ga,[e al ∅]▸W.li,[e ad ∅]▸W.de,W.dr.mono s,[e at_ ∅]▸W.ti,[e ah ∅]▸W.ho,W.hl,[e ap ∅]▸#[W.pa.1,W.pa.2.mono s],λi c q e1 e2=>by let#[xs,h1,h2]:=W.ce i c q e1 e2;refine#[xs,?_,h2.mono s];rw[e c (by simp[aF e1])];exact h1]
theorem wz{α:Type}{f:α->V}{g:α->U}:∀{l:!α},(∀x∈l,Rep K H (f x) (g x))->bQ K H (l.map f) (l.map g)
 | [],_=>.nil
 |x::l,h=>.cons (h x aB) (wz λy hy=>h y (aD _ hy))
theorem FH{α:Type}{g:α->U}:∀{l:!α}{cs:!J},cs.length=l.length->(∀(i:Nat)c q,cs[i]?>>c->l[i]?>>q->Rep K H (.ref c) (g q))->bQ K H (cs.map V.ref) (l.map g)
 | [],[],_,_=>.nil
 | [],_::_,h,_=>by cases h
 |_::_,[],h,_=>by cases h
 |q::l,c::cs,h,k=>.cons (k 0 c q Y Y) (FH ↑h λi c' q' e1 e2=>k (i+1) c' q' ↑e1 ↑e2)
theorem yq:∀{h:!(O×!(Int×Int))}{cs:!J},cs.length=h.length->(gF h cs).map (·.1)=h.map λq=>(bh q.1:Key)
 | [],[],_=>rfl
 | [],_::_,e=>by cases e
 |_::_,[],e=>by cases e
 |q::h,c::cs,e=>by let:=yq ↑e;unfold gF at this ⊢;rw[eV,ao,ao,this];rfl
theorem yr:∀{h:!(O×!(Int×Int))}{cs:!J},cs.length=h.length->(gF h cs).map (·.2)=cs.map V.ref
 | [],[],_=>rfl
 | [],_::_,e=>by cases e
 |_::_,[],e=>by cases e
 |q::h,c::cs,e=>by let:=yr ↑e;unfold gF at this ⊢;rw[eV,ao,ao,this];rfl
theorem tM:∀{h:!(O×O×Int×Int)}{xp:!V},xp.length=h.length->(j_ h xp).map (·.1)=h.map λq=>(bh q.1:Key)
 | [],[],_=>rfl
 | [],_::_,e=>by cases e
 |_::_,[],e=>by cases e
 |q::h,c::cs,e=>by let:=tM (h:=h) (xp:=cs) ↑e;unfold j_ at this ⊢;rw[eV,ao,ao,this];rfl
theorem yt:∀{h:!(O×O×Int×Int)}{xp:!V},xp.length=h.length->(j_ h xp).map (·.2)=xp
 | [],[],_=>rfl
 | [],_::_,e=>by cases e
 |_::_,[],e=>by cases e
 |q::h,c::cs,e=>by let:=yt (h:=h) (xp:=cs) ↑e;unfold j_ at this ⊢;rw[eV,ao,ao,this]
theorem Iq(e:xp.length=h.length)(q:O×O×Int×Int)(v:V):j_ (h ++ [q]) (xp ++ [v])=j_ h xp ++ [(bh q.1,v)]:=by unfold j_;rw[A2 (),aH];rfl
theorem Az.rep{st:Pl}(Ha Hb:Hp)(as:!J)(sb:cy Ha Hb)(h:Az K p st Ha Hb as):Rep K (lG as Hb Ha) (.ref p) (gE st):=by
 let#[C,dx,ak,ag,al,ad,at_,ah,ap,cs,xd,xp,rfl,nd,W]:=h;let sm:=kD (as:=p::ak::ag::al::ad::at_::ah::ap::cs) sb;generalize hM:lG (p::ak::ag::al::ad::at_::ah::ap::cs) Hb Ha=Ma at *;let mm:∀a∈p::ak::ag::al::ad::at_::ah::ap::cs,Ma a=Hb a:=λa ha=>[<-hM]▸jy ha;refine Rep.obj (fs:=Qh ak ag al ad at_ ah ap) ([mm p ∅]▸W.ins) W.cls W.rS Y ?_;refine .cons ?_ (.cons ?_ (.cons ?_ (.cons ?_ (.cons ?_ (.cons ?_ (.cons ?_ .nil))))))
 .refine .dct ([mm ak ∅]▸W.ki) ?_ ?_
  .unfold ia vt;simp only[aG];rfl
  .unfold ia vt;simp only[aG];exact wz λq _=>Pm q.2
 .exact .lst (jY.of ([mm ag ∅]▸W.ga)) (xo _)
 .refine .dct ([mm al ∅]▸W.li) ?_ ?_
  .unfold gC vv;simp only[aG];rfl
  .unfold gC vv;simp only[aG];exact wz λq _=>.int q.2
 .exact .lst (jY.of ([mm ad ∅]▸W.de)) (W.dr.mono sm)
 .refine .Tf ([mm at_ ∅]▸W.ti) ?_ ?_
  .unfold iZ vw;simp only[aG];rfl
  .unfold iZ vw;simp only[aG];exact wz λq _=>.int q.2.2
 .refine .dct ([mm ah ∅]▸W.ho) ?_ ?_
  .let:=yq W.hl;let e:(gF (cw st.hours) cs).map (λq=>nJ q.1)=((gF (cw st.hours) cs).map (·.1)).map nJ:=by rw[aG];rfl
   rw[e,this];unfold ic;simp only[aG];rfl
  .rw[yr W.hl];let e:((ic st).map λq=>(aJ q.1,q.2)).map (·.2)=(cw st.hours).map λq=>pG (q.2.map pairD):=by unfold ic;simp only[aG];rfl
   rw[e];exact FH W.hl λi c q e1 e2=>by let#[xs,h1,h2]:=W.ce i c q e1 e2;exact .lst (jY.of ([mm c (by simp[aF e1])]▸h1)) (h2.mono sm)
 .let hl:xp.length=st.paces.length:=by let:=W.pa.2.length;rw[ae]at this;exact this
  refine .dct ([mm ap ∅]▸W.pa.1) ?_ ?_
  .let:=tM hl;let e:(j_ st.paces xp).map (λq=>nJ q.1)=((j_ st.paces xp).map (·.1)).map nJ:=by rw[aG];rfl
   rw[e,this];unfold gD;simp only[aG];rfl
  .rw[yt hl];let e:((gD st).map λq=>(aJ q.1,q.2)).map (·.2)=st.paces.map Cp:=by unfold gD;simp only[aG];rfl
   rw[e];exact W.pa.2.mono sm
structure Mid(H H1:Hp)(p C dx:J)(fs:!(O×V))(os:!(J×HO)):Prop where
 ins:H1 p>>(.ins C dx fs)
 ob:∀q∈os,H1 q.1>>q.2
 nd:(p::os.map (·.1)).Nodup
 fresh:∀q∈os,H q.1=none
 old:∀b o,H b>>o->b≠p->H1 b>>o
theorem Mid.step{H1: Hp}{C dx d: J}{fs fs':!(O×V)}{os:!(J×HO)}{o:HO}(m:Mid H H1 p C dx fs os)(hd:H1 d=none):Mid H (upd (upd H1 d o) p (.ins C dx fs')) p C dx fs' (os ++ [(d,o)]):=by
 let hpd:d≠p:=λz=>by subst z;rw[m.ins]at hd;cases hd
 let Qb:d∉os.map (·.1):=λz=>by let#[q,hq,rfl]:=aj.mp z;rw[m.ob q hq]at hd;cases hd
 refine#[aP,λq hq=>?_,?_,λq hq=>?_,λb o' e hb=>?_]
 .rcases aT.mp hq with hq|hq
  .let h1:q.1≠p:=λz=>((cD.mp m.nd).1) ([<-z]▸aj.mpr #[q,hq,Y]);let h2:q.1≠d:=λz=>Qb ([<-z]▸aj.mpr #[q,hq,Y]);rw[aI h1,aI h2];exact m.ob q hq
  .rw[aA.mp hq,aI hpd];exact aP
 .rw[aH,<-List.cons_append,cF];refine#[m.nd,∅,λx hx y hy=>?_];rw[fU,aA]at hy;subst hy;rcases au.mp hx with rfl|hx
  .exact bD hpd
  .exact λz=>Qb ([<-z]▸hx)
 .rcases aT.mp hq with hq|hq
  .exact m.fresh q hq
  .rw[aA.mp hq];cases e:H d with
   |none=>rfl
   |some o'=>have:=m.old d o' e hpd;rw[hd]at this;cases this
 .let h2:b≠d:=λz=>by subst z;let:=m.old b o' e hb;rw[hd]at this;cases this
  rw[aI hb,aI h2];exact m.old b o' e hb
theorem oG:∀{fs:!(O×V)},f∉fs.map (·.1)->rR f v fs=fs ++ [(f,v)]
 | [],_=>rfl
 |(g,x)::fs,h=>by show(if g=f then(g,v)::fs else(g,x)::rR f v fs)=_;rw[qQ2 (λz=>h (by rw[z];simp)),oG λz=>h (by simp[z])];rfl
abbrev Cq:kr:=inClass (top 25) 0
def Pn(C:J):Sp:=λvs H Q _=>∃p dx,vs=[.ref p]/\H p>>(.ins C dx [])/\∀ak ag al ad at_ ah ap H',Mid H H' p C dx (Qh ak ag al ad at_ ah ap) [(ak,.dK []),(ag,.lst []),(al,.dK []),(ad,.lst []),(at_,.dT []),(ah,.dK []),(ap,.dK [])]->Q .non H'
section
theorem zai:cg ["self"] ["self"] (bA Cq):=by grind
theorem zeh(F:kz K "__init__" "Plant.__init__" Cq f fd)(cl:Ec K C)(na:∀f∈fsN,jN K C f):dW P w K mg base jO 1 f fd ["self"] (Pn C):=by
 refine F.ok zai (λvs H Q E h=>?_) (λgk A outer s H vs Q E hr h=>?_)
 .let#[p,dx,rfl,_]:=h;rfl
 .let#[p,dx,rfl,hp,q]:=h;refine#[_,k9 (u_ (pv 0) sH Y) (k9 (u_ (pv 0) (wZ dP) Y) (k9 (u_ (pv 0) sH Y) (k9 (u_ (pv 0) (wZ dP) Y) (k9 (u_ (pv 0) EB Y) (k9 (u_ (pv 0) sH Y) (CW (u_ (pv 0) sH Y))))))),?_];let m0:Mid H H p C dx [] []:=#[hp,λq hq=>(by cases hq),∅,λq hq=>(by cases hq),λb o e _=>e];intro ak hak;let p1:(upd H ak (.dK [])) p>>(.ins C dx []):=[aI (bu hp hak)]▸hp;refine#[_,Y,p,C,dx,_,Y,p1,cl,na _ ∎,⋯,?_];let m1:=m0.step (o:=.dK []) (fs':=[(("kinds":O),V.ref ak)]) hak;rw[oG (show("kinds":O)∉([]) by symm)];refine#[aY _,λag hag=>?_];refine#[_,Y,p,C,dx,_,Y,[aI (bu m1.ins hag)]▸m1.ins,cl,na _ ∎,by show 1<1000;decide,?_];let m2:=m1.step (o:=.lst []) (fs':=[(("kinds":O),V.ref ak),("gates",V.ref ag)]) hag;rw[oG (show("gates":O)∉(["kinds"]:!O) by symm)];intro al hal;refine#[_,Y,p,C,dx,_,Y,[aI (bu m2.ins hal)]▸m2.ins,cl,na _ ∎,by show 2<1000;decide,?_];let m3:=m2.step (o:=.dK []) (fs':=[(("kinds":O),V.ref ak),("gates",V.ref ag),("lines",V.ref al)]) hal;rw[oG (show("lines":O)∉(["kinds","gates"]:!O) by symm)];refine#[aY _,λad had=>?_];refine#[_,Y,p,C,dx,_,Y,[aI (bu m3.ins had)]▸m3.ins,cl,na _ ∎,by show 3<1000;decide,?_];let m4:=m3.step (o:=.lst []) (fs':=[(("kinds":O),V.ref ak),("gates",V.ref ag),("lines",V.ref al),("desks",V.ref ad)]) had;rw[oG (show("desks":O)∉(["kinds","gates","lines"]:!O) by symm)];intro at_ hat;refine#[_,Y,p,C,dx,_,Y,[aI (bu m4.ins hat)]▸m4.ins,cl,na _ ∎,by show 4<1000;decide,?_];let m5:=m4.step (o:=.dT []) (fs':=[(("kinds":O),V.ref ak),("gates",V.ref ag),("lines",V.ref al),("desks",V.ref ad),("times",V.ref at_)]) hat;rw[oG (show("times":O)∉(["kinds","gates","lines","desks"]:!O) by symm)];intro ah hah;refine#[_,Y,p,C,dx,_,Y,[aI (bu m5.ins hah)]▸m5.ins,cl,na _ ∎,by show 5<1000;decide,?_];let m6:=m5.step (o:=.dK []) (fs':=[(("kinds":O),V.ref ak),("gates",V.ref ag),("lines",V.ref al),("desks",V.ref ad),("times",V.ref at_),("hours",V.ref ah)]) hah;rw[oG (show("hours":O)∉(["kinds","gates","lines","desks","times"]:!O) by symm)];intro ap VZ;refine#[_,Y,p,C,dx,_,Y,[aI (bu m6.ins VZ)]▸m6.ins,cl,na _ ∎,by show 6<1000;decide,?_];let m7:=m6.step (o:=.dK []) (fs':=[(("kinds":O),V.ref ak),("gates",V.ref ag),("lines",V.ref al),("desks",V.ref ad),("times",V.ref at_),("hours",V.ref ah),("paces",V.ref ap)]) VZ;exact q ak ag al ad at_ ah ap _ m7
end
def ik(p:Pl):Ent->Pl
 | .kind n k=>{ p with kinds:=p.kinds ++ [(n,k)] }
 | .gate n=>{ p with gates:=p.gates ++ [n] }
 | .line n r=>{ p with lines:=p.lines ++ [(n,r)] }
 | .desk d=>{ p with desks:=p.desks ++ [d] }
 | .time d k w=>{ p with times:=p.times ++ [(d,k,w)] }
 | .hour d a b=>{ p with hours:=p.hours ++ [(d,a,b)] }
 | .pace g k a b=>{ p with paces:=p.paces ++ [(g,k,a,b)] }
def T3(st:Pl)(d:U)(vU:Pl):Prop:=∃e,d=Ik e/\jh st/\kI e/\tK st e/\vU=ik st e
theorem tN{κ:Type}[DecidableEq κ]:∀{kvs:!(κ×V)}{k:κ},(∀q∈kvs,q.1≠k)->iW kvs k=none
 | [],_,_=>rfl
 |q::l,k,h=>by rw[jd (h q aB)];exact tN λx hx=>h x (aD _ hx)
theorem AA(z:Int×Int)(n:O):∀{h:!(O×!(Int×Int))}{cs:!J},cs.length=h.length->
  (iW (gF h cs) (bh n)=none/\hG h n z=h ++ [(n,[z])])\/∃i c q,h[i]?>>q/\cs[i]?>>c/\iW (gF h cs) (bh n)>>(.ref c)/\hG h n z=h.set i (q.1,q.2 ++ [z])
 | [],[],_=>.inl #[Y,Y]
 | [],_::_,e=>by cases e
 |_::_,[],e=>by cases e
 |q::h,c::cs,e=>by
  let hv:gF (q::h) (c::cs)=(bh q.1,V.ref c)::gF h cs:=Y;by_cases hn:q.1=n
  .refine .inr #[0,c,q,Y,Y,?_,?_]
   .exact mN (by show(bh q.1)=bh n;rw[hn])
   .show(if q.1=n then(q.1,q.2 ++ [z])::h else q::hG h n z)=_;rw[qQ3 hn];rfl
  .let ne:¬(bh q.1:Key)=bh n:=λw=>hn (by injection w);let ea:hG (q::h) n z=q::hG h n z:=by show(if q.1=n then(q.1,q.2 ++ [z])::h else q::hG h n z)=_;rw[qQ2 hn]
   rcases AA z n ↑e with⟨h1,h2⟩|⟨i,c',q',h1,h2,h3,h4⟩
   .exact .inl #[[hv,jd ne]▸h1,by rw[ea,h2];rfl]
   .exact .inr #[i+1,c',q',by simpa using h1,by simpa using h2,[hv,jd ne]▸h3,by rw[ea,h4];rfl]
theorem yu:∀{h h':!(O×!(Int×Int))}{cs:!J},h'.map (·.1)=h.map (·.1)->gF h' cs=gF h cs
 | [],[],_,_=>rfl
 | [],_::_,_,e=>by cases e
 |_::_,[],_,e=>by cases e
 |q::h,q'::h',cs,e=>by
  let#[e1,e2]:=jb e;cases cs with
  |nil=>rfl
  |cons c cs=>show(bh q'.1,V.ref c)::gF h' cs=(bh q.1,V.ref c)::gF h cs;rw[show q'.1=q.1 from e1,yu e2]
theorem Ir(e:cs.length=h.length)(q:O×!(Int×Int))(c:J):gF (h ++ [q]) (cs ++ [c])=gF h cs ++ [(bh q.1,V.ref c)]:=by unfold gF;rw[A2 (),aH];rfl
theorem vy(l:!(O×Int×Int))(q:O×Int×Int):cw (l ++ [q])=hG (cw l) q.1 q.2:=by unfold cw;rw[d_];rfl
theorem FJ(z:Int×Int)(n:O):∀h,(hG h n z).length<=h.length+1
 | []=>aE _
 |q::h=>by
  show(if q.1=n then(q.1,q.2 ++ [z])::h else q::hG h n z).length<=_;split
  .simp
  .let:=FJ z n h;simp;omega
theorem vz(l:!(O×Int×Int)):(cw l).length<=l.length:=by
 let go:∀(l:!(O×Int×Int))(acc:!(O×!(Int×Int))),(l.foldl (λacc q=>hG acc q.1 q.2) acc).length<=acc.length+l.length:=by
  intro l;induction l with
  |nil=>intro acc;exact aE _
  |cons q l ih=>intro acc;let h1:=ih (hG acc q.1 q.2);let h2:=FJ q.2 q.1 acc;rw[dN,bj];omega
 let:=go l [];rwa[cx,r9]at this
theorem AF(z:Int×Int)(n:O):∀(h:!(O×!(Int×Int)))(b:Nat),(∀q∈h,q.2.length<=b)->∀q∈hG h n z,q.2.length<=b+1
 | [],b,_,q,hq=>by rw[aA.mp hq];simp
 |p::h,b,hb,q,hq=>by
  let hq:q∈(if p.1=n then(p.1,p.2 ++ [z])::h else p::hG h n z):=hq;split at hq
  .rcases au.mp hq with rfl|hq
   .let:=hb p aB;simp;omega
   .let:=hb q (aD _ hq);omega
  .rcases au.mp hq with rfl|hq
   .let:=hb q aB;omega
   .exact AF z n h b (λx hx=>hb x (aD _ hx)) q hq
theorem tP(l:!(O×Int×Int)):∀q∈cw l,q.2.length<=l.length:=by
 let go:∀(l:!(O×Int×Int))(acc:!(O×!(Int×Int)))(b:Nat),(∀q∈acc,q.2.length<=b)->∀q∈l.foldl (λacc q=>hG acc q.1 q.2) acc,q.2.length<=b+l.length:=by
  intro l;induction l with
  |nil=>intro acc b hb q hq;exact hb q hq
  |cons q0 l ih=>intro acc b hb q hq;let:=ih _ (b+1) (AF q0.2 q0.1 acc b hb) q hq;rw[bj];omega
 intro q hq;let:=go l [] 0 (λq hq=>by cases hq) q hq;omega
section
abbrev Nae:!O:=["plant","entry","form","name"]
theorem T4:cg Nae FG (bA (top 41)):=by grind
theorem zaj{ak ag al ad at_ ah ap:J}:(Qh ak ag al ad at_ ah ap).lookup ("kinds":O)>>(.ref ak)/\(Qh ak ag al ad at_ ah ap).lookup ("gates":O)>>(.ref ag)/\(Qh ak ag al ad at_ ah ap).lookup ("lines":O)>>(.ref al)/\(Qh ak ag al ad at_ ah ap).lookup ("desks":O)>>(.ref ad)/\(Qh ak ag al ad at_ ah ap).lookup ("times":O)>>(.ref at_)/\(Qh ak ag al ad at_ ah ap).lookup ("hours":O)>>(.ref ah)/\(Qh ak ag al ad at_ ah ap).lookup ("paces":O)>>(.ref ap):=#[Y,Y,Y,Y,Y,Y,Y]
theorem zej(F:kz K "add_entry" "add_entry" (top 41) f fd):dW P w K mg base jO 1 f fd FG (N8 K Pl (Az K) T3):=by
 refine F.ok T4 (λvs H Q E h=>?_) (λgk A outer s H vs Q E hr h=>?_)
 .let#[_,_,_,_,_,_,_,rfl,_]:=h;rfl
 .let#[H0,p,v,as,st,vU,d,rfl,sm,rv,own,W0,#[e,rfl,ok,oe,oa,rfl],q]:=h;refine#[_,kY,?_];let nd:Nae.Nodup:=T4.nd;let f0:fK K H0 H H0 H (start Nae [.ref p,v]) [.ref p,.val (Ik e),.un,.un]:=by
   refine#[.refl sm,Y,λi sl hi=>?_,λi j a b p' _ h1=>?_]
   .match i,hi with
    |0,hi=>cases hi;exact Y
    |1,hi=>cases hi;exact#[v,Y,rv]
    |2,hi=>cases hi;exact trivial
    |3,hi=>cases hi;exact trivial
    |i+4,hi=>simp at hi
   .match i,h1 with
    |0,h1=>cases h1
    |1,h1=>cases h1
    |2,h1=>cases h1
    |3,h1=>cases h1
    |i+4,h1=>simp at h1
  refine bO (Zf f0 (dC 2 (d:=.str e.form) (dm 1. aK (ux e)) nd) λσ1 H1 cY s1 f1=>?_);refine bO (Zf f1 (dC 3 (d:=.str e.name) (dm 1. aK (Kg e)) nd) λσ2 H2 f9 s2 f2=>?_);let W2:=Az.mono _ _ _ _ _ W0 f2.ent.eE (λa ha=>f2.ent.big.eq (own a ha).2);let#[C,dx,ak,ag,al,ad,at_,ah,ap,cs,xd,xp,rfl,Qi,W]:=W2;let o2:∀a∈p::ak::ag::al::ad::at_::ah::ap::cs,∃o,H a>>o/\H0 a=none:=λa ha=>by
   let#[z1,z2]:=own a ha;cases e:H a with
   |none=>exact qQ7 e z2
   |some o=>exact#[o,Y,z1]
  let zak:=Qi;simp only[cD,au,not_or]at zak;let#[#[pk,pg,pl,pd,pt,ph,pp,pc],#[kg,kl,kd,kt,kh,kp,kc],#[gl,gd,gt,gh,gp,gc],#[ld,lt,lh,lp,lc],#[dt,dh,dp,dc],#[th,tp,tc],#[hp,hc],apc,ncs]:=zak;let fin:∀(Ha Hb:Hp)(a:J)(o:HO),di H0 H Ha Hb->a∈p::ak::ag::al::ad::at_::ah::ap::cs->(∀xd',xd'=xd->Az K p (ik st e) Ha (upd Hb a o) (p::ak::ag::al::ad::at_::ah::ap::cs))->Q .non (upd Hb a o):=λHa Hb a o g ha hW=>by
   let fr:∀b∈p::ak::ag::al::ad::at_::ah::ap::cs,Ha b=none/\Hb b≠none:=λb hb=>by let#[ob,e1,e2]:=o2 b hb;exact#[g.still e2 e1,by rw[g.big _ _ e1];simp]
   refine q Ha (upd Hb a o) _ g.eE (λb u e=>?_) g.new (λb hb=>#[(fr b hb).1,?_,.inl hb]) (λb u e hb=>?_) (hW xd Y)
   .rw[aI (bu e (fr a ha).1)];exact g.sub b u e
   .by_cases Fe:b=a
    .subst Fe;rw[aP];simp
    .rw[aI Fe];exact(fr b hb).2
   .rw[aI (λz=>hb ([z]▸ha))];exact g.big b u e
  let Wg:∀Ha Hb,di H2 f9 Ha Hb->PlW K p st Ha Hb C dx ak ag al ad at_ ah ap cs xd xp:=λHa Hb g=>by
   let Ma:=Az.mono (K:=K) (p:=p) (st:=st) H2 f9 Ha Hb (p::ak::ag::al::ad::at_::ah::ap::cs) #[C,dx,ak,ag,al,ad,at_,ah,ap,cs,xd,xp,Y,Qi,W] g.eE (λa ha=>by
    let#[o,e1,_]:=o2 a ha;exact g.big.eq (by rw[f2.ent.big _ _ e1];simp));exact#[g.big _ _ W.ins,W.cls,W.rS,g.big _ _ W.ki,g.big _ _ W.ga,g.big _ _ W.li,g.big _ _ W.de,W.dr.mono g.eE,g.big _ _ W.ti,g.big _ _ W.ho,W.hl,#[g.big _ _ W.pa.1,W.pa.2.mono g.eE],λi c q e1 e2=>by
    let#[xs,h1,h2]:=W.ce i c q e1 e2;exact#[xs,g.big _ _ h1,h2.mono g.eE]]
  let#[lk1,lk2,lk3,lk4,lk5,lk6,lk7]:=zaj (ak:=ak) (ag:=ag) (al:=al) (ad:=ad) (at_:=at_) (ah:=ah) (ap:=ap);let lf:=a9 (n:=20) (cI e);cases e with
  |kind m kk=>
   refine b_ (Ca f2 (gL hr lf 2 Y (i_ _)) λHa Hb g=>?_);let Wa:=Wg Ha Hb g;let hz:(vt st).length<sizeLine:=dQ (by unfold vt;rw[ae];let:=ok.kn;omega);refine b_ (N_ (f2.grow g) hr 0 Y Wa.ins Wa.cls (Wa.rS _ ∎) lk1 Wa.ki 3. (Bh 1 2 Y Y) hz λv Hc Hd g2 r=>?_);let Wd:=Wg Hc Hd (g.trans g2);let hv:=Rep.Sn r;subst hv;refine fin Hc Hd ak _ (f2.ent.trans (g.trans g2)) ∅ λ_ _=>#[C,dx,ak,ag,al,ad,at_,ah,ap,cs,xd,xp,Y,Qi,?_];let hn:iW (vt st) (bh m)=none:=tN λq' GY=>by
    let#[q0,h0,rfl]:=aj.mp GY;intro z;injection z with z
    exact oa ([<-z]▸aj.mpr #[q0,h0,Y])
   refine#[[aI pk]▸Wd.ins,Wd.cls,Wd.rS,?_,[aI (bD kg)]▸Wd.ga,[aI (bD kl)]▸Wd.li,[aI (bD kd)]▸Wd.de,Wd.dr,[aI (bD kt)]▸Wd.ti,[aI (bD kh)]▸Wd.ho,Wd.hl,[aI (bD kp)]▸Wd.pa,λi c q' e1 e2=>?_]
   .rw[aP];show some (HO.dK (putK (vt st) (bh m) (Sl kk)))>>(.dK ((st.kinds ++ [(m,kk)]).map _));rw[p7 _ hn,aH];rfl
   .let#[xs,h1,h2]:=Wd.ce i c q' e1 e2;exact#[xs,by rw[aI (λz=>kc ([<-z]▸aF e1))];exact h1,h2]
  |gate m=>
   refine b_ (kE f2 (gL hr lf 2 Y (ef (show("gate":O)≠"kind" by symm))) λQj Qk g1=>?_);let FK:=f2.grow g1;let Pp:=g1;refine b_ (Ca FK (gL hr lf 2 Y (i_ _)) λL0 L1 g2=>?_);let Gy:=FK.grow g2;let L3:=Pp.trans g2;let Wa:=Wg L0 L1 L3;let hz:(st.gates.map V.str).length<sizeLine:=dQ (by rw[ae];let:=ok.gn;omega);refine b_ (EV Gy 0 Y Wa.ins Wa.cls (Wa.rS _ ∎) lk2 Wa.ga 3. hz λv Hc Hd g9 r=>?_);let Wd:=Wg Hc Hd (L3.trans g9);cases r;refine fin Hc Hd ag _ (f2.ent.trans (L3.trans g9)) ∅ λ_ _=>#[C,dx,ak,ag,al,ad,at_,ah,ap,cs,xd,xp,Y,Qi,?_];refine#[[aI (pg)]▸Wd.ins,Wd.cls,Wd.rS,[aI (kg)]▸Wd.ki,?_,[aI (bD gl)]▸Wd.li,[aI (bD gd)]▸Wd.de,Wd.dr,[aI (bD gt)]▸Wd.ti,[aI (bD gh)]▸Wd.ho,Wd.hl,[aI (bD gp)]▸Wd.pa,λi c q' e1 e2=>?_]
   .rw[aP];show some (HO.lst (st.gates.map V.str ++ [V.str m]))>>(.lst ((st.gates ++ [m]).map V.str));rw[aH];rfl
   .let#[xs,h1,h2]:=Wd.ce i c q' e1 e2;exact#[xs,by rw[aI (λz=>gc ([<-z]▸aF e1))];exact h1,h2]
  |line m rr=>
   refine b_ (kE f2 (gL hr lf 2 Y (ef (show("line":O)≠"kind" by symm))) λQj Qk g1=>?_);let FK:=f2.grow g1;let Pp:=g1;refine b_ (kE FK (gL hr lf 2 Y (ef (show("line":O)≠"gate" by symm))) λL0 L1 g2=>?_);let Gy:=FK.grow g2;let L3:=Pp.trans g2;refine b_ (Ca Gy (gL hr lf 2 Y (i_ _)) λWG WH g3=>?_);let L4:=Gy.grow g3;let Pq:=L3.trans g3;let Wa:=Wg WG WH Pq;let hz:(vv st).length<sizeLine:=dQ (by unfold vv;rw[ae];let:=ok.ln;omega);refine b_ (N_ L4 hr 0 Y Wa.ins Wa.cls (Wa.rS _ ∎) lk3 Wa.li 3. (Bh 1 2 Y Y) hz λv Hc Hd g9 r=>?_);let Wd:=Wg Hc Hd (Pq.trans g9);cases r;refine fin Hc Hd al _ (f2.ent.trans (Pq.trans g9)) ∅ λ_ _=>#[C,dx,ak,ag,al,ad,at_,ah,ap,cs,xd,xp,Y,Qi,?_];let hn:iW (vv st) (bh m)=none:=tN λq' GY=>by
    let#[q0,h0,rfl]:=aj.mp GY;intro z;injection z with z
    exact oa (.inr ([<-z]▸aj.mpr #[q0,h0,Y]))
   refine#[[aI (pl)]▸Wd.ins,Wd.cls,Wd.rS,[aI (kl)]▸Wd.ki,[aI (gl)]▸Wd.ga,?_,[aI (bD ld)]▸Wd.de,Wd.dr,[aI (bD lt)]▸Wd.ti,[aI (bD lh)]▸Wd.ho,Wd.hl,[aI (bD lp)]▸Wd.pa,λi c q' e1 e2=>?_]
   .rw[aP];show some (HO.dK (putK (vv st) (bh m) (V.int rr)))>>(.dK ((st.lines ++ [(m,rr)]).map _));rw[p7 _ hn,aH];rfl
   .let#[xs,h1,h2]:=Wd.ce i c q' e1 e2;exact#[xs,by rw[aI (λz=>lc ([<-z]▸aF e1))];exact h1,h2]
  |desk q0=>
   refine b_ (kE f2 (gL hr lf 2 Y (ef (show("desk":O)≠"kind" by symm))) λQj Qk g1=>?_);let FK:=f2.grow g1;let Pp:=g1;refine b_ (kE FK (gL hr lf 2 Y (ef (show("desk":O)≠"gate" by symm))) λL0 L1 g2=>?_);let Gy:=FK.grow g2;let L3:=Pp.trans g2;refine b_ (kE Gy (gL hr lf 2 Y (ef (show("desk":O)≠"line" by symm))) λWG WH g3=>?_);let L4:=Gy.grow g3;let Pq:=L3.trans g3;refine b_ (Ca L4 (gL hr lf 2 Y (i_ _)) λT5 T6 g4=>?_);let Ql:=L4.grow g4;let Sq:=Pq.trans g4;let Wa:=Wg T5 T6 Sq;let Rt:=Wa.dr.length;rw[ae]at Rt;let hz:xd.length<sizeLine:=dQ (by let:=ok.dn;omega);let Aj:L2.cutD (aJ "desk"::Ent.rest (.desk q0)) (some 1) none=Ent.rest (.desk q0):=(lq (aJ "desk"::Ent.rest (.desk q0)) 1).trans Y;refine b_ (EV (d:=gZ q0) Ql 0 Y Wa.ins Wa.cls (Wa.rS _ ∎) lk4 Wa.de (VE.to (p_ 1. (.yes aK) .no ?_) (by show dg (L2.cutD (aJ "desk"::Ent.rest (.desk q0)) (some 1) none)=_;rw[Aj];rfl)) hz λv Hc Hd g9 r=>?_)
   .intro z;let:=z.1;rw[show(1:Int)=((1:Nat):Int)from Y,HT.nH]at this;exact qQ7 this (by show ¬(min 1 5=0);decide)
   let Wd:=Wg Hc Hd (Sq.trans g9);refine fin Hc Hd ad _ (f2.ent.trans (Sq.trans g9)) ∅ λ_ _=>#[C,dx,ak,ag,al,ad,at_,ah,ap,cs,xd ++ [v],xp,Y,Qi,?_];refine#[[aI (pd)]▸Wd.ins,Wd.cls,Wd.rS,[aI (kd)]▸Wd.ki,[aI (gd)]▸Wd.ga,[aI (ld)]▸Wd.li,aP,?_,[aI (bD dt)]▸Wd.ti,[aI (bD dh)]▸Wd.ho,Wd.hl,[aI (bD dp)]▸Wd.pa,λi c q' e1 e2=>?_]
   .show bQ K Hc (xd ++ [v]) ((st.desks ++ [q0]).map gZ);rw[aH];exact Wd.dr.append (.cons r .nil)
   .let#[xs,h1,h2]:=Wd.ce i c q' e1 e2;exact#[xs,by rw[aI (λz=>dc ([<-z]▸aF e1))];exact h1,h2]
  |time dk kd2 wk=>
   refine b_ (kE f2 (gL hr lf 2 Y (ef (show("time":O)≠"kind" by symm))) λQj Qk g1=>?_);let FK:=f2.grow g1;let Pp:=g1;refine b_ (kE FK (gL hr lf 2 Y (ef (show("time":O)≠"gate" by symm))) λL0 L1 g2=>?_);let Gy:=FK.grow g2;let L3:=Pp.trans g2;refine b_ (kE Gy (gL hr lf 2 Y (ef (show("time":O)≠"line" by symm))) λWG WH g3=>?_);let L4:=Gy.grow g3;let Pq:=L3.trans g3;refine b_ (kE L4 (gL hr lf 2 Y (ef (show("time":O)≠"desk" by symm))) λT5 T6 g4=>?_);let Ql:=L4.grow g4;let Sq:=Pq.trans g4;refine b_ (Ca Ql (gL hr lf 2 Y (i_ _)) λHa5 Hb5 g5=>?_);let WK:=Ql.grow g5;let Xz:=Sq.trans g5;let Wa:=Wg Ha5 Hb5 Xz;let hz:(vw st).length<sizeLine:=dQ (by unfold vw;rw[ae];let:=ok.tn;omega);refine b_ (V2 WK hr 0 Y Wa.ins Wa.cls (Wa.rS _ ∎) lk5 Wa.ti 3. (Bh 1 2 Y Y) (Bh 1 3 Y Y) hz λv t Hc Hd g9 ht r=>?_);let gt9:di H2 f9 Hc (upd Hd t (.tup [.str dk,.str kd2])):=(Xz.trans g9).trans (.loose g9.sub ht);let Wd:=Wg Hc _ gt9;cases r;refine fin Hc _ at_ _ (f2.ent.trans gt9) ∅ λ_ _=>#[C,dx,ak,ag,al,ad,at_,ah,ap,cs,xd,xp,Y,Qi,?_];let hn:iW (vw st) (lV (dk,kd2))=none:=tN λq' GY=>by let#[q0,h0,rfl]:=aj.mp GY;intro z;let:=zV z;exact oa.1 ([<-this]▸aj.mpr #[q0,h0,Y])
   refine#[[aI (pt)]▸Wd.ins,Wd.cls,Wd.rS,[aI (kt)]▸Wd.ki,[aI (gt)]▸Wd.ga,[aI (lt)]▸Wd.li,[aI (dt)]▸Wd.de,Wd.dr,?_,[aI (bD th)]▸Wd.ho,Wd.hl,[aI (bD tp)]▸Wd.pa,λi c q' e1 e2=>?_]
   .rw[aP];show some (HO.dT (putK (vw st) (lV (dk,kd2)) (V.int wk)))>>(.dT ((st.times ++ [(dk,kd2,wk)]).map _));rw[p7 _ hn,aH];rfl
   .let#[xs,h1,h2]:=Wd.ce i c q' e1 e2;exact#[xs,by rw[aI (λz=>tc ([<-z]▸aF e1))];exact h1,h2]
  |hour dk ha hb=>
   refine b_ (kE f2 (gL hr lf 2 Y (ef (show("open":O)≠"kind" by symm))) λQj Qk g1=>?_);let FK:=f2.grow g1;let Pp:=g1;refine b_ (kE FK (gL hr lf 2 Y (ef (show("open":O)≠"gate" by symm))) λL0 L1 g2=>?_);let Gy:=FK.grow g2;let L3:=Pp.trans g2;refine b_ (kE Gy (gL hr lf 2 Y (ef (show("open":O)≠"line" by symm))) λWG WH g3=>?_);let L4:=Gy.grow g3;let Pq:=L3.trans g3;refine b_ (kE L4 (gL hr lf 2 Y (ef (show("open":O)≠"desk" by symm))) λT5 T6 g4=>?_);let Ql:=L4.grow g4;let Sq:=Pq.trans g4;refine b_ (kE Ql (gL hr lf 2 Y (ef (show("open":O)≠"time" by symm))) λHa5 Hb5 g5=>?_);let WK:=Ql.grow g5;let Xz:=Sq.trans g5;refine b_ (Ca WK (gL hr lf 2 Y (i_ _)) λT7 T8 g6=>?_);let ff6:=WK.grow g6;let Sr:=Xz.trans g6;let Wa:=Wg T7 T8 Sr;let hll:=vz st.hours;let NV:=tP st.hours;let okh:=ok.hn;let hz:(gF (cw st.hours) cs).length<sizeLine:=dQ (by unfold gF;rw[ae,sr];omega);let Aj:L2.cutD (aJ "open"::Ent.rest (.hour dk ha hb)) (some 2) none=[.int ha,.int hb]:=(lq (aJ "open"::Ent.rest (.hour dk ha hb)) 2).trans Y;let ha0:T7 ah=none:=by let#[o,e1,e2]:=o2 ah ∅;exact(f2.ent.trans Sr).still e2 e1
   let Ss:cw (st.hours ++ [(dk,ha,hb)])=hG (cw st.hours) dk (ha,hb):=vy _ _;let Pr:=AA (ha,hb) dk W.hl;refine b_ (Ob (d:=pairD (ha,hb)) ff6 0 Y Wa.ins Wa.cls (Wa.rS _ ∎) lk6 Wa.ho 3. (VE.to (p_ 1. (.yes aK) .no ?_) (by show dg (L2.cutD (aJ "open"::Ent.rest (.hour dk ha hb)) (some 2) none)=_;rw[Aj];rfl)) hz Y ha0 (λv hv=>?_) (λc xs v t Hc Hd Bp hcc htt g9 ht0 r=>?_) (λv c Hc Hd Bp hcn s9 s10 nw old hda hdc hc0 ha9 r=>?_))
   .intro z;let:=z.1;rw[show(2:Int)=((2:Nat):Int)from Y,HT.nH]at this;exact qQ7 this (by show ¬(min 2 4=0);decide)
   .rcases Pr with⟨h1,_⟩|⟨i,c,q',h1,h2,h3,h4⟩
    .let hv:iW (gF (cw st.hours) cs) (bh dk)>>v:=hv;rw[h1]at hv;cases hv
    .let hv:some v>>(V.ref c):=hv.symm.trans h3;cases hv;let#[xs,x1,x2]:=Wa.ce i c q' h2 h1;refine#[c,xs,Y,x1,dQ ?_];let:=x2.length;rw[ae]at this;let:=NV q' (aF h1);omega
   .rcases Pr with⟨h1,_⟩|⟨i,c',q',h1,h2,h3,h4⟩
    .let Bp:iW (gF (cw st.hours) cs) (bh dk)>>(V.ref c):=Bp;rw[h1]at Bp;cases Bp
    .let Bp:some (V.ref c')>>(V.ref c):=h3.symm.trans Bp;cases Bp;let Wd:=Wg Hc Hd (Sr.trans g9);let Yj:c∈cs:=aF h2;let#[xs',x1,x2]:=Wd.ce i c q' h2 h1;let ex:xs'=xs:=by let:=g9.big _ _ hcc;rw[this]at x1;cases x1;rfl
     subst ex;let Lz:i<(cw st.hours).length:=(aq.mp h1).1;let Iu:cw (ik st (.hour dk ha hb)).hours=(cw st.hours).set i (q'.1,q'.2 ++ [(ha,hb)]):=by show cw (st.hours ++ [(dk,ha,hb)])=_;rw[Ss,h4]
     refine fin Hc Hd c _ (f2.ent.trans (Sr.trans g9)) (by simp[Yj]) λ_ _=>#[C,dx,ak,ag,al,ad,at_,ah,ap,cs,xd,xp,Y,Qi,?_];let nc:∀x,x∉cs->x≠c:=λx hx z=>hx ([z]▸Yj);refine#[[aI (nc _ pc)]▸Wd.ins,Wd.cls,Wd.rS,[aI (nc _ kc)]▸Wd.ki,[aI (nc _ gc)]▸Wd.ga,[aI (nc _ lc)]▸Wd.li,[aI (nc _ dc)]▸Wd.de,Wd.dr,[aI (nc _ tc)]▸Wd.ti,?_,?_,[aI (nc _ apc)]▸Wd.pa,λj c2 q2 e1 e2=>?_]
     .rw[aI (nc _ hc),Wd.ho,Iu]
      congr 2
      refine(yu ?_).symm;rw[kf];refine iG λn=>?_;by_cases hn:n=i
      .subst hn;rw[aR ([ae]▸Lz),ay,h1];rfl
      .rw[aO (bD hn)]
     .rw[Iu,eT];exact Wd.hl
     .rw[Iu]at e2;by_cases hj:j=i
      .subst hj;rw[h2]at e1;cases e1;rw[aR Lz]at e2;cases e2;refine#[xs' ++ [v],aP,?_];show bQ K Hc (xs' ++ [v]) ((q'.2 ++ [(ha,hb)]).map pairD);rw[aH];exact x2.append (.cons r .nil)
      .rw[aO (bD hj)]at e2;let#[ys,y1,y2]:=Wd.ce j c2 q2 e1 e2;let zm:c2≠c:=λz=>by
        subst z;let l1:=aq.mp e1;let l2:=aq.mp h2;let#[l1a,l1b]:=l1;let#[l2a,l2b]:=l2;rcases Nat.lt_or_gt_of_ne hj with ng|ng
        .exact ky.mp ncs j i l1a l2a ng (by rw[l1b,l2b])
        .exact ky.mp ncs i j l2a l1a ng (by rw[l1b,l2b])
       exact#[ys,[aI zm]▸y1,y2]
   .rcases Pr with⟨h1,h4⟩|⟨i,c',q',h1,h2,h3,h4⟩
    .let gH:=f2.ent.trans Sr;let hcH:H c=none:=gH.big.free hcn;let Sv:c∉p::ak::ag::al::ad::at_::ah::ap::cs:=λz=>by let#[o,e1,_]:=o2 c z;rw[hcH]at e1;cases e1
     let Iu:cw (ik st (.hour dk ha hb)).hours=cw st.hours ++ [(dk,[(ha,hb)])]:=by show cw (st.hours ++ [(dk,ha,hb)])=_;rw[Ss,h4]
     let zem:∀x∈p::ak::ag::al::ad::at_::ah::ap::cs,Hc x=none:=λx hx=>by
      let#[o,e1,e2]:=o2 x hx;let:T7 x=none:=gH.still e2 e1;cases e:Hc x with
      |none=>rfl
      |some u=>
       rcases nw x (by rw[e];simp)with z|z
       .exact qQ7 this z
       .rw[gH.big _ _ e1]at z;cases z
     let T9:∀x∈p::ak::ag::al::ad::at_::ah::ap::cs,x≠ah->∀u,T8 x>>u->(upd Hd c (.lst [v])) x>>u:=λx hx hxa u e=>by rw[aI (λz=>Sv ([<-z]▸hx))];exact old x u e hxa
     refine q Hc (upd Hd c (.lst [v])) (p::ak::ag::al::ad::at_::ah::ap::(cs ++ [c])) (gH.eE.trans s9) (λb u e=>?_) (λb z=>?_) (λx hx=>?_) (λb u e Rj=>?_) #[C,dx,ak,ag,al,ad,at_,ah,ap,cs ++ [c],xd,xp,Y,?_,?_]
     .rw[aI (bu e hc0)];exact s10 b u e
     .rcases nw b z with z|z
      .exact gH.new b z
      .exact .inr (gH.big.free z)
     .let hx:x∈(p::ak::ag::al::ad::at_::ah::ap::cs) ++ [c]:=by simpa using hx
      rcases aT.mp hx with hx|hx
      .refine#[zem x hx,?_,.inl hx];rw[aI (λz=>Sv ([<-z]▸hx))];let#[o,e1,_]:=o2 x hx;by_cases hxa:x=ah
       .rw[hxa,hda];simp
       .rw[old x o (gH.big _ _ e1) hxa];simp
      .rw[aA.mp hx];exact#[hc0,by rw[aP];simp,.inr hcH]
     .let hbc:b≠c:=λz=>by rw[z,hcH]at e;cases e
      rw[aI hbc];exact old b u (gH.big _ _ e) (λz=>Rj (by rw[z];simp))
     .let:(p::ak::ag::al::ad::at_::ah::ap::(cs ++ [c]))=(p::ak::ag::al::ad::at_::ah::ap::cs) ++ [c]:=∅
      rw[this,cF];exact#[Qi,∅,λx hx y hy z=>Sv ([<-aA.mp hy,<-z]▸hx)]
     .refine#[T9 p ∅ ph _ Wa.ins,Wa.cls,Wa.rS,T9 ak ∅ kh _ Wa.ki,T9 ag ∅ gh _ Wa.ga,T9 al ∅ lh _ Wa.li,T9 ad ∅ dh _ Wa.de,Wa.dr.mono s9,T9 at_ ∅ th _ Wa.ti,?_,?_,#[T9 ap ∅ (bD hp) _ Wa.pa.1,Wa.pa.2.mono s9],λj c2 q2 e1 e2=>?_]
      .let hda:Hd ah>>(.dK (putK (gF (cw st.hours) cs) (bh dk) (.ref c))):=hda;rw[aI (λz=>Sv (by rw[<-z];simp)),hda,Iu,p7 _ h1,Ir W.hl]
      .rw[Iu,aN,aN,W.hl];rfl
      .rw[Iu]at e2;by_cases hj:j<cs.length
       .rw[bN hj]at e1;rw[bN ([<-W.hl]▸hj)]at e2;let#[ys,y1,y2]:=Wa.ce j c2 q2 e1 e2;let hm:c2∈cs:=aF e1;exact#[ys,T9 c2 (by simp[hm]) (λz=>hc ([<-z]▸hm)) _ y1,y2.mono s9]
       .let hl:=W.hl;let hj2:j=cs.length:=by let:=(aq.mp e1).1;rw[aN,jH]at this;omega
        subst hj2;rw[bF (aE _),yG]at e1;rw[bF (),show cs.length-(cw st.hours).length=0 from by omega]at e2;cases e1;cases e2;exact#[[v],aP,.cons r .nil]
    .let Bp:iW (gF (cw st.hours) cs) (bh dk)=none:=Bp;rw[h3]at Bp;cases Bp
  |pace T_ WL Dl WM=>
   refine b_ (kE f2 (gL hr lf 2 Y (ef (show("pace":O)≠"kind" by symm))) λQj Qk g1=>?_);let FK:=f2.grow g1;let Pp:=g1;refine b_ (kE FK (gL hr lf 2 Y (ef (show("pace":O)≠"gate" by symm))) λL0 L1 g2=>?_);let Gy:=FK.grow g2;let L3:=Pp.trans g2;refine b_ (kE Gy (gL hr lf 2 Y (ef (show("pace":O)≠"line" by symm))) λWG WH g3=>?_);let L4:=Gy.grow g3;let Pq:=L3.trans g3;refine b_ (kE L4 (gL hr lf 2 Y (ef (show("pace":O)≠"desk" by symm))) λT5 T6 g4=>?_);let Ql:=L4.grow g4;let Sq:=Pq.trans g4;refine b_ (kE Ql (gL hr lf 2 Y (ef (show("pace":O)≠"time" by symm))) λHa5 Hb5 g5=>?_);let WK:=Ql.grow g5;let Xz:=Sq.trans g5;refine b_ (kE WK (gL hr lf 2 Y (ef (show("pace":O)≠"open" by symm))) λT7 T8 g6=>?_);let ff6:=WK.grow g6;let Sr:=Xz.trans g6;let Wa:=Wg T7 T8 Sr;let Rt:=Wa.pa.2.length;rw[ae]at Rt;let hz:(j_ st.paces xp).length<sizeLine:=dQ (by unfold j_;rw[ae,sr];let:=ok.an;omega);let Aj:L2.cutD (aJ "pace"::Ent.rest (.pace T_ WL Dl WM)) (some 2) none=[.str WL,.int Dl,.int WM]:=(lq (aJ "pace"::Ent.rest (.pace T_ WL Dl WM)) 2).trans Y;refine b_ (N_ (d:=Cp (T_,WL,Dl,WM)) ff6 hr 0 Y Wa.ins Wa.cls (Wa.rS _ ∎) lk7 Wa.pa.1 3. (VE.to (p_ 1. (.yes aK) .no ?_) (by show dg (L2.cutD (aJ "pace"::Ent.rest (.pace T_ WL Dl WM)) (some 2) none)=_;rw[Aj];rfl)) hz λv Hc Hd g9 r=>?_)
   .intro z;let:=z.1;rw[show(2:Int)=((2:Nat):Int)from Y,HT.nH]at this;exact qQ7 this (by show ¬(min 2 5=0);decide)
   let Wd:=Wg Hc Hd (Sr.trans g9);refine fin Hc Hd ap _ (f2.ent.trans (Sr.trans g9)) ∅ λ_ _=>#[C,dx,ak,ag,al,ad,at_,ah,ap,cs,xd,xp ++ [v],Y,Qi,?_];let hn:iW (j_ st.paces xp) (bh T_)=none:=tN λq' GY=>by
    let hm:q'.1∈(j_ st.paces xp).map (·.1):=aj.mpr #[q',GY,Y];rw[tM Rt]at hm;let#[q0,h0,h1]:=aj.mp hm;intro z;rw[<-h1]at z;injection z with z
    exact oa.1 ([<-z]▸aj.mpr #[q0,h0,Y])
   refine#[[aI pp]▸Wd.ins,Wd.cls,Wd.rS,[aI kp]▸Wd.ki,[aI gp]▸Wd.ga,[aI lp]▸Wd.li,[aI dp]▸Wd.de,Wd.dr,[aI tp]▸Wd.ti,[aI hp]▸Wd.ho,Wd.hl,#[?_,?_],λi c q' e1 e2=>?_]
   .rw[aP];show some (HO.dK (putK (j_ st.paces xp) (bh T_) v))>>(.dK (j_ (st.paces ++ [(T_,WL,Dl,WM)]) (xp ++ [v])));rw[p7 _ hn,Iq Rt]
   .show bQ K Hc (xp ++ [v]) ((st.paces ++ [(T_,WL,Dl,WM)]).map Cp);rw[aH];exact Wd.pa.2.append (.cons r .nil)
   .let#[xs,h1,h2]:=Wd.ce i c q' e1 e2;exact#[xs,by rw[aI (λz=>apc ([<-z]▸aF e1))];exact h1,h2]
end
def q5:Pl:=#[[],[],[],[],[],[],[]]
def xH(es:!Ent)(i:Nat):Pl:=(es.take i).foldl ik q5
theorem L5(h:es[i]?>>e):xH es (i+1)=ik (xH es i) e:=by unfold xH;rw[cB,h,d_];rfl
theorem Pt(es:!Ent):xH es es.length=es.foldl ik q5:=by unfold xH;rw[bV]
structure WN(es:!Ent):Prop where
 ent:∀e∈es,kI e
 pl:∀i,i<=es.length->jh (xH es i)
 add:∀(i:Nat)e,es[i]?>>e->tK (xH es i) e
section
variable{P:bW}{w:cP}{K:ai}{mg:O->Option M}{base:dv}{f:J}
structure PlC(P:bW)(w:cP)(K:ai)(mg:O->Option M)(base:dv):Prop where
 ex:∃C fi fd,mg "Plant"=some (.ref C)/\Ec K C/\(∀f∈fsN,jN K C f)/\Mk K C fi/\dW P w K mg base jO 1 fi fd ["self"] (Pn C)/\Binds K fd ["self"] []
abbrev Nrp:!O:=["text","plant","number","words","entry","word"]
theorem Ub:cg Nrp ["text"] (bA (top 26)):=by grind
def Rrp(K:ai)(ds:!U)(Ua:UR):Prop:=∃(x:O)(es:!Ent),ds=[.str x]/\yl x/\(rowsOf x).map (·.2)=es.map gS/\WN es/\Ua=Xm λa=>Az K a (es.foldl ik q5)
theorem zen(F:kz K "read_plant" "read_plant" (top 26) f fd)(n:Np mg w.params K)(T:PlC P w K mg base)(C1:a_ P w K mg base 2 "rows_of" ["text"] (Qd K Rro))(C2:a_ P w K mg base 8 "entry_of" ["words"] (gi K Reo))(C3:a_ P w K mg base 3 "fault_of" FG (gi K Rfo))(C4:a_ P w K mg base 1 "add_entry" FG (N8 K Pl (Az K) T3)):dW P w K mg base jO 9 f fd ["text"] (spU K (Rrp K)):=
 zc9 F Ub (by ext) λ_ _ h=>by
  let#[x,es,rfl,ox,Uc,WO,rfl]:=h;intro gk A outer s H E hr;let nd:Nrp.Nodup:=Ub.nd;let#[C,fi,fdi,mC,cl,na,Ma,FI,bI]:=T.ex;let hlen:(rowsOf x).length=es.length:=by let:=qQ6 dq Uc;simpa using this
  refine qf λB0 B σ H0 Hh D fr MH=>?_;refine bO (V1 1 Ma FI (hr.mono ()) mC bI (λp dx E' hp hdx hpd=>?_) nd);refine#[p,dx,Y,aP,λak ag al ad at_ ah ap H' mid=>#[Y,?_]];let KC:∀b,(upd (upd Hh dx (.own p)) p (.ins C dx [])) b=none->Hh b=none:=λb hb=>by
   let h1:b≠p:=λz=>by rw[z,aP]at hb;cases hb
   rw[aI h1]at hb;let h2:b≠dx:=λz=>by rw[z,aP]at hb;cases hb
   rw[aI h2]at hb;exact hb
  let J5:∀b o,Hh b>>o->H' b>>o:=λb o e=>by let h1:b≠p:=bu e hp;refine mid.old b o ?_ h1;rw[aI h1,aI (bu e hdx)];exact e
  let G0:OF K B0 B (Az K p (xH es 0)) H0 H' (σ.set 1 (some (.ref p))) [.val (.str x),.ref p,.un,.un,.un,.un]:=by
   let g:di H0 Hh H0 H':=#[J5,cy.refl _,λb u e=>J5 b u (fr.sub b u e),λ_ z=>.inl z];refine#[(fr.grow g).qd (i:=1) (v:=.ref p) (sl:=.ref p) Y Y,Y,[p,ak,ag,al,ad,at_,ah,ap],λa ha=>?_,C,dx,ak,ag,al,ad,at_,ah,ap,[],[],[],Y,by simpa using mid.nd,?_]
   .let Pu:Hh a=none/\H' a≠none:=by
     rcases au.mp ha with rfl|ha
     .exact#[hp,by rw[mid.ins];simp]
     .let ha':∃q∈[(ak,HO.dK []),(ag,.lst []),(al,.dK []),(ad,.lst []),(at_,.dT []),(ah,.dK []),(ap,.dK [])],q.1=a:=by simp only[au,aS,or_false]at ha;rcases ha with rfl|rfl|rfl|rfl|rfl|rfl|rfl<;>simp
      let#[q,hq,rfl]:=ha';exact#[KC _ (mid.fresh q hq),by rw[mid.ob q hq];simp]
    exact#[fr.sub.free Pu.1,fr.ent.big.free Pu.1,Pu.2]
   .exact#[mid.ins,cl,na,mid.ob (ak,.dK []) ∅,mid.ob (ag,.lst []) ∅,mid.ob (al,.dK []) ∅,mid.ob (ad,.lst []) ∅,.nil,mid.ob (at_,.dT []) ∅,mid.ob (ah,.dK []) ∅,Y,#[mid.ob (ap,.dK []) ∅,.nil],λi c q e1=>by simp at e1]
  refine bO (ye (tgt:=.tup [2,3]) (ds:=(rowsOf x).map Fj) (λi=>Az K p (xH es i)) (λi=>Az.mono) G0 bL Y (dX (VO.ve (zk C1 (hr.mono ()) {0.} #[x,Y,ox,Y])))
   (fh Y (bx (fP 2 nd) (bx (fP 3 nd) dU))) (λi d hd=>?_) (λσ2 Ha Hb G=>?_))
  .obtain⟨r,hri,rfl⟩:∃r,(rowsOf x)[i]?>>r/\d=Fj r:=by
    rw[ay]at hd;cases e:(rowsOf x)[i]? with
    |none=>rw[e]at hd;cases hd
    |some r=>rw[e]at hd;cases hd;exact#[r,Y,Y]
   let Lz:i<(rowsOf x).length:=(aq.mp hri).1;let Xg:es[i]?>>es[i]:=ax ();let hw:r.2=gS es[i]:=by
    let h1:((rowsOf x).map (·.2))[i]?>>r.2:=by rw[ay,hri];rfl
    rw[Uc,ay,Xg]at h1;exact(bK h1).symm
   let oe:=WO.ent _ (eD (by omega:i<es.length));let oa:=WO.add i _ Xg;let op:=WO.pl i ();let zao:=L5 Xg;generalize es[i]=e at *;refine#[[.val (.str x),.ref p,.val (.int (r.1:Nat)),.val (.list (r.2.map .str)),.un,.un],Y,Y,λD C0 σ' c9 cY G q=>?_];refine bO (Dj Az.mono G (dC 4 (d:=Ik e) (bE C2 hr {3.} #[e,by rw[hw];rfl,oe,Y]) nd) Y λσ1 Qj Qk G1=>?_);refine bO (VY Az.mono G1 1 5 (d:=.str "") Y Az.rep (bE C3 (hr.mono ()) {1.,4.} #[xH es i,e,Y,op,oe,oa,Y]) Y Y (λσ2 L0 L1 G2=>?_) nd);refine bO (Dj Az.mono G2 (bP (VT.to (lL hr dz dz 5. aW) (qQ6 (λb=>not b) (i_ _))) bw) Y λσ3 WG WH G3=>?_);refine b_ (Zc (s:=xH es i) (s':=xH es (i+1)) C4 (hr.mono ()) G3 Az.mono 1 Y 4. #[e,Y,op,oe,oa,zao] λT5 T6 G4=>?_);exact q _ _ _ (G4.forget Az.mono #[.inr Y,.inr Y,.inl Y,.inl Y,.inl Y,.inl Y,trivial] Y)
  .let e:xH es ((rowsOf x).map Fj).length=es.foldl ik q5:=by rw[ae,hlen,Pt]
   rw[e]at G;exact b_ (V6 G 1 Y (λ_ _ as h=>#[as,λ_ z=>z,h]) MH)
end
end Mg
namespace Mg
open L2 PySem PyProof.Rows
variable{p:Pl}
structure oH(p:Pl):Prop where
 kn:(p.kinds.map (·.1)).Nodup
 pn:(p.gates++p.lines.map (·.1)).Nodup
 dn:(p.desks.map (·.name)).Nodup
 dk:∀d∈p.desks,Il d/\(∀x∈d.places,x∈p.gates++p.lines.map (·.1))/\(d.to=""\/∃r,(d.to,r)∈p.lines/\gQ d.rule d.places.length<=r)
 dj:(p.desks.map (·.places)).flatten.Nodup
 tn:(p.times.map λq=>(q.1,q.2.1)).Nodup
 tm:∀q∈p.times,q.1∈p.desks.map (·.name)/\q.2.1∈p.kinds.map (·.1)/\1<=q.2.2
 hr:∀q∈p.hours,q.1∈p.desks.map (·.name)/\q.2.1<q.2.2
 kk:∀q∈p.kinds,∀i,q.2>>i->1<=i/\cH i
 ll:∀q∈p.lines,1<=q.2
 pc:(p.paces.map (·.1)).Nodup
 pp:∀q∈p.paces,q.1∈p.gates/\q.2.1∈p.kinds.map (·.1)/\1<=q.2.2.1/\1<=q.2.2.2
def jV(p:Pl):!Ent:=p.kinds.map (λq=>Ent.kind q.1 q.2)++p.gates.map Ent.gate++p.lines.map (λq=>Ent.line q.1 q.2)++p.desks.map Ent.desk++p.times.map (λq=>Ent.time q.1 q.2.1 q.2.2)++p.hours.map (λq=>Ent.hour q.1 q.2.1 q.2.2)++p.paces.map (λq=>Ent.pace q.1 q.2.1 q.2.2.1 q.2.2.2)
def jE:Pl->!Ent->Prop
 |st,[]=>jh st
 |st,e::es=>jh st/\kI e/\tK st e/\jE (ik st e) es
theorem jE.app:∀{A B:!Ent}{st:Pl},jE st A->jE (A.foldl ik st) B->jE st (A++B)
 | [],_,_,_,h=>h
 |_::_,_,_,#[h1,h2,h3,h4],h=>#[h1,h2,h3,h4.app h]
theorem jE.es:∀{es:!Ent}{st:Pl},jE st es->(∀e∈es,kI e)/\(∀i,i<=es.length->jh ((es.take i).foldl ik st))/\∀(i:Nat)e,es[i]?>>e->tK ((es.take i).foldl ik st) e
 | [],st,h=>#[λe he=>(by cases he),λi hi=>[List.take_nil]▸h,λi e he=>by simp at he]
 |e::es,st,#[h1,h2,h3,h4]=>by
  let#[a,b,c]:=h4.es;refine#[λx hx=>?_,λi hi=>?_,λi x hx=>?_]
  .rcases au.mp hx with rfl|hx
   .exact h2
   .exact a x hx
  .cases i with
   |zero=>exact h1
   |succ i=>exact b i ↑hi
  .cases i with
   |zero=>cases hx;exact h3
   |succ i=>exact c i x ↑hx
theorem seg{α:Type}(mk:α->Ent)(put:!α->Pl)(h1:∀l x,ik (put l) (mk x)=put (l ++ [x]))(l:!α)(hok:∀pre x post,l=pre++x::post->jh (put pre)/\kI (mk x)/\tK (put pre) (mk x))(OW:jh (put l)):
  jE (put []) (l.map mk)/\(l.map mk).foldl ik (put [])=put l:=by
 let go:∀(rest pre:!α),l=pre++rest->jE (put pre) (rest.map mk)/\(rest.map mk).foldl ik (put pre)=put l:=by
  intro rest;induction rest with
  |nil=>intro pre e;rw[bC]at e;subst e;exact#[OW,Y]
  |cons x rest ih=>
   intro pre e;let#[a,b,c]:=hok pre x rest e;let#[i1,i2]:=ih (pre ++ [x]) (by rw[e];simp);rw[ao];refine#[#[a,b,c,?_],?_]
   .rwa[h1]
   .rwa[dN,h1]
 exact go l [] Y
theorem ja(h:jh p)(k1:q.kinds.length<=p.kinds.length)(k2:∀x∈q.kinds,x∈p.kinds)(g1:q.gates.length<=p.gates.length)(g2:∀x∈q.gates,x∈p.gates)(l1:q.lines.length<=p.lines.length)(l2:∀x∈q.lines,x∈p.lines)(d1:q.desks.length<=p.desks.length)(d2:∀x∈q.desks,x∈p.desks)(t1:q.times.length<=p.times.length)(t2:∀x∈q.times,x∈p.times)(h1:q.hours.length<=p.hours.length)(h2:∀x∈q.hours,x∈p.hours)(a1:q.paces.length<=p.paces.length)(a2:∀x∈q.paces,x∈p.paces):jh q:=
 #[bZ k1 h.kn,bZ g1 h.gn,bZ l1 h.ln,bZ d1 h.dn,bZ t1 h.tn,bZ h1 h.hn,λx hx=>h.kinds x (k2 x hx),λx hx=>h.gates x (g2 x hx),λx hx=>h.lines x (l2 x hx),λx hx=>h.desks x (d2 x hx),λx hx=>h.times x (t2 x hx),λx hx=>h.hours x (h2 x hx),bZ a1 h.an,λx hx=>h.paces x (a2 x hx)]
theorem mU{κ:Type}[DecidableEq κ]:∀{kvs:!(κ×U)}{k:κ}{v:U},(kvs.map (·.1)).Nodup->(k,v)∈kvs->iz kvs k>>v
 | [],_,_,_,h=>by cases h
 |q::l,k,v,nd,h=>by
  rw[ao,cD]at nd;rcases au.mp h with rfl|h
  .exact ei Y
  .rw[bT (λe=>nd.1 ([e]▸aj.mpr #[(k,v),h,Y]))];exact mU nd.2 h
theorem vA{α:Type}{l pre post:!α}{x:α}(e:l=pre++x::post):pre.length<=l.length/\∀y∈pre,y∈l:=by subst e;exact#[by rw[aN];omega,λy hy=>bH _ hy]
theorem nX{α β:Type}{f:α->β}{l pre post:!α}{x:α}(nd:(l.map f).Nodup)(e:l=pre++x::post):f x∉pre.map f:=by subst e;rw[aH,ao,cF]at nd;intro z;exact nd.2.2 _ z _ aB Y
theorem Pw(ok:jh p)(g:oH p):jE q5 (jV p)/\(jV p).foldl ik q5=p:=by
 let n0:∀{α:Type}(x:α),x∈([]:!α)->False:=λx h=>by cases h
 let s1:=seg (λq:O×Option Int=>Ent.kind q.1 q.2) (λl=>#[l,[],[],[],[],[],[]]) (λ_ _=>rfl) p.kinds (λpre x post e=>by
  let#[e1,e2]:=vA e;let hx:x∈p.kinds:=by rw[e];simp
  exact#[ja ok e1 e2 (aY _) (λx h=>(n0 x h).elim) (aY _) (λx h=>(n0 x h).elim) (aY _) (λx h=>(n0 x h).elim) (aY _) (λx h=>(n0 x h).elim) (aY _) (λx h=>(n0 x h).elim) (aY _) (λx h=>(n0 x h).elim),#[(ok.kinds x hx).1,g.kk x hx],nX g.kn e])
  (ja ok (aE _) (λ_ h=>h) (aY _) (λx h=>(n0 x h).elim) (aY _) (λx h=>(n0 x h).elim) (aY _) (λx h=>(n0 x h).elim) (aY _) (λx h=>(n0 x h).elim) (aY _) (λx h=>(n0 x h).elim) (aY _) (λx h=>(n0 x h).elim));let pn:=g.pn;rw[cF]at pn;let s2:=seg Ent.gate (λl=>#[p.kinds,l,[],[],[],[],[]]) (λ_ _=>rfl) p.gates (λpre x post e=>by
  let#[e1,e2]:=vA e;let hx:x∈p.gates:=by rw[e];simp
  refine#[ja ok (aE _) (λ_ h=>h) e1 e2 (aY _) (λx h=>(n0 x h).elim) (aY _) (λx h=>(n0 x h).elim) (aY _) (λx h=>(n0 x h).elim) (aY _) (λx h=>(n0 x h).elim) (aY _) (λx h=>(n0 x h).elim),ok.gates x hx,?_];rintro(h|h)
  .let:=nX (f:=id) ↑pn.1 e;exact this ↑h
  .cases h)
  (ja ok (aE _) (λ_ h=>h) (aE _) (λ_ h=>h) (aY _) (λx h=>(n0 x h).elim) (aY _) (λx h=>(n0 x h).elim) (aY _) (λx h=>(n0 x h).elim) (aY _) (λx h=>(n0 x h).elim) (aY _) (λx h=>(n0 x h).elim));let s3:=seg (λq:O×Int=>Ent.line q.1 q.2) (λl=>#[p.kinds,p.gates,l,[],[],[],[]]) (λ_ _=>rfl) p.lines (λpre x post e=>by
  let#[e1,e2]:=vA e;let hx:x∈p.lines:=by rw[e];simp
  refine#[ja ok (aE _) (λ_ h=>h) (aE _) (λ_ h=>h) e1 e2 (aY _) (λx h=>(n0 x h).elim) (aY _) (λx h=>(n0 x h).elim) (aY _) (λx h=>(n0 x h).elim) (aY _) (λx h=>(n0 x h).elim),#[(ok.lines x hx).1,g.ll x hx,(ok.lines x hx).2],?_];rintro(h|h)
  .exact pn.2.2 _ h _ (aj.mpr #[x,hx,Y]) Y
  .exact nX pn.2.1 e h)
  (ja ok (aE _) (λ_ h=>h) (aE _) (λ_ h=>h) (aE _) (λ_ h=>h) (aY _) (λx h=>(n0 x h).elim) (aY _) (λx h=>(n0 x h).elim) (aY _) (λx h=>(n0 x h).elim) (aY _) (λx h=>(n0 x h).elim));let s4:=seg Ent.desk (λl=>#[p.kinds,p.gates,p.lines,l,[],[],[]]) (λ_ _=>rfl) p.desks (λpre x post e=>by
  let#[e1,e2]:=vA e;let hx:x∈p.desks:=by rw[e];simp
  let#[q1,q2,q3]:=g.dk x hx;refine#[ja ok (aE _) (λ_ h=>h) (aE _) (λ_ h=>h) (aE _) (λ_ h=>h) e1 e2 (aY _) (λx h=>(n0 x h).elim) (aY _) (λx h=>(n0 x h).elim) (aY _) (λx h=>(n0 x h).elim),q1,nX g.dn e,λy hy hz=>?_,λy hy=>aT.mp (q2 y hy),?_]
  .let#[d,hd,hyd]:=hz;let dj:=g.dj;rw[e,aH,List.flatten_append,cF]at dj;exact dj.2.2 y (y0.mpr #[d.places,aj.mpr #[d,hd,Y],hyd]) y (y0.mpr #[x.places,∅,hy]) Y
  .rcases q3 with h|⟨r,h,hr⟩
   .exact .inl h
   .refine .inr #[r,mU ?_ (aj.mpr #[(x.to,r),h,Y]),hr];rw[nR];exact pn.2.1)
  (ja ok (aE _) (λ_ h=>h) (aE _) (λ_ h=>h) (aE _) (λ_ h=>h) (aE _) (λ_ h=>h) (aY _) (λx h=>(n0 x h).elim) (aY _) (λx h=>(n0 x h).elim) (aY _) (λx h=>(n0 x h).elim));let s5:=seg (λq:O×O×Int=>Ent.time q.1 q.2.1 q.2.2) (λl=>#[p.kinds,p.gates,p.lines,p.desks,l,[],[]]) (λ_ _=>rfl) p.times (λpre x post e=>by
  let#[e1,e2]:=vA e;let hx:x∈p.times:=by rw[e];simp
  let#[q1,q2,q3]:=g.tm x hx;let#[r1,r2,r3]:=ok.times x hx;exact#[ja ok (aE _) (λ_ h=>h) (aE _) (λ_ h=>h) (aE _) (λ_ h=>h) (aE _) (λ_ h=>h) e1 e2 (aY _) (λx h=>(n0 x h).elim) (aY _) (λx h=>(n0 x h).elim),#[r1,r2,q3,r3],nX (f:=λq:O×O×Int=>(q.1,q.2.1)) g.tn e,q1,q2])
  (ja ok (aE _) (λ_ h=>h) (aE _) (λ_ h=>h) (aE _) (λ_ h=>h) (aE _) (λ_ h=>h) (aE _) (λ_ h=>h) (aY _) (λx h=>(n0 x h).elim) (aY _) (λx h=>(n0 x h).elim));let s6:=seg (λq:O×Int×Int=>Ent.hour q.1 q.2.1 q.2.2) (λl=>#[p.kinds,p.gates,p.lines,p.desks,p.times,l,[]]) (λ_ _=>rfl) p.hours (λpre x post e=>by
  let#[e1,e2]:=vA e;let hx:x∈p.hours:=by rw[e];simp
  let#[q1,q2]:=g.hr x hx;let#[r1,r2,r3]:=ok.hours x hx;exact#[ja ok (aE _) (λ_ h=>h) (aE _) (λ_ h=>h) (aE _) (λ_ h=>h) (aE _) (λ_ h=>h) (aE _) (λ_ h=>h) e1 e2 (aY _) (λx h=>(n0 x h).elim),#[r1,r2,r3,q2],q1])
  (ja ok (aE _) (λ_ h=>h) (aE _) (λ_ h=>h) (aE _) (λ_ h=>h) (aE _) (λ_ h=>h) (aE _) (λ_ h=>h) (aE _) (λ_ h=>h) (aY _) (λx h=>(n0 x h).elim));let s7:=seg (λq:O×O×Int×Int=>Ent.pace q.1 q.2.1 q.2.2.1 q.2.2.2) (λl=>#[p.kinds,p.gates,p.lines,p.desks,p.times,p.hours,l]) (λ_ _=>rfl) p.paces (λpre x post e=>by
  let#[e1,e2]:=vA e;let hx:x∈p.paces:=by rw[e];simp
  let#[q1,q2,q3,q4]:=g.pp x hx;let#[r1,r2,r3,r4]:=ok.paces x hx;exact#[ja ok (aE _) (λ_ h=>h) (aE _) (λ_ h=>h) (aE _) (λ_ h=>h) (aE _) (λ_ h=>h) (aE _) (λ_ h=>h) (aE _) (λ_ h=>h) e1 e2,#[r1,r2,#[q3,r3],q4,r4],nX g.pc e,q1,q2])
  ok;unfold jV;simp only[bS];refine#[s1.1.app ?_,?_]
 .rw[s1.2];refine s2.1.app ?_;rw[s2.2];refine s3.1.app ?_;rw[s3.2];refine s4.1.app ?_;rw[s4.2];refine s5.1.app ?_;rw[s5.2];refine s6.1.app ?_;rw[s6.2];exact s7.1
 .rw[d_,show q5=#[[],[],[],[],[],[],[]]from Y,s1.2,d_,s2.2,d_,s3.2,d_,s4.2,d_,s5.2,d_,s6.2,s7.2]
theorem fz{x y:O}{c:Nat}(h1:c∉x.cps.toList)(h2:c∉y.cps.toList):c∉(x++y).cps.toList:=by rw[add_list,aT];exact λz=>z.elim h1 h2
theorem pB(hy:c∉y.cps.toList):∀{l:!O},(∀x∈l,c∉x.cps.toList)->c∉(bB y l).cps.toList
 | [],_=>by show c∉([]);simp
 | [x],h=>h x aB
 |x::z::l,h=>by exact fz (fz (h x aB) hy) (pB hy λu hu=>h u (aD _ hu))
theorem Iv(ok:jh p):(∀r∈fJ p,10∉r.cps.toList)/\(fJ p).map wordsOf=(jV p).map gS:=by
 let nn:∀{x:O},cU x->10∉x.cps.toList:=λh=>(fG h).2.2;let dn:∀{d:U},MF d->10∉(dG d).cps.toList:=λh=>(uw h).2.2;let nm:∀{i:Int},cH i->10∉(cM i).cps.toList:=λh=>(kH h.1 h.2).2.2;constructor
 .intro r hr;unfold fJ oC pw at hr;simp only[aT,aj]at hr;rcases hr with(((((⟨q,hq,rfl⟩|⟨q,hq,rfl⟩)|⟨q,hq,rfl⟩)|⟨q,hq,rfl⟩)|⟨q,hq,rfl⟩)|⟨q,hq,rfl⟩)|⟨q,hq,rfl⟩
  .let#[h1,h2]:=ok.kinds q hq;exact fz (fz (fz ∎ (nn h1)) ∎) (dn h2)
  .exact fz ∎ (nn (ok.gates q hq))
  .let#[h1,h2]:=ok.lines q hq;exact fz (fz (fz ∎ (nn h1)) ∎) (nm h2)
  .let#[h1,h2,h3,h4,h5]:=ok.desks q hq;refine fz (fz (fz (fz (fz (fz (fz ∎ (nn h1)) ∎) (dn (d:=.str q.to) h2)) ∎) (pB ∎ λx hx=>(rule_words h3 x hx).2.2)) ∎) (pB ∎ λx hx=>nn (h5 x hx))
  .let#[h1,h2,h3]:=ok.times q hq;refine pB ∎ λx hx=>?_;simp only[au,aS,or_false]at hx;rcases hx with rfl|rfl|rfl|rfl
   .symm
   .exact nn h1
   .exact nn h2
   .exact nm h3
  .let#[h1,h2,h3]:=ok.hours q hq;refine pB ∎ λx hx=>?_;simp only[au,aS,or_false]at hx;rcases hx with rfl|rfl|rfl|rfl
   .symm
   .exact nn h1
   .exact nm h2
   .exact nm h3
  .let#[h1,h2,h3,h4]:=ok.paces q hq;refine pB ∎ λx hx=>?_;simp only[au,aS,or_false]at hx;rcases hx with rfl|rfl|rfl|rfl|rfl
   .symm
   .exact nn h1
   .exact nn h2
   .exact nm h3
   .exact nm h4
 .unfold fJ oC pw jV;simp only[aH,aG]
  congr 1
  congr 1
  congr 1
  congr 1
  congr 1
  congr 1
  .exact dS λq hq=>H_ (ok.kinds q hq)
  .exact dS λq hq=>Ia (ok.gates q hq)
  .exact dS λq hq=>Ib (ok.lines q hq)
  .exact dS λq hq=>Ie (ok.desks q hq)
  .exact dS λq hq=>Ig (ok.times q hq)
  .exact dS λq hq=>Ih (ok.hours q hq)
  .exact dS λq hq=>Ii (ok.paces q hq)
theorem Ki(e:Ent):(gS e).isEmpty=false:=by cases e<;>rfl
theorem Cr(l:!O):∀k,((l.zipIdx k).filterMap λp=>if(wordsOf p.1).isEmpty then none else some (p.2,wordsOf p.1)).map (·.2)=(l.map wordsOf).filter λws=>not ws.isEmpty:=by
 induction l with
 |nil=>intro k;rfl
 |cons x l ih=>
  intro k;rw[List.zipIdx_cons,ao,iR];cases hx:(wordsOf x).isEmpty with
  |true=>rw[f6 (by simp only[hx];rfl),ih];rfl
  |false=>rw[c5 (by simp only[hx];rfl),ao,ih];rfl
theorem FL(ok:jh p)(hk:p.kinds≠[]):(rowsOf (lu p)).map (·.2)=(jV p).map gS:=by
 let#[h1,h2]:=Iv ok;unfold lu;rw[Cm (λz=>?_) h1,Cr,h2,List.filter_eq_self.mpr]
 .intro ws HZ;let#[e,_,rfl]:=aj.mp HZ;rw[Ki];rfl
 .unfold fJ oC pw at z;cases hkk:p.kinds with
  |nil=>exact hk hkk
  |cons q l=>rw[hkk]at z;simp at z
end Mg
namespace Mg
open L2 PySem PyProof.Rows
seal L2.VE L2.VS L2.qK L2.VT L2.VO L2.Q_
variable{p:J}{X:Cx}{e:bY}{fd:iu}{n:Int}{σ:L2.St}{δ:!Slot}
section
variable{K:ai}
def NR(K:ai)(p:J)(n:Int):OR:=LR K p [.int n]
theorem NR.mono:bM (NR K p n):=LR.mono
theorem NR.nt:Qf (NR K p n):=LR.nt
abbrev Ud:!O:=["_law_left","_law_many","_law_digit"]
theorem Kj:cg Ud ["_law_left","_law_many"] (bA (top 49)):=by grind
def xI(K:ai)(n:Int)(d2:!U)(n':Int)(Ua:UV):Prop:=∃m:Int,d2=[.int m]/\1<=m/\m<=1000/\n'=n/m/\Ua=kF K (.int (n%m))
theorem WQ{P:bW}{w:cP}{mg:O->Option M}{base:dv}{f:J}(F:kz K "_law_pick" "_law_pick" (top 49) f fd):dW P w K mg base jO 1 f fd ["_law_left","_law_many"] (Af K Int (NR K) (xI K)):=
 Ot F Kj ∅ (λ_ _ _ _ h=>by let#[_,rfl,_]:=h;rfl) λr n d2 n' Ua h=>by let#[m,rfl,h1,h2,rfl,rfl]:=h;intro gk A outer s0 H E hr B0 B H0 Hh σ D G qr qn;let nd:Ud.Nodup:=Kj.nd;refine bO (V9 (d:=.int (n%m)) NR.mono NR.nt G 2 (Om NR.nt (Seen.refl.set 0 Y LR.see) (fY (eS (d:=.int n) 0. aK Y) 1. ()) (.int _)) Y (λσ1 H1 cY G1=>?_) nd);refine bO (RG (j:=0) (d:=.int (n/m)) EM.mono G1.em 0 Y aK ∅ (Om (Sep.nt LR.nt EM.nt) (Seen.refl.set 0 Y (Sep.V7 LR.see)) (kQ (eS (d:=.int n) 0. aK Y) 1. #[(),()]) (.int _)) (λHa Hb G2=>?_));exact b_ (J2 (vi (R:=NR K r (n/m)) NR.mono (iB NR.mono 2.) G2.em' λv Hc Hd rr G3=>qr _ _ _ _ _ (G3.newD NR.mono (.refl G3.fr.sub) rr)))
end
section
variable{K:ai}
theorem iD{B0 B:Hp}{m: Int}{x:O}{p0 p1 pc:Pos}(C:a_ X.prog X.w X.K X.mg X.base 1 "_law_pick" ["_law_left","_law_many"] (Af X.K Int (NR X.K) (xI X.K)))(hr:eL 1 X.A)(i:Nat)(hi:δ[i]?>>(.ref p))(h:VE X e δ (.int m))(h1:1<=m)(h2:m<=1000)
  (hN:u5 X i x:=by ac_rfl)
  (hg:Gl X "_law_pick":=by rfl)(he:starEach (.Name x p0 :: [e]) X.env=(false,eval (.Name x p0) X.env)::starEach [e] X.env:=by rfl)(mw:rQ X pc [e]:=by rfl)(Nt:lF X e []:=by rfl):
  XE X B0 B σ δ (NR X.K p n) (.Call (.Name "_law_pick" p1) [.Name x p0,e] [] pc) (NR X.K p (n/m)) (.int (n%m)):=
 Dv C hr NR.mono i hi (λF mF=>wd (Sep.mono NR.mono mF) (J0 h) Dt Nt) #[m,Y,h1,h2,Y,Y] hN hg ⋯ he mw
theorem XE.to{B0 B:Hp}{R R1 R2:OR}{d1 d2:U}(h:XE X B0 B σ δ R e R1 d1)(eR:R1=R2)(ed:d1=d2):XE X B0 B σ δ R e R2 d2:=by subst eR;subst ed;exact h
def rT:O:="abcdefghijklmnopqrstuvwxyz"
def xJ:!O:=["to","by","from","desk","line","gate","kind","time","open","pace","eldest","rank","meet","turns"]
def oI(n m:Int):Nat->Int
 |0=>n
 |k+1=>oI n m k/m
def Px(i:Int):O:=#[(bf [97+i.toNat])]
def jW(n:Int):O:=if 1+n%9<9 then bB "" ((cv (1+n%9).toNat).map λk=>Px (oI (n/9/14) 26 k%26))else xJ.getD (n/9%14).toNat ""
def WR(n:Int):Int:=if 1+n%9<9 then oI (n/9/14) 26 (1+n%9).toNat else n/9/14
theorem FN:cz ("to by from desk line gate kind time open pace eldest rank meet turns":O) (" ":O)=xJ:=∎
theorem Sw(h0:0<=i)(h1:i<26):uk rT.cps.toList i>>(97+i.toNat):=by obtain⟨n,rfl⟩:∃n:Nat,i=(n:Int):=#[i.toNat,()];let hn:n<26:=();let go:∀n:Nat,n<26->uk rT.cps.toList (n:Int)>>(97+n):=∎;exact go n hn
abbrev zap:!O:=["_law_left","_law_told","_law_letters","_law_words","_law_size","_law_name","_law_some"]
theorem Py:cg zap ["_law_left","_law_told"] (bA (top 50)):=by grind
def cands(nm:O):!O:=nm::rT.cps.toList.map λc=>iF nm none (some 7)++(#[(bf [c])]:O)
def fresh(nm:O)(told:!O):Option O:=(cands nm).find? λz=>not (told.any λy=>decide (y=z))
def Ue(K:ai)(n:Int)(d2:!U)(n':Int)(Ua:UV):Prop:=∃(told:!O)(z:O),d2=[.list (told.map .str)]/\(∀x∈told,lD x)/\(∀y∈cands (jW n),lD y)/\(jW n).length<=100/\fresh (jW n) told>>z/\n'=WR n/\Ua=kF K (.str z)
def Fcd(nm:O):U->Option U
 | .str c=>some (.str (iF nm none (some 7)++c))
 |_=>none
theorem Pz(nm:O):(ni rT).filterMap (Fcd nm)=((rT.cps.toList.map λc=>iF nm none (some 7)++(#[(bf [c])]:O))).map .str:=by unfold ni;rw[cO,aG];exact filterMap_some λc _=>rfl
def Ffr(told:!O):U->Option U
 | .str z=>if(not (told.any λy=>decide (y=z)))=true then some (.str z)else none
 |_=>none
theorem DP(told:!O):∀l:!O,(l.map .str).filterMap (Ffr told)=(l.filter λz=>not (told.any λy=>decide (y=z))).map .str
 | []=>rfl
 |z::l=>by
  by_cases h:(not (told.any λy=>decide (y=z)))=true
  .let e:Ffr told (aJ z)>>(.str z):=qQ3 h;rw[ao,c5 e,iR,qQ3 h,ao,DP told l]
  .let e:Ffr told (aJ z)=none:=qQ2 h;rw[ao,f6 e,iR,qQ2 h,DP told l]
theorem FP(told:!O)(z:O):rG (.str z) (.list (told.map .str))=told.any λy=>decide (y=z):=by show(told.map aJ).any _=_;rw[List.any_map];exact qQ6 (λq=>told.any q) (funext λy=>bG y z)
theorem zar{P:bW}{w:cP}{mg:O->Option M}{base:dv}{f:J}(F:kz K "_law_spelt" "_law_spelt" (top 50) f fd)(rng:mg "range"=none)(C1:a_ P w K mg base 1 "_law_pick" ["_law_left","_law_many"] (Af K Int (NR K) (xI K))):dW P w K mg base jO 2 f fd ["_law_left","_law_told"] (Af K Int (NR K) (Ue K)):=
 Ot F Py ∅ (λ_ _ _ _ h=>by let#[_,_,rfl,_]:=h;rfl) λr n d2 n' Ua h=>by
  let#[told,z,rfl,ho,hok,WT,hz,rfl,rfl]:=h;intro gk A outer s0 H E hr B0 B H0 Hh σ D G qr qn;let nd:zap.Nodup:=Py.nd;let ncs:(["_law_sign","_law_name"]:!O).Nodup:=∎;let nco:(["_law_one","_law_told"]:!O).Nodup:=∎;let nc:(["_law_k","_law_letters","_law_left"]:!O).Nodup:=∎;refine bO (kT 2 NR.mono (iB (d:=.str rT) NR.mono aW) G Y (λv Ha Hb G1=>?_) nd);refine bO (kT 3 NR.mono (iB (d:=.list (xJ.map .str)) NR.mono (VO.ve (VO.to (jS aW aW ∎ (by rw[cL];symm)) (by rw[FN])))) G1 Y (λv1 Qj Qk G2=>?_) nd);refine bO (kT 4 NR.mono (uN oj (zP 1 (n%9)) NR.mono NR.mono (iB NR.mono aK) (iD C1 hr 0 Y aK ⋯ ⋯)) G2 Y (λv2 L0 L1 G3=>?_) nd);refine bO (kT 5 (d:=.str (xJ.getD (n/9%14).toNat "")) NR.mono (Cd pK (K6 ?ix) NR.mono NR.mono (iB NR.mono 3.) (iD C1 hr 0 Y aK ⋯ ⋯)) G3 Y (λv3 WG WH G4=>?_) nd)
  case ix=>let b0:=cX (n/9) (b:=14) ⋯;let b1:=cQ (n/9) (b:=14) ⋯;generalize n/9%14=i at b0 b1;obtain⟨m,rfl⟩:∃m:Nat,i=(m:Int):=#[i.toNat,()];rw[cN];refine cJ ?_;rw[ay,ax (by show m<14;omega),aQ,ax (by show m<14;omega)];rfl
  refine bO (yh NR.mono G4 Seen.refl (v5 4. aK) (λe H5 G5=>?T) (λe H5 G5=>?F))
  case T=>
   let hk9:n%9<9:=cQ _ ⋯;let hk0:0<=n%9:=cX _ ⋯;refine b_ (kT 5 (d:=.str (jW n)) (R':=NR K r (WR n)) NR.mono ?cmp G5 Y (λv4 T5 T6 G6=>?_) nd)
   case cmp=>
    let e9:1+n%9<9:=qQ4 e;unfold jW WR;rw[qQ3 e9,qQ3 e9];refine Wh (S2:=NR K r (oI (n/9/14) 26 (1+n%9).toNat)) (zs:=(cv (1+n%9).toNat).map λk=>Px (oI (n/9/14) 26 k%26)) NR.mono NR.mono (iB NR.mono aW) ?cm ?jz
    case jz=>
     let go:∀l:!Nat,((l.map λk=>Px (oI (n/9/14) 26 k%26)).map (·.length)).sum=l.length:=by
      intro l;induction l with
      |nil=>rfl
      |cons a l ih=>rw[ao,ao,qx,ih,bj];show 1+_=_;omega
     rw[go,cW,ae,cW];show _+_*0<=_;omega
    case cm=>
     let hl:(gy (1+n%9).toNat).length=(1+n%9).toNat:=fe _;refine XE.to (Oy (own:=["_law_k"]) (cap:=[2,0]) (N:=["_law_k","_law_letters","_law_left"]) (tgt:=.one 0) (ds:=gy (1+n%9).toNat) (λk=>NR K r (oI (n/9/14) 26 k)) (λk=>.str (Px (oI (n/9/14) 26 k%26))) (λ_=>NR.mono) Y #[Y,∎,∎,Y,Y,?cap] (wg NR.mono (iB NR.mono 4.) rng () ()) (λf s3 H3=>fP 0 nc) Y (small (by rw[hl];omega)) Y ?stp) (by rw[hl]) (by rw[hl,aG];rfl)
     case cap=>
      intro j hj;simp only[au,aS,or_false]at hj;rcases hj with rfl|rfl
      .exact#[(by show(2:Nat)<7;decide),jc Y,Y]
      .exact#[(by show(0:Nat)<7;decide),jc Y,Y]
     case stp=>intro k d hd;let XO:=aF hd;let#[q,hq,rfl]:=aj.mp XO;refine#[_,Y,Y,λf3 s3 H3 C0 C σ'=>?_];let b0:=cX (oI (n/9/14) 26 k) (b:=26) ⋯;let b1:=cQ (oI (n/9/14) 26 k) (b:=26) ⋯;exact Cd pK (Tp (by rw[cL];symm) (Sw b0 b1)) NR.mono NR.mono (iB NR.mono 1.) (iD C1 hr 2 Y aK ⋯ ⋯)
   refine bO (kT 6 NR.mono (iB (d:=.list ((cands (jW n)).map .str)) NR.mono ?som) G6 Y (λv6 T7 T8 G7=>?_) nd)
   case som=>
    refine VO.ve (VO.to (jt (d1:=[.str (jW n)]) (d2:=((rT.cps.toList.map λc=>iF (jW n) none (some 7)++(#[(bf [c])]:O))).map .str) (VO.ve (da {5.})) (VO.ve (VO.to (dF (own:=["_law_sign"]) (cap:=[5]) (N:=["_law_sign","_law_name"]) (tgt:=.one 0) (F:=Fcd (jW n)) (ds:=ni rT) Y #[Y,∎,∎,Y,Y,?cp] (Hu 2.) (λf s3 H3=>fP 0 ncs) Y (small ∎) (λd hd=>?bl)) (Pz (jW n)))) (small (by rw[ae,ae];show 1+rT.cps.toList.length<=1000000;symm))) Y)
    case cp=>intro j hj;simp only[au,aS,or_false]at hj;subst hj;exact#[(by show(5:Nat)<7;decide),jc Y,Y]
    case bl=>let#[c,hc,rfl]:=aj.mp hd;refine#[_,Y,λf s3 H3=>mI,λr oO f s3 H3=>?_];cases oO;let hsl:=GJ (jW n) none (some 7);exact eX (B8 1. (small ()) .no (.yes aK)) 0. (small (by show _+1<=_;omega))
   refine b_ (J2 (vi NR.mono (iB NR.mono (eS (d:=.str z) (ds:=((cands (jW n)).filter λz=>not (told.any λy=>decide (y=z))).map .str) ?cmq aK ?fst)) G7 λv Hc Hd rr G8=>qr _ _ _ _ _ (G8.newD NR.mono (.refl G8.fr.sub) rr)))
   case fst=>refine cJ (j:=0) ?_;rw[ay,<-Gs,List.head?_filter];show((fresh (jW n) told).map aJ)=_;rw[hz];rfl
   case cmq=>
    refine VO.ve (VO.to (dF (own:=["_law_one"]) (cap:=[1]) (N:=["_law_one","_law_told"]) (tgt:=.one 0) (F:=Ffr told) (ds:=(cands (jW n)).map .str) Y #[Y,∎,∎,Y,Y,?cq] (dX 6.) (λf s3 H3=>fP 0 nco) Y (small (by rw[ae];show(rT.cps.toList.map _).length+1<=_;rw[ae];symm)) (λd hd=>?bq)) (DP told (cands (jW n))))
    case cq=>intro j hj;simp only[au,aS,or_false]at hj;subst hj;exact#[(by show(1:Nat)<7;decide),jc Y,Y]
    case bq=>
     let#[y,hy,rfl]:=aj.mp hd;let lt:Lay 20 (.list (told.map .str)):=k_ (n:=19) λd hd=>by let#[u,hu,rfl]:=aj.mp hd;exact a9 (ho u hu)
     refine#[_,Y,λf s3 H3=>?_,λr oO f s3 H3=>?_]
     .refine uo (VT.to (sL hr Y (a9 (hok y hy)) lt 0. 1.) ?_);rw[FP];show _=Option.isSome (if(not (told.any λu=>decide (u=y)))=true then some (aJ y)else none);by_cases h:(not (told.any λu=>decide (u=y)))=true
      .rw[qQ3 h,h];rfl
      .rw[qQ2 h];exact pY.mpr h
     .let Bv:(if(not (told.any λu=>decide (u=y)))=true then some (aJ y)else none)>>r:=oO;split at Bv
      .cases Bv;exact pJ 0 Y
      .cases Bv
  case F=>
   let e9:¬1+n%9<9:=qQ5 e;let eq1:jW n=xJ.getD (n/9%14).toNat "":=by unfold jW;rw[qQ2 e9]
   let eq2:WR n=n/9/14:=by unfold WR;rw[qQ2 e9]
   rw[<-eq1,<-eq2]at G5;refine nO ?_;let G6:=G5;refine bO (kT 6 NR.mono (iB (d:=.list ((cands (jW n)).map .str)) NR.mono ?som) G6 Y (λv6 T7 T8 G7=>?_) nd)
   case som=>
    refine VO.ve (VO.to (jt (d1:=[.str (jW n)]) (d2:=((rT.cps.toList.map λc=>iF (jW n) none (some 7)++(#[(bf [c])]:O))).map .str) (VO.ve (da {5.})) (VO.ve (VO.to (dF (own:=["_law_sign"]) (cap:=[5]) (N:=["_law_sign","_law_name"]) (tgt:=.one 0) (F:=Fcd (jW n)) (ds:=ni rT) Y #[Y,∎,∎,Y,Y,?cp] (Hu 2.) (λf s3 H3=>fP 0 ncs) Y (small ∎) (λd hd=>?bl)) (Pz (jW n)))) (small (by rw[ae,ae];show 1+rT.cps.toList.length<=1000000;symm))) Y)
    case cp=>intro j hj;simp only[au,aS,or_false]at hj;subst hj;exact#[(by show(5:Nat)<7;decide),jc Y,Y]
    case bl=>let#[c,hc,rfl]:=aj.mp hd;refine#[_,Y,λf s3 H3=>mI,λr oO f s3 H3=>?_];cases oO;let hsl:=GJ (jW n) none (some 7);exact eX (B8 1. (small ()) .no (.yes aK)) 0. (small (by show _+1<=_;omega))
   refine b_ (J2 (vi NR.mono (iB NR.mono (eS (d:=.str z) (ds:=((cands (jW n)).filter λz=>not (told.any λy=>decide (y=z))).map .str) ?cmq aK ?fst)) G7 λv Hc Hd rr G8=>qr _ _ _ _ _ (G8.newD NR.mono (.refl G8.fr.sub) rr)))
   case fst=>refine cJ (j:=0) ?_;rw[ay,<-Gs,List.head?_filter];show((fresh (jW n) told).map aJ)=_;rw[hz];rfl
   case cmq=>
    refine VO.ve (VO.to (dF (own:=["_law_one"]) (cap:=[1]) (N:=["_law_one","_law_told"]) (tgt:=.one 0) (F:=Ffr told) (ds:=(cands (jW n)).map .str) Y #[Y,∎,∎,Y,Y,?cq] (dX 6.) (λf s3 H3=>fP 0 nco) Y (small (by rw[ae];show(rT.cps.toList.map _).length+1<=_;rw[ae];symm)) (λd hd=>?bq)) (DP told (cands (jW n))))
    case cq=>intro j hj;simp only[au,aS,or_false]at hj;subst hj;exact#[(by show(1:Nat)<7;decide),jc Y,Y]
    case bq=>
     let#[y,hy,rfl]:=aj.mp hd;let lt:Lay 20 (.list (told.map .str)):=k_ (n:=19) λd hd=>by let#[u,hu,rfl]:=aj.mp hd;exact a9 (ho u hu)
     refine#[_,Y,λf s3 H3=>?_,λr oO f s3 H3=>?_]
     .refine uo (VT.to (sL hr Y (a9 (hok y hy)) lt 0. 1.) ?_);rw[FP];show _=Option.isSome (if(not (told.any λu=>decide (u=y)))=true then some (aJ y)else none);by_cases h:(not (told.any λu=>decide (u=y)))=true
      .rw[qQ3 h,h];rfl
      .rw[qQ2 h];exact pY.mpr h
     .let Bv:(if(not (told.any λu=>decide (u=y)))=true then some (aJ y)else none)>>r:=oO;split at Bv
      .cases Bv;exact pJ 0 Y
      .cases Bv
end
section
variable{K:ai}{k:Nat}
abbrev zas:!O:=["_law_left","_law_many","_law_names","_law_k"]
theorem PB:cg zas ["_law_left","_law_many"] (bA (top 51)):=by grind
structure Ug(n:Int)(m:Nat)(nm:Nat->!O)(ns:Nat->Int):Prop where
 nm0:nm 0=[]
 ns0:ns 0=n
 len:∀k,(nm k).length<=k
 stp:∀k,k<m->∃z,(∀x∈nm k,lD x)/\(∀y∈cands (jW (ns k)),lD y)/\(jW (ns k)).length<=100/\fresh (jW (ns k)) (nm k)>>z/\nm (k+1)=nm k ++ [z]/\ns (k+1)=WR (ns k)
def PD(K:ai)(n:Int)(d2:!U)(n':Int)(Ua:UV):Prop:=∃(m:Nat)(nm:Nat->!O)(ns:Nat->Int),d2=[.int (m:Int)]/\m<=100/\Ug n m nm ns/\n'=ns m/\Ua=kF K (.list ((nm m).map .str))
theorem zat{P:bW}{w:cP}{mg:O->Option M}{base:dv}{f:J}(F:kz K "_law_spelt_all" "_law_spelt_all" (top 51) f fd)(rng:mg "range"=none)(C1:a_ P w K mg base 2 "_law_spelt" ["_law_left","_law_told"] (Af K Int (NR K) (Ue K))):dW P w K mg base jO 3 f fd ["_law_left","_law_many"] (Af K Int (NR K) (PD K)):=
 Ot F PB ∅ (λ_ _ _ _ h=>by let#[_,_,_,rfl,_]:=h;rfl) λr n d2 n' Ua h=>by
  let#[m,nm,ns,rfl,hm,S,rfl,rfl]:=h;intro gk A outer s0 H E hr B0 B H0 Hh σ D G qr qn;let nd:zas.Nodup:=PB.nd;refine bO (Du (ds:=[]) NR.mono G 2 (qO G (da cZ)) (λl=>rfl) (λl σ1 H1 cY G1=>?_) nd);let G2:OF K B0 B (Sep (NR K r (ns 0)) (LR K l ((nm 0).map .str))) H1 cY σ1 [.ref r,.val (.int (m:Int)),.ref l,.un]:=by rw[S.nm0,S.ns0];exact G1.swap
  refine bO (N7 (tgt:=.one 3) (λk=>Sep (NR K r (ns k)) (LR K l ((nm k).map .str))) (λ_=>[.ref r,.val (.int (m:Int)),.ref l,.un]) (λ_=>Sep.mono NR.mono LR.mono) G2 bL Y (sP (n:=(m:Int)) 1. rng () ()) (fP 3 nd) ?step λσ2 Ha Hb G3=>?_)
  case step=>
   intro k d hd;let hk:k<m:=by let:=(aq.mp hd).1;rw[fe]at this;simpa using this
   let#[z,z1,z2,z3,z4,z5,z6]:=S.stp k hk;let hl:=S.len k;refine#[_,Y,Y,λD C0 σ' c9 H' G4 q=>?_];refine b_ (Wi (R':=NR K r (ns (k+1))) NR.mono NR.mono G4 2 Y (RJ C1 hr NR.mono (λHa Hb Hc as #[e,xs,h1,h2]=>#[e,xs,h1,h2.yN (λd hd=>by rw[aA.mp hd];rfl)]) 0 2 Y Y #[nm k,z,Y,z1,z2,z3,z4,z6,Y] (λ_ _ _ r=>r.yN Y)) (dQ (by rw[ae];omega)) λHa Hb G5=>?_);refine q σ' Ha Hb ?_;show OF K _ B (Sep (NR K r (ns (k+1))) (LR K l ((nm (k+1)).map .str))) _ _ _ _;rw[z5,aH];exact G5.forget (Sep.mono NR.mono LR.mono) #[.inr Y,.inr Y,.inr Y,.inl Y,trivial] Y
  .rw[fe,cN]at G3;let#[Hc,G4]:=G3.swap.Zx NR.mono;exact b_ (Ou G3.fr 2 Y (qr _ _ _ _ _ G4))
end
def Sx(n:Int):Int:=if n%3=0 then 4 else if n%3=1 then 40 else 200
def lz:Int->Nat->Int
 |n,0=>n
 |n,k+1=>lz n k/3/Sx (lz n k)
def q_(n:Int)(k:Nat):Int:=lz n k/3%Sx (lz n k)
theorem PF(n:Int):1<=Sx n/\Sx n<=200:=by unfold Sx;split;decide;split<;>decide
theorem WU(n:Int):uk [eJ 4,.int 40,.int 200] (n%3)>>(.int (Sx n)):=by unfold Sx;rcases(by omega:n%3=0\/n%3=1\/n%3=2)with e|e|e<;>rw[e]<;>rfl
theorem PH(n:Int)(k:Nat):0<=q_ n k/\q_ n k<200:=by let:=PF (lz n k);let a1:=cX (lz n k/3) (b:=Sx (lz n k)) ();let a2:=cQ (lz n k/3) (b:=Sx (lz n k)) ();exact#[a1,by unfold q_;omega]
def jX(n:Int)(many:Nat):Rl×Int:=
 let n2:=lz (n/6) 2
 if n%6=1 then(.turns ((cv many).map λk=>1+oI n2 9 k%9),oI n2 9 many)
 else if n%6=2 then(.rank (if n2%2=0 then none else some (q_ (n/6) 0)),n2/2)
 else if n%6=3 then(.many (1+q_ (n/6) 0),n2)
 else if n%6=4 then(.gather (1+q_ (n/6) 0) (q_ (n/6) 1),n2)
 else if n%6=5/\1<many then(.meet,n2)
 else(.eldest,n2)
theorem Sy(n:Int)(h1:1<=many)(h:many<=6):xD (jX n many).1/\pR (jX n many).1 many/\gQ (jX n many).1 many<=200:=by
 let h0:=PH (n/6) 0;let Zj:=PH (n/6) 1;unfold jX;dsimp only;let sm:∀i,0<=i/\i<200->cH i:=λi h=>#[h.1,()];let sp:∀i,0<=i/\i<200->cH (1+i):=λi h=>#[(),()];split
 .let hs:∀z∈(cv many).map (λk=>1+oI (lz (n/6) 2) 9 k%9),1<=z/\z<=9:=λz hz=>by let#[k,_,rfl]:=aj.mp hz;omega
  refine#[#[by rw[ae,cW];omega,λz hz=>?_],?_,by show(1:Int)<=200;decide]
  .let:=hs z hz;exact#[(),()]
  .exact#[by rw[ae,cW],hs]
 split
 .split
  .exact#[trivial,trivial,by show(1:Int)<=200;decide]
  .exact#[sm _ h0,sm _ h0,by show(1:Int)<=200;decide]
 split
 .exact#[sp _ h0,#[(),sp _ h0],by show 1+q_ (n/6) 0<=200;omega]
 split
 .exact#[#[sp _ h0,sm _ Zj],#[(),sp _ h0,sm _ Zj],by show 1+q_ (n/6) 0<=200;omega]
 split
 .rename_i z
  exact#[trivial,z.2,by show(many:Int)<=200;omega]
 .exact#[trivial,trivial,by show(1:Int)<=200;decide]
theorem rg(hr:eL k X.A)(h1:VE X a δ (.int i))(h2:VE X b δ (.int j)):VT X (.Compare a [.Eq] [b] pos) δ (decide (i=j)):=VT.to (j9 hr (eK 20 _) (eK 20 _) h1 h2) (o7 _ _)
section
variable{K:ai}
abbrev Nrd:!O:=["_law_left","_law_many","_law_word","_law_numbers"]
theorem Uh:cg Nrd ["_law_left","_law_many"] (bA (top 52)):=by grind
def zau(K:ai)(n:Int)(d2:!U)(n':Int)(Ua:UV):Prop:=∃m:Nat,d2=[.int (m:Int)]/\m<=60/\n'=(jX n m).2/\Ua=kF K (Kc (jX n m).1)
theorem zer{P:bW}{w:cP}{mg:O->Option M}{base:dv}{f:J}(F:kz K "_law_rule_digits" "_law_rule_digits" (top 52) f fd)(rng:mg "range"=none)(tup:mg "tuple"=none)(C1:a_ P w K mg base 1 "_law_pick" ["_law_left","_law_many"] (Af K Int (NR K) (xI K))):dW P w K mg base jO 2 f fd ["_law_left","_law_many"] (Af K Int (NR K) (zau K)):=
 Ot F Uh ∅ (λ_ _ _ _ h=>by let#[_,rfl,_]:=h;rfl) λr n d2 n' Ua h=>by
  let#[m,rfl,hm,rfl,rfl]:=h;intro gk A outer s0 H E hr B0 B H0 Hh σ D G qr qn;let nd:Nrd.Nodup:=Uh.nd;let nc:(["_law_k","_law_left"]:!O).Nodup:=∎;refine bO (kT 2 NR.mono (iD C1 hr 0 Y aK ⋯ ⋯) G Y (λv Ha Hb G1=>?_) nd);refine bO (RK (own:=["_law_k"]) (cap:=[0]) (N:=["_law_k","_law_left"]) (tgt:=.one 0) (ds:=gy 2) (λk=>NR K r (lz (n/6) k)) (λk=>.int (q_ (n/6) k)) (λ_=>NR.mono) G1 3 Y #[Y,∎,∎,Y,Y,?cap] (wg (n:=2) NR.mono (iB NR.mono aK) rng ⋯ ⋯) (λf s3 H3=>fP 0 nc) Y (small ⋯) Y ?stp Y (λv2 L0 L1 G2=>?_) nd)
  case cap=>intro j hj;rw[aA.mp hj];exact#[(by show(0:Nat)<4;decide),jc Y,Y]
  case stp=>intro k d hd;let#[q,hq,rfl]:=aj.mp (aF hd);refine#[_,Y,Y,λf3 s3 H3 C0 C σ'=>?_];exact zp C1 hr NR.mono 1 Y (eQ NR.mono NR.mono (Cd pK (K6 (WU (lz (n/6) k))) NR.mono NR.mono (iB NR.mono (VO.ve (da (du aK (du aK (du aK cZ)))))) (iD C1 hr 1 Y aK ⋯ ⋯)) (lX NR.mono)) #[_,Y,(PF _).1,by let:=(PF (lz (n/6) k)).2;omega,Y,Y]
  let e2:(gy 2).length=2:=Y;rw[e2]at G2;let h0:uk ((cv 2).map λk=>eJ (q_ (n/6) k)) 0>>(.int (q_ (n/6) 0)):=Y;let h1:uk ((cv 2).map λk=>eJ (q_ (n/6) k)) 1>>(.int (q_ (n/6) 1)):=Y
  generalize((cv 2).map λk=>eJ (q_ (n/6) k))=nums at *
  let b6:=cX n (b:=6) ⋯;refine bO (yh NR.mono G2 Seen.refl (rg hr 2. aK) (λe H5 G5=>?_) (λe1 H5 G5=>nO ?_))
  .let er:jX n m=(.turns ((cv m).map λk=>1+oI (lz (n/6) 2) 9 k%9),oI (lz (n/6) 2) 9 m):=qQ3 (qQ4 e);rw[er]at qr;refine b_ (xx (R':=NR K r (oI (lz (n/6) 2) 9 m)) NR.mono ?x G5 λ_ _ _=>qr _ _ _ _ _);refine XE.to (Ag NR.mono (eQ NR.mono NR.mono (iB NR.mono aW) (eQ (S1:=NR K r (oI (lz (n/6) 2) 9 m)) NR.mono NR.mono (Oz mx (zh (ds:=(cv m).map λk=>.int (1+oI (lz (n/6) 2) 9 k%9))) NR.mono (eQ NR.mono NR.mono ?y (lX NR.mono)) tup Y) (lX NR.mono)))) Y (qQ6 (λl=>dg [.str "turns",.tuple l]) (aG (f:=λk=>1+oI (lz (n/6) 2) 9 k%9) (g:=eJ)).symm);refine XE.to (Oy (own:=["_law_k"]) (cap:=[0]) (N:=["_law_k","_law_left"]) (tgt:=.one 0) (ds:=gy m) (λk=>NR K r (oI (lz (n/6) 2) 9 k)) (λk=>.int (1+oI (lz (n/6) 2) 9 k%9)) (λ_=>NR.mono) Y #[Y,∎,∎,Y,Y,?cap] (wg (n:=(m:Int)) NR.mono (iB NR.mono 1.) rng () ()) (λf s3 H3=>fP 0 nc) Y (small (by rw[fe];omega)) Y ?stp) (by rw[fe]) (by rw[fe])
   case cap=>intro j hj;rw[aA.mp hj];exact#[(by show(0:Nat)<4;decide),jc Y,Y]
   case stp=>intro k d hd;let#[q,hq,rfl]:=aj.mp (aF hd);exact#[_,Y,Y,λf3 s3 H3 C0 C σ'=>uN oj (zP _ _) NR.mono NR.mono (iB NR.mono aK) (iD C1 hr 1 Y aK ⋯ ⋯)]
  let e1:=qQ5 e1;refine bO (yh NR.mono G5 Seen.refl (rg hr 2. aK) (λe H6 G6=>?_) (λe2 H6 G6=>nO ?_))
  .let er:jX n m=(.rank (if lz (n/6) 2%2=0 then none else some (q_ (n/6) 0)),lz (n/6) 2/2):=(qQ2 e1).trans (qQ3 (qQ4 e));rw[er]at qr;refine b_ (xx NR.mono (Ag NR.mono (eQ NR.mono NR.mono (iB NR.mono aW) (eQ NR.mono NR.mono (Cd pK (K6 ?_) NR.mono NR.mono (iB NR.mono (VO.ve (da {g8,eS 3. aK h0}))) (iD C1 hr 0 Y aK ⋯ ⋯)) (lX NR.mono)))) G6 λ_ _ _=>qr _ _ _ _ _);rcases Int.emod_two_eq (lz (n/6) 2)with e|e
   .rw[e,qQ3 Y];rfl
   .rw[e,qQ2 ⋯];rfl
  let e2:=qQ5 e2;refine bO (yh NR.mono G6 Seen.refl (rg hr 2. aK) (λe H7 G7=>?_) (λe3 H7 G7=>nO ?_))
  .let er:jX n m=(.many (1+q_ (n/6) 0),lz (n/6) 2):=(qQ2 e1).trans ((qQ2 e2).trans (qQ3 (qQ4 e)));rw[er]at qr;exact b_ (xx NR.mono (iB NR.mono (iX {aW,fE aK (eS 3. aK h0)})) G7 λ_ _ _=>qr _ _ _ _ _)
  let e3:=qQ5 e3;refine bO (yh NR.mono G7 Seen.refl (rg hr 2. aK) (λe H8 G8=>?_) (λe4 H8 G8=>nO ?_))
  .let er:jX n m=(.gather (1+q_ (n/6) 0) (q_ (n/6) 1),lz (n/6) 2):=(qQ2 e1).trans ((qQ2 e2).trans ((qQ2 e3).trans (qQ3 (qQ4 e))));rw[er]at qr;exact b_ (xx NR.mono (iB NR.mono (iX {aW,fE aK (eS 3. aK h0),eS 3. aK h1})) G8 λ_ _ _=>qr _ _ _ _ _)
  let e4:=qQ5 e4;let e5:jX n m=if n%6=5/\1<m then(.meet,lz (n/6) 2) else(.eldest,lz (n/6) 2):=(qQ2 e1).trans ((qQ2 e2).trans ((qQ2 e3).trans (qQ2 e4)))
  refine bO (yh NR.mono G8 Seen.refl (sN (rg hr 2. aK) λ_=>Nz 1. aK) (λe H9 G9=>?_) (λe H9 G9=>nO ?_))
  .rw[gT,decide_eq_true_iff,decide_eq_true_iff]at e;rw[e5,qQ3 #[e.1,()]]at qr;exact b_ (xx NR.mono (iB NR.mono (iX (du aW cZ))) G9 λ_ _ _=>qr _ _ _ _ _)
  .rw[e5,qQ2 λz=>by rw[qQ1 z.1,qQ1 ()]at e;cases e]at qr;exact b_ (xx NR.mono (iB NR.mono (iX (du aW cZ))) G9 λ_ _ _=>qr _ _ _ _ _)
end
end Mg
namespace Mg
open L2 PySem PyProof.Rows
theorem rh:∀l:!O,(bB "" l).cps.toList=(l.map λx=>x.cps.toList).flatten
 | []=>rfl
 | [x]=>by rw[fU,ft,List.flatten_nil,bC];rfl
 |x::z::l=>by show(x++""++bB "" (z::l)).cps.toList=_;rw[add_list,add_list,rh (z::l),ao,ft,show(("":O).cps.toList)=[]from Y,bC];simp
theorem xK(n:Int):cU (jW n):=by
 unfold jW;let b0:=cX n (b:=9) ⋯;let b1:=cQ n (b:=9) ⋯;split
 .let hl:∀(l:!Nat),((l.map λk=>Px (oI (n/9/14) 26 k%26)).map λx=>x.cps.toList).flatten=l.map λk=>97+(oI (n/9/14) 26 k%26).toNat:=by
   intro l;induction l with
   |nil=>rfl
   |cons a l ih=>rw[ao,ao,ft,ih];rfl
  refine#[?_,?_,λc hc=>?_]
  .rw[rh,hl,ae,cW];omega
  .rw[rh,hl,ae,cW];omega
  .rw[rh,hl]at hc;let#[k,_,rfl]:=aj.mp hc;omega
 .let go:∀i:Nat,i<14->cU (xJ.getD i ""):=by unfold cU;symm
  refine go _ ?_;omega
theorem WV(h:x.length<=8):(iF x none (some 7)).cps.toList.length<=7/\∀c∈(iF x none (some 7)).cps.toList,c∈x.cps.toList:=by
 let h7:(qy none (some 7) 1 x.length).length<=7:=by let go:∀n:Nat,n<=8->(qy none (some 7) 1 n).length<=7:=∎;exact go _ h
 unfold iF;split
 .rename_i e
  rw[gT,beq_iff_eq]at e;let:x.length=x.cps.toList.length:=by rw[cu];rfl
  exact#[[<-this,<-(eq_of_beq e.2:_=x.length)]▸h7,λc hc=>hc]
 .refine#[bZ (f7 _ _) h7,λc hc=>?_];let#[i,_,hi]:=jl.mp hc;let#[hl,rfl]:=Bc.mp hi;exact Gz.mpr (Array.getElem_mem hl)
theorem WW:∀c∈rT.cps.toList,97<=c/\c<123:=∎
theorem AG(h:cU x):∀y∈cands x,cU y:=by
 intro y hy;rcases au.mp hy with rfl|hy
 .exact h
 .let#[c,hc,rfl]:=aj.mp hy;let#[s1,s2]:=WV (x:=x) (cU.short h);let e:(iF x none (some 7)++(#[(bf [c])]:O)).cps.toList=(iF x none (some 7)).cps.toList ++ [c]:=add_list _ _;refine#[by rw[e,aN];show 1<=_+1;omega,by rw[e,aN];show _+1<=8;omega,λz hz=>?_];rw[e]at hz;rcases aT.mp hz with hz|hz
  .exact h.2.2 z (s2 z hz)
  .rw[aA.mp hz];exact WW c hc
theorem AH(x:O)(h:told.length<=25):∃z,fresh x told>>z/\z∈cands x/\z∉told:=by
 cases e:fresh x told with
 |some z=>let h1:=List.find?_some e;refine#[z,Y,List.mem_of_find?_eq_some e,λhz=>?_];let h2:(not (told.any λy=>decide (y=z)))=true:=h1;rw[Bool.not_eq_true',xX]at h2;exact h2 z hz (qQ1 Y)
 |none=>
  exfalso;let h1:=List.find?_eq_none.mp e;let Xe:∀y∈cands x,y∈told:=λy hy=>by let:=h1 y hy;rw[yZ,Bool.not_eq_false',mZ]at this;let#[u,hu,hz]:=this;rw[<-qQ4 hz];exact hu
  let Bo:(rT.cps.toList.map λc=>iF x none (some 7)++(#[(bf [c])]:O)).Nodup:=by let h0:rT.cps.toList.Nodup:=∎;rw[List.nodup_iff_pairwise_ne]at h0 ⊢;refine rZ _ (λa b N3 z=>N3 ?_) h0;let:=qQ6 (λs:O=>s.cps.toList) z;simp only[add_list]at this;exact(jb (List.append_cancel_left this)).1
  let:=Bo.length_le_of_subset (l₂:=told) λy hy=>Xe y (aD _ hy);rw[ae]at this;let h26:rT.cps.toList.length=26:=∎;omega
def spell(n:Int):Nat->!O×Int
 |0=>([],n)
 |k+1=>((spell n k).1 ++ [(fresh (jW (spell n k).2) (spell n k).1).getD ""],WR (spell n k).2)
theorem jo(n:Int):∀k,(spell n k).1.length=k
 |0=>rfl
 |k+1=>by rw[spell,aN,jo n k];rfl
theorem qm(n:Int):∀k,k<=26->(∀x∈(spell n k).1,cU x)/\(spell n k).1.Nodup
 |0,_=>#[λx hx=>(by cases hx),gX]
 |k+1,h=>by
  let#[h1,h2]:=qm n k ();let#[z,e,hz,hn]:=AH (jW (spell n k).2) (told:=(spell n k).1) (by rw[jo];omega);rw[spell,e];refine#[λx hx=>?_,cF.mpr #[h2,∅,λa ha b hb=>?_]]
  .rcases aT.mp hx with hx|hx
   .exact h1 x hx
   .rw[aA.mp hx];exact AG (xK _) z hz
  .rw[aA.mp hb];exact λq=>hn ([<-show a=z from q]▸ha)
theorem tQ(n:Int)(h:m<=26):Ug n m (λk=>(spell n k).1) (λk=>(spell n k).2):=by refine#[Y,Y,λk=>[jo]▸aE _,λk hk=>?_];let#[h1,_]:=qm n k ();let#[z,e,hz,hn]:=AH (jW (spell n k).2) (told:=(spell n k).1) (by rw[jo];omega);exact#[z,λx hx=>(h1 x hx).ok.2,λy hy=>(AG (xK _) y hy).ok.2,by let:=cU.short (xK (spell n k).2);omega,e,by show(spell n k).1 ++ [_]=_;rw[e];rfl,Y]
end Mg
namespace Mg
open L2 PySem PyProof.Rows
seal L2.VE L2.VS L2.qK L2.VT L2.VO L2.Q_
variable{fd:iu}
def tS(nn:Nat)(s:!(!O)×Int)(x:O):!(!O)×Int:=
 if(s.2%((nn:Int)+1)).toNat<nn/\(s.1.getD (s.2%((nn:Int)+1)).toNat []).length<6 then
  (s.1.set (s.2%((nn:Int)+1)).toNat (qe (s.1.getD (s.2%((nn:Int)+1)).toNat []) (s.2/((nn:Int)+1)%(((s.1.getD (s.2%((nn:Int)+1)).toNat []).length:Int)+1)).toNat x),s.2/((nn:Int)+1)/(((s.1.getD (s.2%((nn:Int)+1)).toNat []).length:Int)+1))
 else(s.1,s.2/((nn:Int)+1))
def nu(nn:Nat)(n:Int)(places:!O)(k:Nat):!(!O)×Int:=(places.take k).foldl (tS nn) (bo nn [],n)
def L6(lines:!O)(n:Int):O:=(lines ++ [("":O)]).getD (n%((lines.length:Int)+1)).toNat ""
def rj(lines:!O)(s:!Dk×Int)(p:O×!O):!Dk×Int:=
 if p.2=[]then s else(s.1 ++ [#[p.1,L6 lines s.2,(jX (s.2/((lines.length:Int)+1)) p.2.length).1,p.2]],(jX (s.2/((lines.length:Int)+1)) p.2.length).2)
def wA(lines:!O)(ps:!(O×!O))(n:Int)(k:Nat):!Dk×Int:=(ps.take k).foldl (rj lines) ([],n)
def fj(n:Int):Nat:=(1+n%8).toNat
def rn(n:Int)(places lines:!O):!Dk×Int:=
 wA lines ((spell (n/8) (fj n)).1.zip (nu (fj n) (spell (n/8) (fj n)).2 places places.length).1) (nu (fj n) (spell (n/8) (fj n)).2 places places.length).2 (fj n)
theorem gj{α β:Type}(f:β->α->β)(b:β){l:!α}{k:Nat}{x:α}(h:l[k]?>>x):(l.take (k+1)).foldl f b=f ((l.take k).foldl f b) x:=by rw[cB,h,d_];rfl
theorem Iw:(tS nn s x).1.length=s.1.length:=by unfold tS;split<;>simp
theorem tT{α β:Type}{f:β->α->β}{I:β->Prop}:∀{l:!α}{b:β},I b->(∀b,∀x∈l,I b->I (f b x))->I (l.foldl f b)
 | [],_,h,_=>h
 |x::l,b,h,st=>tT (l:=l) (st b x aB h) λb y hy=>st b y (aD _ hy)
theorem wB(nn:Nat)(n:Int)(places:!O)(k:Nat):(nu nn n places k).1.length=nn/\∀row∈(nu nn n places k).1,row.length<=6/\∀x∈row,x∈places:=by
 refine tT (I:=λs:!(!O)×Int=>s.1.length=nn/\∀row∈s.1,row.length<=6/\∀x∈row,x∈places) #[dY,λrow hr=>[(jm.mp hr).2]▸#[aY _,λx hx=>by cases hx]] λs x hx #[h1,h2]=>#[Iw.trans h1,λrow hr=>?_];unfold tS at hr;split at hr
 .rename_i c
  rcases kx hr with z|rfl
  .exact h2 row z
  .refine#[[Fm]▸c.2,λy hy=>?_];rcases O5 hy with hy|rfl
   .rw[aQ]at hy;cases e:s.1[(s.2%((nn:Int)+1)).toNat]? with
    |none=>rw[e]at hy;cases hy
    |some row=>rw[e]at hy;exact(h2 row (aF e)).2 y hy
   .exact iH hx
 .exact h2 row hr
theorem Kk(lines:!O)(n:Int):uk (lines.map aJ ++ [.str ""]) (n%((lines.length:Int)+1))>>(.str (L6 lines n))/\L6 lines n∈lines ++ [("":O)]:=by
 let a1:=cX n (b:=(lines.length:Int)+1) ();let a2:=cQ n (b:=(lines.length:Int)+1) ();unfold L6;generalize n%((lines.length:Int)+1)=j at *;let#[i,rfl]:=rP a1;let hi:i<(lines ++ [("":O)]).length:=by simp;omega
 let e:(lines ++ [("":O)]).getD ((i:Int)).toNat ""=(lines ++ [("":O)])[i]:=by rw[cN,aQ,ax hi];rfl
 rw[e];refine#[cJ ?_,eD hi];rw[show lines.map aJ ++ [.str ""]=(lines ++ [("":O)]).map aJ by rw[aH];rfl,ay,ax hi];rfl
theorem AI(lines:!O)(ps:!(O×!O))(n:Int):∀k,(wA lines ps n k).1.length<=k
 |0=>aE _
 |k+1=>by
  let ih:=AI lines ps n k;cases e:ps[k]? with
  |none=>
   let:wA lines ps n (k+1)=wA lines ps n k:=by unfold wA;rw[cB,e];simp
   rw[this];omega
  |some x=>
   let:wA lines ps n (k+1)=rj lines (wA lines ps n k) x:=gj _ _ e;rw[this];unfold rj;split
   .omega
   .rw[aN];show _+1<=_;omega
theorem AJ(n:Int):1<=fj n/\fj n<=8:=by unfold fj;omega
section
variable{K:ai}
abbrev Ndd:!O:=["_law_left","_law_places","_law_lines","_law_names","_law_taken","_law_place","_law_at","_law_desks","_law_name","_law_own","_law_to"]
theorem Ui:cg Ndd ["_law_left","_law_places","_law_lines"] (bA (top 53)):=by grind
def zav(K:ai)(n:Int)(d2:!U)(n':Int)(Ua:UV):Prop:=∃places lines:!O,d2=[fy places,fy lines]/\places.length<=12/\lines.length<=12/\(∀x∈places,cU x)/\n'=(rn n places lines).2/\Ua=kF K (.list ((rn n places lines).1.map gZ))
theorem zes{P:bW}{w:cP}{mg:O->Option M}{base:dv}{f:J}(F:kz K "_law_desks_digits" "_law_desks_digits" (top 53) f fd)(n0:Np mg w.params K)(C1:a_ P w K mg base 1 "_law_pick" ["_law_left","_law_many"] (Af K Int (NR K) (xI K)))(C2:a_ P w K mg base 3 "_law_spelt_all" ["_law_left","_law_many"] (Af K Int (NR K) (PD K)))(C3:a_ P w K mg base 2 "_law_rule_digits" ["_law_left","_law_many"] (Af K Int (NR K) (zau K))):dW P w K mg base jO 4 f fd ["_law_left","_law_places","_law_lines"] (Af K Int (NR K) (zav K)):=
 Ot F Ui ∅ (λ_ _ _ _ h=>by let#[_,_,rfl,_]:=h;rfl) λr n d2 n' Ua h=>by
  let#[places,lines,rfl,hp,hl,OY,rfl,rfl]:=h;intro gk A outer s0 H E hr B0 B H0 Hh σ D G qr qn;let nd:Ndd.Nodup:=Ui.nd;let nc:(["_law_name"]:!O).Nodup:=∎;let pQ:eL 1 _:=hr.mono ();let Bv:eL 2 _:=hr.mono ();unfold rn at qr;let#[b1,b8]:=AJ n;let em:(1+n%8:Int)=((fj n:Nat):Int):=by unfold fj;omega
  generalize fj n=nn at *;refine bO (kT 3 (d:=fy (spell (n/8) nn).1) (R':=NR K r (spell (n/8) nn).2) NR.mono (zp C2 hr NR.mono 0 Y (eQ NR.mono NR.mono (XE.to (uN oj (zP 1 (n%8)) NR.mono NR.mono (iB NR.mono aK) (iD C1 pQ 0 Y aK ⋯ ⋯)) Y (by rw[em])) (lX NR.mono)) #[nn,_,_,Y,(),tQ (n/8) (),Y,Y]) G Y (λv Ha Hb G1=>?_) nd);let nl:=jo (n/8) nn
  generalize(spell (n/8) nn).1=names at *
  generalize(spell (n/8) nn).2=n1 at *
  let enl:(((names.map aJ).length:Nat):Int)=nn:=by rw[ae,nl]
  let mL:∀{a ps gs n},bM (Sep (LL K a ps gs) (NR K r n)):=Sep.mono LL.mono NR.mono;refine bO (OB 4 (ds:=names.map aJ) (own:=["_law_name"]) (cap:=[]) (N:=["_law_name"]) (cl:=[]) (tgt:=.one 0) NR.mono G1 Y #[Y,∎,∎,Y,Y,∅] (dX 3.) (λf s3 H3=>fP 0 nc) Y (small (by rw[ae,nl];omega)) (λd hd=>#[_,Y]) nd (λσ1 a ps H1 cY G2=>?_) (λa=>rfl));let e0:((nu nn n1 places 0).1.map λr=>r.map aJ)=bo (names.map aJ).length []:=by show(bo nn []).map _=_;rw[List.map_replicate,ae,nl];rfl
  rw[<-e0]at G2;refine bO (ye (tgt:=.one 5) (ds:=places.map .str) (λi=>Sep (LL K a ps ((nu nn n1 places i).1.map λr=>r.map aJ)) (NR K r (nu nn n1 places i).2)) (λ_=>mL) G2 bL Y (dX 1.) (fP 5 nd) (λi d hd=>?_) (λσ2 Ha Hb G3=>?_))
  .obtain⟨x,hx,rfl⟩:∃x,places[i]?>>x/\d=.str x:=by
    rw[ay]at hd;cases e:places[i]? with
    |none=>rw[e]at hd;cases hd
    |some x=>rw[e]at hd;cases hd;exact#[x,Y,Y]
   refine#[_,Y,Y,λD C0 σ' c9 H' G q=>?_];let es:nu nn n1 places (i+1)=tS nn (nu nn n1 places i) x:=gj _ _ hx;let#[t1,t2]:=wB nn n1 places i;rw[es]at q;unfold tS at q;generalize nu nn n1 places i=s at *;let#[tk,m]:=s;dsimp only at *;let c0:=cX m (b:=(nn:Int)+1) ();let c1:=cQ m (b:=(nn:Int)+1) ();refine bO (kT 6 (d:=.int (m%((nn:Int)+1))) mL (((iD C1 pQ 0 Y (VE.to (fE (iN 3. n0.len) aK) (by rw[enl])) () ()).fr LL.mono).oi .comm .comm) G Y (λv Hc Hd G3=>?_) nd);let hj:((m%((nn:Int)+1)).toNat:Int)=m%((nn:Int)+1):=kO c0
   generalize(m%((nn:Int)+1)).toNat=j at *
   rw[<-hj]at G3;let hgl:((tk.map λr=>r.map aJ).map pG).length=nn:=by rw[ae,ae,t1]
   let hgj:j<nn->(tk.map λr=>r.map aJ)[j]?>>((tk.getD j []).map .str):=λh=>by rw[ay,aQ,ax ()];rfl
   refine b_ (yh mL G3 (Seen.refl.set 4 Y (Sep.V7 LL.see)) (sN (k2:=decide (((tk.getD j []).length:Int)<6)) (v5 6. (iN 3. n0.len)) λh=>VT.to (v5 (iN (eS (ds:=(tk.map λr=>r.map aJ).map .list) 4. 6. (cJ (by rw[ay,hgj (by let:=qQ4 h;omega)];rfl))) n0.len) aK) (by rw[ae])) (λe H5 G5=>?_) (λe H5 G5=>nO ?_))
   .rw[gT,decide_eq_true_iff,decide_eq_true_iff,enl]at e;let hjn:j<nn:=();rw[qQ3 #[hjn,()]]at q;let hgj:=hgj hjn;let mw:ps.length=nn:=by let#[_,_,_,_,_,z,_]:=G5.at;exact z.trans (by rw[ae,t1])
    obtain⟨p,hp⟩:∃p,ps[j]?>>p:=#[ps[j]'(),ax _];let WB:(tk.getD j []).length<=6:=();let egs:((tk.set j (qe (tk.getD j []) (m/((nn:Int)+1)%(((tk.getD j []).length:Int)+1)).toNat x)).map λr=>r.map aJ)=(tk.map λr=>r.map aJ).set j (qe ((tk.getD j []).map aJ) (m/((nn:Int)+1)%(((tk.getD j []).length:Int)+1)).toNat (.str x)):=by
     rw[kf]
     congr 1
     unfold qe;rw[aH,ao,Eb,qw]
    rw[egs]at q;generalize tk.getD j []=row at *;generalize m/((nn:Int)+1)=m1 at *;let d0:=cX m1 (b:=(row.length:Int)+1) ();let d1:=cQ m1 (b:=(row.length:Int)+1) ();refine b_ (Lq NR.mono NR.mono G5 4 (j:=j) (m:=(m1%((row.length:Int)+1)).toNat) (p:=p) (ds:=row.map .str) (d:=.str x) Y 6. hp hgj (R':=NR K r (m1/((row.length:Int)+1))) (XE.oi .comm .comm (RH C1 pQ NR.mono LL.mono 0 Y (λF mF=>wd (Sep.mono NR.mono (Sep.mono LL.mono mF)) (RL (d:=.int ((row.length:Int)+1)) (Seen.refl.set 4 Y (Sep.zdb (Sep.V7 LL.see))) (VE.to (fE (iN (eS (d:=.list (row.map .str)) 4. 6. (cJ (by rw[ay,hgj];rfl))) n0.len) aK) (by rw[ae])) Y) Dt) #[(row.length:Int)+1,Y,(),(),Y,by rw[kO d0];rfl])) (by rw[ae];omega) 5. (dQ (by rw[ae];omega)) (λHk Hl G6=>?_));exact q _ _ _ (G6.forget mL #[.inr Y,.inr Y,.inr Y,.inr Y,.inr Y,.inl Y,.inl Y,.inr Y,.inr Y,.inr Y,.inr Y,trivial] Y)
   .rw[qQ2 λz=>by rw[qQ1 (),qQ1 ()]at e;cases e]at q;exact q _ _ _ (G5.forget mL #[.inr Y,.inr Y,.inr Y,.inr Y,.inr Y,.inl Y,.inl Y,.inr Y,.inr Y,.inr Y,.inr Y,trivial] Y)
  rw[ae]at G3;let#[t1,t2]:=wB nn n1 places places.length;generalize nu nn n1 places places.length=s at *;let#[tk,m]:=s;dsimp only at *;let#[Hc,G4]:=G3.HN NR.mono LL.see 4 Y;refine bO (Du (ds:=[]) NR.mono G4 7 (qO G4 (da cZ)) (λl=>rfl) (λl σ1 H1 cY G5=>?_) nd);let mS:∀{ds n},bM (Sep (LR K l ds) (NR K r n)):=Sep.mono LR.mono NR.mono;refine bO (ye (tgt:=.tup [8,9]) (ds:=uF (names.map .str) ((tk.map λr=>r.map aJ).map .list)) (λi=>Sep (LR K l ((wA lines (names.zip tk) m i).1.map gZ)) (NR K r (wA lines (names.zip tk) m i).2)) (λ_=>mS) G5 bL Y (xn .lst .lst 3. 4. n0.zip) (fh Y (bx (fP 8 nd) (bx (fP 9 nd) dU))) (λi d hd=>?_) (λσ2 Ha Hb G6=>?_))
  .obtain⟨nm,row,hz,rfl⟩:∃nm row,(names.zip tk)[i]?>>(nm,row)/\d=.tuple [.str nm,.list (row.map .str)]:=by
    let#[x,y,hx,hy,rfl]:=zY hd;rw[ay]at hx;rw[ay,ay]at hy;cases e1:names[i]? with
    |none=>rw[e1]at hx;cases hx
    |some nm=>
     cases e2:tk[i]? with
     |none=>rw[e2]at hy;cases hy
     |some row=>rw[e1]at hx;rw[e2]at hy;cases hx;cases hy;exact#[nm,row,pU.mpr #[e1,e2],Y]
   let Al:=t2 row (aF (pU.mp hz).2);refine#[_,Y,Y,λD C0 σ' c9 H' G q=>?_];let es:wA lines (names.zip tk) m (i+1)=rj lines (wA lines (names.zip tk) m i) (nm,row):=gj _ _ hz;let NW:(wA lines (names.zip tk) m i).1.length<=i:=AI lines (names.zip tk) m i;let Lz:i<8:=by let:=(aq.mp hz).1;rw[sr]at this;omega
   rw[es]at q;unfold rj at q;generalize wA lines (names.zip tk) m i=s at *;let#[gK,m1]:=s;dsimp only at *;let zet:Lay 20 (.list (row.map aJ)):=k_ (n:=19) λd hd=>by let#[u,hu,rfl]:=aj.mp hd;exact a9 (OY u (Al.2 u hu)).ok.2
   refine b_ (yh mS G Seen.refl (lL hr zet (k_ (n:=19) λd hd=>by cases hd) 9. (VO.ve (da cZ))) (λe H5 G5=>?_) (λe H5 G5=>nO ?_))
   .let zm:row≠[]:=λz=>by rw[z]at e;revert e;decide
    rw[qQ2 zm,aH]at q;let#[ha,Xe]:=Kk lines m1;refine bO (kT 10 (d:=.str (L6 lines m1)) (R':=Sep (LR K l (gK.map gZ)) (NR K r (m1/((lines.length:Int)+1)))) mS (XE.oi .comm .comm (XE.fr LR.mono (Cd pK (K6 ha) NR.mono NR.mono (iB NR.mono (VO.ve (jt 2. (VO.ve (da (du aW cZ))) (small (by rw[ae];show _+1<=_;omega))))) (iD C1 pQ 0 Y (VE.to (fE (iN 2. n0.len) aK) (by rw[ae])) () ())))) G5 Y (λv Hc Hd G6=>?_) nd);refine b_ (Ah (R':=NR K r (jX (m1/((lines.length:Int)+1)) row.length).2) NR.mono NR.mono G6 7 Y (Ag NR.mono (eQ NR.mono NR.mono (iB NR.mono 8.) (eQ NR.mono NR.mono (iB NR.mono 10.) (eQ (S1:=NR K r (jX (m1/((lines.length:Int)+1)) row.length).2) NR.mono NR.mono (Dv C3 Bv NR.mono 0 Y (λF mF=>wd (Sep.mono NR.mono mF) (J0 (VE.to (iN 9. n0.len) (by rw[ae]))) Dt) #[row.length,Y,(),Y,Y]) (eQ NR.mono NR.mono (iB NR.mono (kZ mx zh {9.} n0.tup Y)) (lX NR.mono)))))) (dQ (by rw[ae];omega)) (λHk Hl G7=>?_));exact q _ _ _ (G7.forget mS #[.inr Y,.inr Y,.inr Y,.inr Y,.inr Y,.inr Y,.inr Y,.inr Y,.inl Y,.inl Y,.inl Y,trivial] Y)
   .let zm:row=[]:=by
     cases row with
     |nil=>rfl
     |cons x row=>exact Bool.noConfusion (show true=false from e)
    rw[qQ3 zm]at q;exact q _ _ _ (G5.forget mS #[.inr Y,.inr Y,.inr Y,.inr Y,.inr Y,.inr Y,.inr Y,.inr Y,.inl Y,.inl Y,.inr Y,trivial] Y)
  .rw[o6,ae,ae,ae,nl,t1,Nat.min_self]at G6;let#[Hc,G7]:=G6.Zx NR.mono;exact b_ (Ou G6.fr 7 Y (qr _ _ _ _ _ G7))
end
def xM(s:!(O×Option Int)×Int)(nm:O):!(O×Option Int)×Int:=(s.1 ++ [(nm,if s.2/60%2=0 then none else some (1+s.2%60))],s.2/60/2)
def yQ(names:!O)(a:Int)(k:Nat):!(O×Option Int)×Int:=(names.take k).foldl xM ([],a)
def xN(gK:!Dk)(s:!(O×Int)×Int)(nm:O):!(O×Int)×Int:=(s.1 ++ [(nm,maxOf (gw gK nm)+s.2%5)],s.2/5)
def vB(gK:!Dk)(lines:!O)(b:Int)(k:Nat):!(O×Int)×Int:=(lines.take k).foldl (xN gK) ([],b)
def mq(dn:O)(s:!(O×O×Int)×Int)(kd:O×Option Int):!(O×O×Int)×Int:=if s.2%2=1 then(s.1 ++ [(dn,kd.1,1+s.2/2%20)],s.2/2/20) else(s.1,s.2/2)
def vC(dn:O)(s:!(O×Int×Int)×Int):Nat->!(O×Int×Int)×Int
 |0=>s
 |k+1=>((vC dn s k).1 ++ [(dn,(vC dn s k).2%60,(vC dn s k).2%60+1+(vC dn s k).2/60%60)],(vC dn s k).2/60/60)
def vD(kinds:!(O×Option Int))(s:(!(O×O×Int)×Int)×(!(O×Int×Int)×Int))(d:Dk):(!(O×O×Int)×Int)×(!(O×Int×Int)×Int):=(kinds.foldl (mq d.name) s.1,vC d.name (s.2.1,s.2.2/3) (s.2.2%3).toNat)
def mr(kinds:!(O×Option Int))(gK:!Dk)(a c:Int)(k:Nat):(!(O×O×Int)×Int)×(!(O×Int×Int)×Int):=(gK.take k).foldl (vD kinds) (([],a),([],c))
def iE(one:Int):Nat:=(1+one%12).toNat
def ny(two:Int):Nat:=(1+two%6).toNat
def yR(two:Int):Nat:=ny two+(two/6%7).toNat
def kdOf(one:Int):!(O×Option Int)×Int:=yQ (spell (one/12) (iE one)).1 (spell (one/12) (iE one)).2 (iE one)
def jF(two:Int):!O×Int:=spell (two/6/7) (yR two)
def lH(two:Int):!O:=(jF two).1.drop (ny two)
def ka(two three:Int):!Dk×Int:=rn three (jF two).1 (lH two)
def pC(one two three:Int):Pl:=
 #[(kdOf one).1,(jF two).1.take (ny two),(vB (ka two three).1 (lH two) (jF two).2 (lH two).length).1,(ka two three).1,
  (mr (kdOf one).1 (ka two three).1 (kdOf one).2 (ka two three).2 (ka two three).1.length).1.1,(mr (kdOf one).1 (ka two three).1 (kdOf one).2 (ka two three).2 (ka two three).1.length).2.1,[]]
theorem zax(one:Int):1<=iE one/\iE one<=12:=by unfold iE;omega
theorem WX(two:Int):1<=ny two/\ny two<=6:=by unfold ny;omega
theorem zay(two:Int):ny two<=yR two/\yR two<=12:=by let:=WX two;unfold yR;omega
theorem uy:∀k,k<=names.length->(yQ names a k).1.map (·.1)=names.take k
 |0,_=>rfl
 |k+1,h=>by let e:yQ names a (k+1)=xM (yQ names a k) names[k]:=gj _ _ (ax ());rw[e,xM,aH,uy k (),cB,ax ()];rfl
theorem xO:∀k,k<=lines.length->(vB gK lines b k).1.map (·.1)=lines.take k
 |0,_=>rfl
 |k+1,h=>by let e:vB gK lines b (k+1)=xN gK (vB gK lines b k) lines[k]:=gj _ _ (ax ());rw[e,xN,aH,xO k (),cB,ax ()];rfl
theorem Iy:∀{l:!(O×Option Int)}{s:!(O×O×Int)×Int},(l.foldl (mq dn) s).1.length<=s.1.length+l.length
 | [],s=>aE _
 |x::l,s=>by
  let:=Iy (l:=l) (s:=mq dn s x) (dn:=dn);let h2:(mq dn s x).1.length<=s.1.length+1:=by unfold mq;split<;>simp
  rw[dN,bj];omega
theorem Iz:∀k,(vC dn s k).1.length=s.1.length+k
 |0=>rfl
 |k+1=>by rw[vC,aN,Iz k];rfl
theorem IA(hk:kinds.length<=12):∀k,(mr kinds gK a c k).1.1.length<=12*k/\(mr kinds gK a c k).2.1.length<=2*k
 |0=>#[aE _,aE _]
 |k+1=>by
  let#[i1,i2]:=IA (kinds:=kinds) (gK:=gK) (a:=a) (c:=c) hk k;cases e:gK[k]? with
  |none=>
   let:mr kinds gK a c (k+1)=mr kinds gK a c k:=by unfold mr;rw[cB,e];simp
   rw[this];omega
  |some d=>let:mr kinds gK a c (k+1)=vD kinds (mr kinds gK a c k) d:=gj _ _ e;rw[this];let h1:=Iy (dn:=d.name) (l:=kinds) (s:=(mr kinds gK a c k).1);let h2:=Iz (dn:=d.name) (s:=((mr kinds gK a c k).2.1,(mr kinds gK a c k).2.2/3)) ((mr kinds gK a c k).2.2%3).toNat;unfold vD;dsimp only at *;omega
theorem Ct(h:d∈(rn n places lines).1):d.name∈(spell (n/8) (fj n)).1/\d.to∈lines ++ [("":O)]/\d.places∈(nu (fj n) (spell (n/8) (fj n)).2 places places.length).1/\d.places≠[]/\∃m,d.rule=(jX m d.places.length).1:=by
 unfold rn wA at h;revert h;refine tT (I:=λs:!Dk×Int=>d∈s.1->_) (λh=>by cases h) λs x hx ih hd=>?_;unfold rj at hd;split at hd
 .exact ih hd
 .rename_i c
  rcases aT.mp hd with hd|hd
  .exact ih hd
  .rw[aA.mp hd];let hz:=nU (a:=x.1) (b:=x.2) (iH hx);exact#[hz.1,(Kk lines s.2).2,hz.2,c,_,Y]
theorem Cu(n:Int)(places lines:!O):(rn n places lines).1.length<=8:=bZ (AI _ _ _ _) (AJ n).2
theorem get_map{α:Type}{g:α->U}{l:!α}{i:Nat}{d:U}(h:(l.map g)[i]?>>d):∃x,l[i]?>>x/\d=g x:=by
 rw[ay]at h;cases e:l[i]? with
 |none=>rw[e]at h;cases h
 |some x=>rw[e]at h;cases h;exact#[x,Y,Y]
theorem Sz(x:Int):uk [U.none,.int (1+x%60)] (x/60%2)>>(mV (if x/60%2=0 then none else some (1+x%60))):=by rcases Int.emod_two_eq (x/60)with e|e<;>rw[e]<;>rfl
theorem XT.to(h:XT X B0 B σ δ R c R' k1)(e:k1=k2):XT X B0 B σ δ R c R' k2:=by subst e;exact h
section
variable{K:ai}
abbrev Npd:!O:=["_law_one","_law_two","_law_three","_law_a","_law_b","_law_c","_law_kinds","_law_name","_law_many","_law_places","_law_gates","_law_lines","_law_desks","_law_rooms","_law_loads","_law_times","_law_hours","_law_desk","_law_kind","_law_k","_law_begin"]
theorem Uj:cg Npd ["_law_one","_law_two","_law_three"] (bA (top 54)):=by grind
def Rpd(ds:!U)(d:U):Prop:=∃one two three:Int,ds=[.int one,.int two,.int three]/\d=fc (pC one two three)
theorem zeu{P:bW}{w:cP}{mg:O->Option M}{base:dv}{f:J}(F:kz K "_law_plant_digits" "_law_plant_digits" (top 54) f fd)(n0:Np mg w.params K)(C0:a_ P w K mg base 1 "_law_greatest" ["_law_rule","_law_many"] (gi K Rgr))(C1:a_ P w K mg base 1 "_law_pick" ["_law_left","_law_many"] (Af K Int (NR K) (xI K)))(C2:a_ P w K mg base 3 "_law_spelt_all" ["_law_left","_law_many"] (Af K Int (NR K) (PD K)))(C4:a_ P w K mg base 4 "_law_desks_digits" ["_law_left","_law_places","_law_lines"] (Af K Int (NR K) (zav K))):dW P w K mg base jO 5 f fd ["_law_one","_law_two","_law_three"] (gi K Rpd):=
 iO F Uj (by ext) λ_ _ h=>by
  let#[one,two,three,rfl,rfl]:=h;intro gk A outer s H E hr;let nd:Npd.Nodup:=Uj.nd;let pQ:eL 1 _:=hr.mono ();let hr3:eL 3 _:=hr.mono ();refine qf λB0 B σ H0 Hh D fr MH=>?_;refine bO (RM (λ_ _ _ _ _ h _ _=>h) (OF.none fr Y) 3 4 5 (da {0.}) (da {1.}) (da {2.}) (λ_ _ _=>rfl) (λa b c σ1 H1 cY G=>?_) Y nd ⋯ ⋯ ⋯);let G:OF K B0 B (Sep (NR K a one) (Sep (NR K b two) (NR K c three))) H1 cY σ1 _:=G.oi (.sep .rfl (.sep .rfl .em));let m3:∀{a b c x y z},bM (Sep (NR K a x) (Sep (NR K b y) (NR K c z))):=Sep.mono NR.mono (Sep.mono NR.mono NR.mono);let m2:∀{a b x y},bM (Sep (NR K a x) (NR K b y)):=Sep.mono NR.mono NR.mono;let m4:∀{l ds a b c x y z},bM (Sep (LR K l ds) (Sep (NR K a x) (Sep (NR K b y) (NR K c z)))):=Sep.mono LR.mono m3;refine bO (Du (ds:=[]) m3 G 6 (qO G (da cZ)) (λl=>rfl) (λl σ2 H2 f9 G2=>?_) nd);let#[k1,k12]:=zax one;let ek:(1+one%12:Int)=((iE one:Nat):Int):=by unfold iE;omega
  let ekd:kdOf one=yQ (spell (one/12) (iE one)).1 (spell (one/12) (iE one)).2 (iE one):=Y;let WY:=jo (one/12) (iE one);refine bO (Ox (tgt:=.one 7) (ds:=(spell (one/12) (iE one)).1.map .str) (λi=>Sep (LR K l ((yQ (spell (one/12) (iE one)).1 (spell (one/12) (iE one)).2 i).1.map sZ)) (Sep (NR K a (yQ (spell (one/12) (iE one)).1 (spell (one/12) (iE one)).2 i).2) (Sep (NR K b two) (NR K c three)))) (λ_=>_) (λ_=>m4) G2 bL Y (RD m4 (XE.fl LR.mono (XE.fr m2 (zp C2 hr3 NR.mono 3 Y (eQ NR.mono NR.mono (XE.to (uN oj (zP 1 (one%12)) NR.mono NR.mono (iB NR.mono aK) (iD C1 pQ 3 Y aK ⋯ ⋯)) Y (by rw[ek])) (lX NR.mono)) #[iE one,_,_,Y,(),tQ (one/12) (),Y,Y])))) (fP 7 nd) (λi d hd=>?_) (λσ3 Ha Hb G3=>?_))
  .let#[nm,hn,rfl]:=get_map hd;let Lz:i<12:=by let:=(aq.mp hn).1;omega
   refine#[_,Y,Y,λD C0 σ' c9 H' G q=>?_];let es:yQ (spell (one/12) (iE one)).1 (spell (one/12) (iE one)).2 (i+1)=_:=gj _ _ hn;let hkl:(yQ (spell (one/12) (iE one)).1 (spell (one/12) (iE one)).2 i).1.length<=12:=by let:=qQ6 dq (uy (names:=(spell (one/12) (iE one)).1) (a:=(spell (one/12) (iE one)).2) i (by let:=(aq.mp hn).1;omega));rw[ae,bU]at this;omega
   rw[es,show((spell (one/12) (iE one)).1.take i).foldl xM ([],(spell (one/12) (iE one)).2)=yQ (spell (one/12) (iE one)).1 (spell (one/12) (iE one)).2 i from Y]at q;generalize yQ (spell (one/12) (iE one)).1 (spell (one/12) (iE one)).2 i=s at *;let#[Cv,x]:=s;unfold xM at q;dsimp only at *;rw[aH]at q;refine b_ (Ah (R':=Sep (NR K a (x/60/2)) (Sep (NR K b two) (NR K c three))) m3 m3 G 6 Y (XE.fr m2 (Ag NR.mono (eQ NR.mono NR.mono (iB NR.mono 7.) (eQ NR.mono NR.mono (Cd pK (K6 (Sz x)) NR.mono NR.mono (Zt NR.mono (eQ NR.mono NR.mono (iB NR.mono g8) (eQ NR.mono NR.mono (uN oj (zP 1 (x%60)) NR.mono NR.mono (iB NR.mono aK) (iD C1 pQ 3 Y aK ⋯ ⋯)) (lX NR.mono)))) (iD C1 pQ 3 Y aK ⋯ ⋯)) (lX NR.mono))))) (dQ (by rw[ae];omega)) (λHk Hl G7=>?_));exact q _ _ _ (G7.un m4 7)
  rw[ae,WY,<-ekd]at G3;let#[Hc,G4]:=G3.HN m3 LR.see 6 Y;let hkl:(kdOf one).1.length<=12:=by let:=qQ6 dq (uy (names:=(spell (one/12) (iE one)).1) (a:=(spell (one/12) (iE one)).2) (iE one) ());rw[ae,bU,<-ekd]at this;omega
  unfold pC at MH;clear ekd;generalize kdOf one=kd at *;let#[Cv,a1]:=kd;dsimp only at *;let#[g1,g6]:=WX two;let#[p1,p12]:=zay two;let eg:(1+two%6:Int)=((ny two:Nat):Int):=by unfold ny;omega
  let ep:((ny two:Nat):Int)+two/6%7=((yR two:Nat):Int):=by unfold yR;omega
  refine bO (kT 8 (d:=.int (ny two:Nat)) m3 (XE.fr m2 (XE.to (uN oj (zP 1 (two%6)) NR.mono NR.mono (iB NR.mono aK) (iD C1 pQ 4 Y aK ⋯ ⋯)) Y (by rw[eg]))) (G4.oi .tr) Y (λv Ha Hb G5=>?_) nd);refine bO (kT 9 (d:=fy (jF two).1) (R':=Sep (NR K b (jF two).2) (Sep (NR K a a1) (NR K c three))) m3 (XE.fr m2 (zp C2 hr3 NR.mono 4 Y (eQ NR.mono NR.mono (XE.to (uN oj (zP (ny two:Nat) (two/6%7)) NR.mono NR.mono (iB NR.mono 8.) (iD C1 pQ 4 Y aK ⋯ ⋯)) Y (by rw[ep])) (lX NR.mono)) #[yR two,_,_,Y,(),tQ (two/6/7) (),Y,Y])) G5 Y (λv2 L0 L1 G6=>?_) nd);let pll:(jF two).1.length=yR two:=jo _ _;let pln:∀x∈(jF two).1,cU x:=(qm (two/6/7) (yR two) ()).1;let WT:(jF two).1.drop (ny two)=lH two:=Y;let hll:(lH two).length<=12:=by rw[<-WT,iQ];omega
  let lnn:∀x∈lH two,cU x:=λx hx=>pln x (nD (WT▸hx));refine bO (Dj m3 G6 (NK 10 11 (d1:=fy ((jF two).1.take (ny two))) (d2:=fy (lH two)) (VE.to (VO.ve (mP (ds:=(jF two).1.map .str) 9. .no (.yes 8.))) (by rw[Ke,NM];rfl)) (VE.to (VO.ve (mP (ds:=(jF two).1.map .str) 9. (.yes 8.) .no)) (by rw[Ke,lq];rfl)) Y nd ⋯) Y λσ4 T5 T6 G7=>?_);let Wx:∀d∈(ka two three).1,lD d.to:=λd hd=>by
   rcases aT.mp (Ct hd).2.1 with h|h
   .exact(lnn _ h).ok.2
   .rw[aA.mp h];show bR (.str ("":O))=true;symm
  let NW:(ka two three).1.length<=8:=Cu _ _ _;refine bO (kT 12 (d:=.list ((ka two three).1.map gZ)) (R':=Sep (NR K c (ka two three).2) (Sep (NR K b (jF two).2) (NR K a a1))) m3 (XE.fr m2 (Dv C4 hr NR.mono 5 Y (λF mF=>wd (Sep.mono NR.mono mF) (J0 9.) (wd (Sep.mono NR.mono mF) (J0 11.) Dt)) #[(jF two).1,lH two,Y,(),hll,pln,Y,Y])) (G7.oi .r3) Y (λv3 Ha5 Hb5 G8=>?_) nd);generalize ka two three=dk at *;let#[gK,c1]:=dk;generalize jF two=plx at *;let#[XB,b1]:=plx;generalize lH two=L7 at *;dsimp only at *;let G8:=G8.oi .l3;refine bO (Du (ds:=[]) m3 G8 13 (qO G8 (da cZ)) (λl=>rfl) (λl2 σ5 H5 H5' G9=>?_) nd);let G9:OF K B0 B _ H5 H5' σ5 [.val (.int one),.val (.int two),.val (.int three),.ref a,.ref b,.ref c,.val (.list (Cv.map sZ)),.un,.val (.int (ny two:Nat)),.val (fy XB),.val (fy (XB.take (ny two))),.val (fy L7),.val (.list (gK.map gZ)),.ref l2,.un,.un,.un,.un,.un,.un,.un]:=G9;refine bO (ye (tgt:=.one 7) (ds:=L7.map .str) (λi=>Sep (LR K l2 ((vB gK L7 b1 i).1.map Am)) (Sep (NR K b (vB gK L7 b1 i).2) (Sep (NR K a a1) (NR K c c1)))) (λ_=>m4) G9 bL Y (dX 11.) (fP 7 nd) (λi d hd=>?_) (λσ6 T7 T8 G10=>?_))
  .let#[nm,hn,rfl]:=get_map hd;let Lz:=(aq.mp hn).1;let okn:lD nm:=(lnn nm (aF hn)).ok.2;refine#[_,Y,Y,λD C0' σ' c9 H' G q=>?_];let es:vB gK L7 b1 (i+1)=xN gK (vB gK L7 b1 i) nm:=gj _ _ hn;let WB:(vB gK L7 b1 i).1.length<=12:=by let:=qQ6 dq (xO (gK:=gK) (lines:=L7) (b:=b1) i ());rw[ae,bU]at this;omega
   rw[es]at q;generalize vB gK L7 b1 i=s at *;let#[rms,y]:=s;unfold xN at q;dsimp only at *;rw[aH]at q;let nc:(["_law_desk","_law_name"]:!O).Nodup:=∎;let hlo:(gw gK nm).length<=8:=bZ (f7 _ _) NW;refine bO (Wc m4 (Sep.nt LR.nt (Sep.nt NR.nt (Sep.nt NR.nt NR.nt))) G Seen.refl 14 (own:=["_law_desk"]) (cap:=[7]) (N:=["_law_desk","_law_name"]) (tgt:=.one 0) (F:=Kd nm) (ds:=gK.map gZ) Y #[Y,∎,∎,Y,Y,?cap] (dX 12.) (λf s3 H3=>fP 0 nc) Y (small (by rw[ae];omega)) (λd hd=>?blk) (LN nm gK) (λd hd=>by let#[z,_,rfl]:=aj.mp hd;exact .int z) Y (λσ7 Ha7 Hb7 G11=>?_) nd)
   case cap=>intro j hj;rw[aA.mp hj];exact#[(by show(7:Nat)<21;decide),jc Y,Y]
   case blk=>
    let#[dk,SD,rfl]:=aj.mp hd;refine#[_,Y,λf s3 H3=>?_,λr oO f s3 H3=>?_]
    .refine uo (VT.to (j9 (k:=1) pQ (a9 (Wx dk SD)) (a9 okn) (dm 0. aK Y) 1.) ?_);rw[vm,bG];by_cases h:dk.to=nm
     .rw[qQ1 h,qQ3 Y];rfl
     .rw[qQ0 h,qQ2 gV];rfl
    .rw[vm]at oO;split at oO
     .cases oO;exact bE C0 pQ {dm 0. aK Y,mB (ds:=dk.places.map .str) (dm 0. aK Y) n0.len} #[dk.rule,dk.places.length,by rw[ae],Y]
     .cases oO
   let#[mx1,mx2]:=An (gw gK nm);refine b_ (Ah (R':=Sep (NR K b (y/5)) (Sep (NR K a a1) (NR K c c1))) m3 m3 G11 13 Y (XE.fr m2 (Ag NR.mono (eQ NR.mono NR.mono (iB NR.mono 7.) (eQ NR.mono NR.mono (uN oj (zP (maxOf (gw gK nm)) (y%5)) NR.mono NR.mono (iB NR.mono (gv (K8 Y) (YX (ns:=1::gw gK nm) mx1 mx2) {VO.ve (jt (d1:=[.int 1]) (d2:=(gw gK nm).map .int) (VO.ve (da (ds:=[.int 1]) (du aK cZ))) 14. (small (by simp only[ae,bj,cx];omega)))} n0.max Y)) (iD C1 pQ 4 Y aK ⋯ ⋯)) (lX NR.mono))))) (dQ (by rw[ae];omega)) (λHk Hl G12=>?_));exact q _ _ _ ((G12.un m4 7).un m4 14)
  rw[ae]at G10;let#[Hd,G11]:=G10.HN m3 LR.see 13 Y;generalize vB gK L7 b1 L7.length=rm at *;let#[rms,b2]:=rm;dsimp only at *;let G11:OF K B0 B _ Hd T8 σ6 [.val (.int one),.val (.int two),.val (.int three),.ref a,.ref b,.ref c,.val (.list (Cv.map sZ)),.un,.val (.int (ny two:Nat)),.val (fy XB),.val (fy (XB.take (ny two))),.val (fy L7),.val (.list (gK.map gZ)),.val (.list (rms.map Am)),.un,.un,.un,.un,.un,.un,.un]:=G11;refine bO (RN m3 G11 15 16 (da cZ) (da cZ) (λ_ _=>rfl) (λt h σ7 H7 H7' G12=>?_) Y nd ⋯);let G12:OF K B0 B (Sep (LR K t []) (Sep (NR K a a1) (Sep (LR K h []) (Sep (NR K c c1) (NR K b b2))))) H7 H7' σ7 [.val (.int one),.val (.int two),.val (.int three),.ref a,.ref b,.ref c,.val (.list (Cv.map sZ)),.un,.val (.int (ny two:Nat)),.val (fy XB),.val (fy (XB.take (ny two))),.val (fy L7),.val (.list (gK.map gZ)),.val (.list (rms.map Am)),.un,.ref t,.ref h,.un,.un,.un,.un]:=G12.oi (.sep .rfl ((OI.sep .rfl .tr).trans (OI.tr.trans (.sep .rfl (.sep .rfl .comm)))));let mF:∀{ds z y},bM (Sep (LR K h ds) (Sep (NR K c z) (NR K b y))):=Sep.mono LR.mono m2;let mG:∀{ds x y},bM (Sep (NR K b y) (Sep (LR K t ds) (NR K a x))):=Sep.mono NR.mono (Sep.mono LR.mono NR.mono);let m5:∀{ts x hs z y},bM (Sep (LR K t ts) (Sep (NR K a x) (Sep (LR K h hs) (Sep (NR K c z) (NR K b y))))):=Sep.mono LR.mono (Sep.mono NR.mono mF);let m6:∀{ts x hs z y},bM (Sep (LR K h hs) (Sep (NR K c z) (Sep (NR K b y) (Sep (LR K t ts) (NR K a x))))):=Sep.mono LR.mono (Sep.mono NR.mono mG);refine bO (ye (tgt:=.one 17) (ds:=gK.map gZ) (λi=>Sep (LR K t ((mr Cv gK a1 c1 i).1.1.map uO)) (Sep (NR K a (mr Cv gK a1 c1 i).1.2) (Sep (LR K h ((mr Cv gK a1 c1 i).2.1.map jg)) (Sep (NR K c (mr Cv gK a1 c1 i).2.2) (NR K b b2))))) (λ_=>m5) G12 bL Y (dX 12.) (fP 17 nd) (λi d hd=>?_) (λσ8 Ha8 Hb8 G13=>?_))
  .let#[dk,SD,rfl]:=get_map hd;let Lz:=(aq.mp SD).1;refine#[_,Y,Y,λD C0' σ' c9 H' G q=>?_];let es:mr Cv gK a1 c1 (i+1)=vD Cv (mr Cv gK a1 c1 i) dk:=gj _ _ SD;let#[tl,hl]:=IA (kinds:=Cv) (gK:=gK) (a:=a1) (c:=c1) hkl i;rw[es]at q;generalize mr Cv gK a1 c1 i=s at *;let#[#[tms,x],#[WZ,z]]:=s;unfold vD at q;dsimp only at *;refine bO (ye (tgt:=.one 18) (ds:=Cv.map sZ) (λj=>Sep (LR K t (((Cv.take j).foldl (mq dk.name) (tms,x)).1.map uO)) (Sep (NR K a ((Cv.take j).foldl (mq dk.name) (tms,x)).2) (Sep (LR K h (WZ.map jg)) (Sep (NR K c z) (NR K b b2))))) (λ_=>m5) G bL Y (dX 6.) (fP 18 nd) (λj d hd=>?_) (λσ9 Ha9 Hb9 G14=>?_))
   .let#[kd,hkd,rfl]:=get_map hd;let E5:=(aq.mp hkd).1;refine#[_,Y,Y,λD C0' σ' c9 H' G q=>?_];let tl2:=Iy (dn:=dk.name) (l:=Cv.take j) (s:=(tms,x));rw[bU]at tl2;rw[gj _ _ hkd]at q
    generalize(Cv.take j).foldl (mq dk.name) (tms,x)=s at *
    let#[ts,y]:=s;unfold mq at q;dsimp only at *;refine b_ (Zu (R':=Sep (LR K t (ts.map uO)) (Sep (NR K a (y/2)) (Sep (LR K h (WZ.map jg)) (Sep (NR K c z) (NR K b b2))))) (kb:=decide (y%2=1)) m5 (XT.to (Wf (Ho (zQ hr)) (ED (eK 20 _) (eK 20 _)) m5 m5 (XE.fl LR.mono (XE.fr mF (iD C1 pQ 3 Y aK ⋯ ⋯))) (iB m5 aK) Y) (o7 _ _)) G (λe Ha' Hb' G1=>?_) (λe Ha' Hb' G1=>nO ?_))
    .rw[qQ3 (qQ4 e),aH]at q;refine b_ (Ah (R':=Sep (NR K a (y/2/20)) (Sep (LR K h (WZ.map jg)) (Sep (NR K c z) (NR K b b2)))) (Sep.mono NR.mono mF) (Sep.mono NR.mono mF) G1 15 Y (XE.fr mF (Ag NR.mono (eQ NR.mono NR.mono (iB NR.mono (dm 17. aK Y)) (eQ NR.mono NR.mono (iB NR.mono (dm 18. aK Y)) (eQ NR.mono NR.mono (uN oj (zP 1 (y/2%20)) NR.mono NR.mono (iB NR.mono aK) (iD C1 pQ 3 Y aK ⋯ ⋯)) (lX NR.mono)))))) (dQ (by rw[ae];omega)) (λHk Hl G2=>?_));exact q _ _ _ (G2.un m5 18)
    .rw[qQ2 (qQ5 e)]at q;exact q _ _ _ (G1.un m5 18)
   rw[ae,bV]at G14;generalize Cv.foldl (mq dk.name) (tms,x)=s at *;let#[ts,y]:=s;dsimp only at *;let G15:=G14.oi (OI.qP.trans (OI.comm.trans (OI.assoc.trans (.sep .rfl .assoc))));let z0:=cX z (b:=3) ⋯;let z1:=cQ z (b:=3) ⋯;refine b_ (Ox (tgt:=.one 19) (ds:=gy (z%3).toNat) (λj=>Sep (LR K h ((vC dk.name (WZ,z/3) j).1.map jg)) (Sep (NR K c (vC dk.name (WZ,z/3) j).2) (Sep (NR K b b2) (Sep (LR K t (ts.map uO)) (NR K a y))))) (λ_=>_) (λ_=>m6) G15 bL Y (wg m6 (XE.fl LR.mono (XE.fr mG (iD C1 pQ 5 Y aK ⋯ ⋯))) n0.rng () ()) (fP 19 nd) (λj d hd=>?_) (λσ9 Ha9 Hb9 G16=>?_))
   .let E5:j<3:=by let:=(aq.mp hd).1;rw[fe]at this;omega
    let#[_,_,rfl]:=aj.mp (aF hd);refine#[_,Y,Y,λD C0' σ' c9 H' G q=>?_];let B6:=Iz (dn:=dk.name) (s:=(WZ,z/3)) j;rw[vC]at q;generalize vC dk.name (WZ,z/3) j=s at *;let#[hs,u]:=s;dsimp only at *;rw[aH]at q;refine bO (kT 20 (d:=.int (u%60)) m6 (XE.fl LR.mono (XE.fr mG (iD C1 pQ 5 Y aK ⋯ ⋯))) G Y (λv Ha' Hb' G1=>?_) nd);refine b_ (Ah (R':=Sep (NR K c (u/60/60)) (Sep (NR K b b2) (Sep (LR K t (ts.map uO)) (NR K a y)))) (Sep.mono NR.mono mG) (Sep.mono NR.mono mG) G1 16 Y (XE.fr mG (Ag NR.mono (eQ NR.mono NR.mono (iB NR.mono (dm 17. aK Y)) (eQ NR.mono NR.mono (iB NR.mono 20.) (eQ NR.mono NR.mono (uN oj (zP (u%60+1) (u/60%60)) NR.mono NR.mono (iB NR.mono (fE 20. aK)) (iD C1 pQ 5 Y aK ⋯ ⋯)) (lX NR.mono)))))) (dQ (by rw[ae];omega)) (λHk Hl G2=>?_));exact q _ _ _ ((G2.un m6 19).un m6 20)
   rw[fe]at G16;exact q _ _ _ ((G16.oi ((OI.sep .rfl .qP).trans (OI.qP.trans (OI.comm.trans .assoc)))).un m5 17)
  rw[ae]at G13;generalize mr Cv gK a1 c1 gK.length=s at *;let#[#[ts,y],#[hs,z]]:=s;dsimp only at *;let#[He,G14]:=G13.HN (Sep.mono NR.mono mF) LR.see 15 Y;let#[Hf,G15]:=(G14.oi .tr).HN m3 LR.see 16 Y;exact b_ (Oi G15 (JN (.cons aW 6. (.cons aW 10. (.cons aW 13. (.cons aW 12. (.cons aW 15. (.cons aW 16. (.cons aW (VO.ve (da cZ)) .nil))))))) (show([("kinds":O),"gates","lines","desks","times","hours","paces"]).Nodup by symm) ∅ (by show 7<=15;decide)) MH)
end
def PJ(p:Pl)(m:Int)(k:Nat):O×O×Int×Int:=(p.gates.getD k "",(pickOf p.kinds ("",none) (m/3)).1,1+m/30%5,1+m/150%999999)
def FQ(p:Pl)(cell:Int)(k:Nat):Option (O×O×Int×Int):=if 0<gP cell (140+k)%3 then some (PJ p (gP cell (140+k)) k)else none
def rK(p:Pl)(cell:Int)(i:Nat):!(O×O×Int×Int):=(cv i).filterMap (FQ p cell)
def vE(p:Pl)(cell:Int):Pl:={ p with paces:=rK p cell p.gates.length }
theorem SF(h:q∈rK p cell i):∃k,k<i/\q=PJ p (gP cell (140+k)) k:=by
 let#[k,hk,e]:=jl.mp h;unfold FQ at e;split at e
 .cases e;exact#[k,gb.mp hk,Y]
 .cases e
theorem L8(hg:p.gates.Nodup)(cell:Int):((rK p cell p.gates.length).map (·.1)).Nodup:=by
 unfold rK;rw[List.map_filterMap];refine List.Pairwise.filterMap _ (R:=λi j=>i<j/\j<p.gates.length) (λi j yK x hx y hy=>?_) ?_
 .simp only[rB]at hx hy;let#[u,hu,rfl]:=hx;let#[v,hv,rfl]:=hy;unfold FQ at hu hv;split at hu<;>cases hu;split at hv<;>cases hv;intro e;let e2:p.gates.getD i ""=p.gates.getD j "":=e;rw[aQ,aQ,ax (),ax ()]at e2;exact ky.mp hg i j () () yK.1 e2
 .refine ky.mpr λi j hi hj yK=>?_;rw[cW]at hi hj;rw[List.getElem_range,List.getElem_range];exact#[yK,hj]
theorem PK(hk:1<=p.kinds.length)(h:q∈rK p cell p.gates.length):q.1∈p.gates/\q.2.1∈p.kinds.map (·.1)/\(1<=q.2.2.1/\q.2.2.1<=5)/\1<=q.2.2.2/\q.2.2.2<=999999:=by
 let#[k,hk',rfl]:=SF h;generalize gP cell (140+(k:Int))=m;let a1:0<=m/30%5:=cX _ ⋯;let a2:m/30%5<5:=cQ _ ⋯;let b1:0<=m/150%999999:=cX _ ⋯;let b2:m/150%999999<999999:=cQ _ ⋯;refine#[?_,aj.mpr #[_,(zr (d:=(("",none):O×Option Int)) (F:=sZ) hk (m/3)).2,Y],#[?_,?_],?_,?_]
 .show p.gates.getD k ""∈p.gates;rw[aQ,ax hk'];exact eD hk'
 .show 1<=1+m/30%5;omega
 .show 1+m/30%5<=5;omega
 .show 1<=1+m/150%999999;omega
 .show 1+m/150%999999<=999999;omega
theorem FT(ok:jh p)(hk:1<=p.kinds.length)(cell:Int):jh (vE p cell):=by
 refine#[ok.kn,ok.gn,ok.ln,ok.dn,ok.tn,ok.hn,ok.kinds,ok.gates,ok.lines,ok.desks,ok.times,ok.hours,bZ (f7 _ _) ([cW]▸ok.gn),?_]
 .intro q hq;let#[h1,h2,h3,h4]:=PK hk hq;let#[z,hz,e]:=aj.mp h2;exact#[ok.gates _ h1,[<-e]▸(ok.kinds z hz).1,#[(),()],(),()]
theorem IB(g:oH p)(hk:1<=p.kinds.length)(cell:Int):oH (vE p cell):=by
 refine#[g.kn,g.pn,g.dn,g.dk,g.dj,g.tn,g.tm,g.hr,g.kk,g.ll,L8 (cF.mp g.pn).1 cell,?_]
 .intro q hq;let#[h1,h2,h3,h4]:=PK hk hq;exact#[h1,h2,h3.1,h4.1]
theorem PL(p:Pl)(l:!(O×O×Int×Int)):EW (gB p) "paces" (.list (l.map tj))=gB { p with paces:=l }:=by unfold EW gB;rfl
def Rpa(ds:!U)(d:U):Prop:=∃(p:Pl)(cell:Int),ds=[fc p,.int cell]/\jh p/\1<=p.kinds.length/\d=fc (vE p cell)
abbrev Npa:!O:=["_law_h","_law_cell","_law_paces","_law_k","_law_gate","_law_m","_law_kind","_law_made"]
section
variable{K:ai}
theorem Uk:cg Npa ["_law_h","_law_cell"] (bA (top 57)):=by grind
theorem zeA{P:bW}{w:cP}{mg:O->Option M}{base:dv}{f:J}(F:kz K "_law_paced" "_law_paced" (top 57) f fd)(n:Na mg)(md:mg "dict"=none)(C1:a_ P w K mg base 1 "_law_mix" ["_law_cell","_law_k"] (gi K HW)):dW P w K mg base jO 2 f fd ["_law_h","_law_cell"] (gi K Rpa):=
 iO F Uk (by ext) λ_ _ h=>by
  let#[p,cell,rfl,ok,hk,rfl]:=h;intro gk A outer s H E hr;let nd:Npa.Nodup:=Uk.nd;let hgn:=ok.gn;refine aL (j0 2 (ds:=[]) (da cZ) nd) ?_;refine aL (lU (tgt:=.tup [3,4]) (o:=.nx [.val (fc p),.val (.int cell),.own ((rK p cell p.gates.length).map tj),.un,.un,.un,.un,.un]) bL Y (zj (ds:=p.gates.map .str) (eP hr 0. aW (Ao p)) n.YY)
   (fh Y (bx (fP 3 nd) (bx (fP 4 nd) dU)))
   (λi=>[.val (fc p),.val (.int cell),.own ((rK p cell i).map tj),.un,.un,.un,.un,.un]) p.gates.length Y ([h_,ae]▸aE _) (λi d hi hd=>?_) (.inl #[by rw[h_,ae],Y])) ?_
  .let#[x,hx,rfl]:=um hd;obtain rfl:x=.str (p.gates.getD i ""):=by rw[ay,ax hi]at hx;cases hx;rw[aQ,ax hi];rfl
   refine#[_,Y,?_];refine aL (dC 5 (d:=.int (gP cell (140+i))) (bE C1 hr {1.,fE aK 3.} #[cell,140+(i:Int),Y,(),(),Y]) nd) ?_;let hs:rK p cell (i+1)=rK p cell i++(if 0<gP cell (140+i)%3 then [PJ p (gP cell (140+i)) i]else []):=by
    unfold rK;rw[sj,uh]
    congr 1
    by_cases h:0<gP cell (140+i)%3
    .rw[qQ3 h,c5 (show FQ p cell i>>(PJ p (gP cell (140+i)) i)from qQ3 h)];rfl
    .rw[qQ2 h,f6 (show FQ p cell i=none from qQ2 h)];rfl
   rw[hs];let hl:(rK p cell i).length<=i:=bZ (f7 _ _) ([cW]▸aE _);generalize gP cell (140+(i:Int))=m;let#[pk,_]:=zr (d:=(("",none):O×Option Int)) (F:=sZ) hk (m/3);by_cases h0:0<m%3
   .rw[qQ3 h0,aH,fU];refine eW (a8 (dH (VT.to (Nz (fY 5. aK ⋯) aK) (qQ1 h0)) (aL (dC 6 (d:=.str (pickOf p.kinds ("",none) (m/3)).1) (dm (eS (eP hr 0. aW (wj p)) (VE.to (fY (kQ 5. aK #[⋯,⋯]) (iN (eP hr 0. aW (wj p)) n.len) (by rw[ae];omega)) (by rw[ae])) pk) aK Y) nd) (a8 (fk 2 Y (d:=tj (PJ p m i)) (iX {4.,6.,fE aK (fY (kQ 5. aK #[⋯,⋯]) aK ⋯),fE aK (fY (kQ 5. aK #[⋯,⋯]) aK ⋯)}) (dQ (by rw[ae];omega))))))) #[.inr Y,.inr Y,.inr Y,.inl Y,.inl Y,.inl Y,.inl Y,.inl Y,trivial]
   .rw[qQ2 h0,bC];exact eW (a8 (bP (VT.to (Nz (fY 5. aK ⋯) aK) (qQ0 h0)) bw)) #[.inr Y,.inr Y,.inr Y,.inl Y,.inl Y,.inl Y,.inl Y,.inl Y,trivial]
  refine fF 2 Y ?_;refine qf λB0 B σ H0 Hh D fr MH=>?_;refine bO (Ds fr 7 nd (λ_=>rfl) (kv:=gB p) 0. md λq σ1 Qj Qk TB G1=>?_);refine bO (HF G1 hr 7 Y aW (d:=.list ((rK p cell p.gates.length).map tj)) 2. (dQ (by show 7<=1000000;decide)) λL0 L1 G2=>?_);rw[PL]at G2;let#[Ha,sm,f1]:=G2.done (i:=7) Y DR.rep;exact HD (d:=fc (vE p cell)) (a8 (b9 7.)) f1 MH
end
def tU(c k:Int):Nat->Int
 |0=>0
 |j+1=>tU c k j*1999999973+gP c (20*k+j)
def ji(ns:!Int):Pl:=if R4 ns%2=0 then pC (tU (Wv ns) 0 12) (tU (Ww ns) 1 12) (tU (R4 ns) 2 12/2)else pC (Wv ns) (Ww ns) (R4 ns/2)
def yS(p:Pl)(cell:Int)(k:Nat):O×Int×Int:=((pickOf p.desks #["","",.eldest,[]] (gP cell (651+k))).name,gP cell (651+k)/9%2000,gP cell (651+k)/9%2000+1+gP cell (651+k)/20000%90)
def Eg(p:Pl)(cell:Int):Nat:=if p.desks=[]then 0 else(gP cell 650%5).toNat
def IC(p:Pl)(cell:Int):Pl:={ p with hours:=p.hours++(cv (Eg p cell)).map (yS p cell) }
theorem Kl(p:Pl)(l:!(O×Int×Int)):EW (gB p) "hours" (.list (l.map jg))=gB { p with hours:=l }:=by unfold EW gB;rfl
theorem SG(r:Rl):Lay (n+2) (Kc r):=by
 refine uq (n:=n+1) λd hd=>?_;rcases au.mp hd with rfl|hd
 .refine a9 ?_;cases r<;>(dsimp only[oP,lD];symm)
 .cases r with
  |turns s=>rw[aA.mp hd];exact uq (n:=n) λd hd=>by let#[z,_,rfl]:=aj.mp hd;exact eK _ _
  |rank b=>rw[aA.mp hd];cases b with|none=>exact#[rfl,aY _]|some i=>exact eK _ _
  |many m=>rw[aA.mp hd];exact eK _ _
  |gather m a=>
   rcases au.mp hd with rfl|hd
   .exact eK _ _
   .rw[aA.mp hd];exact eK _ _
  |meet=>cases hd
  |eldest=>cases hd
theorem L9{l:!Dk}(h:∀d∈l,lD d.name/\lD d.to/\∀x∈d.places,lD x):Lay 20 (.list (l.map gZ)):=k_ (n:=19) λd hd=>by
 let#[k,hk,rfl]:=aj.mp hd;let#[h1,h2,h3]:=h k hk;refine uq (n:=18) λd hd=>?_;simp only[au,aS,or_false]at hd;rcases hd with rfl|rfl|rfl|rfl
 .exact a9 h1
 .exact a9 h2
 .exact SG _
 .exact uq (n:=17) λd hd=>by let#[x,hx,rfl]:=aj.mp hd;exact a9 (h3 x hx)
section
variable{K:ai}
abbrev Nri:!O:=["_law_cell","_law_k","_law_number","_law_j"]
theorem Ul:cg Nri ["_law_cell","_law_k"] (bA (top 55)):=by grind
def Rri(ds:!U)(d:U):Prop:=∃c k:Int,ds=[.int c,.int k]/\0<=k/\k<=10/\d=.int (tU c k 12)
theorem zeB{P:bW}{w:cP}{mg:O->Option M}{base:dv}{f:J}(F:kz K "_law_rich" "_law_rich" (top 55) f fd)(n:Na mg)(C1:a_ P w K mg base 1 "_law_mix" ["_law_cell","_law_k"] (gi K HW)):dW P w K mg base jO 2 f fd ["_law_cell","_law_k"] (gi K Rri):=
 iO F Ul (by ext) λ_ _ h=>by
  let#[c,k,rfl,h0,h1,rfl]:=h;intro gk A outer s H E hr;let nd:Nri.Nodup:=Ul.nd;refine aL (dC 2 (d:=.int 0) aK nd) ?_;refine aL (lU (tgt:=.one 3) (o:=.nx [.val (.int c),.val (.int k),.val (.int (tU c k 12)),.un]) bL Y (sP (n:=12) aK n.rng ⋯ ⋯) (fP 3 nd) (λi=>[.val (.int c),.val (.int k),.val (.int (tU c k i)),.un]) 12 Y (aE _) (λi d hi hd=>?_) (.inl #[Y,Y])) (a8 (b9 2.));obtain rfl:d=.int i:=by
   let:(gy 12)[i]?>>(.int (i:Nat)):=by unfold gy;rw[ay,kK hi];rfl
   exact(bK (hd.symm.trans this))
  refine#[_,Y,?_];refine eW (a8 (dC 2 (fE (vb 2. aK (.inr #[⋯,⋯])) (bE C1 hr {0.,fE (vb aK 1. (.inl #[⋯,⋯])) 3.} #[c,20*k+i,Y,(),(),Y])) nd)) #[.inr Y,.inr Y,.inr Y,.inl Y,trivial]
abbrev Nan:!O:=["_law_script","_law_cells"]
theorem Um:cg Nan ["_law_script"] (bA (top 56)):=by grind
def Ran(ds:!U)(d:U):Prop:=∃ns:!Int,ds=[O1 ns]/\d=fc (ji ns)
def Fce(ns:!Int):U->Option U
 | .int k=>some (.int (ns.getD k.toNat 0))
 |_=>none
def zaE:U->Option U
 | .tuple [.int k,.int c]=>some (.int (tU c k 12))
 |_=>none
theorem zeC(F:kz K "_law_any_plant" "_law_any_plant" (top 56) f fd)(n:Na mg)(C0:a_ P w K mg base 1 "_law_cell_at" ["_law_script","_law_k"] (gi K J'))(C1:a_ P w K mg base 2 "_law_rich" ["_law_cell","_law_k"] (gi K Rri))(C2:a_ P w K mg base 5 "_law_plant_digits" ["_law_one","_law_two","_law_three"] (gi K Rpd)):dW P w K mg base jO 6 f fd ["_law_script"] (gi K Ran):=
 iO F Um (by ext) λ_ _ h=>by
  let#[ns,rfl,rfl]:=h;intro gk A outer s H E hr;let nd:Nan.Nodup:=Um.nd;let nc:(["_law_k","_law_script"]:!O).Nodup:=∎;let nc2:(["_law_k","_law_cell"]:!O).Nodup:=∎;refine aL (Df 1 (own:=["_law_k"]) (cap:=[0]) (N:=["_law_k","_law_script"]) (tgt:=.one 0) (F:=Fce ns) (ds:=gy 3) Y #[Y,∎,∎,Y,Y,?_] (sP (n:=3) aK n.rng ⋯ ⋯) (λf s3 H3=>fP 0 nc) Y (small ⋯) (λd hd=>?_) nd) ?_
  .intro j hj;rw[aA.mp hj];exact#[(by show(0:Nat)<2;decide),jc Y,Y]
  .let#[q,hq,rfl]:=aj.mp hd;exact Bi Y Y λf s3 H3=>bE C0 (hr.mono ()) {1.,0.} #[ns,q,Y,Y]
  rw[show(gy 3).filterMap (Fce ns)=[.int (Wv ns),.int (Ww ns),.int (R4 ns)]from Y];refine fF 1 Y ?_;unfold ji;by_cases h2:R4 ns%2=0
  .rw[qQ3 h2];refine aL (dH (VT.to (rg hr (fY (eS 1. aK Y) aK ⋯) aK) (qQ1 h2)) (a8 (Df 1 (own:=["_law_k","_law_cell"]) (cap:=[]) (N:=["_law_k","_law_cell"]) (cl:=[]) (tgt:=.tup [0,1]) (F:=zaE) (ds:=zR [.int (Wv ns),.int (Ww ns),.int (R4 ns)]) Y #[Y,∎,∎,Y,Y,∅] (zj 1. n.YY) (λf s3 H3=>fh Y (bx (fP 0 nc2) (bx (fP 1 nc2) dU))) Y (small (by show 3<=1000000;decide)) (λd hd=>?_) nd))) ?_
   .let:∃(q:Nat)(c:Int),d=.tuple [.int q,.int c]/\q<=2:=by
     let:d∈[dg [.int (0:Nat),.int (Wv ns)],.tuple [.int (1:Nat),.int (Ww ns)],.tuple [.int (2:Nat),.int (R4 ns)]]:=hd;simp only[au,aS,or_false]at this;rcases this with rfl|rfl|rfl
     .exact#[0,_,Y,⋯]
     .exact#[1,_,Y,⋯]
     .exact#[2,_,Y,⋯]
    let#[q,c,rfl,hq]:=this;exact Bi Y Y λf s3 H3=>bE C1 (hr.mono ()) {1.,0.} #[c,q,Y,(),(),Y]
   rw[show(zR [.int (Wv ns),.int (Ww ns),.int (R4 ns)]).filterMap zaE=[.int (tU (Wv ns) 0 12),.int (tU (Ww ns) 1 12),.int (tU (R4 ns) 2 12)]from Y];refine fF 1 Y ?_;exact a8 (b9 (bE C2 hr {eS 1. aK Y,eS 1. aK Y,kQ (eS 1. aK Y) aK #[⋯,⋯]} #[_,_,_,Y,Y]))
  .rw[qQ2 h2];refine aL (bP (VT.to (rg hr (fY (eS 1. aK Y) aK ⋯) aK) (qQ0 h2)) bw) ?_;exact a8 (b9 (bE C2 hr {eS 1. aK Y,eS 1. aK Y,kQ (eS 1. aK Y) aK #[⋯,⋯]} #[_,_,_,Y,Y]))
abbrev Nhm:!O:=["_law_h","_law_cell","_law_more","_law_k","_law_m","_law_begin","_law_made"]
theorem Uo:cg Nhm ["_law_h","_law_cell"] (bA (top 58)):=by grind
def Rhm(ds:!U)(d:U):Prop:=∃(p:Pl)(cell:Int),ds=[fc p,.int cell]/\jh p/\d=fc (IC p cell)
theorem zeD(F:kz K "_law_hours_more" "_law_hours_more" (top 58) f fd)(n:Na mg)(md:mg "dict"=none)(C1:a_ P w K mg base 1 "_law_mix" ["_law_cell","_law_k"] (gi K HW)):dW P w K mg base jO 2 f fd ["_law_h","_law_cell"] (gi K Rhm):=
 iO F Uo (by ext) λ_ _ h=>by
  let#[p,cell,rfl,ok,rfl]:=h;intro gk A outer s H E hr;let nd:Nhm.Nodup:=Uo.nd;let hh:=ok.hn;let b5:=cX (gP cell 650) (b:=5) ⋯;let b6:=cQ (gP cell 650) (b:=5) ⋯;let en:gP cell 650%5*(if(not (df (.list (p.desks.map gZ)) (.list [])))=true then 1 else 0)=((Eg p cell:Nat):Int):=by
   unfold Eg;cases p.desks with
   |nil=>show _*(0:Int)=_;rw[Int.mul_zero];rfl
   |cons d l=>rw[qQ2 (c:=(d::l:!Dk)=[]) ∅];show _*(1:Int)=_;omega
  let hn4:Eg p cell<=4:=by unfold Eg;split<;>omega
  let zm:∀i,i<Eg p cell->p.desks≠[]:=λi hi z=>by unfold Eg at hi;rw[qQ3 z]at hi;omega
  refine aL (j0 2 (ds:=[]) (da cZ) nd) ?_;refine aL (lU (tgt:=.one 3) (o:=.nx [.val (fc p),.val (.int cell),.own (((cv (Eg p cell)).map (yS p cell)).map jg),.un,.un,.un,.un]) bL Y (sP (n:=(Eg p cell:Nat)) (VE.to (vb (fY (bE C1 hr {1.,aK} #[cell,650,Y,⋯,⋯,Y]) aK ⋯) (Ru (JB hr (L9 λd hd=>#[(ok.desks d hd).1.ok.2,(ok.desks d hd).2.1.elim (λz=>[z]▸(show bR (.str ("":O))=true by symm)) λz=>z.ok.2,λx hx=>((ok.desks d hd).2.2.2.2 x hx).ok.2]) (k_ (n:=19) λd hd=>by cases hd) (eP hr 0. aW (tq p)) (VO.ve (da cZ))) n.int) (.inl #[(),()])) (by rw[en])) n.rng () ()) (fP 3 nd) (λi=>[.val (fc p),.val (.int cell),.own (((cv i).map (yS p cell)).map jg),.un,.un,.un,.un]) (Eg p cell) Y ([fe]▸aE _) (λi d hi hd=>?_) (.inl #[by rw[fe];rfl,Y])) ?_
  .obtain rfl:d=.int i:=by
    let:(gy ((Eg p cell:Int)).toNat)[i]?>>(.int (i:Nat)):=by unfold gy;rw[cN,ay,kK hi];rfl
    exact(bK (hd.symm.trans this))
   refine#[_,Y,?_];refine aL (dC 4 (d:=.int (gP cell (651+i))) (bE C1 hr {1.,fE aK 3.} #[cell,651+(i:Int),Y,(),(),Y]) nd) ?_;let NW:1<=p.desks.length:=su.mpr λz=>zm i hi (gq.mp z);rw[sj,aH,aH,fU,fU];unfold yS;let pk:=(zr (d:=(#["","",.eldest,[]]:Dk)) (F:=gZ) NW (gP cell (651+i))).1;generalize pickOf p.desks #["","",.eldest,[]] (gP cell (651+i))=dk at *;refine aL (dC 5 (fY (kQ 4. aK #[⋯,⋯]) aK ⋯) nd) ?_;exact eW (a8 (fk 2 Y (iX {dm (eS (eP hr 0. aW (tq p)) (VE.to (fY 4. (iN (eP hr 0. aW (tq p)) n.len) (by rw[ae];omega)) (by rw[ae])) pk) aK Y,5.,fE (fE 5. aK) (fY (kQ 4. aK #[⋯,⋯]) aK ⋯)}) (dQ (by rw[ae,ae,cW];omega)))) #[.inr Y,.inr Y,.inr Y,.inl Y,.inl Y,.inl Y,.inl Y,trivial]
  refine fF 2 Y ?_;refine qf λB0 B σ H0 Hh D fr MH=>?_;refine bO (Ds fr 6 nd (λ_=>rfl) (kv:=gB p) 0. md λq σ1 Qj Qk TB G1=>?_);refine bO (HF G1 hr 6 Y aW (d:=.list ((p.hours++(cv (Eg p cell)).map (yS p cell)).map jg)) (VE.to (VO.ve (jt (eP hr 0. aW (tD p)) 2. (small (by rw[ae,ae,ae,cW];omega)))) (by rw[aH])) (dQ (by show 7<=1000000;decide)) λL0 L1 G2=>?_);rw[Kl]at G2;let#[Ha,sm,f1]:=G2.done (i:=6) Y DR.rep;exact HD (d:=fc (IC p cell)) (a8 (b9 6.)) f1 MH
end
end Mg
namespace Mg
open L2 PySem PyProof.Rows
theorem Km(lines:!O)(n:Int):∀(ps:!(O×!O))(s:!Dk×Int),∃ds,(ps.foldl (rj lines) s).1=s.1++ds/\(ds.map (·.name)).Sublist (ps.map (·.1))/\(ds.map (·.places)).Sublist (ps.map (·.2))
 | [],s=>#[[],∅,.slnil,.slnil]
 |x::ps,s=>by
  let#[ds,e1,e2,e3]:=Km lines n ps (rj lines s x);rw[dN,e1];unfold rj;split
  .exact#[ds,Y,.cons _ e2,.cons _ e3]
  .refine#[#[x.1,L6 lines s.2,(jX (s.2/((lines.length:Int)+1)) x.2.length).1,x.2]::ds,∅,?_,?_]
   .exact .cons_cons _ e2
   .exact .cons_cons _ e3
theorem L_{α:Type}(l:!α)(i:Nat)(x:α):(qe l i x).Perm (x::l):=by unfold qe;refine List.perm_middle.trans ?_;rw[GK]
theorem FU{α:Type}:∀(tk:!(!α))(j:Nat)(x:α)(i:Nat),j<tk.length->((tk.set j (qe (tk.getD j []) i x)).flatten).Perm (x::tk.flatten)
 |r::tk,0,x,i,_=>by show(qe r i x++tk.flatten).Perm (x::(r++tk.flatten));exact(L_ r i x).append_right _
 |r::tk,j+1,x,i,h=>by show(r++(tk.set j (qe (tk.getD j []) i x)).flatten).Perm (x::(r++tk.flatten));exact((FU tk j x i ↑h).append_left r).trans List.perm_middle
theorem FV(nd:places.Nodup):∀k,k<=places.length->(nu nn n places k).1.flatten.Nodup/\∀x∈(nu nn n places k).1.flatten,x∈places.take k
 |0,_=>by
  let e:(nu nn n places 0).1.flatten=[]:=by show(bo nn ([]:!O)).flatten=[];simp
  rw[e];exact#[gX,λx hx=>by cases hx]
 |k+1,h=>by
  let#[i1,i2]:=FV (nn:=nn) (n:=n) nd k ();let es:nu nn n places (k+1)=tS nn (nu nn n places k) places[k]:=gj _ _ (ax ());let hl:=(wB nn n places k).1;rw[es,cB,ax ()];unfold tS;split
  .rename_i c
   let pm:=FU (nu nn n places k).1 ((nu nn n places k).2%((nn:Int)+1)).toNat places[k] ((nu nn n places k).2/((nn:Int)+1)%((((nu nn n places k).1.getD ((nu nn n places k).2%((nn:Int)+1)).toNat []).length:Int)+1)).toNat ();refine#[pm.nodup_iff.mpr (cD.mpr #[λz=>?_,i1]),λx hx=>?_]
   .let hz:=i2 _ z;let#[j,hj,e]:=pV.mp hz;let:=(rA nd (h₀:=()) (h₁:=())).mp e;omega
   .rcases au.mp (pm.mem_iff.mp hx)with rfl|hx
    .exact bt _ ∅
    .exact bH _ (i2 x hx)
  .exact#[i1,λx hx=>bH _ (i2 x hx)]
theorem PN:∀{l:!(O×Option Int)}{s:!(O×O×Int)×Int},∃ts,(l.foldl (mq dn) s).1=s.1++ts/\(ts.map (·.2.1)).Sublist (l.map (·.1))/\∀q∈ts,q.1=dn/\1<=q.2.2/\q.2.2<=20
 | [],s=>#[[],∅,.slnil,λq hq=>by cases hq]
 |x::l,s=>by
  let#[ts,e1,e2,e3]:=PN (l:=l) (s:=mq dn s x) (dn:=dn);rw[dN,e1];unfold mq;split
  .refine#[(dn,x.1,1+s.2/2%20)::ts,∅,.cons_cons _ e2,λq hq=>?_];rcases au.mp hq with rfl|hq
   .exact#[Y,by dsimp only;omega,by dsimp only;omega]
   .exact e3 q hq
  .exact#[ts,Y,.cons _ e2,e3]
theorem PQ:∀k,∀q∈(vC dn s k).1,q∈s.1\/(q.1=dn/\0<=q.2.1/\q.2.1<q.2.2/\q.2.2<=200)
 |0,q,h=>.inl h
 |k+1,q,h=>by
  rw[vC]at h;rcases aT.mp h with h|h
  .exact PQ k q h
  .rw[aA.mp h]
   generalize(vC dn s k).2=u
   exact .inr #[Y,by dsimp only;omega,by dsimp only;omega,by dsimp only;omega]
theorem PV(kn:(kinds.map (·.1)).Nodup)(dn:(gK.map (·.name)).Nodup):∀k,k<=gK.length->((mr kinds gK a c k).1.1.map λq=>(q.1,q.2.1)).Nodup/\(∀q∈(mr kinds gK a c k).1.1,q.1∈(gK.take k).map (·.name)/\q.2.1∈kinds.map (·.1)/\1<=q.2.2/\q.2.2<=20)/\∀q∈(mr kinds gK a c k).2.1,q.1∈(gK.take k).map (·.name)/\0<=q.2.1/\q.2.1<q.2.2/\q.2.2<=200
 |0,_=>#[gX,λq hq=>(by cases hq),λq hq=>(by cases hq)]
 |k+1,h=>by
  let#[i1,i2,i3]:=PV kn dn (a:=a) (c:=c) k ();let hk:gK[k]?>>gK[k]:=ax ();let es:mr kinds gK a c (k+1)=vD kinds (mr kinds gK a c k) gK[k]:=gj _ _ hk;let et:(gK.take (k+1)).map (·.name)=(gK.take k).map (·.name) ++ [gK[k].name]:=by rw[cB,hk,aH];rfl
  rw[es,et];unfold vD;dsimp only;let Ss:gK[k].name∉(gK.take k).map (·.name):=λz=>by let#[d,hd,e]:=aj.mp z;let#[j,hj,rfl]:=pV.mp hd;let:=(rA dn (h₀:=by rw[ae];omega) (h₁:=by rw[ae];omega) (i:=j) (j:=k)).mp ([ko,ko]▸e);omega
  let#[ts,e1,e2,e3]:=PN (dn:=gK[k].name) (l:=kinds) (s:=(mr kinds gK a c k).1);rw[e1];refine#[?_,λq hq=>?_,λq hq=>?_]
  .rw[aH,cF];refine#[i1,?_,λx hx y hy=>?_]
   .let h2:(ts.map (·.2.1)).Nodup:=kn.sublist e2;let h3:((ts.map λq=>(q.1,q.2.1)).map Prod.snd).Nodup:=[aG]▸h2;exact List.Pairwise.of_map Prod.snd (λa b h e=>h (qQ6 Prod.snd e)) h3
   .let#[q,hq,rfl]:=aj.mp hx;let#[r,hr,rfl]:=aj.mp hy;intro z;let:=qQ6 Prod.fst z;dsimp only at this;exact Ss ([<-(e3 r hr).1,<-this]▸(i2 q hq).1)
  .rcases aT.mp hq with hq|hq
   .let#[j1,j2]:=i2 q hq;exact#[bH _ j1,j2]
   .let#[j1,j2]:=e3 q hq;exact#[bt _ (by rw[j1];simp),e2.subset (aj.mpr #[q,hq,Y]),j2]
  .rcases PQ _ q hq with hq|hq
   .let#[j1,j2]:=i3 q hq;exact#[bH _ j1,j2]
   .exact#[bt _ (by rw[hq.1];simp),hq.2]
theorem kd_mem(k:Nat):∀q∈(yQ names a k).1,∀i,q.2>>i->1<=i/\i<=60:=by
 refine tT (I:=λs:!(O×Option Int)×Int=>∀q∈s.1,∀i,q.2>>i->1<=i/\i<=60) (λq hq=>by cases hq) λs x _ ih q hq i hi=>?_;unfold xM at hq;rcases aT.mp hq with hq|hq
 .exact ih q hq i hi
 .rw[aA.mp hq]at hi;dsimp only at hi;split at hi
  .cases hi
  .cases hi;omega
theorem W4(k:Nat):∀q∈(vB gK lines b k).1,maxOf (gw gK q.1)<=q.2/\q.2<=maxOf (gw gK q.1)+4:=by
 refine tT (I:=λs:!(O×Int)×Int=>∀q∈s.1,maxOf (gw gK q.1)<=q.2/\q.2<=maxOf (gw gK q.1)+4) (λq hq=>by cases hq) λs x _ ih q hq=>?_;unfold xN at hq;rcases aT.mp hq with hq|hq
 .exact ih q hq
 .rw[aA.mp hq];dsimp only;omega
theorem SJ(h:∀d∈gK,gQ d.rule d.places.length<=200)(nm:O):1<=maxOf (gw gK nm)/\maxOf (gw gK nm)<=200/\∀d∈gK,d.to=nm->gQ d.rule d.places.length<=maxOf (gw gK nm):=by
 let#[m1,m2]:=An (gw gK nm);refine#[m2 1 aB,?_,λd hd e=>m2 _ (aD _ (jl.mpr #[d,hd,by rw[qQ1 e];rfl]))];rcases au.mp m1 with e|e
 .omega
 .let#[d,hd,e2]:=jl.mp e;split at e2
  .rw[<-bK e2];exact h d hd
  .cases e2
theorem AK{α:Type}:∀{l l':!(!α)},l.Sublist l'->l.flatten.Sublist l'.flatten
 |_,_,.slnil=>.slnil
 |_,_,.cons a h=>(AK h).trans (List.sublist_append_right _ _)
 |_,_,.cons_cons a h=>(ui a).append (AK h)
theorem PX(one two three:Int):jh (pC one two three)/\oH (pC one two three)/\1<=(pC one two three).kinds.length/\(pC one two three).kinds.length<=12/\(pC one two three).gates.length+(pC one two three).lines.length<=12/\(pC one two three).desks.length<=8/\(pC one two three).times.length<=96/\(pC one two three).hours.length<=16:=by
 let#[k1,k12]:=zax one;let#[g1,g6]:=WX two;let#[p1,p12]:=zay two;let#[kn1,kn2]:=qm (one/12) (iE one) ();let WY:=jo (one/12) (iE one);let#[pn1,pn2]:=qm (two/6/7) (yR two) ();let pnl:(jF two).1.length=yR two:=jo _ _;let kk:(kdOf one).1.map (·.1)=(spell (one/12) (iE one)).1:=by let:=uy (names:=(spell (one/12) (iE one)).1) (a:=(spell (one/12) (iE one)).2) (iE one) ();rw[gJ ()]at this;exact this
 let kl:(kdOf one).1.length=iE one:=by rw[<-WY,<-kk,ae]
 let km:=kd_mem (names:=(spell (one/12) (iE one)).1) (a:=(spell (one/12) (iE one)).2) (iE one);let WT:lH two=(jF two).1.drop (ny two):=Y;let mw:(jF two).1.take (ny two)++lH two=(jF two).1:=GK _ _;let lll:(lH two).length=yR two-ny two:=by rw[WT,iQ,pnl]
 let lnn:∀x∈lH two,cU x:=λx hx=>pn1 x (nD hx);let rk:(vB (ka two three).1 (lH two) (jF two).2 (lH two).length).1.map (·.1)=lH two:=by let:=xO (gK:=(ka two three).1) (lines:=lH two) (b:=(jF two).2) (lH two).length (aE _);rw[bV]at this;exact this
 let rl:(vB (ka two three).1 (lH two) (jF two).2 (lH two).length).1.length=(lH two).length:=by conv=>rhs;rw[<-rk];rw[ae]
 let dl:(ka two three).1.length<=8:=Cu _ _ _;let#[m1,m8]:=AJ three;let#[dn1,dn2]:=qm (three/8) (fj three) ();let dnl:=jo (three/8) (fj three);let tki:=wB (fj three) (spell (three/8) (fj three)).2 (jF two).1 (jF two).1.length;let tkn:=FV (nn:=fj three) (n:=(spell (three/8) (fj three)).2) pn2 (places:=(jF two).1) (jF two).1.length (aE _);let#[ds,e1,e2,e3]:=Km (lH two) 0 (((spell (three/8) (fj three)).1.zip (nu (fj three) (spell (three/8) (fj three)).2 (jF two).1 (jF two).1.length).1).take (fj three)) ([],(nu (fj three) (spell (three/8) (fj three)).2 (jF two).1 (jF two).1.length).2);let Qb:(ka two three).1=ds:=by let:(ka two three).1=[]++ds:=e1;simpa using this
 let dnn:((ka two three).1.map (·.name)).Nodup:=by rw[Qb];refine List.Nodup.sublist (e2.trans (BH ((xY _ _).map _) ?_)) dn2;rw[List.map_fst_zip ([tki.1,dnl]▸aE _)];exact ui _
 let dpl:((ka two three).1.map (·.places)).Sublist (nu (fj three) (spell (three/8) (fj three)).2 (jF two).1 (jF two).1.length).1:=by rw[Qb];refine e3.trans (BH ((xY _ _).map _) ?_);rw[List.map_snd_zip ([tki.1,dnl]▸aE _)];exact ui _
 let djn:((ka two three).1.map (·.places)).flatten.Nodup:=tkn.1.sublist (AK dpl);let FW:∀d∈(ka two three).1,cU d.name/\d.to∈lH two ++ [("":O)]/\xD d.rule/\pR d.rule d.places.length/\gQ d.rule d.places.length<=200/\Ij d.places/\∀x∈d.places,x∈(jF two).1:=by intro d hd;let#[j1,j2,j3,j4,m,j5]:=Ct hd;let Al:=tki.2 d.places j3;let h1:1<=d.places.length:=su.mpr λz=>j4 (gq.mp z);let#[r1,r2,r3]:=Sy m h1 Al.1;rw[<-j5]at r1 r2 r3;let Bo:d.places.Nodup:=djn.sublist (List.sublist_flatten_of_mem (aj.mpr #[d,hd,Y]));exact#[dn1 _ j1,j2,r1,r2,r3,#[h1,Al.1,Bo,λx hx=>pn1 x (Al.2 x hx)],Al.2]
 let lb:=λnm=>SJ (gK:=(ka two three).1) (λd hd=>(FW d hd).2.2.2.2.1) nm;let rm:=W4 (gK:=(ka two three).1) (lines:=lH two) (b:=(jF two).2) (lH two).length;let kn:((kdOf one).1.map (·.1)).Nodup:=[kk]▸kn2;let#[t1,t2,t3]:=PV kn dnn (a:=(kdOf one).2) (c:=(ka two three).2) (ka two three).1.length (aE _);rw[bV]at t2 t3;let#[tl,hl]:=IA (kinds:=(kdOf one).1) (gK:=(ka two three).1) (a:=(kdOf one).2) (c:=(ka two three).2) () (ka two three).1.length;let Up:∀x∈(kdOf one).1.map (·.1),cU x:=[kk]▸kn1;let Uq:∀x∈(ka two three).1.map (·.name),cU x:=λx hx=>by let#[d,hd,rfl]:=aj.mp hx;exact(FW d hd).1
 let Xw:∀d∈(ka two three).1,d.to=""\/cU d.to/\d.to∈lH two:=λd hd=>by
  rcases aT.mp (FW d hd).2.1 with h|h
  .exact .inr #[lnn _ h,h]
  .exact .inl (aA.mp h)
 let gl:((jF two).1.take (ny two)).length=ny two:=by rw[bU,pnl];omega
 unfold pC;refine#[#[by dsimp only;omega,by dsimp only;omega,by dsimp only;omega,by dsimp only;omega,by dsimp only;omega,by dsimp only;omega,λq hq=>#[Up _ (aj.mpr #[q,hq,Y]),?_],λg hg=>pn1 g (iH hg),λq hq=>#[lnn _ (rk▸aj.mpr #[q,hq,Y]),?_],λd hd=>?_,λq hq=>?_,λq hq=>?_,aY _,λq hq=>by cases hq],#[kn,?_,dnn,λd hd=>?_,djn,t1,λq hq=>?_,λq hq=>?_,λq hq i hi=>?_,λq hq=>?_,gX,λq hq=>by cases hq],by dsimp only;omega,by dsimp only;omega,by dsimp only;omega,by dsimp only;omega,by dsimp only;omega,by dsimp only;omega]
 .cases e:q.2 with
  |none=>trivial
  |some i=>have:=km q hq i e;exact#[(),()]
 .let:=rm q hq;let:=lb q.1;exact#[(),()]
 .let#[a1,a2,a3,a4,a5,a6,a7]:=FW d hd;exact#[a1,(Xw d hd).imp id (·.1),a3,by let:=a6.2.1;omega,a6.2.2.2]
 .let#[a1,a2,a3,a4]:=t2 q hq;exact#[Uq _ a1,Up _ a2,(),()]
 .let#[a1,a2,a3,a4]:=t3 q hq;exact#[Uq _ a1,#[a2,()],(),()]
 .dsimp only;rw[rk,mw];exact pn2
 .let#[a1,a2,a3,a4,a5,a6,a7]:=FW d hd;refine#[#[a1,(Xw d hd).imp id (·.1),a4,a6],λx hx=>?_,?_]
  .dsimp only;rw[rk,mw];exact a7 x hx
  .rcases Xw d hd with h|h
   .exact .inl h
   .let#[q,hq,e]:=aj.mp (show d.to∈(vB (ka two three).1 (lH two) (jF two).2 (lH two).length).1.map (·.1) by rw[rk];exact h.2);refine .inr #[q.2,[<-e]▸hq,?_];let:=(lb q.1).2.2 d hd e.symm;let:=rm q hq;omega
 .let#[a1,a2,a3,a4]:=t2 q hq;exact#[a1,a2,a3]
 .let#[a1,a2,a3,a4]:=t3 q hq;exact#[a1,a3]
 .let:=km q hq i hi;exact#[(),(),()]
 .let:=rm q hq;let:=lb q.1;omega
def ju(e:Ent):O:=bB " " (gS e)
def oJ(w:O):Prop:=g0 w/\lD w/\w.length<=8
theorem lA(h:cU x):oJ x:=#[fG h,h.ok.2,h.short]
theorem nz(h:cH i):oJ (cM i):=#[kH h.1 h.2,(nq h.1 h.2).2,by let:=(wo h.1 h.2).2;omega]
theorem tV{x:O}(h:x≠""/\32∉x.cps.toList/\10∉x.cps.toList)(h2:bR (.str x)=true)(h3:x.length<=8):oJ x:=#[h,h2,h3]
theorem DQ:oJ "-":=tV ∎ ∎ ∎
theorem tW:∀r:Rl,oJ (oP r)
 | .meet=>show oJ "meet" from tV ∎ ∎ ∎
 | .gather _ _=>show oJ "gather" from tV ∎ ∎ ∎
 | .many _=>show oJ "many" from tV ∎ ∎ ∎
 | .rank _=>show oJ "rank" from tV ∎ ∎ ∎
 | .turns _=>show oJ "turns" from tV ∎ ∎ ∎
 | .eldest=>show oJ "eldest" from tV ∎ ∎ ∎
theorem SK(h:pR r n)(hn:n<=6):(∀w∈cj r,oJ w)/\(cj r).length<=7:=by
 cases r with
 |meet=>exact#[λw hw=>[aA.mp hw]▸tW _,⋯]
 |eldest=>exact#[λw hw=>[aA.mp hw]▸tW _,⋯]
 |many m=>
  refine#[λw hw=>?_,by show 2<=7;decide];rcases au.mp hw with rfl|hw
  .exact tW _
  .rw[aA.mp hw];exact nz h.2
 |gather m a=>
  refine#[λw hw=>?_,by show 3<=7;decide];rcases au.mp hw with rfl|hw
  .exact tW _
  rcases au.mp hw with rfl|hw
  .exact nz h.2.1
  .rw[aA.mp hw];exact nz h.2.2
 |rank b=>
  refine#[λw hw=>?_,by show 2<=7;decide];rcases au.mp hw with rfl|hw
  .exact tW _
  .rw[aA.mp hw];cases b with
   |none=>exact DQ
   |some i=>exact nz h
 |turns s=>
  refine#[λw hw=>?_,by show(s.map cM).length+1<=7;rw[ae,h.1];omega];rcases au.mp hw with rfl|hw
  .exact tW (.turns s)
  .let#[z,hz,rfl]:=aj.mp hw;let:=h.2 z hz;exact nz #[(),()]
theorem tX(h:kI e):(∀w∈gS e,oJ w)/\(gS e).length<=19:=by
 let k1:∀{x:O},x∈[("kind":O),"gate","line","desk","time","open","pace","to","by","from"]->oJ x:=λ{x}hx=>by simp only[au,aS,or_false]at hx;rcases hx with rfl|rfl|rfl|rfl|rfl|rfl|rfl|rfl|rfl|rfl<;>exact tV ∎ ∎ ∎
 cases e with
 |kind n k=>
  refine#[λw hw=>?_,by show 3<=19;decide];let hw:w∈[("kind":O),n,dG (mV k)]:=hw;simp only[au,aS,or_false]at hw;rcases hw with rfl|rfl|rfl
  .exact k1 ∅
  .exact lA h.1
  .cases k with
   |none=>exact DQ
   |some i=>exact nz (h.2 i Y).2
 |gate n=>
  refine#[λw hw=>?_,by show 2<=19;decide];let hw:w∈[("gate":O),n]:=hw;simp only[au,aS,or_false]at hw;rcases hw with rfl|rfl
  .exact k1 ∅
  .exact lA h
 |line n r=>
  refine#[λw hw=>?_,by show 3<=19;decide];let hw:w∈[("line":O),n,cM r]:=hw;simp only[au,aS,or_false]at hw;rcases hw with rfl|rfl|rfl
  .exact k1 ∅
  .exact lA h.1
  .exact nz h.2.2
 |desk d=>
  let#[h1,h2,h3,h4]:=h;let#[r1,r2]:=SK h3 h4.2.1;let e0:gS (.desk d)=[("desk":O),d.name,"to",dG (.str d.to),"by"]++cj d.rule ++ [("from":O)]++d.places:=Y;refine#[λw hw=>?_,?_]
  .rw[e0]at hw;simp only[aT,au,aS,or_false]at hw;rcases hw with(((rfl|rfl|rfl|rfl|rfl)|hw)|rfl)|hw
   .exact k1 ∅
   .exact lA h1
   .exact k1 ∅
   .show oJ (if d.to="" then "-" else d.to);split
    .exact DQ
    .rename_i hx
     exact lA (h2.resolve_left hx)
   .exact k1 ∅
   .exact r1 w hw
   .exact k1 ∅
   .exact lA (h4.2.2.2 w hw)
  .rw[e0];simp only[aN,bj,cx];let:=h4.2.1;omega
 |time d k w'=>
  refine#[λw hw=>?_,by show 4<=19;decide];let hw:w∈[("time":O),d,k,cM w']:=hw;simp only[au,aS,or_false]at hw;rcases hw with rfl|rfl|rfl|rfl
  .exact k1 ∅
  .exact lA h.1
  .exact lA h.2.1
  .exact nz h.2.2.2
 |hour d a b=>
  refine#[λw hw=>?_,by show 4<=19;decide];let hw:w∈[("open":O),d,cM a,cM b]:=hw;simp only[au,aS,or_false]at hw;rcases hw with rfl|rfl|rfl|rfl
  .exact k1 ∅
  .exact lA h.1
  .exact nz h.2.1
  .exact nz h.2.2.1
 |pace g k a b=>
  refine#[λw hw=>?_,by show 5<=19;decide];let hw:w∈[("pace":O),g,k,cM a,cM b]:=hw;simp only[au,aS,or_false]at hw;rcases hw with rfl|rfl|rfl|rfl|rfl
  .exact k1 ∅
  .exact lA h.1
  .exact lA h.2.1
  .exact nz h.2.2.1.2
  .exact nz h.2.2.2.2
theorem W5(e:Ent):gS e≠[]:=by cases e<;>exact rE _ _
theorem PY(e:Ent):(gS e)[0]?>>e.form:=by cases e<;>rfl
theorem AO(h:kI e):cz (ju e) " "=gS e:=by unfold ju;rw[lZ];exact oy (W5 e) λx hx=>((tX h).1 x hx).1.2.1
theorem xP:∀{l:!O},(∀x∈l,x.length<=b)->(bB y l).length<=l.length*(b+y.length)
 | [],_=>by show 0<=_;omega
 | [x],h=>by let:=h x aB;show x.length<=1*_;omega
 |x::z::l,h=>by
  let h1:=h x aB;let h2:=xP (y:=y) (l:=z::l) λu hu=>h u (aD _ hu);let e:(bB y (x::z::l)).length=x.length+y.length+(bB y (z::l)).length:=by show(x.cps++y.cps++(bB y (z::l)).cps).size=_;rw[wV,wV];rfl
  rw[e,bj,Nat.add_mul];omega
theorem tY(h:kI e):(ju e).length<=171:=by let#[h1,h2]:=tX h;let:=xP (y:=(" ":O)) λx hx=>(h1 x hx).2.2;let e1:(" ":O).length=1:=⋯;rw[e1]at this;unfold ju;omega
theorem Mb(h:kI e):10∉(ju e).cps.toList:=pB ∎ λx hx=>((tX h).1 x hx).1.2.2
theorem DS(ha:a≠[])(hb:b≠[]):bB " " (a++b)=bB " " a++" "++bB " " b:=[lZ]▸Ap 32 ha hb
theorem AQ(g:∀d∈p.desks,d.places≠[]):fJ p=(jV p).map ju:=by
 unfold fJ oC pw jV;simp only[aH,aG]
 congr 1
 congr 1
 congr 1
 congr 1
 congr 1
 congr 1
 .refine dS λq _=>?_;show o9 q=bB " " [("kind":O),q.1,dG (mV q.2)];unfold o9;apply str_inj;show _=(("kind":O)++" "++(q.1++" "++dG (mV q.2))).cps.toList;simp only[add_list,bS,show("kind ":O).cps.toList=("kind":O).cps.toList++(" ":O).cps.toList from by symm]
 .refine dS λq _=>?_;show mJ q=bB " " [("line":O),q.1,cM q.2];unfold mJ;apply str_inj;show _=(("line":O)++" "++(q.1++" "++cM q.2)).cps.toList;simp only[add_list,bS,show("line ":O).cps.toList=("line":O).cps.toList++(" ":O).cps.toList from by symm]
 .refine dS λd hd=>?_;show lr d=bB " " ([("desk":O),d.name,"to",dG (.str d.to),"by"]++cj d.rule ++ [("from":O)]++d.places);let hr:cj d.rule≠[]:=by cases d.rule<;>exact rE _ _
  rw[DS ∅ (g d hd),DS ∅ ∅,DS ∅ hr];unfold lr oB oA;apply str_inj;show _=((("desk":O)++" "++(d.name++" "++(("to":O)++" "++(dG (.str d.to)++" "++"by"))))++" "++bB " " (cj d.rule)++" "++"from"++" "++bB " " d.places).cps.toList;simp only[add_list,bS,show("desk ":O).cps.toList=("desk":O).cps.toList++(" ":O).cps.toList from by symm,show(" to ":O).cps.toList=(" ":O).cps.toList++(("to":O).cps.toList++(" ":O).cps.toList)from by symm,show(" by ":O).cps.toList=(" ":O).cps.toList++(("by":O).cps.toList++(" ":O).cps.toList)from by symm,show(" from ":O).cps.toList=(" ":O).cps.toList++(("from":O).cps.toList++(" ":O).cps.toList)from by symm]
def apD:U:=.list [.str "kind gate",.str "kind line",.str "gate line",.str "time open"]
def apE(a b:Ent):Bool:=rG (.str (a.form++" "++b.form)) apD
def vF(es:!Ent)(m:Int):!Ent:=
 match es[(m%es.length).toNat]?,es[(m%es.length).toNat+1]? with
 |some a,some b=>if apE a b=true then(es.set (m%es.length).toNat b).set ((m%es.length).toNat+1) a else es
 |_,_=>es
def vG(es:!Ent)(cell:Int):Nat->!Ent
 |0=>es
 |k+1=>vF (vG es cell k) (gP cell (200+k))
theorem Kn{α:Type}{a b:α}:∀{l:!α}{i:Nat},l[i]?>>a->l[i+1]?>>b->∃A C,l=A++a::b::C/\(l.set i b).set (i+1) a=A++b::a::C
 |x::y::l,0,h1,h2=>by cases h1;cases h2;exact#[[],l,Y,Y]
 |x::l,i+1,h1,h2=>by let#[A,C,e1,e2]:=Kn (l:=l) (i:=i) h1 h2;exact#[x::A,C,by rw[e1];rfl,by show x::((l.set i b).set (i+1) a)=_;rw[e2];rfl]
 | [x],0,h1,h2=>by cases h2
 | [],_,h1,_=>by cases h1
theorem SM(h:apE a b=true)(st:Pl):ik (ik st b) a=ik (ik st a) b/\(tK st a->tK (ik st a) b->tK st b/\tK (ik st b) a)/\(jh (ik (ik st a) b)->jh (ik st b)):=by
 let nh:∀{st:Pl}{n m:O}{r:Int},¬jU st n->¬jU (ik st (.gate n)) m->¬jU st m/\¬jU (ik st (.line m r)) n:=by intro st n m r h1 h2;unfold jU ik at *;simp only[aT,aA,aH,fU,not_or]at *;exact#[#[h2.1.1,h2.2],h1.1,h1.2,λz=>h2.1.2 z.symm]
 cases a<;>cases b<;>first
  |exact qQ7 h (by dsimp only[apE,Ent.form];symm)
  |exact#[rfl,λh1 h2=>#[h2,h1],λh=>by refine ja h ?_ ?_ ?_ ?_ ?_ ?_ ?_ ?_ ?_ ?_ ?_ ?_ ?_ ?_<;>simp +contextual [ik]]
  |exact#[rfl,λh1 h2=>nh h1 h2,λh=>by refine ja h ?_ ?_ ?_ ?_ ?_ ?_ ?_ ?_ ?_ ?_ ?_ ?_ ?_ ?_<;>simp +contextual [ik]]
theorem jE.hd:∀{es:!Ent}{st:Pl},jE st es->jh st
 | [],_,h=>h
 |_::_,_,h=>h.1
theorem jE.sw(h:apE a b=true):∀{A C:!Ent}{st:Pl},jE st (A++a::b::C)->jE st (A++b::a::C)/\(A++b::a::C).foldl ik st=(A++a::b::C).foldl ik st
 | [],C,st,#[h1,h2,h3,h4,h5,h6,h7]=>by let#[c1,c2,c3]:=SM h st;let#[d1,d2]:=c2 h3 h6;refine#[#[h1,h5,d1,c3 h7.hd,h2,d2,[c1]▸h7],?_];show C.foldl ik (ik (ik st b) a)=C.foldl ik (ik (ik st a) b);rw[c1]
 |x::A,C,st,#[h1,h2,h3,h4]=>by let#[i1,i2]:=jE.sw h (A:=A) h4;exact#[#[h1,h2,h3,i1],i2]
theorem Md(h:jE q5 es):jE q5 (vF es m)/\(vF es m).foldl ik q5=es.foldl ik q5/\(vF es m).length=es.length:=by
 unfold vF;split
 .rename_i a b e1 e2
  split
  .rename_i c
   let#[A,C,q1,q2]:=Kn e1 e2;rw[q2];rw[q1]at h;let#[i1,i2]:=h.sw c;exact#[i1,by rw[i2,<-q1],by rw[q1];simp]
  .exact#[h,Y,Y]
 .exact#[h,Y,Y]
theorem DT(h:jE q5 es):∀k,jE q5 (vG es cell k)/\(vG es cell k).foldl ik q5=es.foldl ik q5/\(vG es cell k).length=es.length
 |0=>#[h,Y,Y]
 |k+1=>by let#[i1,i2,i3]:=DT h k;let#[j1,j2,j3]:=Md (m:=gP cell (200+k)) i1;exact#[j1,j2.trans i2,j3.trans i3]
end Mg
namespace Mg
open L2 PySem PyProof.Rows
seal L2.VE L2.VS L2.qK L2.VT L2.VO L2.Q_
variable{fd:iu}{l:!(O×Int×Int)}{ds xs:!U}{m n:Nat}{p:Pl}{d x:U}{q:O×Int×Int}
theorem oK:∀{es:!Ent}{st:Pl},jE st es->∀e∈es,kI e
 | [],_,_,e,h=>by cases h
 |x::es,_,#[_,h2,_,h4],e,h=>by
  rcases au.mp h with rfl|h
  .exact h2
  .exact oK h4 e h
theorem FX(e:Ent):lD e.form/\e.form.length<=8:=by cases e<;>(dsimp only[Ent.form,lD];exact#[∎,∎])
theorem AU(hy:lD y):∀{l:!O},(∀x∈l,lD x)->lD (bB y l)
 | [],_=>(jB _).mpr λc hc=>by cases hc
 | [x],h=>h x aB
 |x::z::l,h=>(jB _).mpr λc hc=>by
  let hc:c∈(x++y++bB y (z::l)).cps.toList:=hc;rw[add_list,add_list]at hc;rcases aT.mp hc with hc|hc
  .rcases aT.mp hc with hc|hc
   .exact(jB _).mp (h x aB) c hc
   .exact(jB _).mp hy c hc
  .exact(jB _).mp (AU hy λu hu=>h u (aD _ hu)) c hc
theorem xQ{x y:O}(hx:lD x)(hy:lD y):lD (x++y):=(jB _).mpr λc hc=>by
 rw[add_list]at hc;rcases aT.mp hc with hc|hc
 .exact(jB _).mp hx c hc
 .exact(jB _).mp hy c hc
theorem xR(x y:O):(x++y).length=x.length+y.length:=by show(x.cps++y.cps).size=_;rw[wV];rfl
theorem oM(n:Nat):(gA " " n).length=n:=by show(gA " " n).cps.size=n;rw[<-cu,lZ,DE,dY]
theorem DU(n:Nat):lD (gA " " n):=(jB _).mpr λc hc=>by rw[lZ,DE]at hc;let:=(jm.mp hc).2;omega
theorem zu(n:Nat):10∉(gA " " n).cps.toList:=by rw[lZ,DE];intro z;let:=(jm.mp z).2;omega
section
variable{P:bW}{w:cP}{K:ai}{mg:O->Option M}{base:dv}{f:J}
abbrev Nsa:!O:=["_law_text","_law_cell","_law_rows","_law_k","_law_m","_law_at","_law_one","_law_other","_law_apart"]
theorem Ur:cg Nsa ["_law_text","_law_cell"] (bA (top 62)):=by grind
def Rsa(ds zs:!U):Prop:=∃(es:!Ent)(cell:Int),ds=[.str (bB "\n" (es.map ju)),.int cell]/\es≠[]/\es.length<=200/\jE q5 es/\zs=((vG es cell 6).map ju).map .str
theorem zeH(F:kz K "_law_sorted_apart" "_law_sorted_apart" (top 62) f fd)(n:Na mg)(C1:a_ P w K mg base 1 "_law_mix" ["_law_cell","_law_k"] (gi K HW)):dW P w K mg base jO 2 f fd ["_law_text","_law_cell"] (Qd K Rsa):=
 Rb F Ur (by ext) λ_ _ h=>by
  let#[es,cell,rfl,zm,hl,ok,rfl]:=h;intro gk A outer s H E hr;let nd:Nsa.Nodup:=Ur.nd;let Us:=oK ok;let htl:(bB "\n" (es.map ju)).length<=34400:=by
   let:=xP (y:=("\n":O)) (l:=es.map ju) (b:=171) λx hx=>by let#[e,he,rfl]:=aj.mp hx;exact tY (Us e he)
   let e1:("\n":O).length=1:=⋯;rw[e1,ae]at this;omega
  let y9:cz (bB "\n" (es.map ju)) "\n"=es.map ju:=by rw[O7];exact oy ↑zm λx hx=>by let#[e,he,rfl]:=aj.mp hx;exact Mb (Us e he)
  refine aL (j0 2 (ds:=(es.map ju).map .str) (VO.to (jS 0. aW ∎ (small ())) (by rw[y9])) nd) ?_;refine aL (lU (tgt:=.one 3) (o:=.nx [.val (.str (bB "\n" (es.map ju))),.val (.int cell),.own (((vG es cell 6).map ju).map .str),.un,.un,.un,.un,.un,.un]) bL Y (sP (n:=6) aK n.rng ⋯ ⋯) (fP 3 nd) (λi=>[.val (.str (bB "\n" (es.map ju))),.val (.int cell),.own (((vG es cell i).map ju).map .str),.un,.un,.un,.un,.un,.un]) 6 Y (aE _) (λi d hi hd=>?_) (.inl #[Y,Y])) (a8 (Jy 2 Y));obtain rfl:d=.int i:=by
   let:(gy 6)[i]?>>(.int (i:Nat)):=by unfold gy;rw[ay,kK hi];rfl
   exact(bK (hd.symm.trans this))
  let#[s1,s2,s3]:=DT (cell:=cell) ok i;let hen:=oK s1;refine#[_,Y,?_];refine aL (dC 4 (d:=.int (gP cell (200+i))) (bE C1 hr {1.,fE aK 3.} #[cell,200+(i:Int),Y,(),(),Y]) nd) ?_;rw[show vG es cell (i+1)=vF (vG es cell i) (gP cell (200+i))from Y];generalize gP cell (200+(i:Int))=m at *;let hsl:1<=(vG es cell i).length:=by rw[s3];exact su.mpr λz=>zm (gq.mp z)
  generalize vG es cell i=fs at *;let c0:=cX m (b:=(fs.length:Int)) ();let c1:=cQ m (b:=(fs.length:Int)) ();let hml:(((fs.map ju).map aJ).length:Int)=fs.length:=by rw[ae,ae]
  unfold vF;let hj:((m%(fs.length:Int)).toNat:Int)=m%(fs.length:Int):=kO c0;refine aL (dC 5 (d:=.int (m%(fs.length:Int))) (nL 2 Y (VE.to (fY 4. (iN 2. n.len) ()) (by rw[hml])) Y) nd) ?_
  generalize(m%(fs.length:Int)).toNat=j at *
  rw[<-hj];let E5:j<fs.length:=();obtain⟨a,ha⟩:∃a,fs[j]?>>a:=#[fs[j],ax E5];obtain⟨j2,hj2,zeI⟩:∃j2:Nat,((j2:Nat):Int)=((j:Int)+1)%(fs.length:Int)/\j2<fs.length:=by let d0:=cX ((j:Int)+1) (b:=(fs.length:Int)) ();let d1:=cQ ((j:Int)+1) (b:=(fs.length:Int)) ();exact#[(((j:Int)+1)%(fs.length:Int)).toNat,kO d0,()]
  obtain⟨b,hb⟩:∃b,fs[j2]?>>b:=#[fs[j2],ax zeI];let rowAt:∀{q:Nat}{e:Ent},fs[q]?>>e->((fs.map ju).map aJ)[q]?>>(.str (ju e)):=λ{q e}h=>by rw[ay,ay,h];rfl
  let zaH:∀{e:Ent},e∈fs->(cz (ju e) " ").map aJ=(gS e).map .str:=λ{e}he=>by rw[AO (hen e he)]
  let hd0:∀e:Ent,uk ((gS e).map aJ) 0>>(.str e.form):=λe=>cJ (j:=0) (by rw[ay,PY];rfl);let zaI:∀{e:Ent},e∈fs->(ju e).length+2<=sizeLine:=λ{e}he=>small (by let:=tY (hen e he);omega);let ain:=aF ha;let bin:=aF hb;refine aL (NK 6 7 (d1:=.str a.form) (d2:=.str b.form) (nL 2 Y (eS (VE.to (VO.ve (jS (eS 2. 5. (cJ (rowAt ha))) aW ∎ (zaI ain))) (by rw[zaH ain])) aK (hd0 a)) Y) (nL 2 Y (eS (VE.to (VO.ve (jS (eS 2. (VE.to (k:=.int (j2:Nat)) (fY (fE 5. aK) (iN 2. n.len) ()) (by rw[hml,hj2])) (cJ (rowAt hb))) aW ∎ (zaI bin))) (by rw[zaH bin])) aK (hd0 b)) Y) Y nd ⋯) ?_;refine aL (dC 8 (d:=apD) (VO.ve (da (du aW (du aW (du aW (du aW cZ)))))) nd) ?_;let la:Lay 20 apD:=#[∎,∎];let#[fa1,fa2]:=FX a;let#[fb1,fb2]:=FX b;let e1:(" ":O).length=1:=⋯;by_cases hc:j+1<fs.length
  .let ej:j2=j+1:=by let:((j:Int)+1)%(fs.length:Int)=(j:Int)+1:=Int.emod_eq_of_lt () ();omega
   subst ej;rw[ha,hb];dsimp only;cases VZ:apE a b with
   |true=>
    rw[qQ3 Y];refine eW (a8 (dH (VT.to (sN (k1:=true) (k2:=true) (VT.to (v5 (fE 5. aK) (nL 2 Y (iN 2. n.len) Y)) ([hml]▸qQ1 ())) λ_=>VT.to (NB hr Y (a9 (xQ (xQ fa1 (by show bR (.str (" ":O))=true;symm)) fb1)) la (eX (eX 6. aW (small ())) 7. (small (by rw[xR];omega))) 8.) VZ) Y) (a8 (RP (j:=j) (j2:=j+1) (d1:=.str (ju b)) (d2:=.str (ju a)) (ds:=(fs.map ju).map .str) 2 Y Y ?h1 (by rw[ae,ae];omega) ?h3 (by rw[ae,ae];omega) ?h5)))) #[.inr Y,.inr Y,.inr ?h6,.inl Y,.inl Y,.inl Y,.inl Y,.inl Y,.inl Y,trivial]
    case h1=>exact pJ 5 Y
    case h3=>exact VE.to (fE 5. aK) (show eJ ((j:Int)+1)=.int ((j+1:Nat):Int) by rw[Int.natCast_add];rfl)
    case h5=>exact iX {nL 2 Y (eS 2. (VE.to (fE 5. aK) (show eJ ((j:Int)+1)=.int ((j+1:Nat):Int) by rw[Int.natCast_add];rfl)) (cJ (j:=j+1) (rowAt hb))) Y,nL 2 Y (eS 2. 5. (cJ (rowAt ha))) Y}
    case h6=>rw[kf,kf,kf,kf]
   |false=>rw[qQ2 ⋯];exact eW (a8 (bP (VT.to (sN (k1:=true) (k2:=false) (VT.to (v5 (fE 5. aK) (nL 2 Y (iN 2. n.len) Y)) ([hml]▸qQ1 ())) λ_=>VT.to (NB hr Y (a9 (xQ (xQ fa1 (by show bR (.str (" ":O))=true;symm)) fb1)) la (eX (eX 6. aW (small ())) 7. (small (by rw[xR];omega))) 8.) VZ) Y) bw)) #[.inr Y,.inr Y,.inr Y,.inl Y,.inl Y,.inl Y,.inl Y,.inl Y,.inl Y,trivial]
  .let en:fs[j+1]?=none:=eO ();rw[ha,en];exact eW (a8 (bP (VT.to (sN (k1:=false) (k2:=false) (VT.to (v5 (fE 5. aK) (nL 2 Y (iN 2. n.len) Y)) ([hml]▸qQ0 ())) λz=>by cases z) Y) bw)) #[.inr Y,.inr Y,.inr Y,.inl Y,.inl Y,.inl Y,.inl Y,.inl Y,.inl Y,trivial]
def yv(e:Ent)(m:Int):O:=gA " " (m/20%3).toNat++bB (gA " " (1+m/60%3).toNat) (gS e)++gA " " (m/180%3).toNat
def FY(m:Int):!O:=if m%5=0 then [gA " " (m/5%4).toNat]else []
def tZ(es:!Ent)(cell:Int):Nat->!O
 |0=>[]
 |k+1=>tZ es cell k++FY (gP cell (300+k))++(es[k]?.map λe=>yv e (gP cell (300+k))).toList
def Mf(es:!Ent)(cell:Int):O:=bB "\n" (tZ es cell es.length)
theorem Ko(h:kI e)(m:Int):(bB (gA " " (1+m/60%3).toNat) (gS e)).length<=209:=by let#[h1,h2]:=tX h;let:=xP (y:=gA " " (1+m/60%3).toNat) λx hx=>(h1 x hx).2.2;rw[oM]at this;let b:(1+m/60%3).toNat<=3:=();let:(gS e).length*(8+(1+m/60%3).toNat)<=19*11:=fu h2 ();omega
theorem PZ(h:kI e)(m:Int):10∉(yv e m).cps.toList/\(yv e m).length<=213/\lD (yv e m)/\wordsOf (yv e m)=gS e:=by
 let#[h1,h2]:=tX h;let hj:=Ko h m;unfold yv;refine#[?_,?_,xQ (xQ (DU _) (AU (DU _) λx hx=>(h1 x hx).2.1)) (DU _),?_]
 .exact fz (fz (zu _) (pB (zu _) λx hx=>(h1 x hx).1.2.2)) (zu _)
 .rw[xR,xR,oM,oM];omega
 .let:(1+m/60%3).toNat=(m/60%3).toNat+1:=();rw[this];exact Ft _ _ _ λx hx=>#[(h1 x hx).1.1,(h1 x hx).1.2.1]
theorem SN(m:Int):(∀r∈FY m,10∉r.cps.toList/\r.length<=213/\lD r)/\(FY m).length<=1/\((FY m).map wordsOf).filter (λws=>not ws.isEmpty)=[]:=by
 unfold FY;split
 .refine#[λr hr=>?_,aE _,?_]
  .rw[aA.mp hr];exact#[zu _,by rw[oM];omega,DU _]
  .rw[fU,Fu];rfl
 .exact#[λr hr=>(by cases hr),aY _,Y]
theorem zv(hok:∀e∈es,kI e)(cell:Int):∀k,k<=es.length->(∀r∈tZ es cell k,10∉r.cps.toList/\r.length<=213/\lD r)/\(tZ es cell k).length<=2*k/\((tZ es cell k).map wordsOf).filter (λws=>not ws.isEmpty)=(es.take k).map gS
 |0,_=>#[λr hr=>(by cases hr),aE _,Y]
 |k+1,h=>by
  let#[i1,i2,i3]:=zv hok cell k ();let#[b1,b2,b3]:=SN (gP cell (300+k));let hk:es[k]?>>es[k]:=ax ();let#[r1,r2,r3,r4]:=PZ (hok es[k] (eD _)) (gP cell (300+k));let e0:tZ es cell (k+1)=tZ es cell k++FY (gP cell (300+k)) ++ [yv es[k] (gP cell (300+k))]:=by rw[tZ,hk];rfl
  rw[e0];refine#[λr hr=>?_,?_,?_]
  .rcases aT.mp hr with hr|hr
   .rcases aT.mp hr with hr|hr
    .exact i1 r hr
    .exact b1 r hr
   .rw[aA.mp hr];exact#[r1,r2,r3]
  .rw[aN,aN,jH];omega
  .rw[aH,aH,oU,oU,i3,b3,bC,fU,r4,cB,hk,aH]
   congr 1
   show List.filter _ [gS es[k]]=[gS es[k]];rw[iR,qQ3 (by rw[Ki];rfl)];rfl
theorem SQ(hok:∀e∈es,kI e)(zm:es≠[])(hl:es.length<=200)(cell:Int):yl (Mf es cell)/\(rowsOf (Mf es cell)).map (·.2)=es.map gS:=by
 let#[h1,h2,h3]:=zv hok cell es.length (aE _);let zeJ:tZ es cell es.length≠[]:=λz=>by rw[z,bV]at h3;exact zm (List.map_eq_nil_iff.mp h3.symm)
 unfold Mf;refine#[#[?_,AU (by show bR (.str ("\n":O))=true;symm) λx hx=>(h1 x hx).2.2],?_]
 .let:=xP (y:=("\n":O)) (b:=213) λx hx=>(h1 x hx).2.1;let e1:("\n":O).length=1:=⋯;rw[e1]at this;let:(tZ es cell es.length).length*(213+1)<=400*214:=fu () ();omega
 .rw[Cm zeJ λr hr=>(h1 r hr).1,Cr,h3,bV]
abbrev Nlk:!O:=["_law_rows","_law_cell","_law_told","_law_k","_law_row","_law_m"]
theorem Ut:cg Nlk ["_law_rows","_law_cell"] (bA (top 63)):=by grind
def Rlk(ds:!U)(d:U):Prop:=∃(es:!Ent)(cell:Int),ds=[fy (es.map ju),.int cell]/\es.length<=200/\(∀e∈es,kI e)/\d=.str (Mf es cell)
theorem zeK(F:kz K "_law_loose" "_law_loose" (top 63) f fd)(n:Na mg)(C1:a_ P w K mg base 1 "_law_mix" ["_law_cell","_law_k"] (gi K HW)):dW P w K mg base jO 2 f fd ["_law_rows","_law_cell"] (gi K Rlk):=
 iO F Ut (by ext) λ_ _ h=>by
  let#[es,cell,rfl,hl,hok,rfl]:=h;intro gk A outer s H E hr;let nd:Nlk.Nodup:=Ut.nd;let#[q1,q2,q3]:=zv hok cell es.length (aE _);refine aL (j0 2 (ds:=[]) (da cZ) nd) ?_;refine aL (lU (tgt:=.tup [3,4]) (o:=.nx [.val (fy (es.map ju)),.val (.int cell),.own ((tZ es cell es.length).map .str),.un,.un,.un]) bL Y (zj (ds:=(es.map ju).map .str) 0. n.YY)
   (fh Y (bx (fP 3 nd) (bx (fP 4 nd) dU))) (λi=>[.val (fy (es.map ju)),.val (.int cell),.own ((tZ es cell i).map .str),.un,.un,.un]) es.length Y ([h_,ae,ae]▸aE _) (λi d hi hd=>?_) (.inl #[by rw[h_,ae,ae],Y])) ?_
  .let#[x,hx,rfl]:=um hd;let he:=hok es[i] (eD hi);obtain rfl:x=.str (ju es[i]):=by rw[ay,ay,ax hi]at hx;cases hx;rfl
   let e0:tZ es cell (i+1)=tZ es cell i++FY (gP cell (300+i)) ++ [yv es[i] (gP cell (300+i))]:=by rw[tZ,ax hi];rfl
   rw[e0];let hli:=(zv hok cell i ()).2.1;let y9:=AO he;let WB:=tY he;let#[w1,w2]:=tX he;refine#[_,Y,?_];refine aL (dC 5 (d:=.int (gP cell (300+i))) (bE C1 hr {1.,fE aK 3.} #[cell,300+(i:Int),Y,(),(),Y]) nd) ?_;generalize gP cell (300+(i:Int))=z at *;let hj:=Ko he z;let zeL:=j7 (l:=gS es[i]) (b:=8) λx hx=>(w1 x hx).2.2;let r1:=oM (1+z/60%3).toNat;let c1:(" ":O).length<=1000:=⋯;let zhW:(gS es[i]).length*(gA " " (1+z/60%3).toNat).length<=19*3:=fu w2 (by rw[r1];omega);let app:∀{δ:!Slot}{gs:!U},δ[2]?>>(.own gs)->gs.length<=1000->δ[5]?>>(.val (.int z))->δ[4]?>>(.val (.str (ju es[i])))->True:=λ_ _ _ _=>trivial;unfold FY;by_cases h5:z%5=0
   .rw[qQ3 h5,aH,aH];refine aL (dH (VT.to (rg hr (fY 5. aK ⋯) aK) (qQ1 h5)) (a8 (fk 2 Y (qL aW (fY (kQ 5. aK #[⋯,⋯]) aK ⋯) () () c1) (dQ (by rw[ae];omega))))) ?_;exact eW (a8 (fk 2 Y (eX (eX (qL aW (fY (kQ 5. aK #[⋯,⋯]) aK ⋯) () () c1) (kL (zs:=gS es[i]) (qL aW (fE aK (fY (kQ 5. aK #[⋯,⋯]) aK ⋯)) () () c1) (VE.to (VO.ve (jS 4. aW Y (small ()))) (by rw[y9])) ()) (small (by rw[oM];omega))) (qL aW (fY (kQ 5. aK #[⋯,⋯]) aK ⋯) () () c1) (small (by rw[xR,oM,oM];omega))) (dQ (by rw[aN,ae,jH];omega)))) #[.inr Y,.inr Y,.inr Y,.inl Y,.inl Y,.inl Y,trivial]
   .rw[qQ2 h5,bC,aH];refine aL (bP (VT.to (rg hr (fY 5. aK ⋯) aK) (qQ0 h5)) bw) ?_;exact eW (a8 (fk 2 Y (eX (eX (qL aW (fY (kQ 5. aK #[⋯,⋯]) aK ⋯) () () c1) (kL (zs:=gS es[i]) (qL aW (fE aK (fY (kQ 5. aK #[⋯,⋯]) aK ⋯)) () () c1) (VE.to (VO.ve (jS 4. aW Y (small ()))) (by rw[y9])) ()) (small (by rw[oM];omega))) (qL aW (fY (kQ 5. aK #[⋯,⋯]) aK ⋯) () () c1) (small (by rw[xR,oM,oM];omega))) (dQ (by rw[ae];omega)))) #[.inr Y,.inr Y,.inr Y,.inl Y,.inl Y,.inl Y,trivial]
  .refine a8 (b9 (nL 2 Y (kL (zs:=tZ es cell es.length) aW 2. ?_) Y));let:=j7 (l:=tZ es cell es.length) (b:=213) λx hx=>(q1 x hx).2.1;let e1:("\n":O).length=1:=⋯;rw[e1];omega
end
def nS(p:Pl):U:=.list [je (ia p),fy p.gates,je (gC p),.list (p.desks.map gZ),qM (iZ p),je (ic p),je (gD p)]
def Uu(p:Pl)(i:Nat):!((O×O)×Int):=(p.times.take i).map λq=>((q.1,q.2.1),q.2.2)
def Qm(l:!(O×Int×Int)):!(O×!U):=l.foldl (λacc q=>Gx acc q.1 (Mg.pairD q.2)) []
theorem IE(l:!(O×Int×Int)):Qm l=(cw l).map λq=>(q.1,q.2.map Mg.pairD):=by
 let h1:∀(acc:!(O×!(Int×Int)))(n:O)(z:Int×Int),Gx (acc.map λq=>(q.1,q.2.map Mg.pairD)) n (Mg.pairD z)=(hG acc n z).map λq=>(q.1,q.2.map Mg.pairD):=by
  intro acc n z;induction acc with
  |nil=>rfl
  |cons q acc ih=>
   rw[ao,Gx,hG];by_cases h:q.1=n
   .rw[qQ3 h,qQ3 h,ao,aH];rfl
   .rw[qQ2 h,qQ2 h,ao,ih]
 let go:∀(l:!(O×Int×Int))(acc:!(O×!(Int×Int))),l.foldl (λacc q=>Gx acc q.1 (Mg.pairD q.2)) (acc.map λq=>(q.1,q.2.map Mg.pairD))=(l.foldl (λacc q=>hG acc q.1 q.2) acc).map λq=>(q.1,q.2.map Mg.pairD):=by
  intro l;induction l with
  |nil=>intro acc;rfl
  |cons q l ih=>intro acc;rw[dN,dN,h1,ih]
 exact go l []
theorem SR(h1:(kl.map (·.1)).Nodup)(h2:kl.length<=n)(h3:∀q∈kl,q.2.length<=n):((Gx kl z d).map (·.1)).Nodup/\(Gx kl z d).length<=n+1/\∀q∈Gx kl z d,q.2.length<=n+1:=by
 by_cases hz:z∈kl.map (·.1)
 .let#[j,ds,hj,e]:=zq (d:=d) hz;rw[e];let E5:=(aq.mp hj);refine#[?_,by rw[eT];omega,λq hq=>?_]
  .rw[kf];let:(kl.map (·.1)).set j z=kl.map (·.1):=by
    refine iG λm=>?_;by_cases hm:j=m
    .subst hm;rw[aR ([ae]▸E5.1),ay,hj];rfl
    .rw[aO hm]
   rw[this];exact h1
  .rcases kx hq with w|rfl
   .let:=h3 q w;omega
   .let:=h3 _ (aF hj);dsimp only at *;rw[aN];show _+1<=_;omega
 .rw[Dw hz];refine#[?_,by rw[aN];show _+1<=_;omega,λq hq=>?_]
  .rw[aH,cF];exact#[h1,∅,λa ha b hb=>by rw[aA.mp hb];exact λw=>hz ([<-show a=z from w]▸ha)]
  .rcases aT.mp hq with w|w
   .let:=h3 q w;omega
   .rw[aA.mp w];show 1<=_;omega
theorem zx(l:!(O×Int×Int)):∀i,((Qm (l.take i)).map (·.1)).Nodup/\(Qm (l.take i)).length<=i/\∀q∈Qm (l.take i),q.2.length<=i
 |0=>#[gX,aE _,λq hq=>by cases hq]
 |i+1=>by
  let#[h1,h2,h3]:=zx l i;cases e:l[i]? with
  |none=>
   let:l.take (i+1)=l.take i:=by rw[cB,e];simp
   rw[this];exact#[h1,(),λq hq=>by let:=h3 q hq;omega]
  |some x=>let:Qm (l.take (i+1))=Gx (Qm (l.take i)) x.1 (Mg.pairD x.2):=gj _ _ e;rw[this];exact SR h1 h2 h3
theorem Kp{K:ai}:Jw K (λxs H Q=>∃p ys,xs=[.ref p]/\(jY K H p ys\/nG K H p ys)/\∀l,H l=none->Q (.ref l) (upd H l (.lst ys))) [.list ds] ds:=λvs H0 H Q s r q=>by
 let#[v,rfl,r1]:=r.one;cases r1 with
 |lst h t=>exact#[_,_,Y,.inl (s.seq h),λl hl=>q l _ _ _ (.loose s hl) hl (s.free hl) aP t]
def Fpc:U->Option U
 | .tuple [g,k,a,b]=>some (.tuple [g,.tuple [k,a,b]])
 |_=>none
theorem SV(p:Pl):(p.paces.map tj).filterMap Fpc=(gD p).map L2.pairD:=by unfold gD;rw[cO,aG];exact filterMap_some λq _=>rfl
section
variable{P:bW}{w:cP}{K:ai}{mg:O->Option M}{base:dv}{f:J}
abbrev Nfi:!O:=["_law_h","_law_times","_law_desk","_law_kind","_law_work","_law_hours","_law_begin","_law_end","_law_paces"]
theorem Uv:cg Nfi ["_law_h"] (bA (top 59)):=by grind
def Rfi(ds:!U)(d:U):Prop:=∃p:Pl,ds=[fc p]/\jh p/\oH p/\d=nS p
theorem Mh(p:Pl):iz (gB p) "paces"=some (.list (p.paces.map tj)):=by unfold gB;rw[bT (show ¬(("kinds":O)="paces") by symm),bT (show ¬(("gates":O)="paces") by symm),bT (show ¬(("lines":O)="paces") by symm),bT (show ¬(("desks":O)="paces") by symm),bT (show ¬(("times":O)="paces") by symm),bT (show ¬(("hours":O)="paces") by symm)];exact ei Y
theorem zeM(F:kz K "_law_fields" "_law_fields" (top 59) f fd)(n:Na mg)(md:mg "dict"=none):dW P w K mg base jO 1 f fd ["_law_h"] (gi K Rfi):=
 iO F Uv (by ext) λ_ _ h=>by
  let#[p,rfl,ok,gd,rfl]:=h;intro gk A outer s H E hr;let nd:Nfi.Nodup:=Uv.nd;let nc:(["_law_gate","_law_kind","_law_burst","_law_gap"]:!O).Nodup:=∎;let htn:=ok.tn;let hhn:=ok.hn;refine qf λB0 B σ H0 Hh D fr MH=>?_;refine bO (Wm EM.mono (OF.none fr Y) 1 (λ_=>rfl) (λa σ1 H1 cY G=>?_) nd);let mT:∀{l},bM (Sep (Ef a l) EM):=Sep.mono Ef.mono EM.mono;refine bO (ye (tgt:=.tup [2,3,4]) (ds:=p.times.map uO) (λi=>Sep (Ef a (Uu p i)) EM) (λ_=>mT) G bL Y (dX (eP hr 0. aW (Fp p))) (fh Y (bx (fP 2 nd) (bx (fP 3 nd) (bx (fP 4 nd) dU)))) (λi d hd=>?_) (λσ2 Ha Hb G2=>?_))
  .let#[x,hx,rfl]:=get_map hd;let Lz:=(aq.mp hx);refine#[_,Y,Y,λD C0 σ' c9 H' G q=>?_];let es:Uu p (i+1)=Uu p i ++ [((x.1,x.2.1),x.2.2)]:=by unfold Uu;rw[cB,hx,aH];rfl
   rw[es]at q;refine b_ (Wn EM.mono G hr 1 Y 2. 3. 4. (dQ (by unfold Uu;rw[ae,bU];omega)) (λz=>?_) λHk Hl G1=>?_)
   .unfold Uu at z;rw[aG]at z;let#[y,hy,e]:=aj.mp z;let#[j,hj,rfl]:=pV.mp hy;let:=(rA gd.tn (h₀:=by rw[ae];omega) (h₁:=[ae]▸Lz.1) (i:=j) (j:=i)).mp ([ko,ko,Lz.2]▸e);omega
   .exact q _ _ _ (((G1.un mT 2).un mT 3).un mT 4)
  let e1:Uu p p.times.length=p.times.map λq=>((q.1,q.2.1),q.2.2):=by unfold Uu;rw[bV]
  rw[ae,e1]at G2;refine bO (Wb mT G2 5 (λ_=>rfl) (λb σ3 H3 yd G3=>?_) nd);let mH:∀{kl l},bM (Sep (DL K b kl) (Sep (Ef a l) EM)):=Sep.mono DL.mono mT;refine bO (ye (tgt:=.tup [2,6,7]) (ds:=p.hours.map jg) (λi=>Sep (DL K b (Qm (p.hours.take i))) (Sep (Ef a (p.times.map λq=>((q.1,q.2.1),q.2.2))) EM)) (λ_=>mH) G3 bL Y (dX (eP hr 0. aW (tD p))) (fh Y (bx (fP 2 nd) (bx (fP 6 nd) (bx (fP 7 nd) dU)))) (λi d hd=>?_) (λσ4 T5 T6 G4=>?_))
  .let#[x,hx,rfl]:=get_map hd;let Lz:=(aq.mp hx).1;refine#[_,Y,Y,λD C0 σ' c9 H' G q=>?_];let es:Qm (p.hours.take (i+1))=Gx (Qm (p.hours.take i)) x.1 (Mg.pairD x.2):=gj _ _ hx;let#[i1,i2,i3]:=zx p.hours i;rw[es]at q;refine b_ (OD mT G 5 Y 2. (iX {6.,7.}) i1 (dQ ()) (λq hq=>dQ (by let:=i3 q hq;omega)) λHk Hl G1=>?_);exact q _ _ _ (((G1.un mH 2).un mH 6).un mH 7)
  rw[ae,bV]at G4;let OY:((gD p).map (·.1)).Nodup:=by unfold gD;rw[aG];exact gd.pc
  let han:=ok.an;refine bO (Dj mH G4 (dC 8 (d:=je (gD p)) (Ac (VE.to (VO.ve (dF (own:=["_law_gate","_law_kind","_law_burst","_law_gap"]) (cap:=[]) (N:=["_law_gate","_law_kind","_law_burst","_law_gap"]) (cl:=[]) (tgt:=.tup [0,1,2,3]) (F:=Fpc) (ds:=p.paces.map tj) Y #[Y,∎,∎,Y,Y,∅] (dX (eP hr 0. aW (Mh p))) (λf s3 H3=>fh Y (bx (fP 0 nc) (bx (fP 1 nc) (bx (fP 2 nc) (bx (fP 3 nc) dU))))) Y (small (by rw[ae];omega)) (λd hd=>?_))) (by rw[SV])) OY Y md) nd) Y λσ5 Ha5 Hb5 G5=>?_)
  .let#[q,_,rfl]:=aj.mp hd;exact Bi Y Y λf s3 H3=>iX {0.,iX {1.,2.,3.}}
  let#[Hc,G6]:=G5.HN mT DL.see 5 Y;let#[Hd,G7]:=G6.HN EM.mono Ef.see 1 Y;let hkn:((ia p).map (·.1)).Nodup:=by unfold ia;rw[aG];exact gd.kn
  let WT:((gC p).map (·.1)).Nodup:=by unfold gC;rw[aG];exact(cF.mp gd.pn).2.1
  let eh:Xq (Qm p.hours)=ic p:=by rw[IE];unfold Xq ic;rw[aG];rfl
  let et:((p.times.map λq=>((q.1,q.2.1),q.2.2)).map λq=>(q.1,eJ q.2))=iZ p:=by unfold iZ;rw[aG];rfl
  rw[eh,et]at G7;refine b_ (Oi G7 (d:=nS p) (VO.ve (da {Ac (l:=ia p) (VE.to (eP hr 0. aW (wj p)) ?_) hkn Y md,VO.ve (nW nI Kp {eP hr 0. aW (Ao p)} n.lst Y),Ac (l:=gC p) (VE.to (eP hr 0. aW (Fo p)) ?_) WT Y md,VO.ve (nW nI Kp {eP hr 0. aW (tq p)} n.lst Y),1.,5.,8.})) MH)
  .unfold ia;rw[aG];rfl
  .unfold gC;rw[aG];rfl
theorem zaJ:cg ["_law_plant"] ["_law_plant"] (bA (top 60)):=by grind
def Rtf(ds:!U)(d:U):Prop:=∃p:Pl,ds=[gE p]/\d=nS p
theorem zeN(F:kz K "_law_told_fields" "_law_told_fields" (top 60) f fd):dW P w K mg base jO 1 f fd ["_law_plant"] (gi K Rtf):=
 iO F zaJ (by ext) λ_ _ h=>by let#[p,rfl,rfl]:=h;intro gk A outer s H E hr;exact a8 (b9 (VO.ve (da {iA 0. (tH p),iA 0. (wx p),iA 0. (tJ p),iA 0. (wy p),iA 0. (Av p),iA 0. (FD p),iA 0. (Aw p)})))
end
structure Kq(K:ai):Prop extends Ka K where
 dd:bp K (.type "dict") (.type "dict")>>true
 nd:bp K (.type "NoneType") (.type "dict")>>false
 id_:bp K (.type "int") (.type "dict")>>false
 sd:bp K (.type "str") (.type "dict")>>false
 ld:bp K (.type "list") (.type "dict")>>false
 td:bp K (.type "tuple") (.type "dict")>>false
 nl:bp K (.type "NoneType") (.type "list")>>false
 il:bp K (.type "int") (.type "list")>>false
 sl:bp K (.type "str") (.type "list")>>false
 nt:bp K (.type "NoneType") (.type "tuple")>>false
 it:bp K (.type "int") (.type "tuple")>>false
 st:bp K (.type "str") (.type "tuple")>>false
def t_:Nat->U->Prop
 |0,x=>yk x
 |n+1,x=>yk x\/(∃xs,(x=.list xs\/x=.tuple xs)/\xs.length<=1000/\∀e∈xs,t_ n e)\/(∃kvs:!(O×U),x=je kvs/\kvs.length<=1000/\(kvs.map (·.1)).Nodup/\(∀q∈kvs,lD q.1/\Ee q.2/\t_ n q.2))\/∃l:!((O×O)×U),x=qM l/\l.length<=1000/\(l.map (·.1)).Nodup/\∀q∈l,lD q.1.1/\lD q.1.2/\o5 q.2=true/\t_ n q.2
theorem ua:∀{l:!((O×O)×U)},(l.map (·.1)).Nodup->∀q∈l,iz l q.1>>q.2
 | [],_,q,h=>by cases h
 |w::l,nd,q,h=>by
  rw[ao,cD]at nd;rcases au.mp h with rfl|h
  .exact ei Y
  .rw[bT (λe=>nd.1 ([e]▸aj.mpr #[q,h,Y]))];exact ua nd.2 q h
section
variable{P:bW}{w:cP}{K:ai}{mg:O->Option M}{base:dv}{f:J}
abbrev Mi:!O:=["_law_found","_law_due"]
theorem Uw:cg Mi Mi (bA (top 61)):=by grind
def Ux(n:Nat)(ds:!U)(d:U):Prop:=∃x,ds=[x,x]/\t_ n x/\d=.bool true
theorem Uy{k:Nat}(n:Na mg)(md:mg "dict"=none)(kt:Kq K)(h:yk x):sS P w K mg base Mi "_law_same" (top 61) f k [x,x] (.rt (.bool true)):=by
 intro gk A outer s H E hr;cases x with
 |none=>refine aL (bP (e8 (fw (tn:="dict") 1. Y kt.nd Y n.uL md Y) Y) bw) ?_;refine aL (bP (VT.to (gY (e8 (fw (tn:="list") 1. Y kt.nl Y n.uL n.lst Y) Y) λ_=>e8 (fw (tn:="tuple") 1. Y kt.nt Y n.uL n.tup Y) Y) Y) bw) ?_;exact dB (dH (VT.to (gO jM mW 1. g8 (fX _)) Y) (a8 (b9 (VE.to (va jM mW 0. g8 (fX _)) Y)))) Y
 |int i=>refine aL (bP (e8 (fw (tn:="dict") 1. Y kt.id_ Y n.uL md Y) Y) bw) ?_;refine aL (bP (VT.to (gY (e8 (fw (tn:="list") 1. Y kt.il Y n.uL n.lst Y) Y) λ_=>e8 (fw (tn:="tuple") 1. Y kt.it Y n.uL n.tup Y) Y) Y) bw) ?_;refine aL (bP (VT.to (gO jM mW 1. g8 (fX _)) Y) bw) ?_;refine aL (bP (e8 (fw (tn:="str") 1. Y kt.is Y n.uL n.str Y) Y) bw) ?_;refine a8 (b9 (VE.to (jQ (fw (tn:="int") 0. Y kt.ii Y n.uL n.int Y) (λ_=>jQ (v8 (fw (tn:="bool") 0. Y kt.ib Y n.uL n.bool Y)) (λ_=>g_ (nE hr (eK 20 _) (eK 20 _) 0. 1.)))) ?_));rw[o7,qQ1 Y];rfl
 |str z=>refine aL (bP (e8 (fw (tn:="dict") 1. Y kt.sd Y n.uL md Y) Y) bw) ?_;refine aL (bP (VT.to (gY (e8 (fw (tn:="list") 1. Y kt.sl Y n.uL n.lst Y) Y) λ_=>e8 (fw (tn:="tuple") 1. Y kt.st Y n.uL n.tup Y) Y) Y) bw) ?_;refine aL (bP (VT.to (gO jM mW 1. g8 (fX _)) Y) bw) ?_;refine dB (dH (e8 (fw (tn:="str") 1. Y kt.ss Y n.uL n.str Y) Y) (a8 (b9 (VE.to (jQ (fw (tn:="str") 0. Y kt.ss Y n.uL n.str Y) (λ_=>g_ (nE hr (a9 h) (a9 h) 0. 1.))) ?_)))) Y;rw[bG,qQ1 Y];rfl
 |_=>exact h.elim
theorem zaK(n:Np mg w.params K)(md:mg "dict"=none)(kt:Kq K)(C:a_ P w K mg base (m+1) "_law_same" Mi (gi K (Ux m)))(hx:x=.list xs\/x=.tuple xs)(hl:xs.length<=1000)(ho:∀e∈xs,t_ m e):sS P w K mg base Mi "_law_same" (top 61) f (m+1) [x,x] (.rt (.bool true)):=by
 intro gk A outer s H E hr;let nk:(["_law_one","_law_other"]:!O).Nodup:=∎;let zl:(uF xs xs).length=xs.length:=by rw[o6,Nat.min_self]
 let blk:∀d∈uF xs xs,∃e,d=.tuple [e,e]/\t_ m e:=λd hd=>by let#[i,hi]:=mM.mp hd;let#[y,z,h1,h2,rfl]:=zY hi;rw[h1]at h2;cases h2;exact#[y,Y,ho y (aF h1)]
 rcases hx with rfl|rfl
 .refine aL (bP (e8 (fw (tn:="dict") 1. Y kt.ld Y n.uL md Y) Y) bw) ?_;refine dB (dH (VT.to (gY (k2:=false) (e8 (fw (tn:="list") 1. Y kt.ll Y n.uL n.lst Y) Y) λz=>by cases z) Y) (aL (bP (VT.to (gY (lL hr (mX 20 _) (mX 20 _) (fw (tn:="list") 0. Y kt.ll Y n.uL n.lst Y) (fw (tn:="list") 1. Y kt.ll Y n.uL n.lst Y)) (λ_=>lL hr (mX 20 _) (mX 20 _) (fw (tn:="tuple") 0. Y kt.lt Y n.uL n.tup Y) (fw (tn:="tuple") 1. Y kt.lt Y n.uL n.tup Y))) Y) bw) (a8 (b9 ?_)))) Y;refine VE.to (jQ (nE hr (eK 20 _) (eK 20 _) (iN 0. n.len) (iN 1. n.len)) (λ_=>g_ (gv (jR Y) sU {VO.ve (VO.to (dF (own:=["_law_one","_law_other"]) (cap:=[]) (N:=["_law_one","_law_other"]) (cl:=[]) (tgt:=.tup [0,1]) (F:=R5) (ds:=uF xs xs) Y #[Y,∎,∎,Y,Y,∅] (xn .lst .lst 0. 1. n.zip) (λf s3 H3=>fh Y (bx (fP 0 nk) (bx (fP 1 nk) dU))) Y (small (by rw[zl];omega)) (λd hd=>?_)) (o8 _))} n.all Y))) ?_
  .let#[e,rfl,he]:=blk d hd;exact Bi Y Y λf s3 H3=>bE C hr {0.,1.} #[e,Y,he,Y]
  .rw[o7,qQ1 Y,lY];rfl
 .refine aL (bP (e8 (fw (tn:="dict") 1. Y kt.td Y n.uL md Y) Y) bw) ?_;refine dB (dH (VT.to (gY (e8 (fw (tn:="list") 1. Y kt.tl Y n.uL n.lst Y) Y) λ_=>e8 (fw (tn:="tuple") 1. Y kt.tt Y n.uL n.tup Y) Y) Y) (aL (bP (VT.to (gY (lL hr (mX 20 _) (mX 20 _) (fw (tn:="list") 0. Y kt.tl Y n.uL n.lst Y) (fw (tn:="list") 1. Y kt.tl Y n.uL n.lst Y)) (λ_=>lL hr (mX 20 _) (mX 20 _) (fw (tn:="tuple") 0. Y kt.tt Y n.uL n.tup Y) (fw (tn:="tuple") 1. Y kt.tt Y n.uL n.tup Y))) Y) bw) (a8 (b9 ?_)))) Y;refine VE.to (jQ (nE hr (eK 20 _) (eK 20 _) (mB 0. n.len) (mB 1. n.len)) (λ_=>g_ (gv (jR Y) sU {VO.ve (VO.to (dF (own:=["_law_one","_law_other"]) (cap:=[]) (N:=["_law_one","_law_other"]) (cl:=[]) (tgt:=.tup [0,1]) (F:=R5) (ds:=uF xs xs) Y #[Y,∎,∎,Y,Y,∅] (xn .tup .tup 0. 1. n.zip) (λf s3 H3=>fh Y (bx (fP 0 nk) (bx (fP 1 nk) dU))) Y (small (by rw[zl];omega)) (λd hd=>?_)) (o8 _))} n.all Y))) ?_
  .let#[e,rfl,he]:=blk d hd;exact Bi Y Y λf s3 H3=>bE C hr {0.,1.} #[e,Y,he,Y]
  .rw[o7,qQ1 Y,lY];rfl
theorem zaL(n:Np mg w.params K)(md:mg "dict"=none)(kt:Kq K)(C:a_ P w K mg base (m+1) "_law_same" Mi (gi K (Ux m))){kvs:!(O×U)}(hl:kvs.length<=1000)(Bo:(kvs.map (·.1)).Nodup)(ho:∀q∈kvs,lD q.1/\Ee q.2/\t_ m q.2):sS P w K mg base Mi "_law_same" (top 61) f (m+1) [je kvs,je kvs] (.rt (.bool true)):=by
 intro gk A outer s H E hr;let nk:(["_law_name","_law_found","_law_due"]:!O).Nodup:=∎;let ly:Lay 20 (.list (kvs.map λq=>aJ q.1)):=k_ (n:=19) λd hd=>by let#[q,hq,rfl]:=aj.mp hd;exact a9 (ho q hq).1
 refine dB (dH (e8 (Ae (tn:="dict") 1. kt.dd Y n.uL md Y) Y) (aL (bP (VT.to (gY (vd (e8 (Ae (tn:="dict") 0. kt.dd Y n.uL md Y) Y)) λ_=>lL hr ly ly (VO.ve (nW (sW Y) JT {0.} n.lst Y)) (VO.ve (nW (sW Y) JT {1.} n.lst Y))) (by rw[SeqAt.eqv_refl _ ly.1];rfl)) bw) (a8 (b9 ?_)))) Y;let cap:∀j∈[0,1],j=0\/j=1:=∅
 refine OQ 1 0 (δ1:=[.val (je kvs),.val (Br kvs)]) (δ2:=[.val (Br kvs),.val (Br kvs)]) Y Y (λq hq=>(ho q hq).2.1) Y Y Y (λk sl h=>?_) (λk sl h=>?_) ?_ ?_
 .match k,h with
  |0,h=>cases h;exact .inr (.inr #[Y,Y])
  |1,h=>cases h;exact .inr (.inl #[Y,Y])
 .match k,h with
  |0,h=>cases h;exact .inr #[.inr Y,Y]
  |1,h=>cases h;exact .inr #[.inl Y,Y]
 .refine VE.to (gv (jR Y) sU {VO.ve (VO.to (dF (own:=["_law_name"]) (cap:=[0,1]) (N:=["_law_name","_law_found","_law_due"]) (tgt:=.one 0) (F:=R5) (ds:=kvs.map λq=>.str q.1) Y #[Y,∎,∎,Y,Y,?_] (EZ 1.) (λf s3 H3=>fP 0 nk) Y (small (by rw[ae];omega)) (λd hd=>?_)) (o8 _))} n.all Y) (by rw[lY])
  .intro j hj;rcases cap j hj with rfl|rfl
   .exact#[(by show(0:Nat)<2;decide),jc Y,Y]
   .exact#[(by show(1:Nat)<2;decide),jc Y,Y]
  .let#[q,hq,rfl]:=aj.mp hd;exact Bi Y Y λf s3 H3=>bE C hr {eP hr 1. 0. (L2.mU Bo q hq),Ad hr 2. 0. (L2.mU Bo q hq)} #[q.2,Y,(ho q hq).2.2,Y]
 .refine VE.to (gv (jR Y) sU {VO.ve (VO.to (dF (own:=["_law_name"]) (cap:=[0,1]) (N:=["_law_name","_law_found","_law_due"]) (tgt:=.one 0) (F:=R5) (ds:=kvs.map λq=>.str q.1) Y #[Y,∎,∎,Y,Y,?_] (EZ 1.) (λf s3 H3=>fP 0 nk) Y (small (by rw[ae];omega)) (λd hd=>?_)) (o8 _))} n.all Y) (by rw[lY])
  .intro j hj;rcases cap j hj with rfl|rfl
   .exact#[(by show(0:Nat)<2;decide),jc Y,Y]
   .exact#[(by show(1:Nat)<2;decide),jc Y,Y]
  .let#[q,hq,rfl]:=aj.mp hd;exact Bi Y Y λf s3 H3=>bE C hr {Ad hr 1. 0. (L2.mU Bo q hq),Ad hr 2. 0. (L2.mU Bo q hq)} #[q.2,Y,(ho q hq).2.2,Y]
theorem zaM(n:Np mg w.params K)(md:mg "dict"=none)(kt:Kq K)(C:a_ P w K mg base (m+1) "_law_same" Mi (gi K (Ux m))){l:!((O×O)×U)}(hl:l.length<=1000)(Bo:(l.map (·.1)).Nodup)(ho:∀q∈l,lD q.1.1/\lD q.1.2/\o5 q.2=true/\t_ m q.2):sS P w K mg base Mi "_law_same" (top 61) f (m+1) [qM l,qM l] (.rt (.bool true)):=by
 intro gk A outer s H E hr;let nk:(["_law_name","_law_found","_law_due"]:!O).Nodup:=∎;let ly:Lay 20 (.list (l.map J6)):=k_ (n:=19) λd hd=>by
  let#[q,hq,rfl]:=aj.mp hd;refine uq (n:=18) λd hd=>?_;rcases au.mp hd with rfl|hd
  .exact a9 (ho q hq).1
  .rw[aA.mp hd];exact a9 (ho q hq).2.1
 refine dB (dH (e8 (yj (tn:="dict") 1. kt.dd Y n.uL md Y) Y) (aL (bP (VT.to (gY (vd (e8 (yj (tn:="dict") 0. kt.dd Y n.uL md Y) Y)) λ_=>RT hr ly Y 0. 1. n.lst) Y) bw) (a8 (b9 ?_)))) Y;let cap:∀j∈[0,1],j=0\/j=1:=∅
 refine OS 1 0 (δ1:=[.val (qM l),.val (Bt l)]) (δ2:=[.val (Bt l),.val (Bt l)]) Y Y (λq hq=>(ho q hq).2.2.1) Y Y Y (λk sl h=>?_) (λk sl h=>?_) ?_ ?_
 .match k,h with
  |0,h=>cases h;exact .inr (.inr #[Y,Y])
  |1,h=>cases h;exact .inr (.inl #[Y,Y])
 .match k,h with
  |0,h=>cases h;exact .inr #[.inr Y,Y]
  |1,h=>cases h;exact .inr #[.inl Y,Y]
 .refine VE.to (gv (jR Y) sU {VO.ve (VO.to (dF (own:=["_law_name"]) (cap:=[0,1]) (N:=["_law_name","_law_found","_law_due"]) (tgt:=.one 0) (F:=R5) (ds:=l.map J6) Y #[Y,∎,∎,Y,Y,?_] (Fc 1.) (λf s3 H3=>fP 0 nk) Y (small (by rw[ae];omega)) (λd hd=>?_)) (o8 _))} n.all Y) (by rw[lY])
  .intro j hj;rcases cap j hj with rfl|rfl
   .exact#[(by show(0:Nat)<2;decide),jc Y,Y]
   .exact#[(by show(1:Nat)<2;decide),jc Y,Y]
  .let#[q,hq,rfl]:=aj.mp hd;exact Bi Y Y λf s3 H3=>bE C hr {Lv (x:=q.1) hr 1. 0. (ua Bo q hq),Ak (x:=q.1) hr 2. 0. (ua Bo q hq)} #[q.2,Y,(ho q hq).2.2.2,Y]
 .refine VE.to (gv (jR Y) sU {VO.ve (VO.to (dF (own:=["_law_name"]) (cap:=[0,1]) (N:=["_law_name","_law_found","_law_due"]) (tgt:=.one 0) (F:=R5) (ds:=l.map J6) Y #[Y,∎,∎,Y,Y,?_] (Fc 1.) (λf s3 H3=>fP 0 nk) Y (small (by rw[ae];omega)) (λd hd=>?_)) (o8 _))} n.all Y) (by rw[lY])
  .intro j hj;rcases cap j hj with rfl|rfl
   .exact#[(by show(0:Nat)<2;decide),jc Y,Y]
   .exact#[(by show(1:Nat)<2;decide),jc Y,Y]
  .let#[q,hq,rfl]:=aj.mp hd;exact Bi Y Y λf s3 H3=>bE C hr {Ak (x:=q.1) hr 1. 0. (ua Bo q hq),Ak (x:=q.1) hr 2. 0. (ua Bo q hq)} #[q.2,Y,(ho q hq).2.2.2,Y]
theorem zaN(F:kz K "_law_same" "_law_same" (top 61) f fd)(n:Np mg w.params K)(md:mg "dict"=none)(kt:Kq K):dW P w K mg base jO 1 f fd Mi (gi K (Ux 0)):=
 iO F Uw (by ext) λ_ _ h=>by let#[x,rfl,ho,rfl]:=h;exact Uy n.toNa md kt ho
theorem FZ(F:kz K "_law_same" "_law_same" (top 61) f fd)(n:Np mg w.params K)(md:mg "dict"=none)(kt:Kq K)(C:a_ P w K mg base (m+1) "_law_same" Mi (gi K (Ux m))):dW P w K mg base jO (m+2) f fd Mi (gi K (Ux (m+1))):=
 iO F Uw (by ext) λ_ _ h=>by
  let#[x,rfl,ho,rfl]:=h;rcases ho with ho|⟨xs,h1,h2,h3⟩|⟨kvs,rfl,h2,h3,h4⟩|⟨l,rfl,h2,h3,h4⟩
  .exact Uy n.toNa md kt ho
  .exact zaK n md kt C h1 h2 h3
  .exact zaL n md kt C h2 h3 h4
  .exact zaM n md kt C h2 h3 h4
end
theorem zaO(hk:k<Eg p cell):(∃d∈p.desks,(yS p cell k).1=d.name)/\0<=(yS p cell k).2.1/\(yS p cell k).2.1<(yS p cell k).2.2/\(yS p cell k).2.2<=3000:=by
 let hd:p.desks≠[]:=λz=>by unfold Eg at hk;rw[qQ3 z]at hk;omega
 let hl:1<=p.desks.length:=by cases e:p.desks with|nil=>exact qQ7 e hd|cons a l=>rw[bj];omega
 let h1:=(zr (F:=gZ) (d:=(#["","",.eldest,[]]:Dk)) hl (gP cell (651+k))).2;refine#[#[_,h1,Y],?_];show 0<=gP cell (651+k)/9%2000/\gP cell (651+k)/9%2000<gP cell (651+k)/9%2000+1+gP cell (651+k)/20000%90/\gP cell (651+k)/9%2000+1+gP cell (651+k)/20000%90<=3000;generalize gP cell (651+k)=m;omega
theorem W6(p:Pl)(cell:Int):Eg p cell<=4:=by
 unfold Eg;split
 .omega
 .let:=RW cell 650;omega
theorem P0(h:q∈(IC p cell).hours):q∈p.hours\/((∃d∈p.desks,q.1=d.name)/\0<=q.2.1/\q.2.1<q.2.2/\q.2.2<=3000):=by
 rcases aT.mp (show q∈p.hours++(cv (Eg p cell)).map (yS p cell)from h)with h|h
 .exact .inl h
 .let#[k,hk,rfl]:=aj.mp h;exact .inr (zaO (gb.mp hk))
theorem P1(p:Pl)(cell:Int):(IC p cell).hours.length<=p.hours.length+4:=by show(p.hours++(cv (Eg p cell)).map (yS p cell)).length<=_;rw[aN,ae,cW];let:=W6 p cell;omega
theorem zaP(ok:jh p)(hl:p.hours.length<=500)(cell:Int):jh (IC p cell):=by
 refine#[ok.kn,ok.gn,ok.ln,ok.dn,ok.tn,?_,ok.kinds,ok.gates,ok.lines,ok.desks,ok.times,?_,ok.an,ok.paces]
 .let:=P1 p cell;omega
 .intro q hq;rcases P0 hq with h|⟨⟨d,hd,e⟩,h1,h2,h3⟩
  .exact ok.hours q h
  .exact#[[e]▸(ok.desks d hd).1,#[h1,()],(),()]
theorem SW(g:oH p)(cell:Int):oH (IC p cell):=by
 refine#[g.kn,g.pn,g.dn,g.dk,g.dj,g.tn,g.tm,?_,g.kk,g.ll,g.pc,g.pp];intro q hq;rcases P0 hq with h|⟨⟨d,hd,e⟩,h1,h2,h3⟩
 .exact g.hr q h
 .exact#[aj.mpr #[d,hd,e.symm],h2]
theorem F0(ns:!Int):jh (ji ns)/\oH (ji ns)/\1<=(ji ns).kinds.length/\(ji ns).kinds.length<=12/\(ji ns).gates.length+(ji ns).lines.length<=12/\(ji ns).desks.length<=8/\(ji ns).times.length<=96/\(ji ns).hours.length<=16:=by unfold ji;split<;>exact PX _ _ _
theorem SX(p:Pl)(cell:Int):(vE p cell).paces.length<=p.gates.length:=bZ (f7 _ _) ([cW]▸aE _)
def ub(ns:!Int)(c3 c4:Int):Pl:=IC (vE (ji ns) c3) c4
structure Drawn(p:Pl):Prop where
 ok:jh p
 good:oH p
 ne:jV p≠[]
 len:(jV p).length<=200
 run:jE q5 (jV p)
 fold:(jV p).foldl ik q5=p
 tx:lu p=bB "\n" ((jV p).map ju)
theorem Mj(ns:!Int)(c3 c4:Int):Drawn (ub ns c3 c4):=by
 let#[ok,g,k1,k2,gl,dl,tl,hl]:=F0 ns;let ok1:=FT ok k1 c3;let g1:=IB g k1 c3;let Sg:=zaP ok1 (show(ji ns).hours.length<=500 by omega) c4;let g2:=SW g1 c4;let#[r1,r2]:=Pw Sg g2;let e1:(ub ns c3 c4).kinds.length=(ji ns).kinds.length:=Y;let e2:(ub ns c3 c4).gates.length=(ji ns).gates.length:=Y;let e3:(ub ns c3 c4).lines.length=(ji ns).lines.length:=Y;let e4:(ub ns c3 c4).desks.length=(ji ns).desks.length:=Y;let e5:(ub ns c3 c4).times.length=(ji ns).times.length:=Y;let e6:(ub ns c3 c4).hours.length<=(ji ns).hours.length+4:=P1 (vE (ji ns) c3) c4;let e7:(ub ns c3 c4).paces.length<=(ji ns).gates.length:=SX (ji ns) c3;refine#[Sg,g2,λz=>?_,?_,r1,r2,?_]
 .let:=qQ6 dq z;unfold jV at this;simp only[aN,ae,cx]at this;omega
 .unfold jV;simp only[aN,ae];omega
 .unfold lu;rw[AQ λd hd z=>by let:=(g2.dk d hd).1.2.2.2.1;rw[z]at this;exact qQ7 this ⋯]
theorem WN.Uz(h:jE q5 es):WN es:=by let#[h1,h2,h3]:=h.es;exact#[h1,h2,h3]
theorem Kr(o:Option Int):Ee (mV o):=by cases o with|none=>exact .non|some i=>exact .int i
theorem P2(o:Option Int):t_ n (mV o):=by cases n<;>cases o<;>first|trivial|exact .inl trivial
theorem uc(i:Int):t_ n (.int i):=by cases n<;>first|trivial|exact .inl trivial
theorem xS{x:O}(h:lD x):t_ n (.str x):=by cases n<;>first|exact h|exact .inl h
theorem DV(hl:xs.length<=1000)(h:∀e∈xs,t_ n e):t_ (n+1) (.list xs):=.inr (.inl #[xs,.inl Y,hl,h])
theorem xT(hl:xs.length<=1000)(h:∀e∈xs,t_ n e):t_ (n+1) (.tuple xs):=.inr (.inl #[xs,.inr Y,hl,h])
theorem zaQ(h:pR r n)(hn:n<=6)(w:lD (oP r)):t_ 2 (Kc r):=by
 refine xT (n:=1) (by cases r<;>exact hZ Y) λe he=>?_;rcases au.mp he with rfl|he
 .exact xS w
 .cases r with
  |meet=>cases he
  |eldest=>cases he
  |gather m a=>simp only[qg,au,aS,or_false]at he;rcases he with rfl|rfl<;>exact uc _
  |many m=>rw[aA.mp he];exact uc _
  |rank b=>rw[aA.mp he];exact P2 _
  |turns s=>
   rw[aA.mp he];refine xT (n:=0) ?_ λe he=>by let#[i,_,rfl]:=aj.mp he;exact uc _
   rw[ae];let#[h1,_]:=h;omega
theorem F1(z:Int×Int):Ee (pairD z):=.tup λd hd=>by simp only[au,aS,or_false]at hd;rcases hd with rfl|rfl<;>exact .int _
theorem Ml{acc:!(O×!(Int×Int))}{n:O}{z:Int×Int}:∀q∈hG acc n z,q.1=n\/∃w∈acc,w.1=q.1:=by
 induction acc with
 |nil=>intro q hq;rw[aA.mp (show q∈[(n,[z])]from hq)];exact .inl Y
 |cons a acc ih=>
  intro q hq;rw[hG]at hq;by_cases h:a.1=n
  .rw[qQ3 h]at hq;rcases au.mp hq with rfl|hq
   .exact .inl h
   .exact .inr #[q,aD _ hq,Y]
  .rw[qQ2 h]at hq;rcases au.mp hq with rfl|hq
   .exact .inr #[_,aB,Y]
   .rcases ih q hq with e|⟨w,hw,e⟩
    .exact .inl e
    .exact .inr #[w,aD _ hw,e]
theorem AV(h:z∈cw l):∃w∈l,w.1=z.1:=by
 let go:∀(l:!(O×Int×Int))(acc:!(O×!(Int×Int))),z∈l.foldl (λacc q=>hG acc q.1 q.2) acc->(∃w∈acc,w.1=z.1)\/∃w∈l,w.1=z.1:=by
  intro l;induction l with
  |nil=>intro acc h;exact .inl #[z,h,Y]
  |cons q l ih=>
   intro acc h;rcases ih _ h with⟨w,hw,e⟩|⟨w,hw,e⟩
   .rcases Ml w hw with e2|⟨y,hy,e2⟩
    .exact .inr #[q,aB,by rw[<-e2,e]]
    .exact .inl #[y,hy,by rw[e2,e]]
   .exact .inr #[w,aD _ hw,e]
 rcases go l [] h with⟨w,hw,_⟩|h
 .cases hw
 .exact h
theorem Mm(ok:jh p)(g:oH p):t_ 5 (nS p):=by
 let hk:=ok.kn;let hg:=ok.gn;let hl:=ok.ln;let hd:=ok.dn;let ht:=ok.tn;let hh:=ok.hn;let ha:=ok.an;refine DV (n:=4) (hZ Y) λe he=>?_;simp only[au,aS,or_false]at he;rcases he with rfl|rfl|rfl|rfl|rfl|rfl|rfl
 .refine .inr (.inr (.inl #[_,Y,by unfold ia;rw[ae];omega,by unfold ia;rw[aG];exact g.kn,λq hq=>?_]));let#[z,hz,rfl]:=aj.mp hq;exact#[(ok.kinds z hz).1.ok.2,Kr _,P2 _]
 .refine DV (n:=3) (by rw[ae];omega) λe he=>?_;let#[z,hz,rfl]:=aj.mp he;exact xS (ok.gates z hz).ok.2
 .refine .inr (.inr (.inl #[_,Y,by unfold gC;rw[ae];omega,by unfold gC;rw[aG];exact(cF.mp g.pn).2.1,λq hq=>?_]));let#[z,hz,rfl]:=aj.mp hq;exact#[(ok.lines z hz).1.ok.2,.int _,uc _]
 .refine DV (n:=3) (by rw[ae];omega) λe he=>?_;let#[z,hz,rfl]:=aj.mp he;let#[h1,h2,h3,h4]:=(g.dk z hz).1;refine xT (n:=2) (hZ Y) λe he=>?_;simp only[au,aS,or_false]at he;rcases he with rfl|rfl|rfl|rfl
  .exact xS h1.ok.2
  .refine xS ?_;rcases h2 with h|h
   .rw[h];show bR (.str "")=true;symm
   .exact h.ok.2
  .exact zaQ h3 h4.2.1 (tW z.rule).2.1
  .refine xT (n:=1) (by rw[ae];let:=(ok.desks z hz).2.2.2.1;omega) λe he=>?_;let#[y,hy,rfl]:=aj.mp he;exact xS ((ok.desks z hz).2.2.2.2 y hy).ok.2
 .refine .inr (.inr (.inr #[_,Y,by unfold iZ;rw[ae];omega,by unfold iZ;rw[aG];exact g.tn,λq hq=>?_]));let#[z,hz,rfl]:=aj.mp hq;exact#[(ok.times z hz).1.ok.2,(ok.times z hz).2.1.ok.2,Y,uc _]
 .let hv:=zx p.hours p.hours.length;rw[bV,IE]at hv;let#[v1,v2,v3]:=hv;rw[ae]at v2;rw[aG]at v1;refine .inr (.inr (.inl #[_,Y,by unfold ic;rw[ae];omega,by unfold ic;rw[aG];exact v1,λq hq=>?_]));let#[z,hz,rfl]:=aj.mp hq;let hz3:=v3 _ (aj.mpr #[z,hz,Y]);refine#[?_,.lst λe he=>by let#[y,_,rfl]:=aj.mp he;exact F1 y,DV (n:=2) (by rw[show((z.1,z.2.map pairD):O×!U).2.length=(z.2.map pairD).length from Y]at hz3;omega) λe he=>?_]
  .let#[w,hw,e]:=AV hz;show lD z.1;rw[<-e];exact(ok.hours w hw).1.ok.2
  .let#[y,_,rfl]:=aj.mp he;refine xT (n:=1) (hZ Y) λe he=>?_;simp only[au,aS,or_false]at he;rcases he with rfl|rfl<;>exact uc _
 .refine .inr (.inr (.inl #[_,Y,by unfold gD;rw[ae];omega,by unfold gD;rw[aG];exact g.pc,λq hq=>?_]));let#[z,hz,rfl]:=aj.mp hq;refine#[(ok.paces z hz).1.ok.2,.tup λe he=>?_,xT (n:=2) (hZ Y) λe he=>?_]
  .simp only[au,aS,or_false]at he;rcases he with rfl|rfl|rfl
   .exact .str _
   .exact .int _
   .exact .int _
  .simp only[au,aS,or_false]at he;rcases he with rfl|rfl|rfl
   .exact xS (ok.paces z hz).2.1.ok.2
   .exact uc _
   .exact uc _
theorem Mp(h:xD r):(cj r).length<=61:=by
 cases r with
 |turns s=>show(_::s.map cM).length<=61;rw[bj,ae];let:=h.1;omega
 |_=>exact hZ Y
theorem ud{α:Type}{l:!α}{k:Nat}{e:α}(h:l[k]?>>e):l.take (k+1)=l.take k ++ [e]:=by rw[cB,h];rfl
theorem P4(l:!O):Flat (fy l):=#[_,Y,λe he=>by let#[z,_,rfl]:=aj.mp he;rfl]
theorem Mq(l:!(!O)):∀d∈l.map fy,Flat d:=λd hd=>by let#[z,_,rfl]:=aj.mp hd;exact P4 z
theorem uP{x:Slot}{l:!(!O)}:∀(j:Nat)(sl:Slot),(x :: .own (l.map fy)::bo m .un)[j]?>>sl->j≠0->HQ sl
 |0,_,_,h=>qQ7 Y h
 |1,_,e,_=>by cases e;exact .inr #[_,Y,Mq l]
 |j+2,sl,e,_=>by let e:(bo m Slot.un)[j]?>>sl:=e;exact .inl (List.eq_of_mem_replicate (aF e))
def jG(G:!(O×!(Int×Int))):!(O×Int×Int):=(G.map λq=>q.2.map λz=>(q.1,z)).flatten
def jv(p:Pl):Pl:={ p with hours:=jG (cw p.hours) }
def pS(p:Pl):!(!O):=p.kinds.map (λq=>gS (.kind q.1 q.2))++p.gates.map (λg=>gS (.gate g))++p.lines.map (λq=>gS (.line q.1 q.2))
def Cw(q:O×Int×Int):!O:=gS (.hour q.1 q.2.1 q.2.2)
def pT(p:Pl):!(!O):=p.desks.map fL++p.times.map (λq=>gS (.time q.1 q.2.1 q.2.2))++(jG (cw p.hours)).map Cw
def yw(q:O×O×Int×Int):!O:=gS (.pace q.1 q.2.1 q.2.2.1 q.2.2.2)
theorem all_rows(p:Pl):(jV (jv p)).map gS=pS p++pT p++p.paces.map yw:=by unfold jV jv pS pT;simp only[aH,aG,bS];rfl
section
variable{P:bW}{w:cP}{K:ai}{mg:O->Option M}{base:dv}{f:J}
def Rnw(ds:!U)(d:U):Prop:=∃x,ds=[x]/\(x=.none\/∃i,x=.int i/\cH i)/\d=.str (dG x)
theorem zaR:cg ["number"] ["number"] (bA (top 5)):=by grind
theorem zaS(F:kz K "number_word" "number_word" (top 5) f fd)(n:Na mg):dW P w K mg base jO 1 f fd ["number"] (gi K Rnw):=
 iO F zaR (by ext) λ_ _ h=>by
  let#[x,rfl,hx,rfl]:=h;intro gk A outer s H E hr;rcases hx with rfl|⟨i,rfl,hi⟩
  .exact a8 (b9 (qJ (k:=true) (VT.to (gO jM mW 0. g8 (fX _)) Y) (λ_=>aW) (λz=>by cases z)))
  .exact a8 (b9 (qJ (k:=false) (VT.to (gO jM mW 0. g8 (fX _)) Y) (λz=>by cases z) (λ_=>iY 0. hi.log n.str)))
abbrev Nrw:!O:=["rule","numbers"]
theorem UA:cg Nrw ["rule"] (bA (top 4)):=by grind
def Rrw(ds:!U)(d:U):Prop:=∃r,ds=[Kc r]/\xD r/\d=fy (cj r)
theorem zaT(F:kz K "rule_words" "rule_words" (top 4) f fd)(C:a_ P w K mg base 1 "number_word" ["number"] (gi K Rnw)):dW P w K mg base jO 2 f fd ["rule"] (gi K Rrw):=
 iO F UA (by ext) λ_ _ h=>by
  let#[r,rfl,ho,rfl]:=h;intro gk A outer s H E hr;let nd:Nrw.Nodup:=UA.nd;let oR:lD (oP r):=(tW r).2.1;let lT:Lay 20 (.str "turns"):=a9 ∎;let h0:uk (aJ (oP r)::qg r) 0>>(.str (oP r)):=cJ (j:=0) Y;let nc:(["number"]:!O).Nodup:=∎;by_cases ht:∃sh,r=.turns sh
  .let#[sh,rfl]:=ht;refine aL (dC 1 (d:=.tuple (sh.map .int)) (qJ (k:=true) (VT.to (j9 (k:=1) hr (a9 oR) lT (dm 0. aK h0) aW) ([bG]▸qQ1 Y)) (λ_=>dm (d:=.tuple (sh.map .int)) 0. aK (cJ (j:=1) Y)) (λz=>by cases z)) nd) ?_;let e2:cj (.turns sh)=("turns":O)::(sh.map eJ).map dG:=by show("turns":O)::sh.map cM=_;rw[aG];rfl
   rw[e2];refine a8 (b9 (VE.to (VO.ve (jt (d1:=[.str "turns"]) (d2:=((sh.map eJ).map dG).map .str) (VO.ve (da {dm 0. aK h0})) (VO.ve (VO.to (dF (own:=["number"]) (cap:=[]) (N:=["number"]) (cl:=[]) (tgt:=.one 0) (F:=O_) (ds:=sh.map .int) Y #[Y,∎,∎,Y,Y,∅] (vf 1.) (λf s3 H3=>fP 0 nc) Y (small (by rw[ae];let:=ho.1;omega)) (λd hd=>?_)) (xE _))) (small (by simp only[ae,bj,cx];let:=ho.1;omega)))) Y));let#[z,hz,rfl]:=aj.mp hd;exact Bi Y Y λf s3 H3=>bE C hr {0.} #[_,Y,.inr #[z,Y,ho.2 z hz],Y]
  .let zt:∀sh,r≠.turns sh:=λsh z=>ht #[sh,z];let hw:oP r≠"turns":=by
    cases r with
    |turns sh=>exact qQ7 Y (zt sh)
    |_=>dsimp only[oP];symm
   let HZ:cj r=oP r::(qg r).map dG:=by
    cases r with
    |turns sh=>exact qQ7 Y (zt sh)
    |_=>rfl
   let B6:(qg r).length<=2:=by cases r<;>simp[qg]
   let hx2:∀x∈qg r,x=.none\/∃i,x=.int i/\cH i:=λx hx=>by
    let:=xF zt ho x hx;cases r with
    |turns sh=>exact qQ7 Y (zt sh)
    |meet=>cases hx
    |eldest=>cases hx
    |gather m a=>simp only[qg,au,aS,or_false]at hx;rcases hx with rfl|rfl<;>exact .inr #[_,Y,this]
    |many m=>rw[aA.mp hx]at this ⊢;exact .inr #[_,Y,this]
    |rank b=>
     rw[aA.mp hx]at this ⊢;cases b with
     |none=>exact .inl Y
     |some i=>exact .inr #[_,Y,this]
   rw[HZ];unfold Kc;generalize qg r=ra at *;generalize oP r=pZ at *;let Aj:L2.cutD (aJ pZ::ra) (some 1) none=ra:=(lq (aJ pZ::ra) 1).trans Y;refine aL (dC 1 (d:=.tuple ra) (qJ (k:=false) (VT.to (j9 (k:=1) hr (a9 oR) lT (dm 0. aK h0) aW) ([bG]▸qQ0 hw)) (λz=>by cases z) (λ_=>VE.to (p_ (ds:=.str pZ::ra) 0. (.yes aK) .no ?_) (by rw[Aj]))) nd) ?_
   .intro z;let:=z.1;rw[show(1:Int)=((1:Nat):Int)from Y,HT.nH,bj]at this;omega
   refine a8 (b9 (VE.to (VO.ve (jt (d1:=[.str pZ]) (d2:=(ra.map dG).map .str) (VO.ve (da {dm 0. aK h0})) (VO.ve (VO.to (dF (own:=["number"]) (cap:=[]) (N:=["number"]) (cl:=[]) (tgt:=.one 0) (F:=O_) (ds:=ra) Y #[Y,∎,∎,Y,Y,∅] (vf 1.) (λf s3 H3=>fP 0 nc) Y (small ()) (λd hd=>?_)) (xE _))) (small (by simp only[ae,bj,cx];omega)))) Y));exact Bi Y Y λf s3 H3=>bE C hr {0.} #[_,Y,hx2 d hd,Y]
end
theorem oN(l:!(!O))(x:!O):Slot.own (l.map fy ++ [fy x])=Slot.own ((l ++ [x]).map fy):=by rw[aH];rfl
theorem AW(h:z∈cw l):∀y∈z.2,(z.1,y)∈l:=by
 let one:∀(acc:!(O×!(Int×Int)))(n:O)(x:Int×Int),∀q∈hG acc n x,∀y∈q.2,(q.1=n/\y=x)\/∃w∈acc,w.1=q.1/\y∈w.2:=by
  intro acc n x;induction acc with
  |nil=>intro q hq y hy;rw[aA.mp (show q∈[(n,[x])]from hq)]at hy ⊢;exact .inl #[Y,aA.mp hy]
  |cons a acc ih=>
   intro q hq y hy;rw[hG]at hq;by_cases h:a.1=n
   .rw[qQ3 h]at hq;rcases au.mp hq with rfl|hq
    .rcases aT.mp hy with hy|hy
     .exact .inr #[a,aB,Y,hy]
     .exact .inl #[h,aA.mp hy]
    .exact .inr #[q,aD _ hq,Y,hy]
   .rw[qQ2 h]at hq;rcases au.mp hq with rfl|hq
    .exact .inr #[_,aB,Y,hy]
    .rcases ih q hq y hy with e|⟨w,hw,e⟩
     .exact .inl e
     .exact .inr #[w,aD _ hw,e]
 let go:∀(l:!(O×Int×Int))(acc:!(O×!(Int×Int))),z∈l.foldl (λacc q=>hG acc q.1 q.2) acc->∀y∈z.2,(∃w∈acc,w.1=z.1/\y∈w.2)\/(z.1,y)∈l:=by
  intro l;induction l with
  |nil=>intro acc h y hy;exact .inl #[z,h,Y,hy]
  |cons q l ih=>
   intro acc h y hy;rcases ih _ h y hy with⟨w,hw,e,hy2⟩|h2
   .rcases one acc q.1 q.2 w hw y hy2 with⟨e2,e3⟩|⟨v,hv,e2,hy3⟩
    .exact .inr ([<-e,e2,e3]▸aB)
    .exact .inl #[v,hv,by rw[e2,e],hy3]
   .exact .inr (aD _ h2)
 intro y hy;rcases go l [] h y hy with⟨w,hw,_⟩|h2
 .cases hw
 .exact h2
section
variable{K:ai}
abbrev zaU:!O:=["plant","rows","kind","keep","gate","line","room"]
theorem P5:cg zaU ["plant"] (bA (top 2)):=by grind
def zaV(ds:!U)(d:U):Prop:=∃p,ds=[gE p]/\jh p/\d=.list ((pS p).map fy)
abbrev Mr(x:Slot)(l:!(!O)):!Slot:=[x,.own (l.map fy),.un,.un,.un,.un,.un]
theorem zaW{P:bW}{w:cP}{mg:O->Option M}{base:dv}{f:J}(F:kz K "place_rows" "place_rows" (top 2) f fd)(n:Na mg)(C:a_ P w K mg base 1 "number_word" ["number"] (gi K Rnw)):dW P w K mg base jO 2 f fd ["plant"] (gi K zaV):=
 iO F P5 (by ext) λ_ _ h=>by
  let#[p,rfl,ok,rfl]:=h;intro gk A outer s H E hr;let nd:zaU.Nodup:=P5.nd;let b1:=ok.kn;let b2:=ok.gn;let b3:=ok.ln
  letI kR:O×Option Int->!O:=λq=>gS (.kind q.1 q.2)
  letI gR:O->!O:=λg=>gS (.gate g)
  letI lR:O×Int->!O:=λq=>gS (.line q.1 q.2)
  refine aL (j0 1 (ds:=[]) (da cZ) nd) ?_;refine uv (fs:=j8 p) (kvs:=ia p) (is:=[2,3]) (δ2:=Mr (.val (gE p)) (p.kinds.map kR)) 0 Y (tH p) (λq hq=>?_) (uP (x:=.val (gE p)) (l:=[]) (m:=5)) bL Y (fh Y (bx (fP 2 nd) (bx (fP 3 nd) dU))) (λa k=>Mr (.ref a) ((p.kinds.take k).map kR)) (λa=>rfl) (λa k q hq=>?_) (λa=>?_) Y (uP (m:=5)) ?_
  .let#[z,_,rfl]:=aj.mp hq;exact Kr _
  .obtain⟨z,hz,rfl⟩:∃z,p.kinds[k]?>>z/\q=(z.1,mV z.2):=by
    unfold ia at hq;rw[ay]at hq;cases e:p.kinds[k]? with
    |none=>rw[e]at hq;cases hq
    |some z=>rw[e]at hq;cases hq;exact#[z,Y,Y]
   let hk:=(aq.mp hz).1;let#[h1,h2]:=ok.kinds z (aF hz);refine#[_,Y,?_];show qK _ _ _ (.nx (Mr (.ref a) ((p.kinds.take (k+1)).map kR)));rw[ud hz,aH];refine eW (a8 (fk 1 Y (d:=fy (kR z)) (VE.to (VO.ve (da {aW,2.,bE C hr {3.} #[mV z.2,Y,?_,Y]})) Y) (dQ (by rw[ae,ae,bU];omega)))) #[.inr Y,.inr (oN _ _),.inl Y,.inl Y,.inr Y,.inr Y,.inr Y,trivial];cases e:z.2 with
   |none=>exact .inl Y
   |some i=>rw[e]at h2;exact .inr #[i,Y,h2]
  .show Mr (.ref a) ((p.kinds.take (ia p).length).map kR)=_;unfold ia;rw[ae,bV];rfl
  refine aL (lU (tgt:=.one 4) (ds:=p.gates.map .str) (o:=.nx (Mr (.val (gE p)) (p.kinds.map kR++(p.gates.take p.gates.length).map gR))) bL Y (dX (iA 0. (wx p))) (fP 4 nd) (λk=>Mr (.val (gE p)) (p.kinds.map kR++(p.gates.take k).map gR)) p.gates.length (by show Mr _ (p.kinds.map kR ++ [])=_;rw[bC]) ([ae]▸aE _) (λk d hk hd=>?_) (.inl #[by rw[ae],Y])) ?_
  .let#[z,hz,rfl]:=get_map hd;refine#[_,Y,?_];show qK _ _ _ (.nx (Mr (.val (gE p)) (p.kinds.map kR++(p.gates.take (k+1)).map gR)));rw[ud hz,aH,<-bS];exact eW (a8 (fk 1 Y (d:=fy (gR z)) (VE.to (VO.ve (da {aW,4.})) Y) (dQ (by simp only[aN,ae,bU];omega)))) #[.inr Y,.inr (oN _ _),.inr Y,.inr Y,.inl Y,.inr Y,.inr Y,trivial]
  rw[bV];refine uv (fs:=j8 p) (kvs:=gC p) (is:=[5,6]) (δ2:=Mr (.val (gE p)) (pS p)) 0 Y (tJ p) (λq hq=>?_) (uP (m:=5)) bL Y (fh Y (bx (fP 5 nd) (bx (fP 6 nd) dU))) (λa k=>Mr (.ref a) (p.kinds.map kR++p.gates.map gR++(p.lines.take k).map lR)) (λa=>by show Mr (.ref a) (_ ++ [])=_;rw[bC];rfl) (λa k q hq=>?_) (λa=>?_) Y (uP (m:=5)) ?_
  .let#[z,_,rfl]:=aj.mp hq;exact .int _
  .obtain⟨z,hz,rfl⟩:∃z,p.lines[k]?>>z/\q=(z.1,.int z.2):=by
    unfold gC at hq;rw[ay]at hq;cases e:p.lines[k]? with
    |none=>rw[e]at hq;cases hq
    |some z=>rw[e]at hq;cases hq;exact#[z,Y,Y]
   let hk:=(aq.mp hz).1;let#[h1,h2]:=ok.lines z (aF hz);refine#[_,Y,?_];show qK _ _ _ (.nx (Mr (.ref a) (p.kinds.map kR++p.gates.map gR++(p.lines.take (k+1)).map lR)));rw[ud hz,aH,<-bS];exact eW (a8 (fk 1 Y (d:=fy (lR z)) (VE.to (VO.ve (da {aW,5.,iY 6. h2.log n.str})) Y) (dQ (by simp only[aN,ae,bU];omega)))) #[.inr Y,.inr (oN _ _),.inr Y,.inr Y,.inr Y,.inl Y,.inl Y,trivial]
  .show Mr (.ref a) (p.kinds.map kR++p.gates.map gR++(p.lines.take (gC p).length).map lR)=_;unfold gC;rw[ae,bV];rfl
  exact fF 1 Y (a8 (b9 1.))
end
theorem F2(G G':!(O×!(Int×Int))):jG (G++G')=jG G++jG G':=by unfold jG;rw[aH,List.flatten_append]
theorem F3:∀{G:!(O×!(Int×Int))},(∀q∈G,q.2.length<=b)->(jG G).length<=G.length*b
 | [],_=>aY _
 |q::G,h=>by let h1:=F3 (G:=G) λq hq=>h q (aD _ hq);let h2:=h q aB;let e:jG (q::G)=(q.2.map λz=>(q.1,z))++jG G:=Y;rw[e,aN,ae,bj,Nat.add_mul,Nat.one_mul];omega
theorem Cy(p:Pl)(ok:jh p)(k:Nat):(jG ((cw p.hours).take k)).length<=360000:=by
 let h1:=F3 (b:=600) (G:=(cw p.hours).take k) λq hq=>bZ (tP p.hours q (iH hq)) ok.hn;let h2:=vz p.hours;let h3:=ok.hn;let h4:((cw p.hours).take k).length<=600:=by rw[bU];omega
 let h5:=fu h4 (aE 600);omega
section
variable{K:ai}
abbrev zaX:!O:=["plant","rows","name","to","rule","places","pair","work","desk","hours","start","end"]
theorem P6:cg zaX ["plant"] (bA (top 3)):=by grind
def zaY(ds:!U)(d:U):Prop:=∃p,ds=[gE p]/\jh p/\d=.list ((pT p).map fy)
abbrev Ks(x:Slot)(l:!(!O)):!Slot:=[x,.own (l.map fy),.un,.un,.un,.un,.un,.un,.un,.un,.un,.un]
theorem zaZ{P:bW}{w:cP}{mg:O->Option M}{base:dv}{f:J}(F:kz K "desk_rows" "desk_rows" (top 3) f fd)(n:Na mg)(C:a_ P w K mg base 2 "rule_words" ["rule"] (gi K Rrw)):dW P w K mg base jO 3 f fd ["plant"] (gi K zaY):=
 iO F P6 (by ext) λ_ _ h=>by
  let#[p,rfl,ok,rfl]:=h;intro gk A outer s H E hr;let nd:zaX.Nodup:=P6.nd;let pQ:=hr.mono (show 1<=2 by decide);let b4:=ok.dn;let b5:=ok.tn;let b6:=ok.hn
  letI tR:O×O×Int->!O:=λq=>gS (.time q.1 q.2.1 q.2.2)
  refine aL (j0 1 (ds:=[]) (da cZ) nd) ?_;refine aL (lU (tgt:=.tup [2,3,4,5]) (ds:=p.desks.map gZ) (o:=.nx (Ks (.val (gE p)) ((p.desks.take p.desks.length).map fL))) bL Y (dX (iA 0. (wy p))) (fh Y (bx (fP 2 nd) (bx (fP 3 nd) (bx (fP 4 nd) (bx (fP 5 nd) dU))))) (λk=>Ks (.val (gE p)) ((p.desks.take k).map fL)) p.desks.length Y ([ae]▸aE _) (λk d hk hd=>?_) (.inl #[by rw[ae],Y])) ?_
  .let#[z,hz,rfl]:=get_map hd;let#[h1,h2,h3,h4,h5]:=ok.desks z (aF hz);let hw:=Mp h3;refine#[_,Y,?_];show qK _ _ _ (.nx (Ks (.val (gE p)) ((p.desks.take (k+1)).map fL)));rw[ud hz,aH];let l0:Lay 20 (.str ""):=a9 ∎;let l1:Lay 20 (.str z.to):=a9 (by
    rcases h2 with h|h
    .rw[h];show bR (.str "")=true;symm
    .exact h.ok.2);let ed:(fL z).map aJ=[.str "desk",.str z.name,.str "to",.str (dG (.str z.to)),.str "by"]++(cj z.rule).map .str ++ [.str "from"]++z.places.map .str:=by unfold fL;rw[aH,aH,aH];rfl
   refine eW (a8 (fk 1 Y (d:=fy (fL z)) (VE.to (VO.ve (jt (VO.ve (jt (VO.ve (jt (d1:=[.str "desk",.str z.name,.str "to",.str (dG (.str z.to)),.str "by"]) (d2:=(cj z.rule).map .str) (VO.ve (da {aW,2.,aW,qJ (k:=not (decide (z.to=""))) (VT.to (lL (k:=1) pQ l1 l0 3. aW) (by rw[bG])) (λe=>VE.to 3. ?_) (λe=>VE.to aW ?_),aW})) (bE C hr {4.} #[z.rule,Y,h3,Y]) (small (by simp only[ae,bj,cx];omega)))) (VO.ve (da (du aW cZ))) (small (by simp only[aN,ae,bj,cx];omega)))) (VO.ve (nW nI JQ {5.} n.lst Y)) (small (by simp only[aN,ae,bj,cx];omega)))) (by unfold fy;rw[ed])) (dQ (by simp only[ae,bU];omega)))) #[.inr Y,.inr (oN _ _),.inl Y,.inl Y,.inl Y,.inl Y,.inr Y,.inr Y,.inr Y,.inr Y,.inr Y,.inr Y,trivial]
   .let e:z.to≠"":=λy=>by rw[y]at e;cases e
    show aJ z.to=.str (if z.to="" then "-" else z.to);rw[qQ2 e]
   .let e:z.to="":=by
     by_cases y:z.to=""
     .exact y
     .rw[qQ0 y]at e;cases e
    show aJ "-"=.str (if z.to="" then "-" else z.to);rw[qQ3 e]
  rw[bV];refine HR (fs:=j8 p) (l:=iZ p) (is:=[6,7]) (δ2:=Ks (.val (gE p)) (p.desks.map fL++p.times.map tR)) 0 Y (Av p) (λq hq=>?_) (uP (m:=10)) bL Y (fh Y (bx (fP 6 nd) (bx (fP 7 nd) dU))) (λa k=>Ks (.ref a) (p.desks.map fL++(p.times.take k).map tR)) (λa=>by show Ks (.ref a) (_ ++ [])=_;rw[bC];rfl) (λa k q hq=>?_) (λa=>?_) Y (uP (m:=10)) ?_
  .let#[z,_,rfl]:=aj.mp hq;rfl
  .obtain⟨z,hz,rfl⟩:∃z,p.times[k]?>>z/\q=((z.1,z.2.1),.int z.2.2):=by
    unfold iZ at hq;rw[ay]at hq;cases e:p.times[k]? with
    |none=>rw[e]at hq;cases hq
    |some z=>rw[e]at hq;cases hq;exact#[z,Y,Y]
   let hk:=(aq.mp hz).1;let#[h1,h2,h3]:=ok.times z (aF hz);refine#[_,Y,?_];show qK _ _ _ (.nx (Ks (.ref a) (p.desks.map fL++(p.times.take (k+1)).map tR)));rw[ud hz,aH,<-bS];exact eW (a8 (fk 1 Y (d:=fy (tR z)) (VE.to (VO.ve (da {aW,dm (d:=.str z.1) 6. aK (cJ (j:=0) Y),dm (d:=.str z.2.1) 6. aK (cJ (j:=1) Y),iY 7. h3.log n.str})) Y) (dQ (by simp only[aN,ae,bU];omega)))) #[.inr Y,.inr (oN _ _),.inr Y,.inr Y,.inr Y,.inr Y,.inl Y,.inl Y,.inr Y,.inr Y,.inr Y,.inr Y,trivial]
  .show Ks (.ref a) (p.desks.map fL++(p.times.take (iZ p).length).map tR)=_;unfold iZ;rw[ae,bV];rfl
  letI R0:!(!O):=p.desks.map fL++p.times.map tR
  let r0:R0.length<=660:=by show(p.desks.map fL++p.times.map tR).length<=660;rw[aN,ae,ae];omega
  refine uv (fs:=j8 p) (kvs:=ic p) (is:=[8,9]) (δ2:=Ks (.val (gE p)) (pT p)) 0 Y (FD p) (λq hq=>?_) (uP (m:=10)) bL Y (fh Y (bx (fP 8 nd) (bx (fP 9 nd) dU))) (λa k=>Ks (.ref a) (R0++(jG ((cw p.hours).take k)).map Cw)) (λa=>by show Ks (.ref a) (_ ++ [])=_;rw[bC];rfl) (λa k q hq=>?_) (λa=>?_) Y (uP (m:=10)) ?_
  .let#[z,_,rfl]:=aj.mp hq;exact .lst λd hd=>by let#[y,_,rfl]:=aj.mp hd;exact F1 y
  .obtain⟨z,hz,rfl⟩:∃z,(cw p.hours)[k]?>>z/\q=(z.1,.list (z.2.map pairD)):=by
    unfold ic at hq;rw[ay]at hq;cases e:(cw p.hours)[k]? with
    |none=>rw[e]at hq;cases hq
    |some z=>rw[e]at hq;cases hq;exact#[z,Y,Y]
   let hu:=Cy p ok k;let hzl:=tP p.hours z (aF hz);refine#[_,Y,?_];show qK _ _ _ (.nx (Ks (.ref a) (R0++(jG ((cw p.hours).take (k+1))).map Cw)));rw[ud hz,F2,aH,<-bS,show jG [z]=z.2.map (λy=>(z.1,y))from bC _,aG];generalize hQ:R0++(jG ((cw p.hours).take k)).map Cw=Q0;let q0:Q0.length<=370000:=by rw[<-hQ,aN,ae];omega
   letI hR:Int×Int->!O:=Cw∘λy=>(z.1,y)
   show qK _ _ _ (.nx (Ks (.ref a) (Q0++z.2.map hR)));let ez:z.2.map hR=(z.2.take z.2.length).map hR:=by rw[bV]
   rw[ez];refine eW (a8 (lU (tgt:=.tup [10,11]) (ds:=z.2.map pairD) (o:=.nx [.ref a,.own ((Q0++(z.2.take z.2.length).map hR).map fy),.un,.un,.un,.un,.un,.un,.val (.str z.1),.val (.list (z.2.map pairD)),.un,.un]) bL Y (dX 9.) (fh Y (bx (fP 10 nd) (bx (fP 11 nd) dU))) (λj=>[.ref a,.own ((Q0++(z.2.take j).map hR).map fy),.un,.un,.un,.un,.un,.un,.val (.str z.1),.val (.list (z.2.map pairD)),.un,.un]) z.2.length (by show [_,Slot.own ((Q0 ++ []).map fy),_,_,_,_,_,_,_,_,_,_]=_;rw[bC];rfl) ([ae]▸aE _) (λj d hj hd=>?_) (.inl #[by rw[ae],Y]))) #[.inr Y,.inr Y,.inr Y,.inr Y,.inr Y,.inr Y,.inr Y,.inr Y,.inl Y,.inl Y,.inr Y,.inr Y,trivial];let#[y,hy,rfl]:=get_map hd;let#[_,y1,y2]:=ok.hours _ (AW (aF hz) y (aF hy));refine#[_,Y,?_];show qK _ _ _ (.nx [.ref a,.own ((Q0++(z.2.take (j+1)).map hR).map fy),.un,.un,.un,.un,.un,.un,.val (.str z.1),.val (.list (z.2.map pairD)),.un,.un]);let et:Q0++(z.2.take (j+1)).map hR=Q0++(z.2.take j).map hR ++ [hR y]:=by rw[ud hy,aH,<-bS];rfl
   rw[et];exact eW (a8 (fk 1 Y (d:=fy (hR y)) (VE.to (VO.ve (da {aW,8.,iY 10. y1.log n.str,iY 11. y2.log n.str})) Y) (dQ (by simp only[aN,ae,bU];omega)))) #[.inr Y,.inr (oN _ _),.inr Y,.inr Y,.inr Y,.inr Y,.inr Y,.inr Y,.inr Y,.inr Y,.inl Y,.inl Y,trivial]
  .show Ks (.ref a) (R0++(jG ((cw p.hours).take (ic p).length)).map Cw)=_;unfold ic;rw[ae,bV];rfl
  exact fF 1 Y (a8 (b9 1.))
end
def unS:U->O
 | .str x=>x
 |_=>""
def Fjn:U->Option U
 | .list ds=>some (.str (bB " " (ds.map unS)))
 |_=>none
theorem Kt(l:!O):(l.map aJ).map unS=l:=[aG]▸List.map_id' l
theorem Ku:∀l:!(!O),(l.map fy).filterMap Fjn=(l.map (bB " ")).map .str
 | []=>rfl
 |x::l=>by rw[ao,c5 (b:=.str (bB " " x)) (by show some (aJ (bB " " ((x.map aJ).map unS)))=_;rw[Kt]),Ku l];rfl
section
variable{K:ai}
abbrev za0:!O:=["plant","rows","gate","pace"]
theorem P7:cg za0 ["plant"] (bA (top 1)):=by grind
def za1(ds:!U)(d:U):Prop:=∃p,ds=[gE p]/\jh p/\(∀e∈jV (jv p),kI e)/\(jV (jv p)).length<=200/\d=.str (bB "\n" ((jV (jv p)).map ju))
abbrev slR(x:Slot)(l:!(!O)):!Slot:=[x,.own (l.map fy),.un,.un]
theorem za3{P:bW}{w:cP}{mg:O->Option M}{base:dv}{f:J}(F:kz K "plant_text" "plant_text" (top 1) f fd)(n:Na mg)(C1:a_ P w K mg base 2 "place_rows" ["plant"] (gi K zaV))(C2:a_ P w K mg base 3 "desk_rows" ["plant"] (gi K zaY)):dW P w K mg base jO 4 f fd ["plant"] (gi K za1):=
 iO F P7 (by ext) λ_ _ h=>by
  let#[p,rfl,ok,hok,hl,rfl]:=h;intro gk A outer s H E hr;let nd:za0.Nodup:=P7.nd;let nc:(["row"]:!O).Nodup:=∎;let Bv:=hr.mono (show 2<=3 by decide);let ea:=all_rows p;let el:=qQ6 dq ea;rw[ae,aN,aN,ae]at el;refine aL (j0 1 (ds:=(pS p++pT p).map fy) (VO.to (jt (bE C1 Bv {0.} #[p,Y,ok,Y]) (bE C2 hr {0.} #[p,Y,ok,Y]) (small (by rw[ae,ae];omega))) (by rw[aH])) nd) ?_;refine uv (fs:=j8 p) (kvs:=gD p) (is:=[2,3]) (δ2:=slR (.val (gE p)) ((jV (jv p)).map gS)) 0 Y (Aw p) (λq hq=>?_) (uP (m:=2)) bL Y (fh Y (bx (fP 2 nd) (bx (fP 3 nd) dU))) (λa k=>slR (.ref a) (pS p++pT p++(p.paces.take k).map yw)) (λa=>by show slR (.ref a) (_ ++ [])=_;rw[bC];rfl) (λa k q hq=>?_) (λa=>?_) Y (uP (m:=2)) ?_
  .let#[z,_,rfl]:=aj.mp hq;refine .tup λe he=>?_;simp only[au,aS,or_false]at he;rcases he with rfl|rfl|rfl
   .exact .str _
   .exact .int _
   .exact .int _
  .obtain⟨z,hz,rfl⟩:∃z,p.paces[k]?>>z/\q=(z.1,Cp z):=by
    unfold gD at hq;rw[ay]at hq;cases e:p.paces[k]? with
    |none=>rw[e]at hq;cases hq
    |some z=>rw[e]at hq;cases hq;exact#[z,Y,Y]
   let hk:=(aq.mp hz).1;let#[h1,h2,h3,h4]:=ok.paces z (aF hz);refine#[_,Y,?_];let et:pS p++pT p++(p.paces.take (k+1)).map yw=pS p++pT p++(p.paces.take k).map yw ++ [yw z]:=by rw[ud hz,aH,<-bS];rfl
   show qK _ _ _ (.nx (slR (.ref a) (pS p++pT p++(p.paces.take (k+1)).map yw)));rw[et];exact eW (a8 (fk 1 Y (d:=fy (yw z)) (VE.to (VO.ve (da {aW,2.,dm (d:=.str z.2.1) 3. aK (cJ (j:=0) Y),iY (dm (d:=.int z.2.2.1) 3. aK (cJ (j:=1) Y)) h3.log n.str,iY (dm (d:=.int z.2.2.2) 3. aK (cJ (j:=2) Y)) h4.log n.str})) Y) (dQ (by simp only[aN,ae,bU];omega)))) #[.inr Y,.inr (oN _ _),.inl Y,.inl Y,trivial]
  .show slR (.ref a) (pS p++pT p++(p.paces.take (gD p).length).map yw)=_;unfold gD;rw[ae,bV,<-ea];rfl
  refine fF 1 Y ?_;let hj:((jV (jv p)).map gS).map (bB " ")=(jV (jv p)).map ju:=by rw[aG];rfl
  generalize jV (jv p)=es at *;refine a8 (b9 (kL (zs:=es.map ju) aW (VE.to (VO.ve (dF (own:=["row"]) (cap:=[]) (N:=["row"]) (cl:=[]) (tgt:=.one 0) (F:=Fjn) (ds:=(es.map gS).map fy) Y #[Y,∎,∎,Y,Y,∅] (dX 1.) (λf s3 H3=>fP 0 nc) Y (small (by rw[ae,ae];omega)) (λd hd=>?_))) (by rw[Ku,hj])) ?_))
  .let#[ws,HZ,rfl]:=aj.mp hd;let#[e,he,rfl]:=aj.mp HZ;let#[w1,w2]:=tX (hok e he);let zeL:=j7 (l:=gS e) (b:=8) λx hx=>(w1 x hx).2.2;refine#[_,Y,λf s3 H3=>mI,λr oO f s3 H3=>?_];let e1:Fjn (fy (gS e))>>(.str (bB " " (gS e))):=by show some (aJ (bB " " (((gS e).map aJ).map unS)))=_;rw[Kt]
   rw[e1]at oO;cases oO;let e2:(" ":O).length=1:=⋯;exact kL (zs:=gS e) aW 0. (by rw[e2];omega)
  .let:=j7 (l:=es.map ju) (b:=171) λx hx=>by let#[e,he,rfl]:=aj.mp hx;exact tY (hok e he)
   let e1:("\n":O).length=1:=⋯;rw[e1];rw[ae]at this ⊢;omega
end
theorem vH(z:Int×Int)(n:O):∀acc:!(O×!(Int×Int)),(hG acc n z).map (·.1)=if n∈acc.map (·.1)then acc.map (·.1)else acc.map (·.1) ++ [n]
 | []=>rfl
 |a::acc=>by
  rw[hG];by_cases h:a.1=n
  .rw[qQ3 h,qQ3 ([ao,h]▸aB)];rfl
  .rw[qQ2 h,ao,vH z n acc,ao];by_cases h2:n∈acc.map (·.1)
   .rw[qQ3 h2,qQ3 (aD _ h2)]
   .rw[qQ2 h2,qQ2 (λy=>(au.mp y).elim (λy=>h y.symm) h2)];rfl
theorem F4{z:Int×Int}{n:O}:∀{acc:!(O×!(Int×Int))},n∉acc.map (·.1)->hG acc n z=acc ++ [(n,[z])]
 | [],_=>rfl
 |a::acc,h=>by rw[hG,qQ2 (λe=>h ([ao,e]▸aB)),F4 λy=>h (aD _ y)];rfl
theorem Cz{z:Int×Int}{n:O}{ys:!(Int×Int)}:∀{acc:!(O×!(Int×Int))},n∉acc.map (·.1)->hG (acc ++ [(n,ys)]) n z=acc ++ [(n,ys ++ [z])]
 | [],_=>by show(if n=n then _ else _)=_;rw[qQ3 Y];rfl
 |a::acc,h=>by rw[List.cons_append,hG,qQ2 (λe=>h ([ao,e]▸aB)),Cz λy=>h (aD _ y)];rfl
theorem IG(nd:(G.map (·.1)).Nodup)(ne:∀q∈G,q.2≠[]):cw (jG G)=G:=by
 let run:∀(n:O)(zs ys:!(Int×Int))(acc:!(O×!(Int×Int))),n∉acc.map (·.1)->(zs.map λz=>(n,z)).foldl (λacc q=>hG acc q.1 q.2) (acc ++ [(n,ys)])=acc ++ [(n,ys++zs)]:=by
  intro n zs;induction zs with
  |nil=>intro ys acc _;rw[bC];rfl
  |cons z zs ih=>intro ys acc h;rw[ao,dN];show(zs.map λz=>(n,z)).foldl _ (hG (acc ++ [(n,ys)]) n z)=_;rw[Cz h,ih (ys ++ [z]) acc h,bS];rfl
 let go:∀(G acc:!(O×!(Int×Int))),((acc++G).map (·.1)).Nodup->(∀q∈G,q.2≠[])->(jG G).foldl (λacc q=>hG acc q.1 q.2) acc=acc++G:=by
  intro G;induction G with
  |nil=>intro acc _ _;rw[bC];rfl
  |cons q G ih=>
   intro acc nd ne;let e:jG (q::G)=(q.2.map λz=>(q.1,z))++jG G:=Y;let hn:q.1∉acc.map (·.1):=λy=>by rw[aH,cF]at nd;exact nd.2.2 _ y q.1 aB Y
   rw[e,d_];cases hq:q.2 with
   |nil=>exact qQ7 hq (ne q aB)
   |cons z zs=>
    rw[ao,dN];show(jG G).foldl _ ((zs.map λz=>(q.1,z)).foldl _ (hG acc q.1 z))=_;rw[F4 hn,run q.1 zs [z] acc hn];let e2:acc ++ [(q.1,[z]++zs)]=acc ++ [q]:=by rw[show [z]++zs=q.2 from hq.symm]
    rw[e2,ih (acc ++ [q]) ([bS]▸nd) λy hy=>ne y (aD _ hy),bS];rfl
 exact go G [] nd ne
theorem P8(l:!(O×Int×Int)):∀q∈cw l,q.2≠[]:=by
 let one:∀(z:Int×Int)(n:O)(acc:!(O×!(Int×Int))),(∀q∈acc,q.2≠[])->∀q∈hG acc n z,q.2≠[]:=by
  intro z n acc;induction acc with
  |nil=>intro _ q hq;rw[aA.mp (show q∈[(n,[z])]from hq)];exact rE _ _
  |cons a acc ih=>
   intro h q hq;rw[hG]at hq;by_cases e:a.1=n
   .rw[qQ3 e]at hq;rcases au.mp hq with rfl|hq
    .exact List.append_ne_nil_of_right_ne_nil _ (rE _ _)
    .exact h q (aD _ hq)
   .rw[qQ2 e]at hq;rcases au.mp hq with rfl|hq
    .exact h _ aB
    .exact ih (λq hq=>h q (aD _ hq)) q hq
 let go:∀(l:!(O×Int×Int))(acc:!(O×!(Int×Int))),(∀q∈acc,q.2≠[])->∀q∈l.foldl (λacc q=>hG acc q.1 q.2) acc,q.2≠[]:=by
  intro l;induction l with
  |nil=>intro acc h;exact h
  |cons w l ih=>intro acc h;exact ih _ (one w.2 w.1 acc h)
 exact go l [] λq hq=>by cases hq
theorem CB(l:!(O×Int×Int)):((cw l).map (·.1)).Nodup:=by let h:=(zx l l.length).1;rw[bV,IE,aG]at h;exact h
theorem P9(p:Pl):cw (jv p).hours=cw p.hours:=IG (CB p.hours) (P8 p.hours)
theorem P_(p:Pl):jv (jv p)=jv p:=by show{ jv p with hours:=jG (cw (jv p).hours) }=jv p;rw[P9];rfl
theorem F5(p:Pl):nS (jv p)=nS p:=by
 let e:ic (jv p)=ic p:=by unfold ic;rw[P9]
 unfold nS;rw[e];rfl
theorem DW(l:!(O×Int×Int)):∀q∈cw l,(q.2.map λz=>(q.1,z))=l.filter λw=>decide (w.1=q.1):=by
 let one:∀(acc:!(O×!(Int×Int)))(n:O)(z:Int×Int),(acc.map (·.1)).Nodup->∀q∈hG acc n z,(q∈acc/\q.1≠n)\/(q.1=n/\((n∉acc.map (·.1)/\q.2=[z])\/∃w∈acc,w.1=n/\q.2=w.2 ++ [z])):=by
  intro acc n z;induction acc with
  |nil=>intro _ q hq;rw[aA.mp (show q∈[(n,[z])]from hq)];exact .inr #[Y,.inl #[∅,Y]]
  |cons a acc ih=>
   intro nd q hq;rw[ao,cD]at nd;rw[hG]at hq;by_cases e:a.1=n
   .rw[qQ3 e]at hq;rcases au.mp hq with rfl|hq
    .exact .inr #[e,.inr #[a,aB,e,Y]]
    .exact .inl #[aD _ hq,λy=>nd.1 ([e,<-y]▸aj.mpr #[q,hq,Y])]
   .rw[qQ2 e]at hq;rcases au.mp hq with rfl|hq
    .exact .inl #[aB,e]
    .rcases ih nd.2 q hq with⟨h1,h2⟩|⟨h1,⟨h2,h3⟩|⟨w,hw,h2,h3⟩⟩
     .exact .inl #[aD _ h1,h2]
     .exact .inr #[h1,.inl #[λy=>by rw[ao]at y;exact(au.mp y).elim (λy=>e y.symm) h2,h3]]
     .exact .inr #[h1,.inr #[w,aD _ hw,h2,h3]]
 let key:∀m,m<=l.length->(∀q∈cw (l.take m),(q.2.map λz=>(q.1,z))=(l.take m).filter λw=>decide (w.1=q.1))/\∀w∈l.take m,w.1∈(cw (l.take m)).map (·.1):=by
  intro m;induction m with
  |zero=>intro _;exact#[λq hq=>(by cases hq),λw hw=>(by cases hw)]
  |succ m ih=>
   intro hm;let#[h1,h2]:=ih ();let hx:l[m]?>>l[m]:=ax ();generalize l[m]=x at hx;rw[ud hx,vy];refine#[λq hq=>?_,λw hw=>?_]
   .rw[oU];rcases one _ _ _ (CB (l.take m)) q hq with⟨a1,a2⟩|⟨a1,⟨a2,a3⟩|⟨v,hv,a2,a3⟩⟩
    .rw[h1 q a1,Ek (by simp;exact λy=>a2 y.symm),A4,bC]
    .let e0:(l.take m).filter (λw=>decide (w.1=q.1))=[]:=Gr.mpr λw hw y=>a2 ([<-a1,<-qQ4 y]▸h2 w hw);rw[e0,a3,rF (by simp[a1]),A4,a1];rfl
    .let e0:=h1 v hv;rw[a3,aH,a1,rF ∅,A4];rw[a2]at e0;rw[e0];rfl
   .rw[vH];rcases aT.mp hw with hw|hw
    .let:=h2 w hw;split
     .exact this
     .exact bH _ this
    .rw[aA.mp hw];split
     .assumption
     .exact bt _ aB
 let:=(key l.length (aE _)).1;rw[bV]at this;exact this
theorem Ms(l:!(O×Int×Int)):(jG (cw l)).length=l.length:=by
 let one:∀(acc:!(O×!(Int×Int)))(n:O)(z:Int×Int),(jG (hG acc n z)).length=(jG acc).length+1:=by
  intro acc n z;induction acc with
  |nil=>rfl
  |cons a acc ih=>
   let e:∀(q:O×!(Int×Int))(G:!(O×!(Int×Int))),(jG (q::G)).length=q.2.length+(jG G).length:=λq G=>by show((q.2.map λz=>(q.1,z))++jG G).length=_;rw[aN,ae]
   rw[hG];by_cases h:a.1=n
   .rw[qQ3 h,e,e,aN];show _+1+_=_;omega
   .rw[qQ2 h,e,e,ih];omega
 let go:∀(l:!(O×Int×Int))(acc:!(O×!(Int×Int))),(jG (l.foldl (λacc q=>hG acc q.1 q.2) acc)).length=(jG acc).length+l.length:=by
  intro l;induction l with
  |nil=>intro acc;rfl
  |cons w l ih=>intro acc;rw[dN,ih,one,bj];omega
 let:=go l [];show(jG (l.foldl (λacc q=>hG acc q.1 q.2) [])).length=_;rw[this];show 0+_=_;omega
theorem F6(h:q∈(jv p).hours):q∈p.hours:=by let#[l,hl,hq]:=y0.mp (show q∈((cw p.hours).map λq=>q.2.map λz=>(q.1,z)).flatten from h);let#[z,hz,rfl]:=aj.mp hl;let#[y,hy,rfl]:=aj.mp hq;exact AW hz y hy
theorem II(D:Drawn p):Drawn (jv p):=by
 let hlen:(jv p).hours.length=p.hours.length:=Ms p.hours;let Sg:jh (jv p):=#[D.ok.kn,D.ok.gn,D.ok.ln,D.ok.dn,D.ok.tn,[hlen]▸D.ok.hn,D.ok.kinds,D.ok.gates,D.ok.lines,D.ok.desks,D.ok.times,λq hq=>D.ok.hours q (F6 hq),D.ok.an,D.ok.paces];let g2:oH (jv p):=#[D.good.kn,D.good.pn,D.good.dn,D.good.dk,D.good.dj,D.good.tn,D.good.tm,λq hq=>D.good.hr q (F6 hq),D.good.kk,D.good.ll,D.good.pc,D.good.pp];let#[r1,r2]:=Pw Sg g2;let el:(jV (jv p)).length=(jV p).length:=by unfold jV;simp only[aN,ae,hlen];rfl
 refine#[Sg,g2,λz=>D.ne (gq.mp (by rw[<-el,z];rfl)),[el]▸D.len,r1,r2,?_];unfold lu;rw[AQ λd hd z=>by let:=(g2.dk d hd).1.2.2.2.1;rw[z]at this;exact qQ7 this ⋯]
def Fbd(n:O):U->Option U
 | .tuple (.str x::r)=>if x=n then some (.tuple (.str x::r))else none
 |_=>none
theorem IJ(n:O)(q:O×Int×Int):Fbd n (jg q)=if q.1=n then some (jg q)else none:=Y
theorem Kv(n:O):∀l:!(O×Int×Int),(l.map jg).filterMap (Fbd n)=(l.filter λw=>decide (w.1=n)).map jg
 | []=>rfl
 |q::l=>by
  rw[ao,kJ,IJ,Kv n l];by_cases h:q.1=n
  .rw[qQ3 h,rF (p:=λw:O×Int×Int=>decide (w.1=n)) (a:=q) (qQ1 h)];rfl
  .rw[qQ2 h,Ek (p:=λw:O×Int×Int=>decide (w.1=n)) (a:=q) (by simp[h])]
section
variable{K:ai}
abbrev Nbd:!O:=["_law_h","_law_names","_law_desk","_law_begin","_law_end","_law_hours","_law_name","_law_made"]
theorem UB:cg Nbd ["_law_h"] (bA (top 64)):=by grind
def Rbd(ds:!U)(d:U):Prop:=∃p,ds=[fc p]/\jh p/\d=fc (jv p)
def IK(p:Pl)(k:Nat):!O:=(cw (p.hours.take k)).map (·.1)
theorem zeS{P:bW}{w:cP}{mg:O->Option M}{base:dv}{f:J}(F:kz K "_law_by_desks" "_law_by_desks" (top 64) f fd)(md:mg "dict"=none):dW P w K mg base jO 2 f fd ["_law_h"] (gi K Rbd):=
 iO F UB (by ext) λ_ _ h=>by
  let#[p,rfl,ok,rfl]:=h;intro gk A outer s H E hr;let nd:Nbd.Nodup:=UB.nd;let nc:(["_law_one","_law_name"]:!O).Nodup:=∎;let hh:=ok.hn;let nml:∀k,(IK p k).length<=600:=λk=>by unfold IK;rw[ae];let:=vz (p.hours.take k);rw[bU]at this;omega
  let nok:∀k,∀x∈IK p k,lD x:=λk x hx=>by let#[z,hz,rfl]:=aj.mp hx;let#[w,hw,e]:=AV hz;rw[<-e];exact(ok.hours w (iH hw)).1.ok.2
  refine aL (j0 1 (ds:=[]) (da cZ) nd) ?_;refine aL (lU (tgt:=.tup [2,3,4]) (ds:=p.hours.map jg) (o:=.nx [.val (fc p),.own ((IK p p.hours.length).map .str),.un,.un,.un,.un,.un,.un]) bL Y (dX (eP hr 0. aW (tD p))) (fh Y (bx (fP 2 nd) (bx (fP 3 nd) (bx (fP 4 nd) dU)))) (λk=>[.val (fc p),.own ((IK p k).map .str),.un,.un,.un,.un,.un,.un]) p.hours.length Y ([ae]▸aE _) (λk d hk hd=>?_) (.inl #[by rw[ae],Y])) ?_
  .let#[z,hz,rfl]:=get_map hd;let oz:=(ok.hours z (aF hz)).1.ok.2;refine#[_,Y,?_];let hl:=nml k;let es:IK p (k+1)=if z.1∈IK p k then IK p k else IK p k ++ [z.1]:=by unfold IK;rw[ud hz,vy,vH]
   let lt:Lay 20 (.list ((IK p k).map .str)):=k_ (n:=19) λd hd=>by let#[x,hx,rfl]:=aj.mp hd;exact a9 (nok k x hx)
   show qK _ _ _ (.nx [.val (fc p),.own ((IK p (k+1)).map .str),.un,.un,.un,.un,.un,.un]);rw[es];generalize IK p k=nm at *;by_cases hm:z.1∈nm
   .rw[qQ3 hm];exact eW (a8 (bP (Jz 1 Y (VT.to (sL hr Y (a9 oz) lt 2. 1.) (by rw[kW,qQ1 hm];rfl))) bw)) #[.inr Y,.inr Y,.inl Y,.inl Y,.inl Y,.inr Y,.inr Y,.inr Y,trivial]
   .rw[qQ2 hm,aH];exact eW (a8 (dH (Jz 1 Y (VT.to (sL hr Y (a9 oz) lt 2. 1.) (by rw[kW,qQ0 hm];rfl))) (a8 (fk 1 Y 2. (dQ (by rw[ae];omega)))))) #[.inr Y,.inr Y,.inl Y,.inl Y,.inl Y,.inr Y,.inr Y,.inr Y,trivial]
  let en:IK p p.hours.length=(cw p.hours).map (·.1):=by unfold IK;rw[bV]
  let hnl:=nml p.hours.length;let w_:=nok p.hours.length;rw[en]at hnl w_;rw[en];refine fF 1 Y ?_;refine aL (dC 5 (d:=.list []) (VO.ve (da cZ)) nd) ?_;let ZJ:=DW p.hours;refine aL (lU (tgt:=.one 6) (ds:=((cw p.hours).map (·.1)).map .str) (o:=.nx [.val (fc p),.val (.list (((cw p.hours).map (·.1)).map .str)),.un,.un,.un,.val (.list ((jG ((cw p.hours).take (cw p.hours).length)).map jg)),.un,.un]) bL Y (dX 1.) (fP 6 nd) (λk=>[.val (fc p),.val (.list (((cw p.hours).map (·.1)).map .str)),.un,.un,.un,.val (.list ((jG ((cw p.hours).take k)).map jg)),.un,.un]) (cw p.hours).length Y ([ae,ae]▸aE _) (λk d hk hd=>?_) (.inl #[by rw[ae,ae],Y])) ?_
  .let#[x,hx,rfl]:=get_map hd;rw[ay]at hx;cases hq:(cw p.hours)[k]? with
   |none=>rw[hq]at hx;cases hx
   |some q=>
    rw[hq]at hx;cases hx;let oq:=w_ q.1 (aj.mpr #[q,aF hq,Y]);let hu:=Cy p ok k;let eu:jG ((cw p.hours).take (k+1))=jG ((cw p.hours).take k)++p.hours.filter λw=>decide (w.1=q.1):=[ud hq,F2,<-ZJ q (aF hq)]▸qQ6 _ (bC _);refine#[_,Y,?_];show qK _ _ _ (.nx [.val (fc p),.val (.list (((cw p.hours).map (·.1)).map .str)),.un,.un,.un,.val (.list ((jG ((cw p.hours).take (k+1))).map jg)),.un,.un]);rw[eu,aH];let zkn:(p.hours.filter λw=>decide (w.1=q.1)).length<=600:=bZ (List.length_filter_le _ _) hh;refine eW (a8 (dC 5 (VO.ve (jt (d2:=(p.hours.filter λw=>decide (w.1=q.1)).map jg) 5. (VO.ve (VO.to (dF (own:=["_law_one"]) (cap:=[6]) (N:=["_law_one","_law_name"]) (tgt:=.one 0) (F:=Fbd q.1) (ds:=p.hours.map jg) Y #[Y,∎,∎,Y,Y,?_] (dX (eP hr 0. aW (tD p))) (λf s3 H3=>fP 0 nc) Y (small (by rw[ae];omega)) (λd hd=>?_)) (Kv _ _))) (small (by rw[ae,ae];omega)))) nd)) #[.inr Y,.inr Y,.inr Y,.inr Y,.inr Y,.inr Y,.inl Y,.inr Y,trivial]
    .intro j hj;obtain rfl:j=6:=by simpa using hj
     exact#[(by show(6:Nat)<8;decide),(by left),Y]
    .let#[z,hz,rfl]:=aj.mp hd;refine#[_,Y,λf s3 H3=>?_,λr oO f s3 H3=>?_]
     .refine uo (VT.to (j9 hr (a9 (ok.hours z hz).1.ok.2) (a9 oq) (dm (d:=.str z.1) 0. aK (cJ (j:=0) Y)) 1.) ?_);rw[bG,IJ];by_cases h:z.1=q.1
      .rw[qQ3 h,qQ1 h];rfl
      .rw[qQ2 h,qQ0 h];rfl
     .rw[IJ]at oO;split at oO
      .cases oO;exact pJ 0 Y
      .cases oO
  rw[bV];refine qf λB0 B σ H0 Hh D fr MH=>?_;refine bO (Ds fr 7 nd (λ_=>rfl) (kv:=gB p) 0. md λq σ1 Qj Qk TB G1=>?_);refine bO (HF G1 hr 7 Y aW (d:=.list ((jG (cw p.hours)).map jg)) 5. (dQ (by show 7<=1000000;decide)) λL0 L1 G2=>?_);rw[Kl]at G2;let#[Ha,sm,f1]:=G2.done (i:=7) Y DR.rep;exact HD (d:=fc (jv p)) (a8 (b9 7.)) f1 MH
end
theorem IL(D:Drawn p):yl (lu p):=by
 let hok:=oK D.run;let hlen:=D.len;rw[D.tx];refine#[?_,AU (by show bR (.str "\n")=true;symm) λx hx=>?_]
 .let:=xP (y:="\n") (b:=171) (l:=(jV p).map ju) λx hx=>by let#[e,he,rfl]:=aj.mp hx;exact tY (hok e he)
  let e1:("\n":O).length=1:=⋯;rw[e1,ae]at this;let h2:(jV p).length*(171+1)<=200*(171+1):=fu hlen (aE _);omega
 .let#[e,he,rfl]:=aj.mp hx;exact AU (by show bR (.str " ")=true;symm) λx hx=>((tX (hok e he)).1 x hx).2.1
section
variable{P:bW}{w:cP}{K:ai}{mg:O->Option M}{base:dv}
structure LawC(P:bW)(w:cP)(K:ai)(mg:O->Option M)(base:dv):Prop where
 n:Na mg
 kt:Ka K
 ca:a_ P w K mg base 1 "_law_cell_at" ["_law_script","_law_k"] (gi K J')
 an:a_ P w K mg base 6 "_law_any_plant" ["_law_script"] (gi K Ran)
 pa:a_ P w K mg base 2 "_law_paced" ["_law_h","_law_cell"] (gi K Rpa)
 hm:a_ P w K mg base 2 "_law_hours_more" ["_law_h","_law_cell"] (gi K Rhm)
 pt:a_ P w K mg base 3 "_law_plant_text" ["_law_h"] (gi K Rpt)
 sa:a_ P w K mg base 2 "_law_sorted_apart" ["_law_text","_law_cell"] (Qd K Rsa)
 lk:a_ P w K mg base 2 "_law_loose" ["_law_rows","_law_cell"] (gi K Rlk)
 fi:a_ P w K mg base 1 "_law_fields" ["_law_h"] (gi K Rfi)
 rp:a_ P w K mg base 9 "read_plant" ["text"] (spU K (Rrp K))
 tf:a_ P w K mg base 1 "_law_told_fields" ["_law_plant"] (gi K Rtf)
 sm:a_ P w K mg base 6 "_law_same" Mi (gi K (Ux 5))
 bd:a_ P w K mg base 2 "_law_by_desks" ["_law_h"] (gi K Rbd)
 px:a_ P w K mg base 4 "plant_text" ["plant"] (gi K za1)
abbrev W7:!O:=["_law_script","_law_h","_law_due","_law_text","_law_plant","_law_told","_law_again"]
theorem P':cg W7 ["_law_script"] (bA (top 65)):=by grind
def za4(ds:!U)(d:U):Prop:=∃ns:!Int,ds=[O1 ns]/\ns.length<=63/\d=.bool true
theorem za5{f:J}(C:LawC P w K mg base)(h:za4 ds d):sS P w K mg base W7 "law" (top 65) f 9 ds (.rt d):=by
 let#[ns,rfl,M9,rfl]:=h;intro gk A outer s H E hr;let n:=C.n;let kt:=C.kt;let nd:W7.Nodup:=P'.nd;let pQ:=hr.mono (show 1<=9 by decide);let Bv:=hr.mono (show 2<=9 by decide);let hr3:=hr.mono (show 3<=9 by decide);let hr4:=hr.mono (show 4<=9 by decide);let hr6:=hr.mono (show 6<=9 by decide);let#[ok,g,k1,_]:=F0 ns;let D:=Mj ns (ns.getD 3 0) (ns.getD 4 0);let hkn:(ub ns (ns.getD 3 0) (ns.getD 4 0)).kinds≠[]:=λz=>by let:(ji ns).kinds.length=0:=qQ6 dq (show(ji ns).kinds=[]from z);omega
 let ok1:=FT ok k1 (ns.getD 3 0);refine aL (dC 1 (d:=fc (ub ns (ns.getD 3 0) (ns.getD 4 0))) (bE C.hm Bv {bE C.pa Bv {bE C.an hr6 {0.} #[ns,Y,Y],bE C.ca pQ {0.,aK} #[ns,3,Y,Y]} #[_,_,Y,ok,k1,Y],bE C.ca pQ {0.,aK} #[ns,4,Y,Y]} #[_,_,Y,ok1,Y]) nd) ?_;generalize ub ns (ns.getD 3 0) (ns.getD 4 0)=p at *;let DB:=II D;let tB:=IL DB;let#[XC,gp,ne,len,run,fold,tx]:=D;refine aL (dC 2 (d:=.str (lu (jv p))) (bE C.pt hr3 {bE C.bd Bv {1.} #[p,Y,XC,Y]} #[jv p,Y,DB.ok,Y]) nd) ?_;let#[za6,UC,SY]:=DT (cell:=ns.getD 4 0) run 6;rw[fold]at UC;let ne2:vG (jV p) (ns.getD 4 0) 6≠[]:=λz=>by rw[z]at SY;exact ne (gq.mp SY.symm)
 let eok:=oK za6;let#[tok,trw]:=SQ eok ne2 ([SY]▸len) (ns.getD 5 0);refine aL (dC 3 (d:=.str (Mf (vG (jV p) (ns.getD 4 0) 6) (ns.getD 5 0))) (bE C.lk Bv {VO.ve (zk C.sa Bv {bE C.pt hr3 {1.} #[p,Y,XC,Y],bE C.ca pQ {0.,aK} #[ns,4,Y,Y]} #[jV p,ns.getD 4 0,by rw[tx],ne,len,run,Y]),bE C.ca pQ {0.,aK} #[ns,5,Y,Y]} #[vG (jV p) (ns.getD 4 0) 6,_,Y,[SY]▸len,eok,Y]) nd) ?_;generalize vG (jV p) (ns.getD 4 0) 6=es at *;generalize Mf es (ns.getD 5 0)=text at *;let hrp:Rrp K [.str text] (Xm λa=>Az K a p):=#[text,es,Y,tok,trw,.Uz za6,by rw[UC]];let hsm:Ux 5 [nS p,nS p] (.bool true):=#[_,Y,Mm XC gp,Y];refine aL (dC 4 (d:=gE p) (JZ (JY C.rp hr E4 {3.} hrp) (λa Ha Hb as sb h=>Az.rep Ha Hb as sb h)) nd) ?_;refine aL (dC 5 (d:=.str (lu (jv p))) (bE C.px hr4 {4.} #[p,Y,XC,oK DB.run,DB.len,by rw[DB.tx]]) nd) ?_;let lT:Lay 20 (.str (lu (jv p))):=a9 tB.2;refine aL (bP (VT.to (Hr (k1:=false) (k2:=false) (k3:=false) (VT.to (vd (e8 (fw (tn:="str") 5. Y kt.ss Y n.uL n.str Y) Y)) Y) (λ_=>VT.to (lL pQ lT lT 5. 2.) (by rw[bG,qQ1 Y];rfl)) (λ_ _=>VT.to (vd (e8 (bE C.sm hr6 {bE C.tf pQ {4.} #[p,Y,Y],bE C.fi pQ {1.} #[p,Y,XC,gp,Y]} hsm) Y)) Y)) Y) bw) ?_;let hkB:(jv p).kinds≠[]:=hkn;let zeU:Rrp K [.str (lu (jv p))] (Xm λa=>Az K a (jv p)):=#[_,jV (jv p),Y,tB,FL DB.ok hkB,.Uz DB.run,by rw[DB.fold]];refine aL (dC 6 (d:=gE (jv p)) (JZ (JY C.rp hr E4 {5.} zeU) (λa Ha Hb as sb h=>Az.rep Ha Hb as sb h)) nd) ?_;let e2:=P_ p;refine a8 (b9 (VE.to (jQ (bE C.sm hr6 {VE.to (bE C.tf pQ {6.} #[jv p,Y,Y]) (F5 p),bE C.fi pQ {1.} #[p,Y,XC,gp,Y]} hsm) (λ_=>g_ (nE pQ lT lT (bE C.px hr4 {6.} #[jv p,Y,DB.ok,[e2]▸oK DB.run,[e2]▸DB.len,by rw[e2,DB.tx]]) 2.))) (by rw[bG,qQ1 Y];rfl)))
end
end Mg
namespace Mg
open L2 PySem PyProof.Rows
variable{g:J}{M3:Array (Option M)}{fd:iu}{h:dv}{ps:!O}{od:Option J}{K:ai}{st:kr}{oc:M}
structure dD(K:ai)(mg:O->Option M)(g x:O)(st:kr)(ps:!O):Prop where
 ex:∃f fd,kz K x x st f fd/\mg g>>(.ref f)/\∀us:!M,us.length=ps.length->bindArgs fd #[us,[]]=pure (ps.zip us)
theorem IQ{mg:O->Option M}{g x:O}{f:J}{an: Option J}{kV doc pm gk ct:M}(X:K.In h)(G:h.Ns mainGlobals mg)
  (hb:∀(kV doc pm:M)(an:Option J)(gk ct:M)(us:!M),us.length=ps.length->bindArgs (iU x x (qG st) (my st) (bA st) .none kV doc pm an gk ct) #[us,[]]=pure (ps.zip us))
  (a:PySem.W.nsIn K mainGlobals g>>(some (.ref f)))(l:K.lookup f>>#[oc,od,.func (iU x x (qG st) (my st) (bA st) .none kV doc pm an gk ct),M3])
  (c:nY K gk x=true)(k:iL K (.ref f)=true):dD K mg g x st ps:=
 #[f,_,M_ l c k,pI X G a,hb kV doc pm an gk ct]
section
variable{K:ai}{mg:O->Option M}{f:J}
theorem dD.call{P:bW}{w:cP}{base:dv}{k:Nat}{g x:O}{sp:Sp}(D:dD K mg g x st ps)(h:∀f fd,kz K x x st f fd->dW P w K mg base jO k f fd ps sp):a_ P w K mg base k g ps sp:=by let#[f,fd,F,hm,hb]:=D.ex;exact#[f,fd,h f fd F,hm,F.kp,.all hb]
theorem lB(l:K.lookup g>>#[.type "tuple",od,.seq its n,sl])(hs:its.size<=100)(hv:dw (ws.map V.str) its.toList):N2 K g ws:=
 #[_,_,_,l,Y,Y,small (),hv]
theorem UD(nm:(g==sysModules)=false)(nd:(kvs.map (·.1)).Nodup)(l:K.lookup g>>#[.type "dict",none,.dict es ep,#[]])(ge:GE pr K es.toList kvs):GD pr K g kvs:=
 #[nm,nd,_,es,ep,l,#[Y,Y,Y],Y,ge]
structure S0(K:ai)(mg:O->Option M):Prop where
 ex:∃C fi fd,mg "Plant"=some (.ref C)/\Ec K C/\(∀f∈fsN,jN K C f)/\Mk K C fi/\kz K "__init__" "Plant.__init__" Cq fi fd/\Binds K fd ["self"] []
theorem za7{C f:J}{an: Option J}{kV doc pm gk ct:M}(X:K.In h)(G:h.Ns mainGlobals mg)(aC:PySem.W.nsIn K mainGlobals "Plant"=some (some (.ref C)))
  (a1:c7 K (.ref C) "__init__"=some (some (.ref f)))(i1:PySem.W.isFn K (.ref f)=true)(l:K.lookup f>>#[oc,od,.func (iU "__init__" "Plant.__init__" (qG Cq) (my Cq) (bA Cq) .none kV doc pm an gk ct),M3])(c:nY K gk "Plant.__init__"=true)(k:iL K (.ref f)=true)
  (pg:pW K C fW=true)(hd:oT K C=true)(po:vR K C=true)(sa:c7 K (.ref C) "__setattr__"=some (some (.builtin "object.__setattr__")))(mk:yB K C=true)(kc:iL K (.ref C)=true)
  (z1:c7 K (.ref C) "kinds"=some none)(z2:c7 K (.ref C) "gates"=some none)(z3:c7 K (.ref C) "lines"=some none)(z4:c7 K (.ref C) "desks"=some none)(z5:c7 K (.ref C) "times"=some none)(z6:c7 K (.ref C) "hours"=some none)(z7:c7 K (.ref C) "paces"=some none):S0 K mg:=by
 let F:=M_ l c k;refine#[C,f,_,pI X G aC,#[pg,hd,po,sa],λf hf=>?_,#[mk,a1,i1,kc],F,F.binds λ_ _ _ _ _ _ us hl=>match us,hl with | [_],_=>rfl];simp[au,aS,or_false]at hf;rcases hf with rfl|rfl|rfl|rfl|rfl|rfl|rfl
 .exact z1
 .exact z2
 .exact z3
 .exact z4
 .exact z5
 .exact z6
 .exact z7
theorem S0.pc(T:S0 K mg):PlC P w K mg base:=by let#[C,fi,fd,h1,h2,h3,h4,h5,h6]:=T.ex;exact#[C,fi,fd,h1,h2,h3,h4,zeh h5 h2 h3,h6]
structure Defs(K:ai)(mg:O->Option M)(pr:GC):Prop where
 n:Np mg pr K
 nw:Nw mg
 kt:Ka K
 pa:S0 K mg
 md:mg "dict"=none
 kdd:bp K (.type "dict") (.type "dict")>>true
 knd:bp K (.type "NoneType") (.type "dict")>>false
 kid:bp K (.type "int") (.type "dict")>>false
 ksd:bp K (.type "str") (.type "dict")>>false
 kld:bp K (.type "list") (.type "dict")>>false
 ktd:bp K (.type "tuple") (.type "dict")>>false
 WY:bp K (.type "NoneType") (.type "list")>>false
 kil:bp K (.type "int") (.type "list")>>false
 ksl:bp K (.type "str") (.type "list")>>false
 knt:bp K (.type "NoneType") (.type "tuple")>>false
 kit:bp K (.type "int") (.type "tuple")>>false
 kst:bp K (.type "str") (.type "tuple")>>false
 d0:dD K mg "plant_text" "plant_text" (top 1) ["plant"]
 d1:dD K mg "place_rows" "place_rows" (top 2) ["plant"]
 d2:dD K mg "desk_rows" "desk_rows" (top 3) ["plant"]
 d3:dD K mg "rule_words" "rule_words" (top 4) ["rule"]
 d4:dD K mg "number_word" "number_word" (top 5) ["number"]
 d5:dD K mg "is_made_of" "is_made_of" (top 16) ["signs","longest","word"]
 d6:dD K mg "is_name" "is_name" (top 17) ["word"]
 d7:dD K mg "is_number" "is_number" (top 18) ["word"]
 d8:dD K mg "words_of" "words_of" (top 19) ["row"]
 d9:dD K mg "rows_of" "rows_of" (top 20) ["text"]
 d10:dD K mg "greatest_load" "greatest_load" (top 10) ["rule","many"]
 d11:dD K mg "read_plant" "read_plant" (top 26) ["text"]
 d12:dD K mg "fits" "fits" (top 27) ["shape","word"]
 d13:dD K mg "value_of" "value_of" (top 28) ["shape","word"]
 d14:dD K mg "values_of" "values_of" (top 29) ["shapes","words"]
 d15:dD K mg "entry_of" "entry_of" (top 30) ["words"]
 d16:dD K mg "desk_entry" "desk_entry" (top 31) ["words"]
 d17:dD K mg "rule_of" "rule_of" (top 32) ["words","many"]
 d18:dD K mg "are_places" "are_places" (top 33) ["names"]
 d19:dD K mg "fault_of" "fault_of" (top 34) ["plant","entry"]
 d20:dD K mg "tells_twice" "tells_twice" (top 35) ["plant","entry"]
 d21:dD K mg "lacks_name" "lacks_name" (top 36) ["plant","entry"]
 d22:dD K mg "lacks_room" "lacks_room" (top 37) ["plant","entry"]
 d23:dD K mg "is_place" "is_place" (top 38) ["plant","name"]
 d24:dD K mg "is_desk" "is_desk" (top 39) ["plant","name"]
 d25:dD K mg "takers_of" "takers_of" (top 40) ["plant","place"]
 d26:dD K mg "add_entry" "add_entry" (top 41) ["plant","entry"]
 d27:dD K mg "_law_cell_at" "_law_cell_at" (top 43) ["_law_script","_law_k"]
 d28:dD K mg "_law_mix" "_law_mix" (top 44) ["_law_cell","_law_k"]
 d29:dD K mg "_law_greatest" "_law_greatest" (top 45) ["_law_rule","_law_many"]
 d30:dD K mg "_law_dash" "_law_dash" (top 46) ["_law_thing"]
 d31:dD K mg "_law_rule_text" "_law_rule_text" (top 47) ["_law_rule"]
 d32:dD K mg "_law_plant_text" "_law_plant_text" (top 48) ["_law_h"]
 d33:dD K mg "_law_pick" "_law_pick" (top 49) ["_law_left","_law_many"]
 d34:dD K mg "_law_spelt" "_law_spelt" (top 50) ["_law_left","_law_told"]
 d35:dD K mg "_law_spelt_all" "_law_spelt_all" (top 51) ["_law_left","_law_many"]
 d36:dD K mg "_law_rule_digits" "_law_rule_digits" (top 52) ["_law_left","_law_many"]
 d37:dD K mg "_law_desks_digits" "_law_desks_digits" (top 53) ["_law_left","_law_places","_law_lines"]
 d38:dD K mg "_law_plant_digits" "_law_plant_digits" (top 54) ["_law_one","_law_two","_law_three"]
 d39:dD K mg "_law_rich" "_law_rich" (top 55) ["_law_cell","_law_k"]
 d40:dD K mg "_law_any_plant" "_law_any_plant" (top 56) ["_law_script"]
 d41:dD K mg "_law_paced" "_law_paced" (top 57) ["_law_h","_law_cell"]
 d42:dD K mg "_law_hours_more" "_law_hours_more" (top 58) ["_law_h","_law_cell"]
 d43:dD K mg "_law_fields" "_law_fields" (top 59) ["_law_h"]
 d44:dD K mg "_law_told_fields" "_law_told_fields" (top 60) ["_law_plant"]
 UE:dD K mg "_law_same" "_law_same" (top 61) ["_law_found","_law_due"]
 d46:dD K mg "_law_sorted_apart" "_law_sorted_apart" (top 62) ["_law_text","_law_cell"]
 d47:dD K mg "_law_loose" "_law_loose" (top 63) ["_law_rows","_law_cell"]
 d48:dD K mg "_law_by_desks" "_law_by_desks" (top 64) ["_law_h"]
theorem Defs.all(D:Defs K mg w.params):LawC P w K mg base:=by let n:=D.n;let nw:=D.nw;let pc:=D.pa.pc (P:=P) (w:=w) (base:=base);let wC:=D.d5.call (P:=P) (w:=w) (base:=base) λ_ _ F=>zdJ F nw;let xU:=D.d6.call (P:=P) (w:=w) (base:=base) λ_ _ F=>zdK F nw wC;let yx:=D.d7.call (P:=P) (w:=w) (base:=base) λ_ _ F=>zdL F nw wC;let IU:=D.d8.call (P:=P) (w:=w) (base:=base) λ_ _ F=>zdM F;let Mt:=D.d9.call (P:=P) (w:=w) (base:=base) λ_ _ F=>zdN F nw IU;let yT:=D.d10.call (P:=P) (w:=w) (base:=base) λ_ _ F=>zed F;let S3:=D.d12.call (P:=P) (w:=w) (base:=base) λ_ _ F=>ZZ F n.toNa xU yx;let W8:=D.d12.call (P:=P) (w:=w) (base:=base) λ_ _ F=>zdV F n.toNa xU yx S3;let IV:=D.d13.call (P:=P) (w:=w) (base:=base) λ_ _ F=>zdW F n.toNa;let uf:=D.d14.call (P:=P) (w:=w) (base:=base) λ_ _ F=>zdZ F n.toNa n.zip W8 IV;let Mu:=D.d17.call (P:=P) (w:=w) (base:=base) λ_ _ F=>Z3 F n uf;let DX:=D.d18.call (P:=P) (w:=w) (base:=base) λ_ _ F=>zd2 F n xU;let DY:=D.d16.call (P:=P) (w:=w) (base:=base) λ_ _ F=>zd4 F n uf Mu DX;let IW:=D.d15.call (P:=P) (w:=w) (base:=base) λ_ _ F=>zd7 F n uf DY;let AX:=D.d23.call (P:=P) (w:=w) (base:=base) λ_ _ F=>zea F;let CD:=D.d24.call (P:=P) (w:=w) (base:=base) λ_ _ F=>zeb F;let F7:=D.d25.call (P:=P) (w:=w) (base:=base) λ_ _ F=>zec F;let Bw:=D.d20.call (P:=P) (w:=w) (base:=base) λ_ _ F=>zee F n AX CD F7;let DZ:=D.d21.call (P:=P) (w:=w) (base:=base) λ_ _ F=>zef F n AX CD;let D0:=D.d22.call (P:=P) (w:=w) (base:=base) λ_ _ F=>zaf F n yT;let IX:=D.d19.call (P:=P) (w:=w) (base:=base) λ_ _ F=>zeg F Bw DZ D0;let F8:=D.d26.call (P:=P) (w:=w) (base:=base) λ_ _ F=>zej F;let D1:=D.d11.call (P:=P) (w:=w) (base:=base) λ_ _ F=>zen F n pc Mt IW IX F8;let uQ:=D.d27.call (P:=P) (w:=w) (base:=base) λ_ _ F=>Wu F n.len;let qo:=D.d28.call (P:=P) (w:=w) (base:=base) λ_ _ F=>ZU F;let AY:=D.d29.call (P:=P) (w:=w) (base:=base) λ_ _ F=>zdO F;let AZ:=D.d30.call (P:=P) (w:=w) (base:=base) λ_ _ F=>zdR F n.toNa;let yU:=D.d31.call (P:=P) (w:=w) (base:=base) λ_ _ F=>zdT F n.toNa AZ;let xV:=D.d32.call (P:=P) (w:=w) (base:=base) λ_ _ F=>zdU F n.toNa AZ yU;let rq:=D.d33.call (P:=P) (w:=w) (base:=base) λ_ _ F=>WQ F;let F9:=D.d34.call (P:=P) (w:=w) (base:=base) λ_ _ F=>zar F n.rng rq;let rL:=D.d35.call (P:=P) (w:=w) (base:=base) λ_ _ F=>zat F n.rng F9;let wD:=D.d36.call (P:=P) (w:=w) (base:=base) λ_ _ F=>zer F n.rng n.tup rq;let vI:=D.d37.call (P:=P) (w:=w) (base:=base) λ_ _ F=>zes F n rq rL wD;let vJ:=D.d38.call (P:=P) (w:=w) (base:=base) λ_ _ F=>zeu F n AY rq rL vI;let IY:=D.d39.call (P:=P) (w:=w) (base:=base) λ_ _ F=>zeB F n.toNa qo;let yV:=D.d40.call (P:=P) (w:=w) (base:=base) λ_ _ F=>zeC F n.toNa uQ IY vJ;let Gg:=D.d41.call (P:=P) (w:=w) (base:=base) λ_ _ F=>zeA F n.toNa D.md qo;let xW:=D.d42.call (P:=P) (w:=w) (base:=base) λ_ _ F=>zeD F n.toNa D.md qo;let D2:=D.d43.call (P:=P) (w:=w) (base:=base) λ_ _ F=>zeM F n.toNa D.md;let wF:=D.d44.call (P:=P) (w:=w) (base:=base) λ_ _ F=>zeN F;let kq:Kq K:=#[D.kt,D.kdd,D.knd,D.kid,D.ksd,D.kld,D.ktd,D.WY,D.kil,D.ksl,D.knt,D.kit,D.kst];let za8:=D.UE.call (P:=P) (w:=w) (base:=base) λ_ _ F=>zaN F n D.md kq;let za9:=D.UE.call (P:=P) (w:=w) (base:=base) λ_ _ F=>FZ F n D.md kq za8;let zba:=D.UE.call (P:=P) (w:=w) (base:=base) λ_ _ F=>FZ F n D.md kq za9;let zbb:=D.UE.call (P:=P) (w:=w) (base:=base) λ_ _ F=>FZ F n D.md kq zba;let zbc:=D.UE.call (P:=P) (w:=w) (base:=base) λ_ _ F=>FZ F n D.md kq zbb;let IZ:=D.UE.call (P:=P) (w:=w) (base:=base) λ_ _ F=>FZ F n D.md kq zbc;let vK:=D.d46.call (P:=P) (w:=w) (base:=base) λ_ _ F=>zeH F n.toNa qo;let Gh:=D.d47.call (P:=P) (w:=w) (base:=base) λ_ _ F=>zeK F n.toNa qo;let uR:=D.d4.call (P:=P) (w:=w) (base:=base) λ_ _ F=>zaS F n.toNa;let D3:=D.d3.call (P:=P) (w:=w) (base:=base) λ_ _ F=>zaT F uR;let D4:=D.d1.call (P:=P) (w:=w) (base:=base) λ_ _ F=>zaW F n.toNa uR;let Gi:=D.d2.call (P:=P) (w:=w) (base:=base) λ_ _ F=>zaZ F n.toNa D3;let D5:=D.d0.call (P:=P) (w:=w) (base:=base) λ_ _ F=>za3 F n.toNa D4 Gi;let A0:=D.d48.call (P:=P) (w:=w) (base:=base) λ_ _ F=>zeS F D.md;exact#[n.toNa,D.kt,uQ,yV,Gg,xW,xV,vK,Gh,D2,D1,wF,IZ,A0,D5]
def Qa(K:ai):Sp:=λvs H Q _=>∃(a:J)(ns:!Int),vs=[.ref a]/\jY K H a (ns.map V.int)/\ns.length<=63/\∀H',Q (.bl true) H'
theorem CF:∀ns:!Int,bQ K H (ns.map V.int) (ns.map eJ)
 | []=>.nil
 |n::ns=>.cons (.int n) (CF ns)
theorem S4(F:dW P w K mg base jO k f fd ps (gi K za4)):dW P w K mg base jO k f fd ps (Qa K):=F.imp λvs H Q E h=>by let#[a,ns,rfl,hS,hn,q]:=h;exact#[H,_,_,cy.refl _,.cons (.lst hS (CF ns)) .nil,#[ns,Y,hn,Y],λv c9 H' g r=>by cases r;exact q H']
theorem zbd(F:kz K "law" "law" (top 65) f fd)(C:LawC P w K mg base):dW P w K mg base jO 10 f fd ["_law_script"] (Qa K):=
 S4 (iO F P' (by ext) λ_ _ h=>za5 C h)
end
theorem walk{l:PySem.W.OpenLaw}{q:bW}{loose:!O}{XP:(O->Option M)->dv->Prop}{YP:cP->dv->Prop}{d:DefRec}{K:GC->ai}(hn:l.most>>63)(Yu:d.params.defaults=[])(hdn:d.name="law")
  (hY:∀(w:cP)(h:dv),YP w h->(K w.params).In h)
  (F:∀(w:cP)(mg:O->Option M)(h:dv),(K w.params).In h->h.Ns mainGlobals mg->Defs (K w.params) mg w.params/\dD (K w.params) mg "law" "law" (top 65) ["_law_script"]):
  PySem.W.WalkO q loose XP YP l.row.toRowW d [] (λf vs=>PySem.call f vs):=
 L2.QO (n:=63) (k:=10) (x:="_law_script") (CX:=λ_=>jO) (sp:=λw=>Qa (K w.params)) hn ⋯ Yu #[Y,⋯,⋯] hY (λw mg fa h X G MA=>by let#[D,La]:=F w mg h X G;let#[f,fd,Fl,hm,hb]:=La.ex;rw[hdn]at MA;rw[hm]at MA;cases MA;exact#[fd,λs v=>.of_eq (hb [v] Y),λbase _ _=>zbd Fl D.all]) (λ_ _ a ns hl _ hS=>#[a,ns,Y,hS,hl,λ_=>rfl]) λ_ _ _ _ _ z=>z
end Mg
namespace PySem.W.Fast
def tw1000700756477200744:=0
def tw10012261541741047968:=0
def tw10022944736135158117:=0
def tw10031823839847912218:=0
def tw10186826144825405749:=0
def tw10214084319690147798:=0
def tw10253750113944030157:=0
def tw10258035090403927740:=0
def tw10281537062810758698:=0
def tw10436491444297559292:=0
def tw10437590087130518608:=0
def tw1044149814142706173:=0
def tw10454725109283507817:=0
def tw10471380293596049989:=0
def tw10491667501543848046:=0
def tw10569276868882138785:=0
def tw10758933394541948639:=0
def tw10785037732762853364:=0
def tw1081937954258403497:=0
def tw10839786050501413286:=0
def tw10857481181035958253:=0
def tw10917131323063165922:=0
def tw10941113162187747510:=0
def tw11000607439842293140:=0
def tw11165046775088886619:=0
def tw11250782827755977487:=0
def tw11257318029386401450:=0
def tw11350172835066553906:=0
def tw11395573958974636764:=0
def tw11443150868951537976:=0
def tw11479233087238981776:=0
def tw11482169060663475526:=0
def tw11501530140952306427:=0
def tw11515923991118172718:=0
def tw1168026292026304436:=0
def tw11684896373860816601:=0
def tw11743014621272945579:=0
def tw11767271571759684437:=0
def tw11813451300662463547:=0
def tw11889410781728304918:=0
def tw1188988854328387204:=0
def tw11954071004346002063:=0
def tw11999160953314387855:=0
def tw1214849123962012888:=0
def tw12175450586773483602:=0
def tw12200047977288789465:=0
def tw1229926072796389531:=0
def tw12393414005060819014:=0
def tw1239362723300465103:=0
def tw12409257061679236623:=0
def tw12423622849618332489:=0
def tw12457069346733698593:=0
def tw12519217596232308071:=0
def tw12568279494019954667:=0
def tw12632134276136219478:=0
def tw12691343868938697304:=0
def tw12810709200402964640:=0
def tw12828938252491139479:=0
def tw12861323245013791510:=0
def tw12948448176736790642:=0
def tw12996333824956716942:=0
def tw13044959605847161207:=0
def tw13081982004025466734:=0
def tw13083444211034984522:=0
def tw13104006981341353112:=0
def tw1313683651101024744:=0
def tw13171798680662468001:=0
def tw13213931307194634289:=0
def tw13232726486183324950:=0
def tw13241941048099236681:=0
def tw1324560634975694229:=0
def tw1326821875787243331:=0
def tw13284497983484175121:=0
def tw13412225003345770271:=0
def tw13414029572720698513:=0
def tw13476881185247023457:=0
def tw13515160998467648539:=0
def tw13542591507307372453:=0
def tw13550908319681342485:=0
def tw13570726234765713992:=0
def tw13617919759299550400:=0
def tw13644634157275273902:=0
def tw13645425190681248372:=0
def tw13725000283675826452:=0
def tw13763070975192746510:=0
def tw13771610105899145610:=0
def tw13828814745115669271:=0
def tw13890274932874785301:=0
def tw1408269664043934784:=0
def tw14165579873230080203:=0
def tw14195327306700290689:=0
def tw14235584221050963133:=0
def tw14239058980142491742:=0
def tw14261622144395406847:=0
def tw1429176994124004442:=0
def tw14466768730125177675:=0
def tw14503299846578551754:=0
def tw14532443551955540144:=0
def tw14590457090001941188:=0
def tw14592556121467786682:=0
def tw14639681486120973149:=0
def tw14820722096589183773:=0
def tw14841069730399029118:=0
def tw14863682479689249542:=0
def tw14898929906567618037:=0
def tw14899958069282320338:=0
def tw14900576876113610640:=0
def tw14947803222973067148:=0
def tw15104955465914101610:=0
def tw15162333065870424553:=0
def tw1517501055272542161:=0
def tw15185998660814483576:=0
def tw15261809452235427116:=0
def tw15376626929793129997:=0
def tw15421439337617701898:=0
def tw15426009988481656800:=0
def tw15505841719669898536:=0
def tw15532655377425307770:=0
def tw15557618373697624100:=0
def tw15565641493716382166:=0
def tw15582349978833788508:=0
def tw15600978143881478280:=0
def tw15625485823108348003:=0
def tw156314942293056409:=0
def tw15694775592832034093:=0
def tw15731834655300450210:=0
def tw15771208344612442278:=0
def tw1583274884399046548:=0
def tw1586286581526651882:=0
def tw15866583429158309568:=0
def tw15939908061000019318:=0
def tw16052049501113721411:=0
def tw16164754347720008201:=0
def tw16177267485186222108:=0
def tw16184045077171289303:=0
def tw16210819753733196174:=0
def tw16230799691247388581:=0
def tw1633746844844090957:=0
def tw16562123797141891416:=0
def tw16621702603154206761:=0
def tw16632959701570268157:=0
def tw16721582631926580425:=0
def tw16739546526331964656:=0
def tw1676130347912554507:=0
def tw1677412649212995535:=0
def tw16812104467461669429:=0
def tw16825636304878011889:=0
def tw16869139721723071806:=0
def tw16903859390562870910:=0
def tw16946675949941165523:=0
def tw17062338293490307497:=0
def tw1707701412358972225:=0
def tw17104706019130502834:=0
def tw1713009151163328538:=0
def tw17136008032072373675:=0
def tw17247670822954374277:=0
def tw17321850983920373364:=0
def tw17417194823744670713:=0
def tw17423808106626508842:=0
def tw17426308974624330959:=0
def tw17456678969668015814:=0
def tw17460553341977153208:=0
def tw17500830454190783893:=0
def tw17506636945369463659:=0
def tw17509910047950584449:=0
def tw1755761913968734250:=0
def tw17560143887236889995:=0
def tw17581796590940755943:=0
def tw17623416587282201608:=0
def tw17640234303094896864:=0
def tw17705637352179590581:=0
def tw17721820359861981803:=0
def tw1784115940783488981:=0
def tw17869918100527756019:=0
def tw17888611128079070128:=0
def tw17935605742801654805:=0
def tw17961371427627699520:=0
def tw17982754420759158384:=0
def tw18159793093845294698:=0
def tw18180294656219290320:=0
def tw18216013370485234113:=0
def tw18276097237158501314:=0
def tw18348518814979134456:=0
def tw18444543715225262758:=0
def tw18445311484056821641:=0
def tw1909510839272486719:=0
def tw1941970439073756239:=0
def tw1973980771374082401:=0
def tw2055148536577921192:=0
def tw2124633344515942910:=0
def tw2127511283775680840:=0
def tw213127439216487215:=0
def tw2138193077704166569:=0
def tw214237554360872531:=0
def tw2179347309047933063:=0
def tw2211404928756215395:=0
def tw2213005181849197623:=0
def tw236411174565937999:=0
def tw2450049052213504252:=0
def tw2494512245116222364:=0
def tw2502695804144878739:=0
def tw2510169552751464718:=0
def tw252456187895061019:=0
def tw2546940882696356319:=0
def tw2562897558081667662:=0
def tw2586812602187790171:=0
def tw2616711561614490477:=0
def tw2714948759636996010:=0
def tw2791124191754788128:=0
def tw2841012551924383264:=0
def tw2892097346795499059:=0
def tw2903428850571359821:=0
def tw2975200936736139852:=0
def tw2981086620587264656:=0
def tw3039960689349650679:=0
def tw3046477151740517842:=0
def tw3053225434499526049:=0
def tw3055182256625235360:=0
def tw3080336436606490890:=0
def tw3094363632502635929:=0
def tw3168749629843589271:=0
def tw3224250236050891680:=0
def tw3242754540593862376:=0
def tw3242787668874625863:=0
def tw3247485379665585423:=0
def tw331371403859283873:=0
def tw3357801117757872955:=0
def tw3382267098424031320:=0
def tw3395517452060362456:=0
def tw3395710533798825384:=0
def tw3440115703237243282:=0
def tw3534538578655963696:=0
def tw3594546700448158709:=0
def tw3687429328805533586:=0
def tw3814229711094262450:=0
def tw3863592396436563497:=0
def tw3911701402305483924:=0
def tw3914606815917881131:=0
def tw3972696630845798649:=0
def tw4013366503354380329:=0
def tw4019790740314930780:=0
def tw4030223622780136690:=0
def tw4189244564685238762:=0
def tw4257606354628205431:=0
def tw4267510965243493444:=0
def tw4346842634185756376:=0
def tw4351343403999982971:=0
def tw4480985396789097161:=0
def tw4501116268345249507:=0
def tw4555466093674242069:=0
def tw4639313447906395089:=0
def tw4640216925150385796:=0
def tw4712164195437556916:=0
def tw4732482468578454923:=0
def tw4785884940686185219:=0
def tw4795287505649190619:=0
def tw4900421423941568728:=0
def tw4944340265351146270:=0
def tw5035497278703831348:=0
def tw5091190131074438797:=0
def tw5117115951319722241:=0
def tw5166075985003108970:=0
def tw5170435467345901910:=0
def tw5174513142658946512:=0
def tw5224007638012839886:=0
def tw5252676814041309946:=0
def tw530662913210682239:=0
def tw5326372268866642161:=0
def tw537241030452799760:=0
def tw5373728740623235593:=0
def tw5534832732709189039:=0
def tw5555213218608538310:=0
def tw5564587247568242697:=0
def tw55976649508517003:=0
def tw5698231446820630441:=0
def tw5749478871088573244:=0
def tw5785917341091594833:=0
def tw5826320269312185442:=0
def tw5856964407677900565:=0
def tw587128472334413955:=0
def tw5986145065966323270:=0
def tw602694624749017679:=0
def tw6052402675896279241:=0
def tw6108239460342965012:=0
def tw6155120444777855207:=0
def tw6434097986617646127:=0
def tw6556062182092238504:=0
def tw6583106203341961489:=0
def tw658577668680310716:=0
def tw6596292277916267346:=0
def tw664117568804832304:=0
def tw6654351403783481563:=0
def tw6783503252281904163:=0
def tw6933933311020001118:=0
def tw696950929806302793:=0
def tw7072923090630175905:=0
def tw7106747918481351659:=0
def tw7209616269574241891:=0
def tw7215355879609309983:=0
def tw725191841454955471:=0
def tw728367045857276543:=0
def tw7393661410774542381:=0
def tw7400862717642406403:=0
def tw7563720292589783434:=0
def tw7573485629469387970:=0
def tw7606273971577966057:=0
def tw7643020289144398223:=0
def tw7691518299947537553:=0
def tw7712294263277224341:=0
def tw7715353170049641134:=0
def tw7751383437266865957:=0
def tw7780009472298138260:=0
def tw7806450006415741781:=0
def tw7814107671840672786:=0
def tw7968357829715573663:=0
def tw8028346120589968524:=0
def tw8063778149116720455:=0
def tw8082210037007769224:=0
def tw8132732614969251181:=0
def tw8139170494462329804:=0
def tw8142277534483857490:=0
def tw816934518613027836:=0
def tw8191393616787861588:=0
def tw8198955782354764605:=0
def tw8207709825153526025:=0
def tw8248963784435465292:=0
def tw8256121504147887279:=0
def tw82667968442247626:=0
def tw8301988767134849960:=0
def tw8325291350271295495:=0
def tw8325900702993946756:=0
def tw8364950408615899265:=0
def tw8432978400569089494:=0
def tw8464387619180506530:=0
def tw8592493782434007908:=0
def tw8623178566366855595:=0
def tw8628474371881886432:=0
def tw8887010600505771686:=0
def tw889413149331325307:=0
def tw8983878082718031876:=0
def tw9021655534270843033:=0
def tw9071770689654264452:=0
def tw9148734328108399669:=0
def tw9200166539200125687:=0
def tw9223760179771399089:=0
def tw9288930893122070868:=0
def tw9371059257658667407:=0
def tw948859177214191013:=0
def tw9514779281777007227:=0
def tw9591331210809601513:=0
def tw9607598205896302307:=0
def tw9745259862552099023:=0
def tw9949100247819842428:=0
def tw9962988316234694620:=0
end PySem.W.Fast
end
open PySem PySem.W PyProof.Rows
theorem PySem.Challenge.cw_mergeline_k02_plants_written_holds : PySem.Challenge.rw_mergeline_k02_plants_written.Holds := by
 w_on;o_law;k_head;(case hw=>w_witness2)
 k_fill
 refine Mg.walk (l:=PySem.Challenge.rw_mergeline_k02_plants_written) rfl rfl rfl (λw h Y=>PySem.W.kIn_of Y) ?F
 case F=>
  intro w mg h KX G;refine⟨⟨⟨⟨⟨?n1,?n2,?n3,?n4,?n5,?n6,?n7,?n8,?n9,?n10,?n11,?n12⟩,?n13,?n14⟩,?y1,?y2,?y3,?ymp,?yfo,?yru⟩,⟨?w1,?w2,?w3,?xa,?xb,?xc,?xd⟩,⟨?t0,?t1,?t2,?t3,?t4,?t5,?t6,?t7,?t8,?t9,?t10,?t11⟩,?ypl,?md,?kdd,?knd,?kid,?ksd,?kld,?ktd,?WY,?kil,?ksl,?knt,?kit,?kst,?d0,?d1,?d2,?d3,?d4,?d5,?d6,?d7,?d8,?d9,?d10,?d11,?d12,?d13,?d14,?d15,?d16,?d17,?d18,?d19,?d20,?d21,?d22,?d23,?d24,?d25,?d26,?d27,?d28,?d29,?d30,?d31,?d32,?d33,?d34,?d35,?d36,?d37,?d38,?d39,?d40,?d41,?d42,?d43,?d44,?UE,?d46,?d47,?d48⟩,?law⟩
  case n1|n2|n3|n4|n5|n6|n7|n8|n9|n10|n11|n12|n13|n14|y1|y2|y3|w1|w2|w3|md=>exact PySem.W.mg_none_of KX G (by k_is)
  case ymp|xa|xb|xc|xd=>exact⟨_,pI KX G (by k_is)⟩
  case yfo=>refine⟨_,pI KX G (by k_is),Mg.UD (by decide) (by symm) (by k_is) (.cons rfl (Mg.lB (by k_is) (by decide) (.cons ⟨_,rfl⟩ (.cons ⟨_,rfl⟩ .nil))) (.cons rfl (Mg.lB (by k_is) (by decide) (.cons ⟨_,rfl⟩ .nil)) (.cons rfl (Mg.lB (by k_is) (by decide) (.cons ⟨_,rfl⟩ (.cons ⟨_,rfl⟩ .nil))) (.cons rfl (Mg.lB (by k_is) (by decide) (.cons ⟨_,rfl⟩ (.cons ⟨_,rfl⟩ (.cons ⟨_,rfl⟩ .nil)))) (.cons rfl (Mg.lB (by k_is) (by decide) (.cons ⟨_,rfl⟩ (.cons ⟨_,rfl⟩ (.cons ⟨_,rfl⟩ .nil)))) (.cons rfl (Mg.lB (by k_is) (by decide) (.cons ⟨_,rfl⟩ (.cons ⟨_,rfl⟩ (.cons ⟨_,rfl⟩ (.cons ⟨_,rfl⟩ .nil))))) .nil))))))⟩
  case yru=>refine⟨_,pI KX G (by k_is),Mg.UD (by decide) (by symm) (by k_is) (.cons rfl (Mg.lB (by k_is) (by decide) .nil) (.cons rfl (Mg.lB (by k_is) (by decide) (.cons ⟨_,rfl⟩ .nil)) (.cons rfl (Mg.lB (by k_is) (by decide) (.cons ⟨_,rfl⟩ .nil)) (.cons rfl (Mg.lB (by k_is) (by decide) (.cons ⟨_,rfl⟩ (.cons ⟨_,rfl⟩ .nil))) (.cons rfl (Mg.lB (by k_is) (by decide) .nil) .nil)))))⟩
  case t0|t1|t2|t3|t4|t5|t6|t7|t8|t9|t10|t11|kdd|knd|kid|ksd|kld|ktd|WY|kil|ksl|knt|kit|kst=>kit_is
  case ypl=>refine' Mg.za7 KX G ?aC ?a1 ?i1 ?l ?c ?k ?pg ?hd ?po ?sa ?mk ?kc ?z1 ?z2 ?z3 ?z4 ?z5 ?z6 ?z7;(case aC|a1|i1|l|c|k|pg|hd|po|sa|mk|kc|z1|z2|z3|z4|z5|z6|z7=>k_is)
  case d0|d1|d2|d3|d4|d6|d7|d8|d9|d11|d15|d16|d18|d30|d31|d32|d40|d43|d44|d48|law=>refine' Mg.IQ KX G (λ_ _ _ _ _ _ us hl=>match us,hl with | [_],_=>rfl) ?a ?l ?c ?k;(case a|l|c|k=>k_is)
  case d10|d12|d13|d14|d17|d19|d20|d21|d22|d23|d24|d25|d26|d27|d28|d29|d33|d34|d35|d36|d39|d41|d42|UE|d46|d47=>refine' Mg.IQ KX G (λ_ _ _ _ _ _ us hl=>match us,hl with | [_,_],_=>rfl) ?a ?l ?c ?k;(case a|l|c|k=>k_is)
  case d5|d37|d38=>refine' Mg.IQ KX G (λ_ _ _ _ _ _ us hl=>match us,hl with | [_,_,_],_=>rfl) ?a ?l ?c ?k;(case a|l|c|k=>k_is)
