import PyProof.Rows.All
import Wide.All
import OpenK.AllK
import Wide.FinOn
import Lean
import PyProof.EqAt
import PyProof.EqKinds
import PyProof.TupleCall
import PyProof.Rows.SetFrom
import PyProof.TupleKey
import KE.KSortTup
import PyProof.ListRange
import PyProof.ConsumeS
import KE.KIntText
import PyProof.StrCalls2
import PyProof.StrOps2
import PyProof.SliceStr2
import PyProof.StrWalks
import PyProof.Rows.StrJoin2
import PyProof.ZipIter
import PyProof.TupleIter
import PyProof.ListMulRoad
import PyProof.WalksMore
import KE.KDictLaws
import KE.KDictList
import PyProof.IsiH_list
import PyProof.AttrMiss
import KE.KDictOf
import PyProof.StationsW
import PyProof.ExcInit
import PyProof.ExcClass2
import PyProof.ExcBaseAll.ValueError
import OpenK.KMake
import OpenK.KCls
import PyProof.Rows.FStr
import PyProof.LayNew
import PyProof.RulesAs
import PyProof.NsDelKeeps
import PyProof.ExcAttrAll.ValueError
import KE.KIsAll
import PyProof.CollectIter
import PyProof.TupleOfStr
import KE.KEqDict
import PyProof.DictWalks
import KE.KRevSl
import KE.KRevIter
import PyProof.Draws
import PyProof.EnumMake
import KE.KSortedL
import PySem.Challenge.RW_mergeline_k46_replayed
set_option Elab.async false
set_option linter.all false
set_option maxRecDepth 100000
set_option maxHeartbeats 4000000
open Array renaming getElem?_toList→nh,length_toList→cW,toList_append→Ju,toList_inj→yQ
open Bool renaming and_eq_true_iff→df,and_eq_true→nO,and_false→uK,eq_false_iff→eT,eq_iff_iff→e8,false_ne_true→ia,false_or→Ew,or_eq_true→Bj,or_true→GC,true_and→lr
open False renaming elim→h7
open ForInStep renaming yield→qS
open Int renaming emod_lt_of_pos→c6,emod_nonneg→cx,eq_ofNat_of_zero_le→mD,le_refl→vj,le_trans→sE,toNat_natCast→fF,toNat_of_nonneg→v8
open Int.ofNat renaming inj→mL
open List renaming all_eq_true→fk,all_map→GB,any_cons→v7,any_eq_false→yd,any_eq_true→kJ,append_assoc→cw,append_nil→cA,drop_eq_nil_of_le→su,drop_succ_cons→vX,drop_zero→mJ,eq_nil_of_length_eq_zero→nU,ext_getElem?→gP,filterMap_append→jV,filterMap_cons_none→dS,filterMap_cons_some→cI,filterMap_cons→jf,filterMap_map→bX,filter_cons→gA,filter_eq_nil_iff→GF,find?_cons→c9,flatten_append→kX,flatten_cons→fx,flatten_eq_nil_iff→EG,foldl_append→eB,foldl_cons→lF,fst_mem_of_mem_zipIdx→kE,getD_eq_getElem?_getD→aG,getElem?_append_left→bN,getElem?_append_right→bM,getElem?_drop→lH,getElem?_eq_getElem→ao,getElem?_eq_none→eP,getElem?_eq_some_iff→aF,getElem?_inj→j7,getElem?_map→ax,getElem?_range→kW,getElem?_replicate→dZ,getElem?_set_ne→aY,getElem?_set_self→a7,getElem?_take_of_lt→lb,getElem?_zipIdx→kD,getElem?_zip_eq_some→Dh,getElem_cons_drop→GH,getElem_map→kK,getElem_mem→cN,length_append→aR,length_cons→a8,length_drop→cX,length_filterMap_le→iQ,length_map→ae,length_nil→dP,length_pos_iff→jg,length_range→eS,length_replicate→du,length_set→oB,length_singleton→nz,length_take→a9,length_zip→jM,length→dX,lookup_cons→d_,lookup→lJ,map_append→aI,map_congr_left→dI,map_cons→av,map_drop→qU,map_id'→yf,map_map→aj,map_nil→iK,map_singleton→fL,map_take→wa,map→pC,mem_append_left→bH,mem_append_right→aZ,mem_append→aT,mem_cons_of_mem→ay,mem_cons_self→aJ,mem_cons→au,mem_filterMap→jF,mem_filter→jK,mem_flatMap→zm,mem_flatten→hG,mem_iff_getElem?→ub,mem_iff_getElem→eZ,mem_map→ai,mem_of_getElem?→aH,mem_of_mem_drop→fN,mem_of_mem_take→eK,mem_or_eq_of_mem_set→kO,mem_range→cG,mem_replicate→jG,mem_singleton→aK,nil_append→e9,nodup_append→bD,nodup_cons→aO,nodup_nil→gL,not_mem_nil→bu,of_mem_zip→lD,pairwise_flatten→uc,pairwise_iff_getElem→iD,perm_append_comm_assoc→Bx,perm_append_comm→nA,perm_middle→nP,range_succ→sD,range→cF,replicate_succ→fu,replicate→aW,reverse_cons→qo,set_comm→vZ,size_toArray→bC,take_add_one→bO,take_append_drop→fG,take_append_of_le_length→zL,take_length→cq,take_of_length_le→da,take_sublist→ye,toArray→bQ,zip_cons_cons→cg
open List.Pairwise renaming map→kN
open List.cons renaming inj→iy
open Nat renaming eq_zero_or_pos→xu,le_add_right→r6,le_of_lt→yM,le_of_not_lt→h8,le_refl→aP,le_succ→Bi,le_trans→bA,lt_of_lt_of_le→bV,lt_succ_of_lt→ku,lt_trans→sy,min_eq_left→iL,mul_le_mul→kG,ne_of_gt→gI,ne_of_lt→aX,sub_self→GU,succ_mul→GO,toDigits_of_lt_base→mE,toDigits→iN,zero_add→mQ,zero_le→bj
open Ne renaming symm→bF
open Option renaming isSome_map→xo,map_some→k0,toList_none→oZ,toList_some→Jt
open Option.some renaming injEq→h_,inj→cv
open Or renaming inl→mB
open PyProof.Rows renaming AllBare→vd,IntsAre→Bs,assignInOrder_cons→jY,assignInOrder_nil→Bq,callWith_type1→jo,slot_tuple_getitem→lq
open PyProof.Rows.F renaming entry_set_update_loop→Jr
open PyProof.Rows.IsTup renaming new→uJ
open PySem renaming Addr→U,Around→jm,Builtin→vi,DictEntry→Dd,Expr→bY,FuncData→fW,GenState→Bn,Heap→dF,IsPair→GQ,IsPart→C_,NameKind→o7,Paired→oH,Params→GP,PassesOwn→C7,Program→bU,PyData→J,Result→GN,Scope→o6,Shared→aU,Spec→ft,Stmt→jT,Str→O,Value→M,Within→ED,World→c0,boot_len→o8,call_meetsIn→Bt,call_meets→jq,codeAny_builtin→mI,codeAny_mono→qm,length_partsBetween→yO,mem_of_lookup→je,plainId_quiet→zk,sizeLine_eq→dD,tupleKind_room_in1→mO,typeIs_str→vh,wpAny_Call_Name_kw→mN,wpAny_bindName→qX,wpAny_bind→aA,wpAny_callSpecial?_slot→jI,wpAny_call_entry→lE,wpAny_execs_nil→EE,wpAny_field→fX,wpAny_holding→mF,wpAny_ite_false→mK,wpAny_loadPart'→eQ,wpAny_mono→iE,wpAny_newObj_type→gv,wpAny_onRaise→zl,wpAny_passesOwn→pU,wpAny_pure→bf,wpAny_pyIter_list→nQ,wpAny_pyIter_tuple→zJ,wpAny_rule→vf,wpAny_seqItems→iF,wpAny_setField_rec→j0,wpAny_standAt→zj,wpAny_truthy_bool→gu,wpAny_updateSeq_pair→xx
open PySem.Around renaming under→Eu
open PySem.AutoSeq1 renaming idx_int→Js,sub_tuple_tuple→Bk
open PySem.Builtin.List renaming listFitsIndex→xq,listTooLong→kr
open PySem.Builtin.Slice renaming sliceAdjust→xn,slicePlaces→jL
open PySem.Builtin.SmallTypes renaming nextOf→jt
open PySem.Calls renaming Name_function_global→Bo,callWith_builtin→mG,evalArgs_plain→uB,spliced_cons→lC,spliced_nil→xt
open PySem.Code renaming isFrame→GA
open PySem.F renaming args_dict_get_3→BP,args_str_split_2→yP,args_tuple_add_2→Br,args_tuple_iterator_next_1→Dg,called_set→k5,entry_dict_get→De,entry_str_split→zK,entry_tuple_add→BO,entry_tuple_iterator_next→Ey,plainAttrs_dict→qp,plainAttrs_list→cK,plainAttrs_str→Df,slot_dict_clear→BQ,slot_dict_getitem→Bh,slot_dict_get→rZ,slot_dict_setdefault→yR,slot_list_append→fy,slot_list_extend→pW,slot_list_getattribute→lK,slot_str_split→Bu,slot_tuple_add→C9,slot_tuple_iterator_next→kM,slot_tuple_mul→Bw,slot_zip_next→uL,type_list_append→fz,type_list_extend→pX
open PySem.Heap renaming NewAttrErr→sC,SameBut→iJ,get?_push_of_some→aE,get?_push_size→bx,lt_size→aV,size_push→ic
open PySem.Heap.SameBut renaming update→Bv
open PySem.MeetsSeq renaming plain_index_loop→sA
open PySem.NameKind renaming cell→mP,free→eN
open PySem.Obj renaming mapSeq→Dc
open PySem.Paired renaming length→vb
open PySem.PassesOwn renaming never→bZ
open PySem.PyData renaming bool→iC,canLay0→cj,canLayAll0→pV,eqv→cV,int→dq,list→lG,str→aN,tuple→fH
open PySem.SeqAt renaming eqv_refl→o9,readOf→xA
open PySem.Str renaming empty→fZ,join→dA,length_append→cC
open PySem.StrLaws renaming found_one→v9,join_split→oI,occ_length_le→Ex,sliceText_from→Di,sliceText_to→EF,split_free→vk
open PySem.Txt renaming slice_le→GR,slice→nR,split→cU
open PySem.Value renaming isStrOf→vW,none→rX,ref→dY,type→rY
open PySem.W renaming Frag→aq,callWith_K→vg,cellsFrom_some→C8,codeIn→jZ,emptyDict→ix,findIn→bR,fnOf→gy,hasDictIn→lI,instObj→iq,isFn→nZ,kdl_dict→xB,keepIn→fw,kia_one→jz,kitOne→dz,lookIn→sx,makesIn→rS,mg_of→ni,nsIn→Dj,plainGet_of→uA,plainGet→kx,plainOver→pB,takerIn→yN
open Sum renaming inl→iM,inr→aL
open Sum.inl renaming inj→EC
open Sum.inr renaming inj→jh
open True renaming intro→fY
def qQ0:=@decide_eq_false
def qQ1:=@decide_eq_true
def qQ2:=@if_neg
def qQ3:=@if_pos
def qQ4:=@of_decide_eq_true
def qQ5:=@of_decide_eq_false
def qQ6:=@congrArg
def qQ7:=@absurd
local macro_rules|`(tactic|symm)=>`(tactic|decide +kernel)
local macro_rules|`(tactic|left)=>`(tactic|first|exact Or.inl rfl|exact Or.inr rfl|exact Or.inr (Or.inl rfl)|exact Or.inr (Or.inr rfl)|assumption)
local macro_rules|`(tactic|ext)=>`(tactic|(intro _ _ h;(repeat obtain⟨_,h⟩:=h);subst_vars;rfl))
local macro_rules|`(tactic|ac_rfl)=>`(tactic|exact⟨rfl,by first|exact Or.inl rfl|exact Or.inr (Or.inl rfl)|exact Or.inr (Or.inr rfl),by decide,by decide⟩)
local macro_rules|`(tactic|grind)=>`(tactic|exact⟨rfl,rfl,rfl,by decide +kernel,rfl,by decide +kernel,by decide +kernel⟩)
set_option autoImplicit true
set_option relaxedAutoImplicit true
set_option genSizeOf false
set_option genInjectivity false
set_option compiler.extract_closed false
noncomputable section
local macro_rules|`(#[$a])=>`(⟨$a⟩)|`(#[$a,$b,*])=>`(⟨$a,$b,*⟩)
theorem Y{α:Sort u}{a:α}:a=a:=rfl
local macro_rules|`(())=>`(by omega)
local macro_rules|`(tactic|omega)=>`(tactic|lia)
local macro_rules|`(∅)=>`(by simp)
local macro_rules|`(⋯)=>`(by decide)
local macro_rules|`(∎)=>`(by symm)
local macro_rules|`(↑$x)=>`(by simpa using $x)
open Lean Parser.Tactic in
def X5:Nat->Term->MacroM (TSyntax `rcasesPat)
 |0,_=>Macro.throwUnsupported
 |n+1,x=>match x with
  |`(#[$a,*])=>do `(rcasesPat|⟨$(<-a.getElems.mapM λy=>do `(rcasesPatLo|$(<-X5 n y):rcasesPat)),*⟩)
  |`(_)=>`(rcasesPat|_)
  |`($y:ident)=>`(rcasesPat|$y:ident)
  |_=>Macro.throwUnsupported
open Lean in
local macro_rules|`(tactic|let $d:letDecl)=>match d with
 |`(letDecl|$x:term:=$h)=>do `(tactic|obtain $(<-X5 9 x):rcasesPat:=$h)
 |_=>`(tactic|have $d:letDecl)
open Lean in
local macro_rules|`([$a,*]▸$b)=>do
  let r<-a.getElems.mapM λ(y:Term)=>match y with
   |`(<-$z)=>`(Parser.Tactic.rwRule|<-$(⟨z.raw[0]⟩):term)
   |_=>`(Parser.Tactic.rwRule|$y:term)
  `(by rw[$r,*];exact $b)
open Lean in
local macro_rules|`($n:scientific)=>`($(mkIdent `mR) $(quote n.getScientific.1) rfl)
open Lean in
local macro_rules(kind:=«term{_}»)|`({$a,*})=>do
 let r:Term<-a.getElems.foldrM (λx r=>`($(mkIdent `cR) $x $r)) (mkIdent `cO);return r
local macro_rules|`(!$a)=>`(List $a)
local macro_rules|`($a>>$b)=>`($a=some $b)
local macro_rules|`(def $i:declId $s:optDeclSig $v:declVal)=>`(noncomputable def $i $s:optDeclSig $v:declVal)
namespace L2
open PySem PySem.Spec PyProof.Rows
variable{C a it:U}{A:jm}{c e tg:bY}{fd:fW}{base h:dF}{g:Int->Int->Int}{pins:!(U×Obj)}{fp:!U}{outer:!Env}{es:!bY}{body:!jT}{N ps:!O}{us:!M}{Ma:Model}{k t':Nat}{o:Obj}{P:bU}{K:aq}{scope:o6}{pl:Sem Bool}{s s':aU}{kindOf:O->Option o7}{mA mg:O->Option M}{u:M}{E Q:M->aU->Prop}{f:M->M->Sem M}{w:c0}
abbrev Key:=Sum Int O
def BU:Key->M->Bool
 | .inl k,v=>M.isInt k v
 | .inr x,v=>vW x v
def zcq(w:c0):Key->Int
 | .inl k=>hashInt k
 | .inr x=>hashStr w x
theorem gY:∀{k:Key}{v:M},BU k v=true->(∃i t,k=iM i/\v=M.int i t)\/(∃x t,k=aL x/\v=M.str x t)
 | .inl i,v,h=>by let#[t,e]:=M.isInt_shape h;exact .inl #[i,t,Y,e]
 | .inr x,v,h=>by let#[t,e]:=M.isStrOf_shape h;exact .inr #[x,t,Y,e]
theorem KC(i:Int)(t:Tok):BU (.inl i) (.int i t)=true:=by simp[BU,M.isInt]
theorem KD(x:O)(t:Tok):BU (.inr x) (.str x t)=true:=by simp[BU,vW]
theorem UX(a b:Int):decide ((iM a:Key)=iM b)=(a==b):=by
 by_cases e:a=b
 .subst e;simp
 .let h:¬(iM a:Key)=iM b:=λq=>e (EC q);rw[qQ0 h];exact(beq_eq_false_iff_ne.mpr e).symm
theorem UY(a b:O):decide ((aL a:Key)=aL b)=decide (a=b):=by
 by_cases e:a=b
 .simp
 .let h:¬(aL a:Key)=aL b:=λq=>e (jh q);rw[qQ0 h,qQ0 e]
theorem UZ(a:Int)(b:O):decide ((iM a:Key)=aL b)=false:=qQ0 (λq=>nomatch q)
theorem U0(a:O)(b:Int):decide ((aL a:Key)=iM b)=false:=qQ0 (λq=>nomatch q)
def eU(prog:bU)(w:c0):PySem.KeyKind prog w Key where
 is:=BU
 hash:=zcq w
 inj:=λv a b ha hb=>by
  rcases gY ha with⟨i,t,rfl,rfl⟩|⟨x,t,rfl,rfl⟩
  ·rcases gY hb with⟨j,u,rfl,e⟩|⟨y,u,rfl,e⟩
   ·injection e with e1 _;rw[e1]
   ·exact nomatch e
  ·rcases gY hb with⟨j,u,rfl,e⟩|⟨y,u,rfl,e⟩
   ·exact nomatch e
   ·injection e with e1 _;rw[e1]
 byValue:=λk v h=>by
  rcases gY h with⟨i,t,rfl,rfl⟩|⟨x,t,rfl,rfl⟩<;>rfl
 pyHash:=λhv h=>by
  rcases gY hv with⟨i,t,rfl,rfl⟩|⟨x,t,rfl,rfl⟩
  ·exact wpAny_pyHash_int h
  ·exact wpAny_pyHash_str h
 eqBool:=λhu hv h=>by
  rcases gY hu with⟨i,t,rfl,rfl⟩|⟨x,t,rfl,rfl⟩
  ·rcases gY hv with⟨j,u,rfl,rfl⟩|⟨y,u,rfl,rfl⟩
   ·rw[UX]at h;exact wpAny_eqBool_int h
   ·rw[UZ]at h;exact SeqAt.EqAt.int_str i t y u _ _ _ _ h
  ·rcases gY hv with⟨j,u,rfl,rfl⟩|⟨y,u,rfl,rfl⟩
   ·rw[U0]at h;exact SeqAt.EqAt.str_int x t j u _ _ _ _ h
   ·rw[UY]at h;exact wpAny_eqBool_str h
 «strs»:=λk x t v h=>by
  rcases gY h with⟨i,u,rfl,e⟩|⟨y,u,rfl,e⟩
  ·exact nomatch e
  ·injection e with e1 _
   subst e1;cases v<;>rfl
theorem EH(prog:bU)(w:c0)(i:Int)(t:Tok):(eU prog w).is (.inl i) (.int i t)=true:=KC i t
theorem sF(prog:bU)(w:c0)(x:O)(t:Tok):(eU prog w).is (.inr x) (.str x t)=true:=KD x t
inductive V where
 |non|bl (b:Bool)|int (i:Int)|str (x:O)|Xt (b:Array UInt8)|flt (b:UInt64)|ref (a:U)|ty (n:String)
 deriving DecidableEq
variable{vs xs:!V}
def RelV:V->M->Prop
 | .non,u=>u=rX
 | .bl b,u=>u=M.bool b
 | .int i,u=>∃t,u=M.int i t
 | .str x,u=>∃t,u=M.str x t
 | .Xt b,u=>∃t,u=M.bytes b t
 | .flt b,u=>∃t,u=M.float b t
 | .ref a,u=>u=dY a
 | .ty n,u=>u=rY n
abbrev dJ:!V->!M->Prop:=oH RelV
theorem dJ.length(r:dJ xs us):xs.length=us.length:=vb r
theorem dJ.get:∀{xs:!V}{us:!M}{i:Nat}{x:V},dJ xs us->xs[i]?>>x->∃u,us[i]?>>u/\RelV x u
 |_,_,_,_,.nil,e=>by simp at e
 |_,_,0,_,.cons r _,e=>by simp at e;subst e;exact#[_,Y,r]
 |_,_,i+1,x,.cons _ t,e=>by let#[u,h1,h2]:=dJ.get t ↑e;exact#[u,by simpa using h1,h2]
theorem dJ.append:∀{xs ys:!V}{us ws:!M},dJ xs us->dJ ys ws->dJ (xs++ys) (us++ws)
 |_,_,_,_,.nil,s=>s
 |_,_,_,_,.cons r t,s=>.cons r (dJ.append t s)
theorem dJ.take:∀{xs:!V}{us:!M}(n:Nat),dJ xs us->dJ (xs.take n) (us.take n)
 |_,_,0,_=>.nil
 |_,_,_+1,.nil=>.nil
 |_,_,n+1,.cons r t=>.cons r (dJ.take n t)
theorem dJ.drop:∀{xs:!V}{us:!M}(n:Nat),dJ xs us->dJ (xs.drop n) (us.drop n)
 |_,_,0,r=>r
 |_,_,_+1,.nil=>.nil
 |_,_,n+1,.cons _ t=>dJ.drop n t
def r9:Option V->Option M->Prop
 |some v,some u=>RelV v u
 |none,none=>True
 |_,_=>False
def KV{κ:Type}:!(κ×V)->!(κ×M)->Prop:=oH λ(p:κ×V)(q:κ×M)=>p.1=q.1/\RelV p.2 q.2
def kV:Key->V
 | .inl i=>.int i
 | .inr x=>.str x
inductive HO where
 |lst (xs:!V)
 |tup (xs:!V)
 |dK (kvs:!(Key×V))|dT (kvs:!(!Key×V))
 |set (S:Int->Bool) (n:Nat)
 |ins (C dx:U) (fs:!(O×V))
 |own (x:U)
 |xd (fs:!(O×V))
 |met (f x:U)
 |rng (lo hi:Int)
 |oJ (o:Obj) (u:HO)
 |U1 (ps:Array M)
 |ext (φ:dF->Prop)
abbrev Hp:=U->Option HO
variable{H:Hp}
def upd(H:Hp)(a:U)(o:HO):Hp:=λb=>if b=a then some o else H b
theorem aM{o:HO}:upd H a o a>>o:=by unfold upd;rw[qQ3 Y]
theorem L{b: U}{o:HO}(h:b≠a):upd H a o b=H b:=by unfold upd;rw[qQ2 h]
theorem X6{b: U}{o u:HO}(h:H a>>o)(h':H b>>u)(d:o≠u):a≠b:=by intro e;subst e;rw[h]at h';exact d (cv h')
theorem bq{b: U}{o:HO}(h:H a>>o)(h':H b=none):a≠b:=by intro e;subst e;rw[h]at h';cases h'
section
variable(P:bU)(w:c0)
def iX(H:Hp)(h:dF)(a:U):HO->Prop
 | .lst xs=>xs.length<=sizeLine/\∃(its:!M)(n:Nat),dJ xs its/\h.get? a=some { cls:=.type "list",data:=.seq its.toArray n }
 | .tup xs=>xs.length<=sizeLine/\∃its:!M,dJ xs its/\IsTup h a its.toArray
 | .dK kvs=>kvs.length<=sizeLine/\(a==sysModules)=false/\∃vs,KV kvs vs/\h.DictOf (eU P w) a vs
 | .dT kvs=>kvs.length<=sizeLine/\(a==sysModules)=false/\∃xs:!(!Key×U×M),
   oH (λ(p:!Key×V)(q:!Key×U×M)=>p.1=q.1/\H q.2.1>>(.tup (p.1.map kV))/\RelV p.2 q.2.2) kvs xs/\
   ∃o es ep,h.get? a>>o/\o.ExactDict/\o.data=.dict es ep/\es.toList=xs.map (entryOfKey (tupleKind (eU P w)))/\(xs.map (·.1)).Nodup
 | .set S n=>h.SetOf (intKind P w) a S n
 | .ins C dx fs=>H dx>>(.own a)/\fs.length<=1000/\dx≠a/\h.get? a>>(iq C dx)/\
   ∃mA,h.Ns1 dx mA/\(∀f,r9 (fs.lookup f) (mA f))/\ED mA (fs.map (·.1))
 | .own _=>∃o,h.get? a>>o
 | .xd fs=>∃mA,h.Ns1 a mA/\∀f,r9 (fs.lookup f) (mA f)
 | .rng lo hi=>∃t u v,h.get? a=some { cls:=.type "range",data:=.fields (bQ [.int lo t,.int hi u,.int 1 v]) }
 | .oJ o u=>h.get? a>>o/\iX H h a u
 | .U1 ps=>h.get? a=some { cls:=.none,data:=.fields ps }
 | .met f x=>h.get? a>>(PySem.W.methodObj (.ref f) (.ref x))
 | .ext φ=>φ h/\(∃o,h.get? a>>o)/\∀h1 h2:dF,φ h1->(∀o,h1.get? a>>o->h2.get? a>>o)->φ h2
def vm(H:Hp)(h:dF):Prop:=∀a o,H a>>o->iX P w H h a o
end
section
variable{P:bU}{w:c0}{H H':Hp}{h h':dF}{a:U}{o:HO}
theorem iX.lt(x:iX P w H h a o):a<h.objs.size:=by
 cases o with
 |lst xs=>let#[_,_,_,_,e]:=x;exact aV e
 |tup xs=>let#[_,_,_,p]:=x;exact p.lt
 |dK kvs=>let#[_,_,_,_,o,_,_,e,_]:=x;exact aV e
 |dT kvs=>let#[_,_,_,_,o,_,_,e,_]:=x;exact aV e
 |set S n=>let#[o,_,_,_,e,_]:=x;exact aV e
 |ins C dx fs=>let#[_,_,_,e,_]:=x;exact aV e
 |own y=>let#[_,e]:=x;exact aV e
 |xd fs=>let#[_,#[_,_,_,e,_],_]:=x;exact aV e
 |rng lo hi=>let#[_,_,_,e]:=x;exact aV e
 |oJ ob u=>let#[e,_]:=x;exact aV e
 |U1 ps=>exact aV x
 |met f y=>exact aV x
 |ext φ=>let#[_,#[_,e],_]:=x;exact aV e
theorem oH.MQ{α β:Type}{F G:α->β->Prop}:∀{l₁:!α}{l₂:!β},oH F l₁ l₂->(∀a b,F a b->G a b)->oH G l₁ l₂
 |_,_,.nil,_=>.nil
 |_,_,.cons r t,f=>.cons (f _ _ r) (oH.MQ t f)
theorem iX.stay(x:iX P w H h a o)(k:∀b u,(b=a\/H b>>(.own a))->h.get? b>>u->h'.get? b>>u)
  (ho:∀b,H b>>(.own a)->H' b>>(.own a))(ht:∀b xs,H b>>(.tup xs)->H' b>>(.tup xs)):iX P w H' h' a o:=by
 induction o with
 |lst xs=>let#[z,its,n,r,e]:=x;exact#[z,its,n,r,k _ _ (.inl Y) e]
 |tup xs=>let#[z,its,r,ob,e,c]:=x;exact#[z,its,r,ob,k _ _ (.inl Y) e,c]
 |dK kvs=>let#[z,y,vs,r,ob,es,ep,e,c]:=x;exact#[z,y,vs,r,ob,es,ep,k _ _ (.inl Y) e,c]
 |dT kvs=>let#[z,y,xs,r,ob,es,ep,e,c]:=x;exact#[z,y,xs,oH.MQ r λp q z=>#[z.1,ht _ _ z.2.1,z.2.2],ob,es,ep,k _ _ (.inl Y) e,c]
 |set S n=>let#[ob,es,ep,t,e,c]:=x;exact#[ob,es,ep,t,k _ _ (.inl Y) e,c]
 |ins C dx fs=>let#[d,z,ne,e,mA,#[od,es,ep,e2,c],r]:=x;exact#[ho _ d,z,ne,k _ _ (.inl Y) e,mA,#[od,es,ep,k _ _ (.inr d) e2,c],r]
 |own y=>let#[ob,e]:=x;exact#[ob,k _ _ (.inl Y) e]
 |xd fs=>let#[mA,#[od,es,ep,e,c],r]:=x;exact#[mA,#[od,es,ep,k _ _ (.inl Y) e,c],r]
 |rng lo hi=>let#[t,u,v,e]:=x;exact#[t,u,v,k _ _ (.inl Y) e]
 |oJ ob u ih=>let#[e,q]:=x;exact#[k _ _ (.inl Y) e,ih q]
 |U1 ps=>let e:=x;exact k a _ (.inl Y) e
 |met f y=>let e:=x;exact k a _ (.inl Y) e
 |ext φ=>let#[p,#[o,e],st]:=x;exact#[st _ _ p λo q=>k _ _ (.inl Y) q,#[o,k _ _ (.inl Y) e],st]
theorem vm.lt(x:vm P w H h)(e:H a>>o):a<h.objs.size:=(x a o e).lt
theorem vm.fresh(x:vm P w H h)(e:h.objs.size<=a):H a=none:=by
 cases q:H a with
 |none=>rfl
 |some u=>exact qQ7 (bV (x.lt q) e) ()
theorem vm.kept(x:vm P w H h)(k:∀b u,h.get? b>>u->h'.get? b>>u):vm P w H h':=λa o e=>(x a o e).stay (λb u _ q=>k b u q) (λ_ q=>q) λ_ _ q=>q
theorem vm.laid(x:vm P w H h)(k:∀b u,h.get? b>>u->h'.get? b>>u)(hp:h.objs.size<=a)(new:iX P w (upd H a o) h' a o):vm P w (upd H a o) h':=λb u e=>by
 let hn:=x.fresh hp;by_cases hb:b=a
 .subst hb;rw[aM]at e;cases e;exact new
 .rw[L hb]at e;exact(x b u e).stay (λc v _ q=>k c v q) (λc q=>[L (bq q hn)]▸q) λc xs q=>[L (bq q hn)]▸q
end
def Rd(H:Hp)(a:U)(u:HO):Prop:=H a>>u\/∃o,H a>>(.oJ o u)
theorem Rd.ok{u:HO}(r:Rd H a u)(x:vm P w H h):iX P w H h a u:=by
 rcases r with r|⟨o,r⟩
 .exact x a u r
 .let#[_,q]:=x a _ r;exact q
def X7:Option HO->Prop
 |some (.lst _)=>True
 |some (.dK _)=>True
 |some (.dT _)=>True
 |some (.set _ _)=>True
 |some (.ins _ _ _)=>True
 |some (.ext _)=>True
 |_=>False
section
variable{H:Hp}{x e:U}{o':HO}
theorem vm.write{h h':dF}{P:bU}{w:c0}(ok:vm P w H h)(mu:X7 (H x))(he:e=x\/H e>>(.own x))(k:∀b u,b≠e->h.get? b>>u->h'.get? b>>u)(S7:∃u,h'.get? e>>u)
  (new:iX P w (upd H x o') h' x o'):vm P w (upd H x o') h':=λb u q=>by
 let X8:∀c y,H c>>(.own y)->c≠x:=λc y r z=>by subst z;rw[r]at mu;exact mu
 by_cases hb:b=x
 .subst hb;rw[aM]at q;cases q;exact new
 .rw[L hb]at q;by_cases U2:b=e
  .let q':H b>>(.own x):=by
    rcases he with z|z
    .exact qQ7 (U2.trans z) hb
    .rwa[U2]
   rw[q]at q';cases q';let#[v,hv]:=S7;exact#[v,[U2]▸hv]
  .refine(ok b u q).stay (λc v hc r=>k c v ?_ r) (λc r=>[L (X8 c b r)]▸r) λc xs r=>by rw[L ((λc xs r z=>by subst z;rw[r]at mu;exact mu) c xs r)];exact r
   rcases hc with rfl|hc
   .exact U2
   .rintro rfl;rcases he with z|z
    .exact X8 c b hc z
    .rw[hc]at z;cases z;exact hb Y
end
structure Un(fs ex:!U)(H H':Hp)(h h':dF):Prop where
 keep:∀b o,h.get? b>>o->H b=none->b∉fs->b∉ex->h'.get? b>>o
 slot:∀b o,h.get? b>>o->H b=none->b∈fs->b∉ex->∃sl,h'.get? b=some { o with slots:=sl }
 free:∀b o,h.get? b>>o->H b=none->b∉ex->H' b=none
 there:∀b o,h.get? b>>o->b∉ex->∃o',h'.get? b>>o'
 tups:∀b xs,H b>>(.tup xs)->H' b>>(.tup xs)
 xC:∀b o u,H b>>(.oJ o u)->H' b>>(.oJ o u)
 zM:∀b ps,H b>>(.U1 ps)->∃more,H' b>>(.U1 (ps++more))
section
variable{fs ex:!U}{H:Hp}{h h':dF}{a x e:U}{o:HO}
theorem Un.any(u:Un fs ex H H1 h h1)(q:h.get? b>>ob)(n:H b=none)(hx:b∉ex):∃sl,h1.get? b=some { ob with slots:=sl }:=by
 by_cases hb:b∈fs
 .exact u.slot b ob q n hb hx
 .exact#[ob.slots,u.keep b ob q n hb hx]
theorem Un.kept(k:∀b u,h.get? b>>u->h'.get? b>>u):Un fs ex H H h h':=
 #[λb ob q _ _ _=>k b ob q,λb ob q _ _ _=>#[ob.slots,k b ob q],λ_ _ _ n _=>n,λb ob q _=>#[ob,k b ob q],λ_ _ q=>q,λ_ _ _ q=>q,λ_ ps q=>#[#[],by rw[q];simp]]
theorem Un.refl:Un fs ex H H h h:=Un.kept λ_ _ q=>q
theorem Un.laid(k:∀b u,h.get? b>>u->h'.get? b>>u)(hp:h.objs.size<=a)(hn:H a=none):Un fs ex H (upd H a o) h h' where
 keep:=λb u q _ _ _=>k b u q
 slot:=λb u q _ _ _=>#[u.slots,k b u q]
 free:=λb u q n _=>[L (aX (bV (aV q) hp))]▸n
 there:=λb u q _=>#[u,k b u q]
 tups:=λb xs q=>[L (bq q hn)]▸q
 xC:=λb u xs q=>[L (bq q hn)]▸q
 zM:=λb ps q=>#[#[],by rw[L (bq q hn),q];simp]
theorem Un.write(mu:X7 (H x))(he:e=x\/H e>>(.own x))(k:∀b u,b≠e->h.get? b>>u->h'.get? b>>u)(S7:∃u,h'.get? e>>u):Un fs ex H (upd H x o) h h':=by
 let hx:∀b,H b=none->b≠x:=λb n z=>by subst z;rw[n]at mu;exact mu
 let hb:∀b,H b=none->b≠e:=λb n z=>by
  subst z;rcases he with r|r
  .exact hx b n r
  .rw[n]at r;cases r
 let hm:∀b u,H b>>u->¬X7 (some u)->b≠x:=λb u q nm z=>by subst z;rw[q]at mu;exact nm mu
 refine#[λb u q n _ _=>k b u (hb b n) q,λb u q n _ _=>#[u.slots,k b u (hb b n) q],λb u q n _=>[L (hx b n)]▸n,λb u q _=>?_,
  λb xs q=>[L (hm b _ q λz=>z)]▸q,λb u xs q=>[L (hm b _ q λz=>z)]▸q,λb ps q=>#[#[],by rw[L (hm b _ q λz=>z),q];simp]];by_cases U2:b=e
 .subst U2;exact S7
 .exact#[u,k b u U2 q]
end
def trk(h:dF)(H:Hp):!U:=(cF h.objs.size).filter λa=>(H a).isSome
def KG(h:dF)(H:Hp):dF:=PySem.W.hideAll h (trk h H)
theorem KH(h:dF)(H:Hp):(KG h H).objs.size=h.objs.size:=PySem.W.hideAll_size _ _
theorem MR(e:h.get? b>>o)(n:H b=none):(KG h H).get? b>>o:=
 PySem.W.hideAll_get _ e λhm=>by let q:=(jK.mp hm).2;rw[n]at q;simp at q
theorem Qo(e:(KG h H).get? b>>o):h.get? b>>o/\H b=none:=by
 let e':=PySem.W.of_hideAll _ e;refine#[e',?_];cases q:H b with
 |none=>rfl
 |some x=>let z:(KG h H).get? b=none:=PySem.W.hideAll_none _ (jK.mpr #[cG.mpr (aV e'),by simp[q]]);rw[z]at e;cases e
structure Mod(K:aq)(mg:O->Option M)(base:dF):Prop where
 U3:K.In base
 glob:base.Ns mainGlobals mg
 blt:∃mb,base.Ns builtinsNs mb/\∀x:O,x≠"__name__"->mb x=bootBuiltins x
 nolimit:base.NoLimit
structure Cx where
 prog:bU
 w:c0
 K:aq
 mg:O->Option M
 base:dF
 A:jm
 N:!O
 s₀:aU
 H₀:Hp
 env:Env
 outer:!Env
 stack:!Env
 ex:!U
 fn:O->Bool
 calm:Bool
 pn:!(U×Obj)
 xe:M->aU->Prop
variable{X:Cx}
def Mx(l:!Env):!U:=l.filterMap (·.frame)
abbrev Cx.fs(X:Cx):!U:=Mx X.outer
def Vis(sc:o6)(x:O):Prop:=sc.names.lookup x>>.local\/sc.names.lookup x>>.cell\/sc.names.lookup x>>.free
def Loc(sc:o6)(x:O):Prop:=sc.names.lookup x>>.local\/sc.names.lookup x>>.cell
def Look(env:Env)(h:dF)(m:O->Option M)(x:O)(u:M):Prop:=
 (env.kindOf x>>.local/\m x>>u)\/((env.kindOf x>>.cell\/env.kindOf x>>.free)/\∃c,env.cells.lookup x>>c/\h.IsCell c (some u))
abbrev xr(x:O):Prop:=(x==("__debug__":O))=false
abbrev NCd(x:O):Prop:=(x==("__classdict__":O))=false
abbrev j8(X:Cx)(e:bY)(es:!bY):Prop:=starEach (e::es) X.env=(false,eval e X.env)::starEach es X.env
abbrev qg(X:Cx)(p:Pos)(es:!bY):Prop:=(backTo p (starEach es X.env)).any (·.1)=false
abbrev GV(X:Cx)(p:Pos)(es:!bY):Prop:=((backTo p (starEach es X.env)).all (λx=>not x.1)&&(backToKw p (keywordEach [] X.env)).all (λx=>x.1.isSome)&&decide (es.length+([]:!Keyword).length+(if([]:!Keyword).isEmpty then 0 else 1)<30))=true
abbrev Dl(X:Cx)(x:O):Prop:=X.fn x=true\/X.env.scope.names.lookup x>>.local
abbrev My(X:Cx)(e:bY):Prop:=∀x,foldedSetIterable e X.env x=pure x
abbrev vn(X:Cx)(o:bY)(x:O):Prop:=attributeBase o x X.env (eval o X.env)=eval o X.env
abbrev S8(X:Cx)(p:Pos)(e:bY):Prop:=swapsWith e none p.line X.env=pure false
abbrev zN(X:Cx)(p:Pos)(e t:bY):Prop:=swapsWith e (some t) p.line X.env=pure false
def rT(X:Cx)(i:Nat)(x:O):Prop:=X.N[i]?>>x/\Vis X.env.scope x/\xr x/\NCd x
structure Cx.Ok(X:Cx):Prop where
 mod:Mod X.K X.mg X.base
 kind:X.env.scope.kind=.function
 glob:X.env.globals=mainGlobals
 blt:X.env.builtins=builtinsNs
 above:X.s₀.heap.objs.size<=X.env.locals
 inj:∀x y c,X.env.cells.lookup x>>c->X.env.cells.lookup y>>c->x=y
 has:∀x,(X.env.kindOf x>>.cell\/X.env.kindOf x>>.free)->∃c,X.env.cells.lookup x>>c
 cab:∀x c,X.fn x=true->X.env.cells.lookup x>>c->X.s₀.heap.objs.size<=c
 hd:X.calm=true->X.A.handled=none
 frames:X.A.frames>>X.stack
 stk:X.stack=X.outer\/(X.stack=X.env::X.outer/\X.env.frame>>X.env.locals)
 exf:∀b∈X.ex,b≠X.env.locals/\∀x c,X.env.cells.lookup x>>c->c≠b
 bs:∀b o,X.base.get? b>>o->X.s₀.heap.get? b>>o/\X.H₀ b=none
 S9:X.base.objs.size<=X.s₀.heap.objs.size
 MS:∀b o,X.base.get? b>>o->b∉X.ex
 Qp:∀b∈X.ex,b∉X.fs
 yS:X.s₀.heap.FunFrames X.base X.outer
 U4:∀b∈X.fs,X.H₀ b=none
structure Inv(X:Cx)(pins:!(U×Obj))(σ:!(Option V))(H:Hp)(s:aU):Prop where
 ok:X.Ok
 os:s.os=X.s₀.os
 bare:vd s.gens
 base:Un X.fs X.ex X.H₀ H X.s₀.heap s.heap
 loc:∃m,s.heap.Ns X.env.locals m/\∀(i:Nat)(x:O)(v:V),X.N[i]?>>x->σ[i]?>>(some v)->Vis X.env.scope x->∃u,RelV v u/\Look X.env s.heap m x u
 cell:∀x c,X.env.cells.lookup x>>c->∃v,s.heap.IsCell c v
 free:H X.env.locals=none
 qu:∀x c,X.env.cells.lookup x>>c->H c=none
 pin:∀p∈X.pn++pins,s.heap.get? p.1>>p.2/\H p.1=none/\p.1≠X.env.locals/\p.1∉X.fs/\∀v,p.2.data≠.cell v
 hok:vm X.prog X.w H s.heap
 len:σ.length=X.N.length
section
variable{X:Cx}{pins:!(U×Obj)}{σ:!(Option V)}{H H':Hp}{s:aU}{h':dF}
theorem Cx.Ok.zcs(ok:X.Ok)(e:X.base.get? b>>o):b∉X.fs:=λhb=>by let:=(ok.yS.mem hb).1;rw[e]at this;cases this
theorem Inv.bs(I:Inv X pins σ H s):∀b o,X.base.get? b>>o->s.heap.get? b>>o/\H b=none:=λb o e=>#[I.base.keep b o (I.ok.bs b o e).1 (I.ok.bs b o e).2 (I.ok.zcs e) (I.ok.MS b o e),I.base.free b o (I.ok.bs b o e).1 (I.ok.bs b o e).2 (I.ok.MS b o e)]
theorem Inv.bk(I:Inv X pins σ H s):∀b o,X.base.get? b>>o->s.heap.get? b>>o:=λb o e=>(I.bs b o e).1
theorem Inv.mod(I:Inv X pins σ H s):Mod X.K X.mg X.base:=I.ok.mod
theorem Inv.zO(I:Inv X pins σ H s):X.K.In s.heap:=I.ok.mod.U3.keeps I.bk
theorem Inv.lt(I:Inv X pins σ H s):X.env.locals<s.heap.objs.size:=let#[_,hn,_]:=I.loc;hn.lt
theorem Inv.sz(I:Inv X pins σ H s):X.s₀.heap.objs.size<=s.heap.objs.size:=bA I.ok.above (yM I.lt)
theorem Inv.zct(I:Inv X pins σ H s)(h:s.heap.objs.size<=a):a∉X.fs:=λhb=>by let#[_,o,ho,_]:=I.ok.yS.mem hb;exact qQ7 (bV (aV ho) (bA I.sz h)) ()
theorem Inv.U5(I:Inv X pins σ H s):∀x c,X.env.cells.lookup x>>c->c≠X.env.locals:=λx c e z=>by let#[v,o,ho,hd]:=I.cell x c e;let#[m,#[o',es,ep,Bz,X9,_],_]:=I.loc;rw[z,Bz]at ho;cases ho;rw[X9]at hd;cases hd
theorem Inv.yS(I:Inv X pins σ H s):s.heap.FunFrames X.base X.outer:=by
 let all:∀(l:!Env),(∀b∈Mx l,b∈X.fs)->X.s₀.heap.FunFrames X.base l->s.heap.FunFrames X.base l:=by
  intro l;induction l with
  |nil=>intro _ _;trivial
  |cons env r ih=>intro hs hl;let#[hk,#[La,o,hf,hn,ho,hd],hr]:=hl;let hL:=hs La (by unfold Mx;rw[jf,hf];exact aJ);let#[sl,e]:=I.base.slot La o ho (I.ok.U4 La hL) hL λz=>I.ok.Qp La z hL;exact#[hk,#[La,_,hf,hn,e,hd],ih (λb hb=>hs b (by unfold Mx;rw[jf,hf];exact ay _ hb)) hr]
 exact all X.outer (λ_ hb=>hb) I.ok.yS
theorem Inv.stack(I:Inv X pins σ H s):s.heap.FunFrames X.base X.stack:=by
 rcases I.ok.stk with e|⟨e,hf⟩
 .rw[e];exact I.yS
 .rw[e];let#[m,hn,_]:=I.loc;exact .cons (by rw[I.ok.kind];decide) hf hn (dF.get?_none_of_le (bA I.ok.S9 I.ok.above)) I.yS
theorem Inv.Dm(I:Inv X pins σ H s):∀b∈Mx X.stack,b∈X.env.locals::X.fs:=λb hb=>by
 rcases I.ok.stk with e|⟨e,hf⟩
 .rw[e]at hb;exact ay _ hb
 .rw[e]at hb;unfold Mx at hb;rwa[jf,hf]at hb
theorem Inv.Jv(I:Inv X pins σ H s):∀b∈Mx X.stack,H b=none:=λb hb=>by
 rcases au.mp (I.Dm b hb)with e|hb
 .rw[e];exact I.free
 .let#[_,o,ho,_]:=I.ok.yS.mem hb;exact I.base.free b o ho (I.ok.U4 b hb) λz=>I.ok.Qp b z hb
theorem Inv.step{g':Array Bn}{d':Drawn}{ch:!U}(I:Inv X pins σ H s)
  (Mz:∀b∈ch,(b∈X.ex\/X.s₀.heap.objs.size<=b)/\b≠X.env.locals/\(∀x c,X.env.cells.lookup x>>c->c≠b)/\∀p∈X.pn++pins,p.1≠b)
  (keep:∀b o,b≠X.env.locals->b∉X.fs->b∉ch->s.heap.get? b>>o->H b=none->h'.get? b>>o)
  (slot:∀b o,b≠X.env.locals->b∈X.fs->b∉ch->s.heap.get? b>>o->H b=none->∃sl,h'.get? b=some { o with slots:=sl })(free:∀b o,b∉ch->s.heap.get? b>>o->H b=none->H' b=none)
  (there:∀b o,b∉ch->s.heap.get? b>>o->∃o',h'.get? b>>o')
  (tups:∀b xs,H b>>(.tup xs)->H' b>>(.tup xs))(xC:∀b o u,H b>>(.oJ o u)->H' b>>(.oJ o u))(zM:∀b ps,H b>>(.U1 ps)->∃more,H' b>>(.U1 (ps++more)))
  (ns:∀m,s.heap.Ns X.env.locals m->h'.Ns X.env.locals m)(hok:vm X.prog X.w H' h')(hg:vd g'):
  Inv X pins σ H' { s with heap:=h',gens:=g',drawn:=d',toks:=t' }:=by
 let neL:∀b o,X.s₀.heap.get? b>>o->b≠X.env.locals:=λb o e=>aX (bV (aV e) I.ok.above);let Xu:∀b o,X.s₀.heap.get? b>>o->b∉X.ex->b∉ch:=λb o e hx hb=>by
  rcases(Mz b hb).1 with z|z
  .exact hx z
  .exact qQ7 (bV (aV e) z) ()
 let cellK:∀x c,X.env.cells.lookup x>>c->∀v,s.heap.IsCell c v->h'.IsCell c v:=λx c e v #[o,ho,hd]=>by
  let X_:=λz=>(Mz c z).2.2.1 x c e Y;by_cases hc:c∈X.fs
  .let#[sl,q]:=slot c o (I.U5 x c e) hc X_ ho (I.qu x c e);exact#[_,q,hd]
  .exact#[o,keep c o (I.U5 x c e) hc X_ ho (I.qu x c e),hd]
 refine#[I.ok,I.os,hg,#[λb o e n hb hx=>?_,λb o e n hb hx=>?_,λb o e n hx=>?_,λb o e hx=>?_,λb xs e=>tups b xs (I.base.tups b xs e),λb o xs e=>xC b o xs (I.base.xC b o xs e),λb ps e=>?_],?_,λx c e=>?_,?_,λx c e=>?_,λp hp=>?_,hok,I.len]
 .exact keep b o (neL b o e) hb (Xu b o e hx) (I.base.keep b o e n hb hx) (I.base.free b o e n hx)
 .let#[sl,e1]:=I.base.slot b o e n hb hx;let#[X',e2]:=slot b _ (neL b o e) hb (Xu b o e hx) e1 (I.base.free b o e n hx);exact#[X',e2]
 .let#[o',e1]:=I.base.there b o e hx;exact free b o' (Xu b o e hx) e1 (I.base.free b o e n hx)
 .let#[o',e1]:=I.base.there b o e hx;exact there b o' (Xu b o e hx) e1
 .let#[m1,e1]:=I.base.zM b ps e;let#[m2,e2]:=zM b _ e1;exact#[_,by rw[e2,Array.append_assoc]]
 .let#[m,hn,hl]:=I.loc;refine#[m,ns m hn,λi x v e1 e2 e3=>?_];let#[u,r,l]:=hl i x v e1 e2 e3;refine#[u,r,?_];rcases l with l|⟨k,c,e,z⟩
  .exact .inl l
  .exact .inr #[k,c,e,cellK x c e _ z]
 .let#[v,z]:=I.cell x c e;exact#[v,cellK x c e v z]
 .let#[m,#[o,_,_,ho,_],_]:=I.loc;exact free _ o (λz=>(Mz _ z).2.1 Y) ho I.free
 .let#[v,o,ho,hd]:=I.cell x c e;exact free c o (λz=>(Mz c z).2.2.1 x c e Y) ho (I.qu x c e)
 .let#[e,n,ne,nf,d]:=I.pin p hp;let X_:=λz=>(Mz p.1 z).2.2.2 p hp Y;exact#[keep p.1 p.2 ne nf X_ e n,free p.1 p.2 X_ e n,ne,nf,d]
theorem Inv.un(I:Inv X pins σ H s)(u:Un X.fs [] H H' s.heap h')(hok:vm X.prog X.w H' h'):Inv X pins σ H' { s with heap:=h',toks:=t' }:=by
 let#[m,#[o,es,ep,ho,r],_]:=id I.loc;let#[sl,hL]:=u.any ho I.free ∅;exact I.step (ch:=[]) (λ_ z=>nomatch z) (λb o _ hb _ e n=>u.keep b o e n hb ∅) (λb o _ hb _ e n=>u.slot b o e n hb ∅) (λb o _ e n=>u.free b o e n ∅) (λb o _ e=>u.there b o e ∅) u.tups u.xC u.zM (λm' hm=>by let#[o',U6,U7,Bz,r']:=hm;rw[ho]at Bz;cases Bz;exact#[_,U6,U7,hL,r']) hok I.bare
theorem Inv.call(I:Inv X pins σ H s)(u:Un (Mx X.stack) ch H H' s.heap h')(hok:vm X.prog X.w H' h')(hg:vd g')
  (Mz:∀b∈ch,(b∈X.ex\/X.s₀.heap.objs.size<=b)/\b≠X.env.locals/\(∀x c,X.env.cells.lookup x>>c->c≠b)/\∀p∈X.pn++pins,p.1≠b):
  Inv X pins σ H' { s with heap:=h',gens:=g',drawn:=d',toks:=t' }:=by
 let#[m,#[o,es,ep,ho,r],_]:=id I.loc;let#[sl,hL]:=u.any ho I.free λz=>(Mz _ z).2.1 Y;exact I.step Mz (λb o hL hb hc e n=>u.keep b o e n (λz=>(au.mp (I.Dm b z)).elim hL hb) hc) (λb o _ _ hc e n=>u.any e n hc) (λb o hc e n=>u.free b o e n hc) (λb o hc e=>u.there b o e hc) u.tups u.xC u.zM (λm' hm=>by let#[o',U6,U7,Bz,r']:=hm;rw[ho]at Bz;cases Bz;exact#[_,U6,U7,hL,r']) hok hg
theorem Inv.turned(I:Inv X pins σ H s)(k:∀b o,b≠it->s.heap.get? b>>o->h'.get? b>>o)(hn:H it=none)(hL:it≠X.env.locals)
  (h1:it∈X.ex\/X.s₀.heap.objs.size<=it)(h2:∀x c,X.env.cells.lookup x>>c->c≠it)(h3:∀p∈X.pn++pins,p.1≠it):Inv X pins σ H { s with heap:=h',toks:=t' }:=by
 let Yb:∀b u,H b>>u->b≠it:=λb u e z=>by rw[z,hn]at e;cases e
 refine I.step (ch:=[it]) (λb hb=>?_) (λb o _ _ hc e _=>k b o (λz=>hc (by simp[z])) e) (λb o _ _ hc e _=>#[o.slots,k b o (λz=>hc (by simp[z])) e]) (λ_ _ _ _ n=>n)
  (λb o hc e=>#[o,k b o (λz=>hc (by simp[z])) e]) (λ_ _ e=>e) (λ_ _ _ e=>e) (λb ps e=>#[#[],by rw[e];simp]) (λm hm=>?_) (λb u e=>?_) I.bare
 .let e:b=it:=by simpa using hb
  subst e;exact#[h1,hL,h2,h3]
 .let#[o,es,ep,ho,r]:=hm;exact#[o,es,ep,k _ o (bF hL) ho,r]
 .refine(I.hok b u e).stay (λc v hc q=>k c v ?_ q) (λ_ q=>q) λ_ _ q=>q;rcases hc with z|z
  .rw[z];exact Yb b u e
  .exact Yb c _ z
theorem Inv.tok(I:Inv X pins σ H s)(t:Nat):Inv X pins σ H { s with toks:=t }:=I.un Un.refl I.hok
theorem Inv.kept(I:Inv X pins σ H s)(k:∀b u,s.heap.get? b>>u->h'.get? b>>u):Inv X pins σ H { s with heap:=h',toks:=t' }:=I.un (Un.kept k) (I.hok.kept k)
theorem Inv.laid{o:HO}(I:Inv X pins σ H s)(k:∀b u,s.heap.get? b>>u->h'.get? b>>u)(hp:s.heap.objs.size<=a)(new:iX X.prog X.w (upd H a o) h' a o):
  Inv X pins σ (upd H a o) { s with heap:=h',toks:=t' }:=I.un (Un.laid k hp (I.hok.fresh hp)) (I.hok.laid k hp new)
theorem Inv.write{x e:U}{o:HO}(I:Inv X pins σ H s)(mu:X7 (H x))(he:e=x\/H e>>(.own x))(k:∀b u,b≠e->s.heap.get? b>>u->h'.get? b>>u)(S7:∃u,h'.get? e>>u)
  (new:iX X.prog X.w (upd H x o) h' x o):Inv X pins σ (upd H x o) { s with heap:=h',toks:=t' }:=I.un (Un.write mu he k S7) (I.hok.write mu he k S7 new)
theorem Inv.Jw(I:Inv X pins σ H s)(h:∀p∈Yc,s.heap.get? p.1>>p.2/\H p.1=none/\p.1≠X.env.locals/\p.1∉X.fs/\∀v,p.2.data≠.cell v):Inv X Yc σ H s:=
 #[I.ok,I.os,I.bare,I.base,I.loc,I.cell,I.free,I.qu,λp hp=>(aT.mp hp).elim (λz=>I.pin p (bH _ z)) (h p),I.hok,I.len]
theorem EI(hN:N.Nodup){i j:Nat}{x:O}(a:N[i]?>>x)(b:N[j]?>>x):i=j:=by let#[h1,e1]:=aF.mp a;let#[h2,e2]:=aF.mp b;exact(List.getElem_inj hN).mp (e1.trans e2.symm)
theorem BV{i:Nat}{x:O}{v:V}{Q:Unit->aU->Prop}(I:Inv X pins σ H s)(hN:X.N.Nodup)(hi:X.N[i]?>>x)(hx:Loc X.env.scope x)(r:RelV v u)
  (h:∀s',Inv X pins (σ.set i (some v)) H s'->(∃a,iJ a s.heap s'.heap/\(a=X.env.locals\/X.env.cells.lookup x>>a))->Q .unit s')(hf:Dl X x:=by left):wpAny Ma A (storeName X.env x u) Q E s:=by
 let#[m,hn,hl]:=id I.loc;let zcu:(X.env.scope.kind == .class||(X.env.scope.kind == .module&&X.env.locals != X.env.globals))=false:=by rw[I.ok.kind];rfl
 let hiσ:i < σ.length:=[I.len]▸(aF.mp hi).1;let U5:=I.U5;let tracked:∀{a:U}{h':dF},(∃o,s.heap.get? a>>o/\H a=none)->iJ a s.heap h'->vm X.prog X.w H h':=λ{a h'}ha hs b ob e=>by
  let#[_,_,S_]:=ha;refine(I.hok b ob e).stay (λc w' hc q=>(hs.2 c ?_).trans q) (λ_ q=>q) λ_ _ q=>q;rintro rfl;rcases hc with rfl|hc
  .rw[S_]at e;cases e
  .rw[S_]at hc;cases hc
 rcases hx with hk|hk
 .refine wpAny_storeName_local hk hn (λh' MA hs=>?_) zcu;let#[oL,_,_,Yd,_]:=id hn;refine h _ #[I.ok,I.os,I.bare,#[λb o e n hb hx=>?_,λb o e n hb hx=>?_,I.base.free,λb o e hx=>?_,I.base.tups,I.base.xC,I.base.zM],#[_,MA,λj y v' e1 e2 e3=>?_],λy c e=>?_,I.free,I.qu,λp hp=>?_,tracked #[oL,Yd,I.free] hs,by simpa using I.len] #[_,hs,.inl Y]
  .exact(hs.2 b (aX (bV (aV e) I.ok.above))).trans (I.base.keep b o e n hb hx)
  .let#[sl,e1]:=I.base.slot b o e n hb hx;exact#[sl,(hs.2 b (aX (bV (aV e) I.ok.above))).trans e1]
  .let#[o',e1]:=I.base.there b o e hx;exact#[o',(hs.2 b (aX (bV (aV e) I.ok.above))).trans e1]
  .by_cases hj:j=i
   .subst hj;rw[hi]at e1;cases e1;rw[a7 hiσ]at e2;cases e2;exact#[u,r,.inl #[hk,∅]]
   .rw[aY (bF hj)]at e2;let#[u',r',q]:=hl j y v' e1 e2 e3;refine#[u',r',?_];rcases q with⟨k,e⟩|⟨k,c,e,z⟩
    .refine .inl #[k,?_];let:y≠x:=λe=>hj (EI hN e1 (e▸hi));simp[this,e]
    .exact .inr #[k,c,e,z.sameBut hs (U5 y c e)]
  .let#[w',z]:=I.cell y c e;exact#[w',z.sameBut hs (U5 y c e)]
  .let#[e,n,ne,nf,d]:=I.pin p hp;exact#[(hs.2 p.1 ne).trans e,n,ne,nf,d]
 .let hfn:X.fn x=true:=by
   rcases hf with z|z
   .exact z
   .rw[z]at hk;cases hk
  let#[c,hc]:=I.ok.has x (.inl hk);let#[w',z]:=I.cell x c hc;refine wpAny_storeName_cell I.ok.kind hk hc z (λh' Xv hs=>?_);let#[oc,hoc,zcw]:=id z;refine h { s with heap:=h' } #[I.ok,I.os,I.bare,#[λb o e n hb hx=>?_,λb o e n hb hx=>?_,I.base.free,λb o e hx=>?_,I.base.tups,I.base.xC,I.base.zM],#[m,hn.sameBut hs (bF (U5 x c hc)),λj y v' e1 e2 e3=>?_],λy c' e=>?_,I.free,I.qu,λp hp=>?_,tracked #[oc,hoc,I.qu x c hc] hs,by simpa using I.len] #[c,hs,.inr hc]
  .exact(hs.2 b (aX (bV (aV e) (I.ok.cab x c hfn hc)))).trans (I.base.keep b o e n hb hx)
  .let#[sl,e1]:=I.base.slot b o e n hb hx;exact#[sl,(hs.2 b (aX (bV (aV e) (I.ok.cab x c hfn hc)))).trans e1]
  .let#[o',e1]:=I.base.there b o e hx;exact#[o',(hs.2 b (aX (bV (aV e) (I.ok.cab x c hfn hc)))).trans e1]
  .by_cases hj:j=i
   .subst hj;rw[hi]at e1;cases e1;rw[a7 hiσ]at e2;cases e2;exact#[u,r,.inr #[.inl hk,c,hc,Xv]]
   .rw[aY (bF hj)]at e2;let#[u',r',q]:=hl j y v' e1 e2 e3;refine#[u',r',?_];rcases q with q|⟨k,c',e,z'⟩
    .exact .inl q
    .refine .inr #[k,c',e,z'.sameBut hs ?_];rintro rfl;exact hj (EI hN e1 (I.ok.inj _ _ _ e hc▸hi))
  .by_cases hcc:c'=c
   .subst hcc;exact#[_,Xv]
   .let#[w2,z2]:=I.cell y c' e;exact#[w2,z2.sameBut hs hcc]
  .let#[e,n,ne,nf,d]:=I.pin p hp;refine#[(hs.2 p.1 ?_).trans e,n,ne,nf,d];intro q;rw[q,hoc]at e;exact d w' ([<-(cv e)]▸zcw)
theorem oK{i:Nat}{x:O}{v:V}{Q:Unit->aU->Prop}(I:Inv X pins σ H s)(hN:X.N.Nodup)(hi:X.N[i]?>>x)(hx:Loc X.env.scope x)(r:RelV v u)
  (h:∀s',Inv X pins (σ.set i (some v)) H s'->Q .unit s')(hf:Dl X x:=by left):wpAny Ma A (storeName X.env x u) Q E s:=
 BV I hN hi hx r (λs' I' _=>h s' I') hf
theorem Inv.call'(I:Inv X pins σ H s)(ho:s'.os=s.os)(u:Un (Mx X.stack) ch H H' s.heap s'.heap)(hok:vm X.prog X.w H' s'.heap)(hg:vd s'.gens)
  (Mz:∀b∈ch,(b∈X.ex\/X.s₀.heap.objs.size<=b)/\b≠X.env.locals/\(∀x c,X.env.cells.lookup x>>c->c≠b)/\∀p∈X.pn++pins,p.1≠b):Inv X pins σ H' s':=by let#[h',g',d',t',o']:=s';let e:=ho;subst e;exact I.call u hok hg Mz
end
abbrev XK:=M->Option U->Hp->Prop
abbrev St:=!(Option V)
variable{σ:St}
abbrev VK:=V->Hp->Prop
abbrev TE:=St->Hp->VK->Prop
variable{t:TE}
abbrev TT:=St->Hp->(Bool->Hp->Prop)->Prop
abbrev TA:=St->Hp->(!V->Hp->Prop)->Prop
structure Ends where
 nx:St->Hp->Prop
 rt:VK
 bk:St->Hp->Prop:=λ_ _=>False
 ct:St->Hp->Prop:=λ_ _=>False
abbrev TS:=Ends->St->Hp->Prop
def EP(X:Cx)(pins:!(U×Obj))(σ:St)(Q:VK)(u:M)(s':aU):Prop:=∃v H',Inv X pins σ H' s'/\RelV v u/\Q v H'
def TP(X:Cx)(pins:!(U×Obj))(σ:St)(Q:Bool->Hp->Prop)(b:Bool)(s':aU):Prop:=∃H',Inv X pins σ H' s'/\Q b H'
def AP(X:Cx)(pins:!(U×Obj))(σ:St)(Q:!V->Hp->Prop)(us:!M)(s':aU):Prop:=∃vs H',Inv X pins σ H' s'/\dJ vs us/\Q vs H'
def SP(X:Cx)(pins:!(U×Obj))(D:Ends)(f:Flow)(s':aU):Prop:=
 match f with
 | .next=>∃σ' H',Inv X pins σ' H' s'/\D.nx σ' H'
 | .brk=>∃σ' H',Inv X pins σ' H' s'/\D.bk σ' H'
 | .cont=>∃σ' H',Inv X pins σ' H' s'/\D.ct σ' H'
 | .ret u=>∃v σ' H',Inv X pins σ' H' s'/\RelV v u/\D.rt v H'
def PE(X:Cx)(e:bY)(t:TE):Prop:=
 ∀(pins:!(U×Obj))(s:aU)(σ:St)(H:Hp)(Q:VK),Inv X pins σ H s->t σ H Q->wpAny (model X.prog X.w) X.A (eval e X.env) (EP X pins σ Q) X.xe s
def PT(X:Cx)(e:bY)(t:TT):Prop:=
 ∀(pins:!(U×Obj))(s:aU)(σ:St)(H:Hp)(Q:Bool->Hp->Prop),Inv X pins σ H s->t σ H Q->wpAny (model X.prog X.w) X.A (isTrue e X.env (eval e X.env)) (TP X pins σ Q) X.xe s
def PW(X:Cx)(e:bY)(t:TT):Prop:=
 ∀(whole:Sem M)(pins:!(U×Obj))(s:aU)(σ:St)(H:Hp)(Q:Bool->Hp->Prop),Inv X pins σ H s->t σ H Q->wpAny (model X.prog X.w) X.A (isTrue e X.env whole) (TP X pins σ Q) X.xe s
theorem PW.pt{t:TT}(h:PW X e t):PT X e t:=h _
def PA(X:Cx)(es:!bY)(t:TA):Prop:=
 ∀(pos:Pos)(pins:!(U×Obj))(s:aU)(σ:St)(H:Hp)(Q:!V->Hp->Prop),Inv X pins σ H s->t σ H Q->wpAny (model X.prog X.w) X.A (spliced (backTo pos (starEach es X.env))) (AP X pins σ Q) X.xe s
def PS(X:Cx)(st:jT)(t:TS):Prop:=
 ∀(pins:!(U×Obj))(s:aU)(σ:St)(H:Hp)(D:Ends),Inv X pins σ H s->t D σ H->wpAny (model X.prog X.w) X.A (exec st X.env) (SP X pins D) X.xe s
def Jx(X:Cx)(st:!jT)(t:TS):Prop:=
 ∀(pins:!(U×Obj))(s:aU)(σ:St)(H:Hp)(D:Ends),Inv X pins σ H s->t D σ H->wpAny (model X.prog X.w) X.A (execs st X.env) (SP X pins D) X.xe s
theorem gU{α:Type}{t:Sem α}{Q Q':α->aU->Prop}(h:wpAny Ma A t Q E s)(hQ:∀a s,Q a s->Q' a s):wpAny Ma A t Q' E s:=iE h hQ λ_ _ x=>x
section
variable{X:Cx}
def U8(i:Nat):TE:=λσ H Q=>∃v,σ[i]?>>(some v)/\Q v H
def tC(v:V):TE:=λ_ H Q=>Q v H
theorem U9{i:Nat}{x:O}{pos:Pos}(hN:X.N[i]?>>x)(hv:Vis X.env.scope x)(hd:xr x:=by decide)(Qq:NCd x:=by decide):PE X (.Name x pos) (U8 i):=by
 intro pins s σ H Q I h;let#[v,e,h]:=h;let#[m,hn,hl]:=I.loc;let#[u,r,l]:=hl i x v hN e hv;let fin:EP X pins σ Q u s:=#[v,H,I,r,h];rcases l with⟨hk,hm⟩|⟨hk,c,hc,S'⟩
 .exact wpAny_Name (wpAny_loadName_local I.ok.kind hk hn hm fin) hd
 .rcases hk with hk|hk
  .exact wpAny_Name (wpAny_loadName_cell I.ok.kind hk hc S' fin) hd
  .exact wpAny_Name (wpAny_loadName_free I.ok.kind hk hc S' fin Qq) hd
theorem ud(h:rT X i x):PE X (.Name x pos) (U8 i):=U9 h.1 h.2.1 h.2.2.1 h.2.2.2
theorem Dn{i j pos}:PE X (.Constant (.int i) j pos) (tC (.int i)):=λ_ _ _ H _ I h=>wpAny_Constant_int #[.int i,H,I.tok _,#[_,Y],h]
theorem Ye{b j pos}:PE X (.Constant (.bool b) j pos) (tC (.bl b)):=λ_ _ _ H _ I h=>Constant_bool #[.bl b,H,I,Y,h]
theorem U_{j pos}:PE X (.Constant .none j pos) (tC .non):=λ_ _ _ H _ I h=>Constant_none #[.non,H,I,Y,h]
theorem vo{x j pos}:PE X (.Constant (.str x) j pos) (tC (.str x)):=λ_ _ _ H _ I h=>Calls.Constant_str #[.str x,H,I.tok _,#[_,Y],h]
def Gl(X:Cx)(x:O):Prop:=X.env.kindOf x>>.globalImplicit
theorem zo(I:Inv X pins σ H s)(hg:Gl X x)(hm:X.mg x>>u)(h:Q u s)
  (hd:xr x:=by decide):wpAny (model X.prog X.w) X.A (eval (.Name x pos) X.env) Q E s:=
 Bo I.ok.kind hg (Calls.loadGlobal_global ([I.ok.glob]▸I.mod.glob.keeps I.bk) hm h) hd
theorem xD{x:O}{pos:Pos}(I:Inv X pins σ H s)(hg:Gl X x)(hm:X.mg x=none)(hv:bootBuiltins x>>u)(h:Q u s)
  (hn:x≠"__name__":=by decide)(hd:xr x:=by decide):wpAny (model X.prog X.w) X.A (eval (.Name x pos) X.env) Q E s:=by let#[mb,h1,h2]:=I.mod.blt;exact Bo I.ok.kind hg (Calls.loadGlobal_builtin ([I.ok.glob]▸I.mod.glob.keeps I.bk) hm ([I.ok.blt]▸h1.keeps I.bk) ((h2 x hn).trans hv) h) hd
theorem zp(hg:Gl X x)(hm:X.mg x>>u)(r:RelV v u)(hd:xr x:=by decide):PE X (.Name x pos) (tC v):=
 λ_ _ _ H _ I h=>zo I hg hm #[v,H,I,r,h] hd
theorem Jy{x:O}{v:V}{pos:Pos}(hg:Gl X x)(hm:X.mg x=none)(hv:bootBuiltins x>>u)(r:RelV v u)(hn:x≠"__name__":=by decide)(hd:xr x:=by decide):PE X (.Name x pos) (tC v):=
 λ_ _ _ H _ I h=>xD I hg hm hv #[v,H,I,r,h] hn hd
variable{a b:bY}{ta tb:TE}{pos:Pos}
def PC(X:Cx)(op:CmpOp)(a b:bY)(t:TE):Prop:=
 ∀(pins:!(U×Obj))(s:aU)(σ:St)(H:Hp)(Q:VK),Inv X pins σ H s->t σ H Q->
  wpAny (model X.prog X.w) X.A (eval a X.env) (λv s₁=>wpAny (model X.prog X.w) X.A (eval b X.env) (λu s₂=>wpAny (model X.prog X.w) X.A (compareOp op v u) (EP X pins σ Q) X.xe s₂) X.xe s₁) X.xe s
def tB(t:TE):TT:=λσ H Q=>t σ H λx H1=>∃c,x=.bl c/\Q c H1
theorem Dp{op:CmpOp}(h:PC X op a b t)(h1:behindInMarks op b=false:=by first|exact MT _ (by decide) (by decide)|rfl):PE X (.Compare a [op] [b] pos) t:=λpins s σ H Q I hw=>wpAny_Compare1 (h pins s σ H Q I hw) h1
theorem GW{op:CmpOp}(h:PC X op a b t)(h1:behindInMarks op b=false:=by first|exact MT _ (by decide) (by decide)|rfl):PT X (.Compare a [op] [b] pos) (tB t):=by intro pins s σ H Q I hw;refine wpAny_isTrue_Compare1 (gU (h pins s σ H _ I hw) λv s1 h1=>gU h1 λu s2 h2=>gU h2 λc s3 #[x,H1,I1,r1,q1]=>?_) h1;let#[d,rfl,q]:=q1;cases r1;exact gu #[H1,I1,q]
variable{tA tB':TT}{rest:!bY}
def zcx(t u:TT):TT:=λσ H Q=>t σ H λc H1=>if c=true then u σ H1 Q else Q false H1
def tOr(t u:TT):TT:=λσ H Q=>t σ H λc H1=>if c=true then Q true H1 else u σ H1 Q
def zcy(t:TT):TT:=λσ H Q=>t σ H λc H1=>Q (not c) H1
theorem pw_and1(ha:PT X a tA):PW X (.BoolOp .And [a] pos) tA:=by
 intro wh pins s σ H Q I h;refine isTrue_and (gU (ha pins s σ H Q I h) λc s1 e=>?_);cases c with
 |true=>exact isTrue_and_nil e
 |false=>exact e
theorem pw_or1(ha:PT X a tA):PW X (.BoolOp .Or [a] pos) tA:=by
 intro wh pins s σ H Q I h;refine isTrue_or (gU (ha pins s σ H Q I h) λc s1 e=>?_);cases c with
 |false=>exact isTrue_or_nil e
 |true=>exact e
theorem pw_and(ha:PT X a tA)(hb:PW X (.BoolOp .And (b::rest) pos) tB'):PW X (.BoolOp .And (a::b::rest) pos) (zcx tA tB'):=by
 intro wh pins s σ H Q I h;refine isTrue_and (gU (ha pins s σ H _ I h) λc s1 #[H1,I1,q1]=>?_);cases c with
 |true=>exact hb wh pins s1 σ H1 Q I1 q1
 |false=>exact#[H1,I1,q1]
theorem pw_or(ha:PT X a tA)(hb:PW X (.BoolOp .Or (b::rest) pos) tB'):PW X (.BoolOp .Or (a::b::rest) pos) (tOr tA tB'):=by
 intro wh pins s σ H Q I h;refine isTrue_or (gU (ha pins s σ H _ I h) λc s1 #[H1,I1,q1]=>?_);cases c with
 |true=>exact#[H1,I1,q1]
 |false=>exact hb wh pins s1 σ H1 Q I1 q1
theorem Va(ha:PT X a tA):PT X (.UnaryOp .Not a pos) (zcy tA):=by intro pins s σ H Q I h;exact isTrue_not (ha pins s σ H (λc H1=>Q (not c) H1) I h)
def Yf(ta tb:TE):TE:=λσ H Q=>ta σ H λx H1=>∃c,x=.bl c/\if c=true then tb σ H1 Q else Q (.bl false) H1
def zcz(ta tb:TE):TE:=λσ H Q=>ta σ H λx H1=>∃c,x=.bl c/\if c=true then Q (.bl true) H1 else tb σ H1 Q
def Yg(ta:TE):TE:=λσ H Q=>ta σ H λx H1=>∃c,x=.bl c/\Q (.bl (not c)) H1
theorem Vb{op}(h:PE X a t):PE X (.BoolOp op [a] pos) t:=λpins s σ H Q I hw=>BoolOp_one (h pins s σ H Q I hw)
theorem MV(ha:PE X a ta)(hb:PE X (.BoolOp .And (b::rest) pos) tb):PE X (.BoolOp .And (a::b::rest) pos) (Yf ta tb):=by
 intro pins s σ H Q I h;refine BoolOp_and (gU (ha pins s σ H _ I h) λv s1 #[x,H1,I1,r1,q1]=>?_);let#[c,rfl,q1]:=q1;cases r1;refine gu ?_;cases c with
 |true=>exact hb pins s1 σ H1 Q I1 q1
 |false=>exact#[.bl false,H1,I1,Y,q1]
theorem Ta(ha:PE X a ta)(hb:PE X (.BoolOp .Or (b::rest) pos) tb):PE X (.BoolOp .Or (a::b::rest) pos) (zcz ta tb):=by
 intro pins s σ H Q I h;refine BoolOp_or (gU (ha pins s σ H _ I h) λv s1 #[x,H1,I1,r1,q1]=>?_);let#[c,rfl,q1]:=q1;cases r1;refine gu ?_;cases c with
 |false=>exact hb pins s1 σ H1 Q I1 q1
 |true=>exact#[.bl true,H1,I1,Y,q1]
theorem Vc(ha:PE X a ta):PE X (.UnaryOp .Not a pos) (Yg ta):=by intro pins s σ H Q I h;refine UnaryOp_ (gU (ha pins s σ H _ I h) λv s1 #[x,H1,I1,r1,q1]=>?_);let#[c,rfl,q1]:=q1;cases r1;exact not_of (gu #[.bl (not c),H1,I1,Y,q1])
def tIf(t:TT)(ta tb:TE):TE:=λσ H Q=>t σ H λc H1=>if c=true then ta σ H1 Q else tb σ H1 Q
theorem MX(hc:PT X c tA)(ha:PE X a ta)(hb:PE X b tb):PE X (.IfExp c a b pos) (tIf tA ta tb):=by
 intro pins s σ H Q I h;refine wpAny_IfExp (gU (hc pins s σ H _ I h) λd s1 #[H1,I1,q1]=>?_);cases d with
 |true=>exact ha pins s1 σ H1 Q I1 q1
 |false=>exact hb pins s1 σ H1 Q I1 q1
end
def jW(K:aq)(H:Hp)(a:U)(xs:!V):Prop:=
 Rd H a (.lst xs)\/
  ∃(o:Obj)(its:Array M)(n:Nat),K.lookup a>>o/\o.cls=.type "list"/\o.dict=none/\o.data=.seq its n/\its.size<=sizeLine/\dJ xs its.toList
def oC(K:aq)(H:Hp)(a:U)(xs:!V):Prop:=
 Rd H a (.tup xs)\/
  ∃(o:Obj)(its:Array M)(n:Nat),K.lookup a>>o/\o.cls=.type "tuple"/\o.data=.seq its n/\its.size<=sizeLine/\dJ xs its.toList
def zcA:M->Option V
 | .none=>some .non
 | .bool b=>some (.bl b)
 | .int i _=>some (.int i)
 | .str x _=>some (.str x)
 | .bytes b _=>some (.Xt b)
 | .float b _=>some (.flt b)
 | .ref a=>some (.ref a)
 | .type n=>some (.ty n)
 |_=>none
theorem RelV.abs(r:RelV x u):zcA u>>x:=by
 cases x with
 |non=>cases r;rfl
 |bl _=>cases r;rfl
 |int _=>let#[t,rfl]:=r;rfl
 |str _=>let#[t,rfl]:=r;rfl
 |Xt _=>let#[t,rfl]:=r;rfl
 |flt _=>let#[t,rfl]:=r;rfl
 |ref _=>cases r;rfl
 |ty _=>cases r;rfl
theorem RelV.inj(r:RelV x u)(q:RelV y u):x=y:=cv (r.abs.symm.trans q.abs)
theorem dJ.inj:∀{xs ys:!V}{us:!M},dJ xs us->dJ ys us->xs=ys
 |_,_,_,.nil,.nil=>rfl
 |_,_,_,.cons r t,.cons r' t'=>by rw[r.inj r',dJ.inj t t']
section
theorem jW.of(h:H a>>(.lst xs)):jW K H a xs:=.inl (.inl h)
theorem oC.of(h:H a>>(.tup xs)):oC K H a xs:=.inl (.inl h)
theorem Inv.list(I:Inv X pins σ H s)(h:jW X.K H a xs):∃its:!M,dJ xs its/\PlainL s.heap a its.toArray/\xs.length<=sizeLine:=by
 rcases h with h|⟨o,its,n,hk,hc,hd,hs,hz,r⟩
 .let#[z,its,n,r,e]:=h.ok I.hok;exact#[its,r,#[_,n,e,Y,Y,Y],z]
 .refine#[_,r,#[o,n,I.zO a o hk,hc,hd,by simpa using hs],?_];let e:=r.length;simp only[cW]at e;omega
theorem Inv.tuple(I:Inv X pins σ H s)(h:oC X.K H a xs):∃its:!M,dJ xs its/\IsTup s.heap a its.toArray/\xs.length<=sizeLine:=by
 rcases h with h|⟨o,its,n,hk,hc,hs,hz,r⟩
 .let#[z,its,r,p]:=h.ok I.hok;exact#[its,r,p,z]
 .refine#[_,r,#[o,I.zO a o hk,hc,n,by simpa using hs],?_];let e:=r.length;simp only[cW]at e;omega
theorem Inv.zP(I:Inv X pins σ H s)(h:jW X.K H a xs)(h':jW X.K H a ys):xs=ys:=by
 let#[its,r,#[o,n,e,_,_,d],_]:=I.list h;let#[GX,r',#[o',n',e',_,_,d'],_]:=I.list h';rw[e]at e';cases e';rw[d]at d';injection d' with d1 _
 let:its=GX:=by simpa using qQ6 Array.toList d1
 subst this;exact r.inj r'
theorem Inv.BW(I:Inv X pins σ H s)(h:oC X.K H a xs)(h':oC X.K H a ys):xs=ys:=by
 let#[its,r,#[o,e,_,n,d],_]:=I.tuple h;let#[GX,r',#[o',e',_,n',d'],_]:=I.tuple h';rw[e]at e';cases e';rw[d]at d';injection d' with d1 _
 let:its=GX:=by simpa using qQ6 Array.toList d1
 subst this;exact r.inj r'
end
abbrev Cx.wish(X:Cx)(E:M->aU->Prop):Cx:={ X with xe:=E }
abbrev Cx.Vd(X:Cx):Cx:=X.wish λ_ _=>False
theorem Cx.Ok.wish(ok:X.Ok)(E:M->aU->Prop):(X.wish E).Ok:=
 #[ok.mod,ok.kind,ok.glob,ok.blt,ok.above,ok.inj,ok.has,ok.cab,ok.hd,ok.frames,ok.stk,ok.exf,ok.bs,ok.S9,ok.MS,ok.Qp,ok.yS,ok.U4]
theorem Cx.Ok.sG(ok:(X.wish E).Ok):X.Ok:=
 #[ok.mod,ok.kind,ok.glob,ok.blt,ok.above,ok.inj,ok.has,ok.cab,ok.hd,ok.frames,ok.stk,ok.exf,ok.bs,ok.S9,ok.MS,ok.Qp,ok.yS,ok.U4]
section
variable{X:Cx}{E:M->aU->Prop}
theorem Inv.wish(I:Inv X pins σ H s)(E:M->aU->Prop):Inv (X.wish E) pins σ H s:=#[I.ok.wish E,I.os,I.bare,I.base,I.loc,I.cell,I.free,I.qu,I.pin,I.hok,I.len]
theorem Inv.sG(I:Inv (X.wish E) pins σ H s):Inv X pins σ H s:=#[I.ok.sG,I.os,I.bare,I.base,I.loc,I.cell,I.free,I.qu,I.pin,I.hok,I.len]
theorem SP.sG{pins:!(U×Obj)}{D:Ends}{f:Flow}(h:SP (X.wish E) pins D f s'):SP X pins D f s':=by
 cases f with
 |next=>let#[σ',H',I,q]:=h;exact#[σ',H',I.sG,q]
 |brk=>let#[σ',H',I,q]:=h;exact#[σ',H',I.sG,q]
 |cont=>let#[σ',H',I,q]:=h;exact#[σ',H',I.sG,q]
 |ret u=>let#[v,σ',H',I,r,q]:=h;exact#[v,σ',H',I.sG,r,q]
theorem Jx.Vd{st:!jT}{t:TS}(h:Jx X.Vd st t):Jx X st t:=λpins s σ H D I hw=>iE (h pins s σ H D (I.wish _) hw) (λ_ _ q=>q.sG) λ_ _ z=>h7 z
end
section
variable{X:Cx}{st:jT}{t u:TS}{pos:Pos}
def Yh:TS:=λD σ H=>D.nx σ H
def zcB(t u:TS):TS:=λD σ H=>t { D with nx:=u D } σ H
theorem Jz:Jx X [] Yh:=λ_ _ σ H _ I h=>EE #[σ,H,I,h]
theorem lL{rest:!jT}(h1:PS X st t)(h2:Jx X rest u):Jx X (st::rest) (zcB t u):=by
 intro pins s σ H D I h;refine wpAny_execs_cons (gU (h1 pins s σ H { D with nx:=u D } I h) λf s1 q=>?_);cases f with
 |next=>let#[σ',H',I',q]:=q;exact h2 pins s1 σ' H' D I' q
 |ret v=>exact q
 |brk=>exact q
 |cont=>exact q
theorem Dq(h1:PS X st t):Jx X [st] t:=by
 intro pins s σ H D I h;refine wpAny_execs_cons (gU (h1 pins s σ H D I h) λf s1 q=>?_);cases f with
 |next=>exact EE q
 |ret v=>exact q
 |brk=>exact q
 |cont=>exact q
theorem Inv.quiet(I:Inv X pins σ H s):interactive X.env=false:=by simp[interactive,I.ok.kind]
def Yi(te:TE):TS:=λD σ H=>te σ H λ_ H1=>D.nx σ H1
theorem iR(he:PE X e te)(hs:S8 X pos e:=by rfl):PS X (.Expr e pos) (Yi te):=by intro pins s σ H D I h;exact wpAny_Expr_any (gU (he pins s σ H _ I h) λv s1 #[x,H1,I1,r1,q1]=>#[σ,H1,I1,q1]) I.quiet hs
def zcC(te:TE):TS:=λD σ H=>te σ H D.rt
theorem xE(he:PE X e te):PS X (.Return (some e) pos) (zcC te):=by intro pins s σ H D I h;exact wpAny_Return_some (gU (he pins s σ H _ I h) λv s1 #[x,H1,I1,r1,q1]=>#[x,σ,H1,I1,r1,q1])
def zcD(c:TT)(t u:TS):TS:=λD σ H=>c σ H λb H1=>if b=true then t D σ H1 else u D σ H1
theorem BX{a b:!jT}{tc:TT}(hc:PT X c tc)(ha:Jx X a t)(hb:Jx X b u):PS X (.If c a b pos) (zcD tc t u):=by
 intro pins s σ H D I h;refine wpAny_If (gU (hc pins s σ H _ I h) λd s1 #[H1,I1,q1]=>?_);cases d with
 |true=>exact ha pins s1 σ H1 D I1 q1
 |false=>exact hb pins s1 σ H1 D I1 q1
def Ve:TS:=λ_ _ _=>False
theorem mS:Jx X sts Ve:=λ_ _ _ _ _ _ h=>h.elim
end
abbrev TG:=V->St->Hp->(St->Hp->Prop)->Prop
abbrev Tb:=!V->St->Hp->(St->Hp->Prop)->Prop
def PG(X:Cx)(target:bY)(t:TG):Prop:=
 ∀(pins:!(U×Obj))(s:aU)(σ:St)(H:Hp)(v:V)(u:M)(Q:St->Hp->Prop),Inv X pins σ H s->RelV v u->t v σ H Q->
  wpAny (model X.prog X.w) X.A (assign target X.env u) (λ_ s'=>∃σ' H',Inv X pins σ' H' s'/\Q σ' H') X.xe s
def PGs(X:Cx)(ts:!bY)(t:Tb):Prop:=
 ∀(pins:!(U×Obj))(s:aU)(σ:St)(H:Hp)(vs:!V)(us:!M)(Q:St->Hp->Prop),Inv X pins σ H s->dJ vs us->t vs σ H Q->
  wpAny (model X.prog X.w) X.A (assignInOrder ((assignEach ts X.env).map (·.2)) us) (λ_ s'=>∃σ' H',Inv X pins σ' H' s'/\Q σ' H') X.xe s
section
variable{X:Cx}{pos:Pos}
def BZ(i:Nat):TG:=λv σ H Q=>Q (σ.set i (some v)) H
theorem Qr(hN:X.N.Nodup)(hi:X.N[i]?>>x)(hx:Loc X.env.scope x)(hf:Dl X x:=by left):PG X (.Name x pos) (BZ i):=by intro pins s σ H v u Q I r h;exact wpAny_assign_Name (oK I hN hi hx r (λs' I'=>#[_,H,I',h]) hf)
theorem g6(i:Nat)(hN:X.N.Nodup)(hi:X.N[i]?>>x:=by rfl)(hx:Loc X.env.scope x:=by left)(hf:Dl X x:=by left):PG X (.Name x pos) (BZ i):=Qr hN hi hx hf
def Yj:Tb:=λvs σ H Q=>vs=[]/\Q σ H
def Tc(t:TG)(u:Tb):Tb:=λvs σ H Q=>∃v r,vs=v::r/\t v σ H λσ' H'=>u r σ' H' Q
theorem fP:PGs X [] Yj:=by intro pins s σ H vs us Q I r h;let#[e,h]:=h;subst e;cases r;exact Bq #[σ,H,I,h]
theorem bS{t:TG}{u:Tb}(h1:PG X e t)(h2:PGs X es u)
  (hs:(assignEach (e::es) X.env).map (·.2)=assign e X.env::(assignEach es X.env).map (·.2):=by rfl):PGs X (e::es) (Tc t u):=by
 intro pins s σ H vs us Q I r h;let#[v,vr,e1,h]:=h;subst e1;cases r with
 |cons r rr=>rw[hs];exact jY (gU (h1 pins s σ H _ _ _ I r h) λ_ s1 #[σ1,H1,I1,q1]=>(h2 pins s1 σ1 H1 _ _ Q I1 rr q1))
def Yk(K:aq)(n:Nat)(t:Tb):TG:=λv σ H Q=>∃a xs,v=.ref a/\oC K H a xs/\xs.length=n/\t xs σ H Q
theorem g7{t:Tb}{n:Nat}(hc:X.calm=true)(h:PGs X es t)
  (hn:(assignEach es X.env).length=n:=by rfl)(EJ:(assignEach es X.env).findIdx? (·.1)=none:=by rfl):PG X (.Tuple es k pos) (Yk X.K n t):=by intro pins s σ H v u Q I r hw;let#[a,xs,e1,hq,hl,hw]:=hw;subst e1;cases r;let#[its,rv,ht,hz]:=I.tuple hq;refine assign_Tuple_tuple (I.ok.hd hc) ht (by simp[hn,<-hl,rv.length]) EJ λh' hx=>?_;exact h pins _ σ H xs _ Q (I.kept λb o e=>hx b o (aX (aV e)) e) ↑rv hw
def Yl(te:TE)(g:TG):TS:=λD σ H=>te σ H λx H1=>g x σ H1 D.nx
theorem pY(hN:X.N.Nodup)(hi:X.N[i]?>>x)(hx:Loc X.env.scope x)(he:PE X e te)(hs:zN X pos e (.Name x pos'):=by rfl)(hf:Dl X x:=by left):
  PS X (.Assign [.Name x pos'] e pos) (Yl te (BZ i)):=by intro pins s σ H D I h;exact wpAny_Assign_Name (gU (he pins s σ H _ I h) λv s1 #[y,H1,I1,r1,q1]=>(oK I1 hN hi hx r1 (λs2 I2=>#[_,H1,I2,q1]) hf)) hs
def zcE(i j:Nat)(ta:TA):TS:=λD σ H=>ta σ H λvs H1=>∃v w,vs=[v,w]/\D.nx ((σ.set i (some v)).set j (some w)) H1
theorem MY{i j:Nat}{x y:O}{a b:bY}{ta:TA}{px py pt:Pos}{kt k2 GY}(hc:X.calm=true)(hN:X.N.Nodup)(hi:X.N[i]?>>x)(hj:X.N[j]?>>y)(Bl:i≠j)
  (hx:X.env.scope.names.lookup x>>.local)(hy:X.env.scope.names.lookup y>>.local)(ha:PA X [a,b] ta)
  (hw:swappedStores [.Tuple [.Name x px,.Name y py] kt pt] (.Tuple [a,b] k2 GY) X.env=pure (some [x,y]))
  (hs:swapsWithSole [.Tuple [.Name x px,.Name y py] kt pt] (.Tuple [a,b] k2 GY) pos.line X.env=pure false:=by rfl):
  PS X (.Assign [.Tuple [.Name x px,.Name y py] kt pt] (.Tuple [a,b] k2 GY) pos) (zcE i j ta):=by
 intro pins s σ H D I h;refine aA (zj ?_);rw[hs];refine aA (bf ?_);refine aA (Tuple_ (gU (ha _ pins s σ H _ I h) λus s1 #[vs,H1,I1,r1,q1]=>?_));let#[v,w,e1,q1]:=q1;subst e1;obtain⟨u1,u2,rfl,rv,vY⟩:∃u1 u2,us=[u1,u2]/\RelV v u1/\RelV w u2:=by
  cases r1 with
  |cons p q=>
   cases q with
   |cons p' q'=>cases q';exact#[_,_,Y,p,p']
 refine gv ?_ (by show 2<=sizeLine;decide);let I2:Inv X pins σ H1 { s1 with heap:=s1.heap.push { cls:=.type "tuple",data:=.seq [u1,u2].toArray } }:=I1.kept λb o e=>aE _ e;rw[hw];refine aA (bf ?_);refine aA (vf (aA (unpackItems_tuple (items:=(bQ [u1,u2])) (I.ok.hd hc) (uJ s1.heap _) λh' hx'=>?_)));refine aA (jY (qX (oK (I2.kept (t':=s1.toks) λb o e=>hx' b o (aX (aV e)) e) hN hj (.inl hy) vY (λs2 I4=>?_) (.inr hy))));refine jY (qX (oK I4 hN hi (.inl hx) rv (λs3 I5=>Bq (bf ?_)) (.inr hx)));rw[vZ _ _ (bF Bl)]at I5;exact#[_,H1,I5,q1]
end
structure It where
 go:Nat->Hp->Prop
 Ym:Nat->Hp->V->Hp->Prop
 stop:Nat->Hp->Prop
def wc(X:Cx)(pins:!(U×Obj))(H:Hp)(b:U):Prop:=
 H b=none/\b≠X.env.locals/\b∉X.fs/\(b∈X.ex\/X.s₀.heap.objs.size<=b)/\(∀x c,X.env.cells.lookup x>>c->c≠b)/\∀p∈X.pn++pins,p.1≠b
theorem Inv.zQ{H': Hp}{b:U}(I:Inv X pins σ H s)(hb:s.heap.objs.size<=b)(hn:H' b=none):wc X pins H' b:=by
 refine#[hn,gI (bV I.lt hb),I.zct hb,.inr (bA I.sz hb),λx c e z=>?_,λp hp z=>?_]
 .let#[v,q]:=I.cell x c e;exact qQ7 (bV q.lt ([z]▸hb)) (Nat.lt_irrefl _)
 .exact qQ7 (bV (aV (I.pin p hp).1) ([z]▸hb)) (Nat.lt_irrefl _)
structure Turn(P:bU)(w:c0)(K:aq)(tg:bY)(Ja:It)(fp:!U)(it:U)(tn:Nat->dF->Prop):Prop where
 mem:it∈fp
 obj:∀i h,tn i h->∀b∈fp,∃o,h.get? b>>o/\∀v,o.data≠.cell v
 keep:∀i h h',tn i h->(∀b∈fp,∀o,h.get? b>>o->h'.get? b>>o)->tn i h'
 item:∀(X:Cx),X.prog=P->X.w=w->X.K=K->X.calm=true->∀(i:Nat)(pins:!(U×Obj))(s:aU)(σ:St)(H:Hp)(E:M->aU->Prop),Inv X pins σ H s->(∀b∈fp,wc X pins H b)->tn i s.heap->Ja.go i H->
  wpAny (model P w) X.A (pyNext (.ref it)) (λr s1=>∃u,r>>u/\
   wpAny (model P w) X.A (letOwnedTupleGo tg (.ref it) u) (λ_ s2=>∃x H',Inv X pins σ H' s2/\RelV x u/\Ja.Ym i H x H'/\tn (i+1) s2.heap/\∀b∈fp,H' b=none) E s1) E s
 done:∀(X:Cx),X.prog=P->X.w=w->X.K=K->X.calm=true->∀(i:Nat)(pins:!(U×Obj))(s:aU)(σ:St)(H:Hp)(E:M->aU->Prop),Inv X pins σ H s->(∀b∈fp,wc X pins H b)->tn i s.heap->Ja.stop i H->
  wpAny (model P w) X.A (pyNext (.ref it)) (λr s1=>r=none/\Inv X pins σ H s1) E s
 self:∀(A:jm)(i:Nat)(s:aU)(Q:M->aU->Prop)(E:M->aU->Prop),tn i s.heap->Q (.ref it) s->wpAny (model P w) A (pyIter (.ref it)) Q E s
abbrev TI:=St->Hp->(It->Hp->Prop)->Prop
def PIE(X:Cx)(pins:!(U×Obj))(σ:St)(tg:bY)(R:It->Hp->Prop)(itv:M)(s2:aU):Prop:=
 ∃(it:U)(fp:!U)(tn:Nat->dF->Prop)(Ja:It)(H':Hp),itv=.ref it/\Inv X pins σ H' s2/\Turn X.prog X.w X.K tg Ja fp it tn/\tn 0 s2.heap/\(∀b∈fp,wc X pins H' b)/\R Ja H'
def PI(X:Cx)(tg iter:bY)(wi:TI):Prop:=
 ∀(pins:!(U×Obj))(s:aU)(σ:St)(H:Hp)(R:It->Hp->Prop),Inv X pins σ H s->wi σ H R->
  wpAny (model X.prog X.w) X.A (eval iter X.env) (λv s1=>wpAny (model X.prog X.w) X.A (pyIter v) (PIE X pins σ tg R) X.xe s1) X.xe s
theorem EK{n:String}{vs:Array M}{Q:Unit->aU->Prop}(ho:s.heap.get? it>>o)(hc:o.cls=.type n)(hd:o.data=.fields vs)
    (hn:["enumerate","zip","dict_itemiterator","dict_reverseitemiterator","odict_iterator","itertools.zip_longest","itertools.pairwise"].contains n=false)(hQ:Q .unit s):wpAny Ma A (letOwnedTupleGo tg (.ref it) u) Q E s:=by
  cases tg<;>first
    | exact bf hQ
    | (cases u<;>first
        | exact bf hQ
        | (refine aA (wpAny_load ho ?_)
           rw[hc,hd];show wpAny Ma A (if(["enumerate","zip","dict_itemiterator","dict_reverseitemiterator","odict_iterator","itertools.zip_longest","itertools.pairwise"].contains n&&vs[0]?==some (rawInt _))=true then _ else _) Q E s;rw[qQ2 (by intro h;rw[hn,Bool.false_and]at h;cases h)];exact bf hQ))
def Itl(K:aq)(a:U):It:=
 #[λi H=>∃xs x,jW K H a xs/\xs[i]?>>x,λi H x H'=>H'=H/\∀xs,jW K H a xs->xs[i]?>>x,λi H=>∃xs,jW K H a xs/\xs.length<=i]
def Itt(K:aq)(a:U):It:=
 #[λi H=>∃xs x,oC K H a xs/\xs[i]?>>x,λi H x H'=>H'=H/\∀xs,oC K H a xs->xs[i]?>>x,λi H=>∃xs,oC K H a xs/\xs.length<=i]
def Itr(lo:Int)(n:Nat):It:=#[λi _=>i<n,λi H x H'=>H'=H/\x=.int (lo+i),λi _=>n<=i]
theorem KJ(a it:U):Turn P w K tg (Itl K a) [it] it (λi h=>h.IsListIter it a i) where
 mem:=∅
 obj:=λi h st b hb=>by
  let e:b=it:=by simpa using hb
  subst e;let#[o,e,c,d]:=st;exact#[o,e,λv z=>by rw[d]at z;cases z]
 keep:=λi h h' st k=>st.at λo e=>k it ∅ o e
 item:=by intro X hP hw hK hc i pins s σ H E I hf st hg;subst hP hw hK;let#[xs,x,hq,hx]:=hg;let#[its,rv,p,hz]:=I.list hq;let#[u,hu,ru]:=rv.get hx;let#[f0,f1,f2,f3,f4,f5]:=hf it ∅;refine wpAny_pyNext_list_item st p.isList ↑hu λh' yg sb=>?_;let#[o,e,c,d]:=id yg;exact#[u,Y,EK e c d ⋯ #[x,H,I.turned (λb o hb e=>(sb.2 b hb).trans e) f0 f1 f3 f4 f5,ru,#[Y,λys hy=>[I.zP hy hq]▸hx],yg,λb hb=>(hf b hb).1]]
 done:=by intro X hP hw hK hc i pins s σ H E I hf st hg;subst hP hw hK;let#[xs,hq,hx]:=hg;let#[its,rv,p,hz]:=I.list hq;let#[f0,f1,f2,f3,f4,f5]:=hf it ∅;let hl:=rv.length;exact wpAny_pyNext_list_end (I.ok.hd hc) st p.isList (by simp;omega) λh' eb=>#[Y,I.turned (λb o hb e=>eb b o hb e) f0 f1 f3 f4 f5]
 self:=λ_ _ _ _ _ st h=>wpAny_pyIter_listiter st h
theorem GZ(a it:U):Turn P w K tg (Itt K a) [it] it (λi h=>h.IsTupleIter it a i) where
 mem:=∅
 obj:=λi h st b hb=>by
  let e:b=it:=by simpa using hb
  subst e;let#[o,e,c,d]:=st;exact#[o,e,λv z=>by rw[d]at z;cases z]
 keep:=λi h h' st k=>st.at λo e=>k it ∅ o e
 item:=by intro X hP hw hK hc i pins s σ H E I hf st hg;subst hP hw hK;let#[xs,x,hq,hx]:=hg;let#[its,rv,p,hz]:=I.tuple hq;let#[u,hu,ru]:=rv.get hx;let#[f0,f1,f2,f3,f4,f5]:=hf it ∅;refine wpAny_pyNext_tuple_item st p ↑hu λh' yg sb=>?_;let#[o,e,c,d]:=id yg;exact#[u,Y,EK e c d ⋯ #[x,H,I.turned (λb o hb e=>(sb.2 b hb).trans e) f0 f1 f3 f4 f5,ru,#[Y,λys hy=>[I.BW hy hq]▸hx],yg,λb hb=>(hf b hb).1]]
 done:=by intro X hP hw hK hc i pins s σ H E I hf st hg;subst hP hw hK;let#[xs,hq,hx]:=hg;let#[its,rv,p,hz]:=I.tuple hq;let#[f0,f1,f2,f3,f4,f5]:=hf it ∅;let hl:=rv.length;exact wpAny_pyNext_tuple_end (I.ok.hd hc) st p (by simp;omega) λh' eb=>#[Y,I.turned (λb o hb e=>eb b o hb e) f0 f1 f3 f4 f5]
 self:=λ_ _ _ _ _ st h=>wpAny_pyIter_tupleiter st h
theorem G_(it:U)(lo:Int)(n:Nat):Turn P w K tg (Itr lo n) [it] it (λi h=>IsRangeIter h it (lo+(i:Nat)*1) ((n:Int)-(i:Nat)) 1) where
 mem:=∅
 obj:=λi h st b hb=>by
  let e:b=it:=by simpa using hb
  subst e;exact#[_,st,λv z=>by let z':=z;cases z']
 keep:=λi h h' st k=>k it ∅ _ st
 item:=by intro X hP hw hK hc i pins s σ H E I hf st hg;subst hP hw hK;let#[f0,f1,f2,f3,f4,f5]:=hf it ∅;refine (Walks.range (I.ok.hd hc) it lo 1 n).item i s _ _ hg st λv h' tk hv yg kk=>?_;let#[t,rfl]:=hv;let I1:Inv X pins σ H { s with heap:=h',toks:=tk }:=I.turned (λb o hb e=>kk b o ↑hb e) f0 f1 f3 f4 f5;refine#[_,Y,EK yg Y Y ⋯ #[.int (lo+i),H,I1,#[t,?_],#[Y,Y],yg,λb hb=>(hf b hb).1]];rw[Int.mul_one]
 done:=by intro X hP hw hK hc i pins s σ H E I hf st hg;subst hP hw hK;let#[f0,f1,f2,f3,f4,f5]:=hf it ∅;exact wpAny_pyNext_range_end (I.ok.hd hc) st (by let:n<=i:=hg;omega) λh' eb=>#[Y,I.turned (λb o hb e=>eb b o hb e) f0 f1 f3 f4 f5]
 self:=λ_ _ _ _ _ st h=>wpAny_pyIter_rangeiter st h
section
variable{X:Cx}{tg:bY}
def Yn(K:aq)(tl:TE):TI:=λσ H R=>tl σ H λx H1=>∃a,x=.ref a/\(∃xs,jW K H1 a xs)/\R (Itl K a) H1
def zcI(K:aq)(tl:TE):TI:=λσ H R=>tl σ H λx H1=>∃a,x=.ref a/\(∃xs,oC K H1 a xs)/\R (Itt K a) H1
theorem JA(hl:PE X l tl):PI X tg l (Yn X.K tl):=by
 intro pins s σ H R I h;refine gU (hl pins s σ H _ I h) λv s1 #[x,H1,I1,r1,q1]=>?_;let#[a,e,#[xs,hq],q]:=q1;subst e;cases r1;let#[its,rv,p,hz]:=I1.list hq;refine nQ p.isList ?_;refine#[s1.heap.objs.size,_,_,_,H1,Y,I1.kept λb o e=>aE _ e,KJ a _,#[_,bx _ Y,Y,Y],λb hb=>?_,q];let e:b=s1.heap.objs.size:=by simpa using hb
 subst e;exact I1.zQ () (I1.hok.fresh ())
theorem Vf(hl:PE X l tl):PI X tg l (zcI X.K tl):=by
 intro pins s σ H R I h;refine gU (hl pins s σ H _ I h) λv s1 #[x,H1,I1,r1,q1]=>?_;let#[a,e,#[xs,hq],q]:=q1;subst e;cases r1;let#[its,rv,p,hz]:=I1.tuple hq;refine zJ p ?_;refine#[s1.heap.objs.size,_,_,_,H1,Y,I1.kept λb o e=>aE _ e,GZ a _,#[_,bx _ Y,Y,Y],λb hb=>?_,q];let e:b=s1.heap.objs.size:=by simpa using hb
 subst e;exact I1.zQ () (I1.hok.fresh ())
theorem MZ{R:It->Hp->Prop}{lo hi:Int}{t u v:Tok}{tk:Nat}(I:Inv X pins σ H s)(h1:-(2^62)<=lo)(h2:lo<2^62)(h3:-(2^62)<=hi)(h4:hi<2^62)
  (q:R (Itr lo (hi-lo).toNat) H):wpAny (model X.prog X.w) X.A (pyIter (.ref s.heap.objs.size)) (PIE X pins σ tg R) E { s with heap:=s.heap.push { cls:=.type "range",data:=.fields (bQ [.int lo t,.int hi u,.int 1 v]) },toks:=tk }:=by
 refine wpAny_pyIter_range (IsRange.new ..) (small_one h1 h2 h3 h4) ?_;let I1:Inv X pins σ H { s with heap:=s.heap.push { cls:=.type "range",data:=.fields (bQ [.int lo t,.int hi u,.int 1 v]) },toks:=tk }:=I.kept λb o e=>aE _ e;refine#[(s.heap.push { cls:=.type "range",data:=.fields (bQ [.int lo t,.int hi u,.int 1 v]) }).objs.size,_,_,_,H,Y,
  I1.kept λb o e=>aE _ e,G_ _ lo (hi-lo).toNat,?_,λb hb=>?_,q]
 .let e1:lo+((0:Nat))*1=lo:=∅
  let e2:(((hi-lo).toNat))-((0:Nat))=vi.Range.rangeSize lo hi 1:=by rw[rangeSize_one];split<;>omega
  rw[e1,e2];exact bx _ Y
 .let e:b=(s.heap.push { cls:=.type "range",data:=.fields (bQ [.int lo t,.int hi u,.int 1 v]) }).objs.size:=by simpa using hb
  subst e;exact I1.zQ (aP _) (I1.hok.fresh (aP _))
def Yo(ta:TA):TI:=λσ H R=>ta σ H λvs H1=>∃j:Int,vs=[.int j]/\-(2^62)<=j/\j<2^62/\R (Itr 0 j.toNat) H1
theorem KL{a:bY}{ta:TA}{p pos:Pos}(hg:Gl X "range")(hm:X.mg "range"=none)(ha:PA X [a] ta)(hs:starEach [a] X.env=[(false,eval a X.env)]:=by rfl):PI X tg (.Call (.Name "range" p) [a] [] pos) (Yo ta):=by
 intro pins s σ H R I h;refine Call_ (xD I hg hm boot_range (jo (gU (ha pos pins s σ H _ I h) λus s1 #[vs,H1,I1,r1,q1]=>?_) hs Y));let#[j,e,q1,q2,q]:=q1;subst e;cases r1 with
 |cons r rr=>cases rr;let#[t,rfl]:=r;exact call_range_1 (MZ I1 () () q1 q2 ↑q)
def zcJ(wi:TI)(g:TG)(tb:TS):TS:=λD σ H=>wi σ H λJa H1=>∃W:Nat->Nat->St->Hp->Prop,(∃m,W 0 m σ H1)/\∀i m σ H,W i m σ H->
 (Ja.stop i H/\D.nx σ H)\/(Ja.go i H/\∃N:St->Hp->Prop,(∀σ' H',N σ' H'->∃m',m'<m/\W (i+1) m' σ' H')/\∀x H',Ja.Ym i H x H'->g x σ H' λσ2 H2=>tb { D with nx:=N,ct:=N,bk:=D.nx } σ2 H2)
def Dr(fp:!U)(h:dF):!(U×Obj):=fp.filterMap λb=>(h.get? b).map λo=>(b,o)
theorem qY(hb:b∈fp)(e:h.get? b>>o):(b,o)∈Dr fp h:=jF.mpr #[b,hb,by rw[e];rfl]
theorem KN(hp:p∈Dr fp h):p.1∈fp/\h.get? p.1>>p.2:=by
 let#[b,hb,e]:=jF.mp hp;cases q:h.get? b with
 |none=>rw[q]at e;cases e
 |some o=>rw[q]at e;let e':=cv e;subst e';exact#[hb,q]
theorem Inv.pinned(I:Inv X pins σ H s)(hf:∀b∈fp,wc X pins H b)(ho:∀b∈fp,∃o,s.heap.get? b>>o/\∀v,o.data≠.cell v):Inv X (pins++Dr fp s.heap) σ H s:=
 I.Jw λp hp=>(aT.mp hp).elim (λz=>I.pin p (aZ _ z)) λz=>by let#[hb,e]:=KN z;let#[f0,f1,f2,_]:=hf p.1 hb;let#[o,e',d]:=ho p.1 hb;rw[e]at e';cases e';exact#[e,f0,f1,f2,d]
theorem Inv.sH{pl: !(U×Obj)}(I:Inv X (pins++pl) σ H s):Inv X pins σ H s:=I.Jw λp hp=>I.pin p (aZ _ (bH _ hp))
theorem G'{iter:bY}{wi:TI}{g:TG}{tb:TS}{pos:Pos}(hp:C7 (model X.prog X.w) X.A X.env X.xe)(hc:X.calm=true)(hi:PI X tg iter wi)(hg:PG X tg g)(hb:Jx X body tb)
  (hs:My X iter:=by intro _;rfl):PS X (.For tg iter body [] pos) (zcJ wi g tb):=by
 intro pins s σ H D I h;refine wpAny_For (gU (hi pins s σ H _ I h) λv s1 h1=>gU h1 λitv s2 h2=>?_) hs;let#[it,fp,tn,Ja,H2,e,I2,T,Yp,f2,W,#[m0,w0],turn]:=h2;subst e;let stat:∀{H':Hp},(∀b∈fp,H' b=none)->∀b∈fp,wc X pins H' b:=λhn b hb=>#[hn b hb,(f2 b hb).2];refine codeAny_forLoop_any (λn s'=>∃i σ' H',Inv X pins σ' H' s'/\tn i s'.heap/\(∀b∈fp,H' b=none)/\W i n σ' H') ?_ m0 #[0,σ,H2,I2,Yp,λb hb=>(f2 b hb).1,w0];rintro n s3 ⟨i,σ3,H3,I3,st3,fr3,w3⟩;rcases turn i n σ3 H3 w3 with⟨stop,qn⟩|⟨go,N,hN,step⟩
 .refine pU hp (gU (T.done X Y Y Y hc i pins s3 σ3 H3 X.xe I3 (stat fr3) st3 stop) λr s4 #[hr,I4]=>?_);subst hr;exact EE #[σ3,H3,I4,qn]
 .refine pU hp (gU (T.item X Y Y Y hc i pins s3 σ3 H3 X.xe I3 (stat fr3) st3 go) λr s4 #[u,hr,h4]=>?_);subst hr;refine pU hp (gU h4 λ_ s5 #[x,H5,I5,r5,y5,st5,fr5]=>?_);refine pU hp (gU (hg _ s5 σ3 H5 x u _ (I5.pinned (stat fr5) (T.obj _ _ st5)) r5 (step x H5 y5)) λ_ s6 #[σ6,H6,I6,q6]=>?_);refine pU hp (gU (hb _ s6 σ6 H6 _ I6 q6) λf s7 q7=>?_);let again:∀{σ7:St}{H7:Hp},Inv X _ σ7 H7 s7->N σ7 H7->∃m,m<n/\∃i σ' H',Inv X pins σ' H' s7/\tn i s7.heap/\(∀b∈fp,H' b=none)/\W i m σ' H':=λ{σ7 H7}I7 n7=>by let#[m',hm,w7]:=hN σ7 H7 n7;refine#[m',hm,i+1,σ7,H7,I7.sH,T.keep _ _ _ st5 λb hb o e=>(I7.pin (b,o) (aZ _ (aZ _ (qY hb e)))).1,λb hb=>?_,w7];let#[o,e,d]:=T.obj _ _ st5 b hb;exact(I7.pin (b,o) (aZ _ (aZ _ (qY hb e)))).2.1
  cases f with
  |next=>let#[σ7,H7,I7,n7]:=q7;exact again I7 n7
  |cont=>let#[σ7,H7,I7,n7]:=q7;exact again I7 n7
  |brk=>let#[σ7,H7,I7,q7]:=q7;exact#[σ7,H7,I7.sH,q7]
  |ret v=>let#[x7,σ7,H7,I7,r7,q7]:=q7;exact#[x7,σ7,H7,I7.sH,r7,q7]
end
abbrev R2:=V->V->Hp->VK->Prop
variable{r:R2}
def uf(X:Cx)(f:M->M->Sem M)(r:R2):Prop:=
 ∀(pins:!(U×Obj))(s:aU)(σ:St)(H:Hp)(x y:V)(v u:M)(Q:VK),Inv X pins σ H s->RelV x v->RelV y u->r x y H Q->
  wpAny (model X.prog X.w) X.A (f v u) (EP X pins σ Q) X.xe s
def iY(X:Cx)(f:M)(r:!V->Hp->VK->Prop):Prop:=
 ∀(pins:!(U×Obj))(s:aU)(σ:St)(H:Hp)(xs:!V)(us:!M)(Q:VK),Inv X pins σ H s->dJ xs us->r xs H Q->
  wpAny (model X.prog X.w) X.A (call f us) (EP X pins σ Q) X.xe s
def zcL(X:Cx)(r:V->Hp->(Bool->Hp->Prop)->Prop):Prop:=
 ∀(pins:!(U×Obj))(s:aU)(σ:St)(H:Hp)(x:V)(v:M)(Q:Bool->Hp->Prop),Inv X pins σ H s->RelV x v->r x H Q->
  wpAny (model X.prog X.w) X.A (truthy v) (TP X pins σ Q) X.xe s
def Yq(r:R2)(ta tb:TE):TE:=λσ H Q=>ta σ H λx H1=>tb σ H1 λy H2=>r x y H2 Q
def rI(C:Int->Int->Prop)(g:Int->Int->V):R2:=λx y H Q=>∃i j,x=.int i/\y=.int j/\C i j/\Q (g i j) H
def Qd(g:Int->Int->V):R2:=λx y H Q=>∃i j,x=.int i/\y=.int j/\Q (g i j) H
section
variable{X:Cx}{a b:bY}{ta tb:TE}{pos:Pos}
theorem Vg{R:V->V->Hp->Prop}(ha:PE X a ta)(hb:PE X b tb)(I:Inv X pins σ H s)
  (h:ta σ H λx H1=>tb σ H1 λy H2=>R x y H2)
  (hf:∀v u s2 x y H2,Inv X pins σ H2 s2->RelV x v->RelV y u->R x y H2->wpAny (model X.prog X.w) X.A (f v u) Q X.xe s2):
  wpAny (model X.prog X.w) X.A (eval a X.env) (λv s₁=>wpAny (model X.prog X.w) X.A (eval b X.env) (λu s₂=>wpAny (model X.prog X.w) X.A (f v u) Q X.xe s₂) X.xe s₁) X.xe s:=by exact gU (ha pins s σ H _ I h) λv s1 #[x,H1,I1,r1,q1]=>(gU (hb pins s1 σ H1 _ I1 q1) λu s2 #[y,H2,I2,r2,q2]=>(hf v u s2 x y H2 I2 r1 r2 q2))
theorem JB{op:Operator}(ho:uf X (binaryOp op) r)(ha:PE X a ta)(hb:PE X b tb):PE X (.BinOp a op b pos) (Yq r ta tb):=by intro pins s σ H Q I h;exact wpAny_BinOp (Vg ha hb I h λv u s2 x y H2 I2 rx ry q=>ho pins s2 σ H2 x y v u Q I2 rx ry q)
theorem opI{C:Int->Int->Prop}
  (rule:∀(i j:Int)(t u:Tok)(s:aU)(Q:M->aU->Prop)(E:M->aU->Prop),C i j->Q (.int (g i j) s.toks) { s with toks:=s.toks+1 }->wpAny (model X.prog X.w) X.A (f (.int i t) (.int j u)) Q E s):
  uf X f (rI C λi j=>.int (g i j)):=by intro pins s σ H x y v u Q I rx ry h;let#[i,j,rfl,rfl,hc,q]:=h;let#[t,rfl]:=rx;let#[t',rfl]:=ry;exact rule i j t t' s _ _ hc #[.int (g i j),H,I.tok _,#[_,Y],q]
theorem Yr
  (rule:∀(i j:Int)(t u:Tok)(s:aU)(Q:M->aU->Prop)(E:M->aU->Prop),Q (.int (g i j) s.toks) { s with toks:=s.toks+1 }->wpAny (model X.prog X.w) X.A (f (.int i t) (.int j u)) Q E s):
  uf X f (Qd λi j=>.int (g i j)):=by intro pins s σ H x y v u Q I rx ry h;let#[i,j,rfl,rfl,q]:=h;let#[t,rfl]:=rx;let#[t',rfl]:=ry;exact rule i j t t' s _ _ #[.int (g i j),H,I.tok _,#[_,Y],q]
theorem Qs{g:Int->Int->Bool}
  (rule:∀(i j:Int)(t u:Tok)(s:aU)(Q:M->aU->Prop)(E:M->aU->Prop),Q (.bool (g i j)) s->wpAny (model X.prog X.w) X.A (f (.int i t) (.int j u)) Q E s):
  uf X f (Qd λi j=>.bl (g i j)):=by intro pins s σ H x y v u Q I rx ry h;let#[i,j,rfl,rfl,q]:=h;let#[t,rfl]:=rx;let#[t',rfl]:=ry;exact rule i j t t' s _ _ #[.bl (g i j),H,I,Y,q]
def Ys(i j:Int):Prop:=0<j/\j<1073741824
def Qt(i j:Int):Prop:=(-(2^64)<i/\i<2^64)\/(-(2^64)<j/\j<2^64)
theorem Qt.ok(h:Qt i j):IntMulOk i j:=by
 rcases h with⟨h1,h2⟩|⟨h1,h2⟩
 .exact .of_left (intBits_le_64 h1 h2)
 .exact .of_right (intBits_le_64 h1 h2)
theorem Vh:uf X (binaryOp .Add) (Qd λi j=>.int (i+j)):=Yr λ_ _ _ _ _ _ _ q=>add_int q
theorem Vi:uf X (binaryOp .Sub) (Qd λi j=>.int (i-j)):=Yr λ_ _ _ _ _ _ _ q=>sub_int q
theorem Vj:uf X (binaryOp .Mult) (rI Qt λi j=>.int (i*j)):=opI λ_ _ _ _ _ _ _ hc q=>mul_int q hc.ok
theorem Qu:uf X (binaryOp .FloorDiv) (rI Ys λi j=>.int (i/j)):=opI λi j _ _ _ _ _ hc q=>by let h1:=hc.1;let h2:=hc.2;exact floordiv_int () ([Int.fdiv_eq_ediv_of_nonneg i ()]▸q) (.inl (PyProof.noPylong_small ()))
theorem Vk:uf X (binaryOp .Mod) (rI (λ_ j=>0<j) λi j=>.int (i%j)):=opI λi j _ _ _ _ _ hc q=>by let h1:=hc;exact mod_int' () ([Int.fmod_eq_emod_of_nonneg i ()]▸q)
end
section
variable{X:Cx}{a b c:bY}{ta tb tc:TE}{pos:Pos}
theorem He{Q:VK}{k k':Bool}(I:Inv X pins σ H s)(q:Q (.bl k) H)(e:k=k'):EP X pins σ Q (.bool k') s:=by subst e;exact#[.bl k,H,I,Y,q]
theorem Td:uf X (compareOp .Lt) (Qd λi j=>.bl (decide (i<j))):=Qs λ_ _ _ _ _ _ _ q=>lt_int q
theorem zR:uf X (compareOp .LtE) (Qd λi j=>.bl (decide (i<=j))):=Qs λ_ _ _ _ _ _ _ q=>le_int q
theorem Te:uf X (compareOp .Gt) (Qd λi j=>.bl (decide (j<i))):=Qs λ_ _ _ _ _ _ _ q=>gt_int q
theorem Yt:uf X (compareOp .GtE) (Qd λi j=>.bl (decide (j<=i))):=Qs λ_ _ _ _ _ _ _ q=>ge_int q
theorem KP:uf X (compareOp .In) (λx y H Q=>∃i j,x=.str i/\y=.str j/\Q (.bl (not (vi.Str.occurrences j i 0 j.length 1).isEmpty)) H):=by intro pins s σ H x y v u Q I rx ry h;let#[i,j,rfl,rfl,q]:=h;let#[t,rfl]:=rx;let#[t',rfl]:=ry;exact in_str (He I q Y)
theorem iZ:uf X (compareOp .Is) (λx y H Q=>y=.non/\Q (.bl (decide (x=.non))) H):=by
 intro pins s σ H x y v u Q I rx ry h;let#[rfl,q]:=h;cases ry;refine is_none_gen (He I q ?_);cases x<;>first
  |(cases rx;rfl)
  |(let#[t,rfl]:=rx;rfl)
theorem pD:uf X (compareOp .IsNot) (λx y H Q=>y=.non/\Q (.bl (not (decide (x=.non)))) H):=by
 intro pins s σ H x y v u Q I rx ry h;let#[rfl,q]:=h;cases ry;refine isnot_none_gen (He I q ?_);cases x<;>first
  |(cases rx;rfl)
  |(let#[t,rfl]:=rx;rfl)
theorem eM(b:bY)(h:op≠.In:=by decide)(h2:op≠.NotIn:=by decide):behindInMarks op b=false:=by
 let e1:(op==CmpOp.In)=false:=by cases op<;>first|rfl|exact qQ7 Y h
 let e2:(op==CmpOp.NotIn)=false:=by cases op<;>first|rfl|exact qQ7 Y h2
 cases b<;>simp[behindInMarks,e1,e2]
theorem Qv{op:CmpOp}(ho:uf X (compareOp op) r)(ha:PE X a ta)(hb:PE X b tb)(hm:behindInMarks op b=false):PE X (.Compare a [op] [b] pos) (Yq r ta tb):=by intro pins s σ H Q I h;exact wpAny_Compare1 (Vg ha hb I h λv u s2 x y H2 I2 rx ry q=>ho pins s2 σ H2 x y v u Q I2 rx ry q) hm
def Yu(t:TE):TT:=λσ H Q=>t σ H λx H'=>∃k,x=.bl k/\Q k H'
theorem Qw{op:CmpOp}(ho:uf X (compareOp op) r)(ha:PE X a ta)(hb:PE X b tb)(hm:behindInMarks op b=false):PT X (.Compare a [op] [b] pos) (Yu (Yq r ta tb)):=by
 intro pins s σ H Q I h;refine wpAny_isTrue_Compare1 (gU (ha pins s σ H _ I h) λv s1 #[x,H1,I1,r1,q1]=>gU (hb pins s1 σ H1 _ I1 q1) λu s2 #[y,H2,I2,r2,q2]=>gU (ho pins s2 σ H2 x y v u _ I2 r1 r2 q2) λc s3 #[z,H3,I3,r3,k,e,q3]=>?_) hm;subst e;cases r3;exact gu #[H3,I3,q3]
def Vl(r r':R2)(ta tb tc:TE):TE:=λσ H Q=>ta σ H λx H1=>tb σ H1 λy H2=>r x y H2 λz H3=>∃k,z=.bl k/\
 (if k=true then tc σ H3 λw' H4=>r' y w' H4 Q else Q (.bl false) H3)
theorem EL{op op':CmpOp}{r': R2}(ho:uf X (compareOp op) r)(Bz:uf X (compareOp op') r')(ha:PE X a ta)(hb:PE X b tb)(hc:PE X c tc)
  (hm:lastMarks [op,op'] [b,c]=false:=by with_unfolding_all rfl):PE X (.Compare a [op,op'] [b,c] pos) (Vl r r' ta tb tc):=by
 intro pins s σ H Q I h;refine Compare_chain (gU (ha pins s σ H _ I h) λv s1 #[x,H1,I1,r1,q1]=>chain_link (gU (hb pins s1 σ H1 _ I1 q1) λu s2 #[y,H2,I2,r2,q2]=>gU (ho pins s2 σ H2 x y v u _ I2 r1 r2 q2) λd s3 #[z,H3,I3,r3,k,e,q3]=>?_)) hm;subst e;cases r3;refine gu ?_;cases k with
 |false=>exact ite_ff #[.bl false,H3,I3,Y,q3]
 |true=>exact ite_tt (chain_last (gU (hc pins s3 σ H3 _ I3 q3) λw' s4 #[z',H4,I4,r4,q4]=>Bz pins s4 σ H4 y z' u w' Q I4 r2 r4 q4))
def Yv(K:aq)(x:V)(H:Hp)(k:Bool):Prop:=
 match x with
 | .non=>k=false
 | .bl b=>k=b
 | .int i=>k=(i != 0)
 | .str y=>y.length<=sizeLine/\k=((y.length:Int) != 0)
 | .Xt y=>y.size<=sizeLine/\k=((y.size:Int) != 0)
 | .ref p=>(∃xs,jW K H p xs/\k=not xs.isEmpty)\/(∃xs,oC K H p xs/\k=not xs.isEmpty)\/∃kvs,H p>>(.dK kvs)/\k=not kvs.isEmpty
 |_=>False
theorem Hf{κ:Type}{kvs:!(κ×V)}{vs:!(κ×M)}(r:KV kvs vs):(not vs.isEmpty)=not kvs.isEmpty:=by cases r<;>rfl
theorem zS(r:dJ xs its):(not its.toArray.isEmpty)=not xs.isEmpty:=by cases r<;>simp
theorem vp:(sizeLine:Nat)<2^63:=by rw[dD];decide
theorem Vm:zcL X (λx H Q=>∃k,Yv X.K x H k/\Q k H):=by
 intro pins s σ H x v Q I rx h;let#[k,e,q]:=h;let hl:=vp;let hs:=dD;cases x with
 |non=>cases rx;let e':k=false:=e;subst e';exact truthy_none #[H,I,q]
 |bl b=>cases rx;let e':k=b:=e;subst e';exact gu #[H,I,q]
 |int i=>let#[t,rfl]:=rx;let e':=e;subst e';exact PySem.P.truthy_int #[H,I,q]
 |str y=>let#[t,rfl]:=rx;obtain⟨hy,e'⟩:y.length<=sizeLine/\k=((y.length:Int) != 0):=e;subst e';exact PySem.P.truthy_str () #[H,I.tok _,q]
 |Xt y=>let#[t,rfl]:=rx;obtain⟨hy,e'⟩:y.size<=sizeLine/\k=((y.size:Int) != 0):=e;subst e';exact PySem.W.truthy_bytes () #[H,I.tok _,q]
 |ref p=>
  cases rx;let e':=e;rcases e' with⟨xs,hx,e'⟩|⟨xs,hx,e'⟩|⟨kvs,hx,e'⟩
  .subst e';let#[its,r,pl,hz]:=I.list hx;let hlen:=r.length;exact wpAny_truthy_list pl.isList (by simp;omega) #[H,I.tok _,[zS r]▸q]
  .subst e';let#[its,r,pl,hz]:=I.tuple hx;let hlen:=r.length;exact truthy_tuple pl (by simp;omega) #[H,I.tok _,[zS r]▸q]
  .subst e';obtain⟨hz,hS,vs,r,m⟩:kvs.length<=sizeLine/\(p==sysModules)=false/\∃vs,KV kvs vs/\s.heap.DictOf _ p vs:=I.hok p _ hx;let hlen:=vb r;exact wpAny_truthy_dict hS m () #[H,I.tok _,[Hf r]▸q]
 |_=>exact(show False from e).elim
theorem M0(ha:PE X a ta)(he:∀whole,isTrue a X.env whole=(do let v <-whole;standAt a.pos;holding [v] (truthy v))):
  PT X a (λσ H Q=>ta σ H λx H'=>∃k,Yv X.K x H' k/\Q k H'):=by intro pins s σ H Q I h;exact isTrue_plain (gU (ha pins s σ H _ I h) λv s1 #[x,H1,I1,r1,q1]=>Vm pins s1 σ H1 x v Q I1 r1 q1) (he _)
theorem Hg:uf X (binaryOp .Add) (λx y H Q=>∃i j,x=.str i/\y=.str j/\i.length+j.length<=sizeLine/\Q (.str (i++j)) H):=by intro pins s σ H x y v u Q I rx ry h;let#[i,j,rfl,rfl,hz,q]:=h;let#[t,rfl]:=rx;let#[t',rfl]:=ry;exact add_str (λt' tk=>#[.str (i++j),H,I.tok _,#[_,Y],q]) hz
theorem vals1(r:dJ [x] us):∃u,us=[u]/\RelV x u:=by
 cases r with
 |cons r1 r2=>cases r2;exact#[_,Y,r1]
theorem vals2(r:dJ [x,y] us):∃u w',us=[u,w']/\RelV x u/\RelV y w':=by
 cases r with
 |cons r1 r2=>
  cases r2 with
  |cons r3 r4=>cases r4;exact#[_,_,Y,r1,r3]
theorem KQ(hc:X.calm=true):iY X (.builtin "min") (λxs H Q=>∃i j,xs=[.int i,.int j]/\Q (.int (if j<i then j else i)) H):=by
 intro pins s σ H xs us Q I r h;let#[i,j,rfl,q]:=h;let#[u,w',rfl,#[t,rfl],#[t',rfl]]:=vals2 r;refine min_two_ints (I.ok.hd hc) λh' tk k=>#[_,H,I.kept k,?_,q];by_cases hj:j<i
 .rw[qQ3 hj,qQ3 hj];exact#[_,Y]
 .rw[qQ2 hj,qQ2 hj];exact#[_,Y]
theorem Ds:iY X (.type "str") (λxs H Q=>∃i,xs=[.int i]/\i.natAbs.log2<1920/\Q (.str (toString i)) H):=by intro pins s σ H xs us Q I r h;let#[i,rfl,hz,q]:=h;let#[u,rfl,t,rfl]:=vals1 r;exact PySem.P.str_of_int hz #[.str _,H,I.tok _,#[_,Y],q]
end
structure Hi(h:dF)(x dx C:U)(mA:O->Option M):Prop where
 obj:h.get? x>>(iq C dx)
 ns:h.Ns1 dx mA
 ne:dx≠x
theorem KS(n:h.Ns1 dx mA):∃od,h.get? dx>>od/\∀name,sx name od>>(mA name):=by
 let#[o,es,ep,ho,hd,hk,_,hm]:=n;refine#[o,ho,λname=>?_];let e:=hm name;unfold nsFind findBy at e;rw[<-Array.find?_toList]at e;unfold sx;rw[hd];dsimp only;split
 .rename_i y q
  rw[q]at e;exact qQ6 some e
 .rename_i q
  rw[q]at e;let a:es.toList.any (·.refKey)=false:=by rw[yd];intro y hy;let#[z,t,Vn]:=hk y (Array.mem_toList_iff.mp hy);simp[Dd.refKey,Vn]
  rw[qQ2 ([a]▸ia)];exact qQ6 some e
theorem Hi.look(I:Hi h x dx C mA):∃od,PySem.W.InstAt h x (iq C dx) C (some od)/\∀name,sx name od>>(mA name):=
 let#[od,ho,hl]:=KS I.ns
 #[od,#[I.obj,Y,Y,ho],hl]
section
variable{prog:bU}{w:c0}{A:jm}{E:M->aU->Prop}{s:aU}{K:aq}{x dx C f:U}{mA:O->Option M}{name:O}
theorem get_map(X:K.In s.heap)(I:Hi s.heap x dx C mA)(hg:kx K C name=true)(hh:lI K C=true)
  (ha:bR K (.ref C) name>>none)(hv:mA name>>v)(M3:PySem.W.handedIn v=true)(h:Q v { s with toks:=s.toks+1 }):
  wpAny (model prog w) A (getAttr (.ref x) name expr) Q E s:=by let#[od,Ja,hl]:=I.look;exact PySem.W.get_value X Ja (uA hg).1 (PySem.W.findObj_own hh ha Y (by rw[hl,hv])) M3 h
theorem M4{Q:M×!M->aU->Prop}(X:K.In s.heap)(I:Hi s.heap x dx C mA)(hg:kx K C name=true)
  (hf:bR K (.ref C) name>>(some (.ref f)))(ht:nZ K (.ref f)=true)(hv:mA name=none)(h:Q (.ref f,[.ref x]) s):
  wpAny (model prog w) A (getMethod (.ref x) name pl) Q E s:=by let#[od,Ja,hl]:=I.look;exact PySem.W.method_fn X Ja (uA hg).1 (uA hg).2 hf (beq_iff_eq.mp ht) (by show(sx name od).map (·.isSome)>>false;rw[hl,hv];rfl) h
theorem Qx{v:M}{ns:!O}{Q:Unit->aU->Prop}(X:K.In s.heap)(I:Hi s.heap x dx C mA)
  (hs:bR K (.ref C) "__setattr__"=some (some (.builtin "object.__setattr__")))(hp:pB K C=true)(ht:yN K C name>>none)(hh:lI K C=true)
  (hw:ED mA ns)(yT:ns.length<=sizeLine)
  (h:∀h',Hi h' x dx C (λy=>if y=name then some v else mA y)->iJ dx s.heap h'->Q .unit { s with heap:=h',toks:=s.toks+2 }):
  wpAny (model prog w) A (setAttr (.ref x) name v) Q E s:=by let#[od,Ja,hl]:=I.look;refine PySem.W.set_plain X Ja hs (PySem.W.osa_open X Ja hp ht λb=>?_);let#[cd,hc,X9]:=PySem.W.any_some hh;refine aA (bf (aA (aA (wpAny_loadPart I.obj (aA (PySem.W.Looks.here (PySem.W.looks_clsIn X hc) ?_))))));rw[X9];refine bf (aA (bf (aA ?_)));refine wpAny_nsSet1 I.ns λh' hn2 pZ=>?_;let#[oD,esD,epD,hoD,hdD,hcD]:=hn2.count (ED.cons name v hw);exact aA (wpAny_lookBehind hoD ([hdD]▸pastItsLine_dict (bA hcD (by rw[a8];omega))) (bf (h _ #[(pZ.2 _ (bF I.ne)).trans I.obj,hn2,I.ne] pZ)))
theorem M5{kw:!(O×M)}{R:GN->aU->Prop}{vs:!M}(X:K.In s.heap)(hm:rS K C=true)
  (hi:bR K (.ref C) "__init__"=some (some (.ref f)))(hf:PySem.W.typeIn K (.ref f)>>(.type "function"))
  (h:codeAny (model prog w) (A.under (.builtin "type.__call__" #[.ref C::vs,kw])) (.call (.ref f) #[.ref (s.heap.objs.size+1)::vs,kw]) (PySem.W.InitBack (s.heap.objs.size+1) R)
   { s with heap:=(s.heap.push ix).push (iq C s.heap.objs.size) }) :
  codeAny (model prog w) A (.call (.ref C) #[vs,kw]) R s:=by exact PySem.W.make_core (PySem.W.makes_of X hm) (PySem.W.looks_findIn X hi) (λself=>PySem.W.bind_fn X self hf) (.inl Y) h
end
def nB(f:O)(v:V):!(O×V)->!(O×V)
 | []=>[(f,v)]
 |(g,x)::r=>if g=f then(g,v)::r else(g,x)::nB f v r
theorem yh(f g:O)(v:V):∀fs:!(O×V),(nB f v fs).lookup g=if g=f then some v else fs.lookup g
 | []=>by
  show lJ g [(f,v)]=_;by_cases h:g=f
  .let hb:=beq_iff_eq.mpr h;simp[lJ,hb,qQ3 h]
  .let hb:=beq_eq_false_iff_ne.mpr h;simp[lJ,hb,qQ2 h]
 |(k,x)::r=>by
  rw[show nB f v ((k,x)::r)=(if k=f then(k,v)::r else(k,x)::nB f v r)from Y];by_cases hk:k=f
  .rw[qQ3 hk];by_cases h:g=k
   .let hb:=beq_iff_eq.mpr h;simp[lJ,hb,qQ3 (h.trans hk)]
   .let hb:=beq_eq_false_iff_ne.mpr h;simp[lJ,hb,qQ2 (λe:g=f=>h (e.trans hk.symm))]
  .rw[qQ2 hk];by_cases h:g=k
   .let hb:=beq_iff_eq.mpr h;simp[lJ,hb,qQ2 (λe:g=f=>hk (h.symm.trans e))]
   .let hb:=beq_eq_false_iff_ne.mpr h;simp[lJ,hb];exact yh f g v r
theorem xF(f:O)(v:V):∀fs:!(O×V),f∈(nB f v fs).map (·.1)/\∀g,g∈fs.map (·.1)->g∈(nB f v fs).map (·.1)
 | []=>#[by simp[nB],λg h=>by simp at h]
 |(k,x)::r=>by
  let#[i1,i2]:=xF f v r;rw[show nB f v ((k,x)::r)=(if k=f then(k,v)::r else(k,x)::nB f v r)from Y];by_cases hk:k=f
  .rw[qQ3 hk];subst hk;exact#[∅,λg h=>by simpa using h]
  .rw[qQ2 hk];refine#[?_,λg h=>?_]
   .rw[av];exact ay _ i1
   .rw[av]at h ⊢;rcases au.mp h with e|e
    .exact au.mpr (.inl e)
    .exact ay _ (i2 g e)
theorem yi(f:O)(v:V):∀fs:!(O×V),(nB f v fs).length<=fs.length+1
 | []=>by simp[nB]
 |(k,x)::r=>by
  let ih:=yi f v r;rw[show nB f v ((k,x)::r)=(if k=f then(k,v)::r else(k,x)::nB f v r)from Y];by_cases hk:k=f
  .rw[qQ3 hk,a8,a8];omega
  .rw[qQ2 hk,a8,a8];omega
theorem r9.some_of{v:V}{o:Option M}(r:r9 (some v) o):∃u,o>>u/\RelV v u:=by
 cases o with
 |none=>exact(show False from r).elim
 |some u=>exact#[u,Y,r]
theorem r9.none_of{o:Option M}(r:r9 none o):o=none:=by
 cases o with
 |none=>rfl
 |some u=>exact(show False from r).elim
theorem KY(r:RelV v u):PySem.W.handedIn u=true:=by
 cases v with
 |non=>cases(show u=rX from r);rfl
 |bl b=>cases(show u=M.bool b from r);rfl
 |int i=>let#[t,e]:=r;cases e;rfl
 |str x=>let#[t,e]:=r;cases e;rfl
 |Xt b=>let#[t,e]:=r;cases e;rfl
 |flt b=>let#[t,e]:=r;cases e;rfl
 |ref a=>cases(show u=dY a from r);rfl
 |ty n=>cases(show u=rY n from r);rfl
section
theorem Dt(hok:vm P w H h)(e:H a>>(.ins C dx fs)):∃mA,Hi h a dx C mA/\(∀f,r9 (fs.lookup f) (mA f))/\ED mA (fs.map (·.1))/\fs.length<=1000/\H dx>>(.own a):=by let#[d,z,ne,ob,mA,n,r,q]:=(hok a _ e);exact#[mA,#[ob,n,ne],r,q,z,d]
end
structure uM(K:aq)(C:U):Prop where
 pg:kx K C fZ=true
 hd:lI K C=true
 po:pB K C=true
 sa:bR K (.ref C) "__setattr__"=some (some (.builtin "object.__setattr__"))
theorem uM.get(c:uM K C)(f:O):kx K C f=true:=c.pg
def gw(K:aq)(C:U)(f:O):Prop:=bR K (.ref C) f>>none
theorem gw.taker{f:O}(n:gw K C f):yN K C f>>none:=by unfold yN;rw[show bR K _ f>>none from n];rfl
structure Qy(K:aq)(C:U)(m:O)(f:U):Prop where
 at_:bR K (.ref C) m>>(some (.ref f))
 fn:nZ K (.ref f)=true
 kp:fw K (.ref f)=true
section
variable{X:Cx}{pins:!(U×Obj)}{σ:St}{H:Hp}{s:aU}{a C dx:U}{fs:!(O×V)}{f:O}{A:jm}{E:M->aU->Prop}
theorem Hj{v:V}{b:Bool}(I:Inv X pins σ H s)(e:H a>>(.ins C dx fs))(c:uM X.K C)(n:gw X.K C f)(l:fs.lookup f>>v)
  (h:∀u s',Inv X pins σ H s'->RelV v u->Q u s'):wpAny (model X.prog X.w) A (getAttr (.ref a) f b) Q E s:=by let#[mA,Oa,r,_,_,_]:=Dt I.hok e;let#[u,hu,ru]:=r9.some_of ([<-l]▸r f);exact get_map I.zO Oa (c.get f) c.hd n hu (KY ru) (h u _ (I.tok _) ru)
theorem Hn{m:O}{g:U}{Q:M×!M->aU->Prop}(I:Inv X pins σ H s)(e:H a>>(.ins C dx fs))(c:uM X.K C)(k:Qy X.K C m g)(l:fs.lookup m=none)
  (h:Q (.ref g,[.ref a]) s):wpAny (model X.prog X.w) A (getMethod (.ref a) m pl) Q E s:=by let#[mA,Oa,r,_,_,_]:=Dt I.hok e;let hn:=r9.none_of ([<-l]▸r m);exact M4 I.zO Oa (c.get m) k.at_ k.fn hn h
theorem Ho{y:V}{Q:Unit->aU->Prop}(I:Inv X pins σ H s)(e:H a>>(.ins C dx fs))(c:uM X.K C)(n:gw X.K C f)(hl:fs.length<1000)(ry:RelV y u)
  (h:∀s',Inv X pins σ (upd H a (.ins C dx (nB f y fs))) s'->Q .unit s'):wpAny (model X.prog X.w) A (setAttr (.ref a) f u) Q E s:=by
 let#[mA,Oa,r,wi,_,ho]:=Dt I.hok e;let hz:(fs.map (·.1)).length<=sizeLine:=by rw[ae,dD];omega
 refine Qx I.zO Oa c.sa c.po n.taker c.hd wi hz λh' O' sb=>h _ ?_;let hd:∃o,h'.get? dx>>o:=let#[o,_,_,e',_]:=O'.ns;#[o,e'];refine I.write ([e]▸fY) (.inr ho) (λb q hb z=>(sb.2 b hb).trans z) hd ?_;refine#[[L Oa.ne]▸ho,?_,Oa.ne,O'.obj,_,O'.ns,λg=>?_,λg hg=>?_]
 .let:=yi f y fs;omega
 .show r9 ((nB f y fs).lookup g) (if g=f then some u else mA g);rw[yh];by_cases q:g=f
  .rwa[qQ3 q,qQ3 q]
  .rw[qQ2 q,qQ2 q];exact r g
 .by_cases q:g=f
  .rw[q];exact(xF f y fs).1
  .refine(xF f y fs).2 g (wi g λz=>hg ?_);show(if g=f then some u else mA g)=none;rwa[qQ2 q]
theorem Inv.made(I:Inv X pins σ H s):Inv X pins σ (upd (upd H s.heap.objs.size (.own (s.heap.objs.size+1))) (s.heap.objs.size+1) (.ins C s.heap.objs.size []))
  { s with heap:=(s.heap.push ix).push (iq C s.heap.objs.size) }:=by
 let e1:(s.heap.push ix).get? s.heap.objs.size>>ix:=bx s.heap Y;let e2:((s.heap.push ix).push (iq C s.heap.objs.size)).get? (s.heap.objs.size+1)>>(iq C s.heap.objs.size):=by
  let:=bx (s.heap.push ix) (o:=iq C s.heap.objs.size) Y
  rwa [ic]at this
 let I1:=I.laid (o:=.own (s.heap.objs.size+1)) (t':=s.toks) (λb u q=>aE _ q) () #[_,e1];refine I1.laid (λb u q=>aE _ q) (Nat.le_of_eq (ic _ _)) ?_;let ne:s.heap.objs.size≠s.heap.objs.size+1:=aX ();refine#[by rw[L ne,aM],bj _,ne,e2,λ_=>none,(dF.Ns1.of_empty (#[ix,#[],_,e1,Y,(λe he=>qQ7 he ∅),λ_=>rfl])).at λo q=>aE _ q,λ_=>fY,λy hy=>qQ7 Y hy]
theorem Qz{prog:bU}{env:Env}{f:O}{pos:Pos}(hb:attributeBase e f env (eval e env)=eval e env)
  (h:wpAny (model prog w) A (eval e env) (λo s₁=>wpAny (model prog w) A (getAttr o f true) Q E s₁) E s):wpAny (model prog w) A (eval (.Attribute e f pos) env) Q E s:=
 Attribute_any_ h (by rw[arm_eval_Attribute,hb])
end
def zcN(K:aq)(ta:TE)(f:O):TE:=λσ H Q=>ta σ H λx H1=>∃a C dx fs v,x=.ref a/\H1 a>>(.ins C dx fs)/\uM K C/\gw K C f/\fs.lookup f>>v/\Q v H1
def zcO(K:aq)(ta tv:TE)(f:O):TS:=λD σ H=>tv σ H λy H1=>ta σ H1 λx H2=>∃a C dx fs,x=.ref a/\H2 a>>(.ins C dx fs)/\uM K C/\gw K C f/\fs.length<1000/\
 D.nx σ (upd H2 a (.ins C dx (nB f y fs)))
section
variable{X:Cx}{o e value:bY}{f:O}{pos pos':Pos}{ta tv:TE}
theorem mU(he:PE X e ta)(hb:vn X e f):PE X (.Attribute e f pos) (zcN X.K ta f):=by intro pins s σ H Q I h;refine Qz hb (gU (he pins s σ H _ I h) λu s1 #[x,H1,I1,rx,a,C,dx,fs,v,ex,ea,c,n,l,q]=>?_);subst ex;obtain rfl:u=dY a:=rx;exact Hj I1 ea c n l λu' s2 I2 ru=>#[v,H1,I2,ru,q]
theorem qZ(ha:PE X o ta)(hv:PE X value tv)(hs:zN X pos value (.Attribute o f pos')):PS X (.Assign [.Attribute o f pos'] value pos) (zcO X.K ta tv f):=by intro pins s σ H D I h;refine plainObj_wpAny_Assign_Attribute (gU (hv pins s σ H _ I h) λu s1 #[y,H1,I1,ry,q]=>gU (ha pins s1 σ H1 _ I1 q) λov s2 #[x,H2,I2,rx,a,C,dx,fs,ex,ea,c,n,l,q2]=>?_) hs;subst ex;obtain rfl:ov=dY a:=rx;exact Ho I2 ea c n l ry λs3 I3=>#[σ,_,I3,q2]
end
section
variable{H:Hp}
inductive zT(K:aq)(H:Hp):V->M->Prop where
 |non:zT K H .non (.type "NoneType")
 |bl (x:Bool):zT K H (.bl x) (.type "bool")
 |int (i:Int):zT K H (.int i) (.type "int")
 |str (x:O):zT K H (.str x) (.type "str")
 |flt (x:UInt64):zT K H (.flt x) (.type "float")
 |lst {a:U} {xs:!V} (e:H a>>(.lst xs)):zT K H (.ref a) (.type "list")
 |oJ {a:U} {o:Obj} {xs:!V} (e:H a>>(.oJ o (.lst xs))):zT K H (.ref a) (.type "list")
 |tup {a:U} {xs:!V} (e:H a>>(.tup xs)):zT K H (.ref a) (.type "tuple")
 |dK {a:U} {kvs:!(Key×V)} (e:H a>>(.dK kvs)):zT K H (.ref a) (.type "dict")
 |dT {a:U} {kvs:!(!Key×V)} (e:H a>>(.dT kvs)):zT K H (.ref a) (.type "dict")
 |ins {a C dx:U} {fs:!(O×V)} (e:H a>>(.ins C dx fs)) (cl:uM K C) (ha:bR K (.ref C) "__class__"=some (some (.builtin "object.__class__")))
   (hn:PySem.W.specialIn K (.builtin "object.__class__") "__get__"=some (some (.builtin "getset_descriptor.__get__"))) (M6:PySem.W.takesIn K (.builtin "object.__class__")>>true)
   (hm:PySem.W.mroIn K C (.type "object")>>true):zT K H (.ref a) (.ref C)
end
structure dB(k:Nat)(A:jm):Prop where
 hd:A.handled=none
 dp:A.depth+3*k+5<recursionLimit
 un:A.units+16*k+200<cLine
theorem dB.mono(r:dB k A)(h:j<=k):dB j A:=#[r.hd,by let:=r.dp;omega,by let:=r.un;omega]
theorem dB.deeper(r:dB (k+1) A)(env:Env):dB k (A.deeper env):=
 #[r.hd,by let:=r.dp;show A.depth+1+3*k+5<_;omega,by let:=r.un;show A.units+3+16*k+200<_;omega]
theorem Hq:(A.under (.builtin "type.__call__" #[.ref C::us,kw])).depth=A.depth+1:=by first|rfl|simp[Eu,Code.weight,Code.isCreation,Code.isGuard,Code.isCaller,Code.frames,GA,guardIds]
theorem Hr:(A.under (.builtin "type.__call__" #[.ref C::us,kw])).units=A.units+1:=by first|rfl|simp[Eu,Code.cUnits,Code.frames,GA]
theorem dB.make(r:dB (k+1) A)(C:U)(us:!M)(kw:!(O×M)):dB k (A.under (.builtin "type.__call__" #[.ref C::us,kw])):=
 #[r.hd,by let:=r.dp;rw[Hq];omega,by let:=r.un;rw[Hr];omega]
theorem dB.depth(r:dB k A):A.depth<recursionLimit:=by let:=r.dp;omega
def Yw:TA:=λ_ H Q=>Q [] H
def Yx(ta:TE)(tr:TA):TA:=λσ H Q=>ta σ H λx H1=>tr σ H1 λxs H2=>Q (x::xs) H2
section
variable{X:Cx}{e:bY}{es:!bY}{te:TE}{t:TA}{pos:Pos}
theorem dU:PA X [] Yw:=λ_ _ _ _ H Q I h=>xt #[[],H,I,.nil,h]
theorem cy(ha:PE X e te)(hr:PA X es t)(hs:j8 X e es:=by rfl):PA X (e::es) (Yx te t):=by intro pos pins s σ H Q I h;rw[hs];exact lC (gU (ha pins s σ H _ I h) λu s1 #[x,H1,I1,r1,q1]=>(gU (hr pos pins s1 σ H1 _ I1 q1) λus s2 #[xs,H2,I2,r2,q2]=>#[_,H2,I2,.cons r1 r2,q2]))
def zcP(t:TA):TE:=λσ H Q=>t σ H λxs H1=>xs.length<=sizeLine/\∀p,H1 p=none->Q (.ref p) (upd H1 p (.tup xs))
def zcQ(t:TA):TE:=λσ H Q=>t σ H λxs H1=>xs.length<=sizeLine/\∀p,H1 p=none->Q (.ref p) (upd H1 p (.lst xs))
theorem sI{x1}(h:PA X es t):PE X (.Tuple es x1 pos) (zcP t):=by intro pins s σ H Q I hq;refine wpAny_Tuple_spliced (gU (h pos pins s σ H _ I hq) λus s1 #[xs,H1,I1,r,z,q]=>#[[<-r.length]▸z,?_]);refine#[.ref s1.heap.objs.size,_,I1.laid (λb u e=>aE _ e) () ?_,Y,q _ (I1.hok.fresh ())];exact#[z,us,r,#[_,bx _ Y,Y,_,Y]]
theorem zU(h:PA X es t):PE X (.List es pos) (zcQ t):=by intro pins s σ H Q I hq;refine wpAny_List_spliced (gU (h pos pins s σ H _ I hq) λus s1 #[xs,H1,I1,r,z,q]=>#[[<-r.length]▸z,?_]);refine#[.ref s1.heap.objs.size,_,I1.laid (λb u e=>aE _ e) () ?_,Y,q _ (I1.hok.fresh ())];exact#[z,us,0,r,bx _ Y]
end
abbrev Sp:=!V->Hp->VK->XK->Prop
abbrev Tf:=!Env->Hp->aU->XK->M->aU->Prop
variable{CX:Tf}
structure KZ(P:bU)(w:c0)(K:aq)(mg:O->Option M)(base:dF)(A:jm)(outer:!Env)(s:aU)(H:Hp):Prop where
 frames:A.frames>>outer
 mod:Mod K mg base
 bs:∀b o,base.get? b>>o->s.heap.get? b>>o/\H b=none
 S9:base.objs.size<=s.heap.objs.size
 yS:s.heap.FunFrames base outer
 U4:∀b∈Mx outer,H b=none
 hok:vm P w H s.heap
 bare:vd s.gens
def CE(outer:!Env)(P:bU)(w:c0)(H:Hp)(s:aU)(Q:VK)(u:M)(s':aU):Prop:=
 ∃v H',s'.os=s.os/\vd s'.gens/\Un (Mx outer) [] H H' s.heap s'.heap/\vm P w H' s'.heap/\RelV v u/\Q v H'
def CR(CX:Tf)(outer:!Env)(P:bU)(w:c0)(H:Hp)(s:aU)(Q:VK)(E:XK)(r:GN)(s':aU):Prop:=
 match r with
 | .ok (.ret u)=>CE outer P w H s Q u s'
 | .ok _=>False
 | .error e=>CX outer H s E e s'
structure dR(P:bU)(w:c0)(K:aq)(mg:O->Option M)(base:dF)(CX:Tf)(k:Nat)(f:U)(fd:fW)(ps:!O)(sp:Sp):Prop where
 len:∀vs H Q E,sp vs H Q E->vs.length=ps.length
 run:∀(A:jm)(outer:!Env)(s:aU)(H:Hp)(args:Args)(us:!M)(vs:!V)(Q:VK)(E:XK),dB k A->KZ P w K mg base A outer s H->BindsTo s fd args (ps.zip us)->dJ vs us->sp vs H Q E->
  codeAny (model P w) A (.call (.ref f) args) (CR CX outer P w H s Q E) s
theorem dR.imp{f:U}{sp sp':Sp}(F:dR P w K mg base CX k f fd ps sp)
  (h:∀vs H Q E,sp' vs H Q E->sp vs H Q E):dR P w K mg base CX k f fd ps sp':=
 #[λvs H Q E q=>F.len vs H Q E (h _ _ _ _ q),λA outer s H args us vs Q E hr he hb hv hs=>F.run A outer s H args us vs Q E hr he hb hv (h _ _ _ _ hs)]
theorem KZ.make(e:KZ P w K mg base A outer s H)(C:U)(us:!M)(kw:!(O×M)):
  KZ P w K mg base (A.under (.builtin "type.__call__" #[.ref C::us,kw])) outer s H:=#[by first|exact e.frames|(simpa[Eu,Code.envs,GA,pushEnvs]using e.frames),e.mod,e.bs,e.S9,e.yS,e.U4,e.hok,e.bare]
section
theorem Inv.env0(I:Inv X pins σ H s):KZ X.prog X.w X.K X.mg X.base X.A X.stack s H:=
 #[I.ok.frames,I.ok.mod,I.bs,bA I.ok.S9 I.sz,I.stack,I.Jv,I.hok,I.bare]
theorem Inv.after{pins:!(U×Obj)}{s s':aU}{H:Hp}{X:Cx}{σ:St}{Q:VK}(I:Inv X pins σ H s)(h:CE X.stack X.prog X.w H s Q u s'):EP X pins σ Q u s':=by let#[v,H',os,bare,un,hok,r,q]:=h;let#[hh,g,d,t,Xw]:=s';obtain rfl:Xw=s.os:=os;exact#[v,H',I.call un hok bare (λb z=>qQ7 z ∅),r,q]
end
def Yy(sp:Sp)(Du:!V)(E:XK)(t:TA):TE:=λσ H Q=>t σ H λvs H1=>sp (vs++Du) H1 Q E
def Yz(C:U)(m:O)(sp:Sp)(Du:!V)(E:XK)(ta:TE)(t:TA):TE:=λσ H Q=>ta σ H λx H1=>∃a dx fs,x=.ref a/\H1 a>>(.ins C dx fs)/\fs.lookup m=none/\
 t σ H1 λvs H2=>sp (x::(vs++Du)) H2 Q E
def Tg(C:U)(sp:Sp)(Du:!V)(E:XK)(t:TA):TE:=λσ H Q=>t σ H λvs H1=>∀x dx,H1 x=none->H1 dx=none->dx≠x->
 sp (.ref x::(vs++Du)) (upd (upd H1 dx (.own x)) x (.ins C dx [])) (λv H2=>v=.non/\Q (.ref x) H2) E
def Binds(K:aq)(fd:fW)(ps:!O)(ds:!M):Prop:=
 ∀(s:aU)(us:!M),K.In s.heap->(us++ds).length=ps.length->BindsTo s fd #[us,[]] (ps.zip (us++ds))
theorem Binds.all(h:∀us:!M,us.length=ps.length->bindArgs fd #[us,[]]=pure (ps.zip us)):Binds K fd ps []:=λs us _ hl=>by rw[cA]at hl ⊢;exact .of_eq (h us hl)
def vq(CX:Tf)(X:Cx)(E:XK):Prop:=∀(pins:!(U×Obj))(σ:St)(H:Hp)(s:aU)(e:M)(s':aU),Inv X pins σ H s->CX X.stack H s E e s'->X.xe e s'
section
variable{X:Cx}{CX:Tf}{k:Nat}{f C:U}{fd:fW}{ps:!O}{sp:Sp}{Du:!V}{ds:!M}{E:XK}{x m:O}{p pos apos:Pos}{e o:bY}{es:!bY}{ta:TE}{t:TA}
theorem M7{Q:VK}(F:dR X.prog X.w X.K X.mg X.base CX k f fd ps sp)(hr:dB k X.A)(hb:Binds X.K fd ps ds)(hd:dJ Du ds)(hx:vq CX X E)
  (I:Inv X pins σ H s)(r:dJ vs us)(h:sp (vs++Du) H Q E):wpAny (model X.prog X.w) X.A (call (.ref f) us) (EP X pins σ Q) X.xe s:=by
 let r2:=r.append hd;let hl:(us++ds).length=ps.length:=[<-r2.length]▸F.len _ _ _ _ h;refine wpAny_call (qm (F.run X.A X.stack s H #[us,[]] _ _ Q E hr I.env0 (hb s us I.zO hl) r2 h) λr s' hq=>?_);cases r with
 |error e=>exact hx pins σ H s e s' I hq
 |ok fl=>
  cases fl with
  |ret u=>exact I.after hq
  |next=>exact h7 hq
  |brk=>exact h7 hq
  |cont=>exact h7 hq
theorem wd(F:dR X.prog X.w X.K X.mg X.base CX k f fd ps sp)(hr:dB k X.A)(hg:Gl X x)(hm:X.mg x>>(.ref f))(hk:fw X.K (.ref f)=true)(hb:Binds X.K fd ps ds)(hd:dJ Du ds)(hx:vq CX X E)
  (ha:PA X (e::es) t)(sJ:xr x:=by decide)(he:j8 X e es:=by rfl)(jX:qg X pos es:=by rfl):
  PE X (.Call (.Name x p) (e::es) [] pos) (Yy sp Du E t):=by intro pins s σ H Q I h;exact mN (zo I hg hm (vg (h₀:=X.base) I.ok.mod.U3 hk (gU (ha pos pins s σ H _ I h) λus s1 #[vs,H1,I1,r,q]=>#[I1.zO,(M7 F hr hb hd hx I1 r q)]) he jX) sJ)
theorem JC(he:PE X o ta)(c:uM X.K C)(hm:Qy X.K C m f)(F:dR X.prog X.w X.K X.mg X.base CX k f fd ps sp)(hr:dB k X.A)(hb:Binds X.K fd ps ds)(hd:dJ Du ds)(hx:vq CX X E)(ha:PA X (e::es) t)
  (EJ:j8 X e es:=by rfl)(jX:qg X pos es:=by rfl)
  (ht:eval (.Call (.Attribute o m apos) (e::es) [] pos) X.env=(do
   let ov <-eval o X.env
   standAt apos.atName
   let(f,first) <-holding [ov] (getMethod ov m pl)
   callWith pos f first (backTo pos (starEach (e::es) X.env)) (backToKw pos (keywordEach [] X.env))):=by rfl) :
  PE X (.Call (.Attribute o m apos) (e::es) [] pos) (Yz C m sp Du E ta t):=by intro pins s σ H Q I h;refine PySem.W.methodCall_KW (gU (he pins s σ H _ I h) λu s1 #[x,H1,I1,rx,a,dx,fs,ex,ea,l,q]=>?_) ht;subst ex;obtain rfl:u=dY a:=rx;refine Hn I1 ea c hm l ?_;refine vg (h₀:=X.base) I.ok.mod.U3 hm.kp (gU (ha pos pins s1 σ H1 _ I1 q) λus s2 #[vs,H2,I2,r,q2]=>#[I2.zO,?_]) EJ jX;exact M7 (vs:=.ref a::vs) F hr hb hd hx I2 (.cons Y r) q2
structure Mk(K:aq)(C f:U):Prop where
 makes:rS K C=true
 init:bR K (.ref C) "__init__"=some (some (.ref f))
 fn:nZ K (.ref f)=true
 kp:fw K (.ref C)=true
theorem ER{Q:VK}(Ma:Mk X.K C f)(F:dR X.prog X.w X.K X.mg X.base CX k f fd ps sp)(hr:dB (k+1) X.A)(hb:Binds X.K fd ps ds)(hd:dJ Du ds)
  (hx:vq CX X E)(I:Inv X pins σ H s)(r:dJ vs us)
  (h:∀x dx,H x=none->H dx=none->dx≠x->sp (.ref x::(vs++Du)) (upd (upd H dx (.own x)) x (.ins C dx [])) (λv H2=>v=.non/\Q (.ref x) H2) E):
  wpAny (model X.prog X.w) X.A (call (.ref C) us) (EP X pins σ Q) X.xe s:=by
 let hq:=h (s.heap.objs.size+1) s.heap.objs.size (I.hok.fresh ()) (I.hok.fresh ()) (aX ());let I2:=Inv.made (C:=C) I;let r2:dJ (V.ref (s.heap.objs.size+1)::(vs++Du)) (dY _::(us++ds)):=.cons Y (r.append hd);let hl:(dY (s.heap.objs.size+1)::us++ds).length=ps.length:=by let e:=r2.length;rw[F.len _ _ _ _ hq]at e;exact e.symm
 refine wpAny_call (M5 I.zO Ma.makes Ma.init (beq_iff_eq.mp Ma.fn) (qm (F.run _ X.stack _ _ #[_,[]] (dY _::(us++ds)) _ _ E (hr.make C us [])
  (I2.env0.make C us []) (hb _ (dY _::us) I2.zO hl) r2 hq) λr s' Ht=>?_));cases r with
 |error e=>exact hx pins σ _ _ e s' I2 Ht
 |ok fl=>
  cases fl with
  |ret u=>let#[v,H',I3,rv,ev,q3]:=I2.after Ht;subst ev;exact#[rv,#[V.ref _,H',I3,Y,q3]]
  |next=>exact h7 Ht
  |brk=>exact h7 Ht
  |cont=>exact h7 Ht
theorem QB(Ma:Mk X.K C f)(F:dR X.prog X.w X.K X.mg X.base CX k f fd ps sp)(hr:dB (k+1) X.A)(hg:Gl X x)(hm:X.mg x>>(.ref C))(hb:Binds X.K fd ps ds)(hd:dJ Du ds)(hx:vq CX X E)
  (ha:PA X (e::es) t)(sJ:xr x:=by decide)(he:j8 X e es:=by rfl)(jX:qg X pos es:=by rfl):
  PE X (.Call (.Name x p) (e::es) [] pos) (Tg C sp Du E t):=by intro pins s σ H Q I h;refine mN (zo I hg hm ?_ sJ);exact vg (h₀:=X.base) I.ok.mod.U3 Ma.kp (gU (ha pos pins s σ H _ I h) λus s1 #[vs,H1,I1,r,q]=>#[I1.zO,(ER Ma F hr hb hd hx I1 r q)]) he jX
theorem M8(Ma:Mk X.K C f)(F:dR X.prog X.w X.K X.mg X.base CX k f fd ps sp)(hr:dB (k+1) X.A)(hg:Gl X x)(hm:X.mg x>>(.ref C))(hb:Binds X.K fd ps ds)(hd:dJ Du ds)(hx:vq CX X E)
  (sJ:xr x:=by decide):PE X (.Call (.Name x p) [] [] pos) (Tg C sp Du E Yw):=by intro pins s σ H Q I h;exact mN (zo I hg hm (PySem.W.callWith_K0 I.zO Ma.kp (ER Ma F hr hb hd hx I .nil h)) sJ)
end
structure bW(N P:!O)(sc:o6):Prop where
 kind:sc.kind=.function
 co:sc.isCoroutine=false
 gen:sc.isGenerator=false
 nd:N.Nodup
 pre:N.take P.length=P
 par:∀x∈P,sc.names.lookup x>>.local\/sc.names.lookup x>>.cell
 Vo:∀y∈sc.names,y.2≠.free
theorem B1{x:O}:∀{binds:!(O×M)}{m:O->Option M},(∀v,(x,v)∉binds)->bindL kindOf binds m x=m x
 | [],_,_=>rfl
 |(n,v)::r,m,h=>by
  unfold bindL;rw[B1 λw hw=>h w (ay _ hw)];split
  .let:x≠n:=by rintro rfl;exact h v aJ
   simp[this]
  .rfl
theorem B2{x:O}:∀{binds:!(O×M)}{m:O->Option M},(∀v,(x,v)∉binds)->bindC kindOf binds m x=m x
 | [],_,_=>rfl
 |(n,v)::r,m,h=>by
  unfold bindC;rw[B2 λw hw=>h w (ay _ hw)];split
  .rfl
  .let:x≠n:=by rintro rfl;exact h v aJ
   simp[this]
theorem B3{kindOf:O->Option o7}{x:O}{v:M}:∀{P:!O}{vs:!M}{i:Nat}{m:O->Option M},P.Nodup->P[i]?>>x->vs[i]?>>v->kindOf x>>.local->
  bindL kindOf (P.zip vs) m x>>v
 | [],_,_,_,_,h,_,_=>by simp at h
 |_::_,[],_,_,_,_,h,_=>by simp at h
 |p::P,w::vs,0,m,nd,h1,h2,hk=>by simp at h1 h2;subst h1;subst h2;show bindL kindOf ((p,w)::P.zip vs) m p=_;unfold bindL;rw[B1 λv hv=>(aO.mp nd).1 (lD hv).1,qQ3 hk];simp
 |p::P,w::vs,i+1,m,nd,h1,h2,hk=>by unfold bindL;exact B3 (aO.mp nd).2 ↑h1 ↑h2 hk
theorem B4{kindOf:O->Option o7}{x:O}{v:M}:∀{P:!O}{vs:!M}{i:Nat}{m:O->Option M},P.Nodup->P[i]?>>x->vs[i]?>>v->kindOf x≠some .local->
  bindC kindOf (P.zip vs) m x>>v
 | [],_,_,_,_,h,_,_=>by simp at h
 |_::_,[],_,_,_,_,h,_=>by simp at h
 |p::P,w::vs,0,m,nd,h1,h2,hk=>by simp at h1 h2;subst h1;subst h2;show bindC kindOf ((p,w)::P.zip vs) m p=_;unfold bindC;rw[B2 λv hv=>(aO.mp nd).1 (lD hv).1,qQ2 hk];simp
 |p::P,w::vs,i+1,m,nd,h1,h2,hk=>by unfold bindC;exact B4 (aO.mp nd).2 ↑h1 ↑h2 hk
def start(N:!O)(vs:!V):St:=vs.map some++aW (N.length-vs.length) none
def EV(CX:Tf)(P:bU)(w:c0)(K:aq)(mg:O->Option M)(base:dF)(N:!O)(qual:O)(scope:o6)(f:U)(cd:M)(A:jm)(outer:!Env)(s:aU)(H:Hp)(E:XK):Cx where
 prog:=P
 w:=w
 K:=K
 mg:=mg
 base:=base
 A:=A.deeper (envOfC qual scope s.heap.objs.size f cd)
 N:=N
 s₀:=s
 H₀:=H
 env:=envOfC qual scope s.heap.objs.size f cd
 outer:=outer
 stack:=envOfC qual scope s.heap.objs.size f cd::outer
 ex:=[]
 calm:=true
 fn:=λ_=>true
 pn:=[]
 xe:=λe s'=>wpAny (model P w) (A.deeper (envOfC qual scope s.heap.objs.size f cd)) (leaving (envOfC qual scope s.heap.objs.size f cd) e) (λ_ Ti=>CX outer H s E e Ti) (λe' Ti=>CX outer H s E e' Ti) s'
theorem EW{sc:o6}{n:Nat}{x:O}(h:sc.names.lookup x>>.cell):∃c,(cellsFrom n sc.names []).lookup x>>c:=by exact Option.isSome_iff_exists.mp (C8 sc.names n [] (.inl h))
theorem K0{qual:O}{f:U}{cd:M}{s1: aU}{E:XK}
  (S:bW N ps scope)(hd:A.handled=none)(e0:KZ P w K mg base A outer s H)(hl:vs.length=ps.length)(r:dJ vs us)
  (x:InCallC s s.heap.objs.size (bindL (envOfC qual scope s.heap.objs.size f cd).kindOf (ps.zip us) λ_=>none) (cellsFrom (s.heap.objs.size+1) scope.names []) (bindC (envOfC qual scope s.heap.objs.size f cd).kindOf (ps.zip us) λ_=>none) s1):
  Inv (EV CX P w K mg base N qual scope f cd A outer s H E) [] (start N vs) H s1:=by
 let jX:ps.length<=N.length:=by let:=qQ6 dX S.pre;rw[a9]at this;omega
 let#[h1,tk,rfl,hk]:=x.done;let YB:∀b:U,b∉(EV CX P w K mg base N qual scope f cd A outer s H E).ex:=λb z=>qQ7 (show b∈([])from z) ∅;refine#[#[e0.mod,S.kind,Y,Y,aP _,λy z c h1 h2=>?_,λy hy=>?_,λy c _ h=>?_,λ_=>hd,jm.frames_deeper e0.frames,.inr #[Y,Y],λb z=>qQ7 z (YB b),e0.bs,e0.S9,λb _ _=>YB b,λb z=>qQ7 z (YB b),e0.yS,e0.U4],
  rfl,e0.bare,Un.kept hk,#[_,x.toInCall.ns,λi y v h1 h2 h3=>?_],λy c h=>#[_,x.cell y c h],e0.hok.fresh (aP _),λy c h=>?_,λp hp=>qQ7 (show p∈([])from hp) ∅,e0.hok.kept hk,?_]
 .exact name_of_addr x.apart (je h1) (je h2)
 .let hy:=hy;rcases hy with hy|hy
  .exact EW hy
  .exact qQ7 Y (S.Vo _ (je hy))
 .exact yM (x.above y c (je h))
 .let hi:i<vs.length:=by
   unfold start at h2;by_cases hi:i<vs.length
   .exact hi
   .rw[bM ↑hi]at h2;rw[dZ]at h2;split at h2<;>cases h2
  let ha:vs[i]?>>v:=by
   unfold start at h2;rw[bN ↑hi,ax]at h2;cases e:vs[i]? with
   |none=>rw[e]at h2;cases h2
   |some a=>rw[e]at h2;cases h2;rfl
  let#[u,hu,rv]:=r.get ha;let hp:ps[i]?>>y:=by rwa[<-S.pre,lb ()]
  let ndP:ps.Nodup:=[<-S.pre]▸S.nd.sublist (ye _ _);refine#[u,rv,?_];rcases S.par y (aH hp)with k|k
  .exact .inl #[k,B3 ndP hp hu k]
  .let#[c,e]:=EW k;refine .inr #[.inl k,c,e,?_];let q:=x.cell y c e;rwa[B4 ndP hp hu (by show scope.names.lookup y≠_;rw[k];decide)]at q
 .exact e0.hok.fresh (yM (x.above y c (je h)))
 .unfold start;show _=N.length;rw[aR,ae,du];omega
theorem YC{f:U}{name qual:O}{params:Arguments}{dV kV doc pm gj ct oc:M}{an od:Option U}
  {K1:Array (Option M)}{sp:Sp}(lk:K.lookup f>>#[oc,od,.func (gy name qual params body scope dV kV doc pm an gj ct),K1])(Qq:jZ K gj qual=true)(S:bW N ps scope)
  (len:∀vs H Q E,sp vs H Q E->vs.length=ps.length)
  (M9:∀(A:jm)(outer:!Env)(s:aU)(H:Hp)(vs:!V)(Q:VK)(E:XK),dB k (A.deeper (envOfC qual scope s.heap.objs.size f gj))->sp vs H Q E->
   ∃t,Jx (EV CX P w K mg base N qual scope f gj A outer s H E) body t/\t { nx:=λ_ H'=>Q .non H',rt:=Q } (start N vs) H) :
  dR P w K mg base CX (k+1) f (gy name qual params body scope dV kV doc pm an gj ct) ps sp:=by
 refine#[len,λA outer s H args us vs Q E hr e0 hb r Dv=>?_];let hl:=len _ _ _ _ Dv;let KX:=e0.mod.U3.keeps λb o e=>(e0.bs b o e).1;let EX:∀y∈ps.zip us,scope.names.lookup y.1>>.local\/(scope.names.lookup y.1>>.cell/\((cellsFrom (s.heap.objs.size+1) scope.names []).lookup y.1).isSome=true):=λ#[n,v] hy=>by
  rcases S.par n (lD hy).1 with q|q
  .exact .inl q
  .exact .inr #[q,C8 _ _ _ (.inl q)]
 refine codeAny_call_function hr.depth (KX _ _ lk) Y S.co S.gen Y (PySem.W.codeRec_of KX Qq) (hb _ _ _ _ ?_);refine wpAny_newFunctionEnv_cells S.kind EX λenv he s1 x=>?_;subst he;refine#[(e0.mod.nolimit.keeps λb o e=>(e0.bs b o e).1).keeps x.toInCall.keep,codeAny_func ?_];let#[t,ht,hq]:=M9 A outer s H vs Q E (hr.deeper _) Dv;refine iE (ht [] s1 _ H _ (K0 S hr.hd e0 hl r x) hq) (λfl s' hs=>?_) λe s' hs=>hs;let fin:∀{σ':St}{H':Hp}{v:V}{u:M},Inv (EV CX P w K mg base N qual scope f gj A outer s H E) [] σ' H' s'->RelV v u->Q v H'->CE outer P w H s Q u s':=
  λ{σ' H' v u}Ja rv q=>#[v,H',Ja.os,Ja.bare,Ja.base,Ja.hok,rv,q];cases fl with
 |ret u=>let#[v,σ',H',Ja,rv,q]:=hs;exact fin Ja rv q
 |next=>let#[σ',H',Ja,q]:=hs;exact fin (v:=V.non) Ja Y q
 |brk=>let#[_,_,_,q]:=hs;exact h7 q
 |cont=>let#[_,_,_,q]:=hs;exact h7 q
section
variable{X:Cx}{x:O}{p pos:Pos}{e:bY}{es:!bY}{t:TA}{id T:String}{r:!V->Hp->VK->Prop}
def tCB(r:!V->Hp->VK->Prop)(t:TA):TE:=λσ H Q=>t σ H λvs H1=>r vs H1 Q
theorem qv(hc:iY X (.builtin id) r)(hg:Gl X x)(hm:X.mg x=none)(hv:bootBuiltins x>>(.builtin id))(ha:PA X (e::es) t)(hn:x≠"__name__":=by decide)(sJ:xr x:=by decide)
  (he:j8 X e es:=by rfl)(jX:qg X pos es:=by rfl):PE X (.Call (.Name x p) (e::es) [] pos) (tCB r t):=by intro pins s σ H Q I h;exact mN (xD I hg hm hv (PyProof.Rows.callWith_builtin1 (gU (ha pos pins s σ H _ I h) λus s1 #[vs,H1,I1,r1,q1]=>hc pins s1 σ H1 vs us Q I1 r1 q1) he jX) hn sJ)
theorem mV(hc:iY X (.type T) r)(hg:Gl X x)(hm:X.mg x=none)(hv:bootBuiltins x>>(.type T))(ha:PA X (e::es) t)(hn:x≠"__name__":=by decide)(sJ:xr x:=by decide)
  (he:j8 X e es:=by rfl)(jX:qg X pos es:=by rfl):PE X (.Call (.Name x p) (e::es) [] pos) (tCB r t):=by intro pins s σ H Q I h;exact mN (xD I hg hm hv (jo (gU (ha pos pins s σ H _ I h) λus s1 #[vs,H1,I1,r1,q1]=>hc pins s1 σ H1 vs us Q I1 r1 q1) he jX) hn sJ)
end
end L2
namespace HT
open PySem PyProof.Rows
section
open PySem.SeqAt
open PySem.AutoSeq1 (wpAny_loadPart')
open PySem.MeetsSeq PySem.MeetsSeq2 PySem.MeetsSeq3
end
section
variable{prog:bU}{w:c0}{A:jm}{E:M->aU->Prop}{s:aU}
theorem QC(ht:IsTup s.heap t vs.toArray)(hb:IsTup s.heap b ws.toArray)(hv:vs≠[])
  (h1:ws=[]->Q (.ref t) s)(h2:ws≠[]->Q (.ref s.heap.objs.size) { s with heap:=s.heap.push { cls:=.type "tuple",data:=.seq (vs++ws).toArray } })
  (yT:vs.length+ws.length<=sizeLine):wpAny (model prog w) A (binaryOp .Add (.ref t) (.ref b)) Q E s:=by
 let#[#[cls,dd,data,sl],ho,hc,n,hd]:=id ht;let#[#[zcR,dd2,data2,sl2],Tj,Tn,n2,hd2]:=id hb;subst hc hd Tn hd2;let e:vs.toArray++ws.toArray=(vs++ws).toArray:=∅
 by_cases hw:ws=[]
 .exact concat_meets #[_,ho,Y] #[_,Tj,Y] noFill_tuple_add seq_tuple_add C9 BO (Br _ _)
   (tuple_addW1 t b vs.toArray ws.toArray n n2 dd dd2 sl sl2 ↑hv (by simp[hw])) #[ho,Tj,h1 hw]
 .refine concat_meets #[_,ho,Y] #[_,Tj,Y] noFill_tuple_add seq_tuple_add C9 BO (Br _ _)
   (tuple_addW2 t b vs.toArray ws.toArray n n2 dd dd2 sl sl2 ↑hv ↑hw ([bC,bC]▸yT)) #[ho,Tj,?_];rw[e];exact h2 hw
def pE(n d:Nat):Option Int->Nat
 |none=>d
 |some v=>if v<0 then(v+(n:Int)).toNat else min v.toNat n
theorem EY(n d:Nat):pE n d none=d:=Y
theorem q_(n d k:Nat):pE n d (some (k:Int))=min k n:=by show(if(k:Int)<0 then(k+(n:Int)).toNat else min (k:Int).toNat n)=min k n;rw[qQ2 (),fF]
theorem JD(v:Int)(n d:Nat):(if v<0 then max (v+(n:Int)) 0 else min v (n:Int))=((pE n d (some v):Nat):Int):=by
 show(if v<0 then max _ 0 else min v n)=(((if v<0 then(v+n).toNat else min v.toNat n):Nat));by_cases hv:v<0
 .simp only[qQ3 hv];omega
 .simp only[qQ2 hv];omega
theorem Hu(lo hi:Option Int)(n:Nat):xn lo hi 1 (n:Int)=(((pE n 0 lo:Nat):Int),((pE n n hi:Nat):Int)):=by
 refine Prod.ext ?_ ?_
 .cases lo with
  |none=>rfl
  |some v=>exact JD v n 0
 .cases hi with
  |none=>rfl
  |some v=>exact JD v n n
theorem Hv(i j:Nat):jL (i:Int) (j:Int) 1=j-i:=by unfold jL;split<;>omega
theorem zV(p:C_ v o)(h:Q o s):wpAny (model prog w) A (vi.Slice.slicePartIndex v) Q E s:=by
 cases p with
 |none=>exact slicePart_none h
 |int i t=>exact slicePart_int h
theorem xG{sl:U}{vl vu:M}{lo hi:Option Int}{n:Nat}{Q:Int×Int×Nat->aU->Prop}(hs:s.heap.IsSliceOf sl vl vu .none)(pl:C_ vl lo)(pu:C_ vu hi)
  (h:Q (((pE n 0 lo:Nat):Int),1,pE n n hi-pE n 0 lo) s):wpAny (model prog w) A (vi.Slice.sliceApplied (.ref sl) (pure (n:Int))) Q E s:=by let#[os,YD,JF,Vp]:=id hs;refine aA (aA (fX YD Vp Y (aA (fX YD Vp Y (aA (fX YD Vp Y (bf ?_)))))));refine aA (slicePart_none ?_);refine aA (zV pl (aA (zV pu (aA (bf ?_)))));show wpAny _ _ (match xn lo hi 1 (n:Int)with|(lo,hi)=>pure (lo,(1:Int),jL lo hi 1)) _ _ s;rw[Hu lo hi n];show wpAny _ _ (pure (((pE n 0 lo):Int),1,jL ((pE n 0 lo)) ((pE n n hi)) 1)) _ _ s;rw[Hv];exact bf h
theorem M_(xs:Array M)(i k:Nat):((cF k).filterMap λ(m:Nat)=>xs[((i:Int)+(m:Int)*1).toNat]?).toArray=((xs.toList.drop i).take k).toArray:=by
 let e:(λ(m:Nat)=>xs[(i+(m:Int)*1).toNat]?)=λm=>xs[i+m]?:=by funext m;let:(i+(m:Int)*1).toNat=i+m:=();rw[this]
 rw[e];let:=pick_run xs i k;rw[bX]at this;let e2:((λx=>xs[x]?)∘λx=>i+x)=λm=>xs[i+m]?:=Y;rw[e2]at this;rw[this]
theorem wg{Q:M->aU->Prop}{t sl:U}{items:Array M}{vl vu:M}{lo hi:Option Int}(ht:IsTup s.heap t items)(hs:s.heap.IsSliceOf sl vl vu .none)(pl:C_ vl lo)(pu:C_ vu hi)
  (hw:¬(pE items.size 0 lo=0/\pE items.size items.size hi=items.size))
  (h:Q (.ref s.heap.objs.size) { s with heap:=s.heap.push { cls:=.type "tuple",data:=.seq ((items.toList.drop (pE items.size 0 lo)).take (pE items.size items.size hi-pE items.size 0 lo)).toArray } })
  (yT:items.size<=sizeLine):wpAny (model prog w) A (getItem (.ref t) (.ref sl)) Q E s:=by
 let JG:sizeOk (.seq ((items.toList.drop (pE items.size 0 lo)).take (pE items.size items.size hi-pE items.size 0 lo)).toArray):=by show((items.toList.drop _).take _).toArray.size<=sizeLine;rw[bC,a9,cX,cW];omega
 let#[os,YD,JF,Vp]:=id hs;unfold getItem
 try with_reducible refine mF ?_
 first|refine aA (bf ?_)|skip
 refine aA (wpAny_sequenceKey ht.typeIs ⋯ ?_);refine aA (jI ht.typeIs lq
  (lE lq ht.typeIs entry_tuple_getitem ?_ (args_tuple_getitem _ _)));show wpAny _ _ (vi.Tuple.tupleItemsOf _ >>= _) _ _ s;refine aA (tupleItemsOf_ ht ?_);refine aA (wpAny_typeOf (#[os,YD,JF]) ?_);refine aA (xG hs pl pu ?_);let K2:¬((((pE items.size 0 lo):Int)==0&&(1:Int)==1&&(pE items.size items.size hi-pE items.size 0 lo)==items.size)=true):=by
  intro q;rw[nO,nO]at q;let q1:=eq_of_beq q.1.1;let q2:=eq_of_beq q.2;exact hw #[(),()]
 show wpAny _ _ (if(((pE items.size 0 lo):Int)==0&&1==1&&(pE items.size items.size hi-pE items.size 0 lo)==items.size)=true then _ else _) _ _ s;rw[qQ2 K2,M_]
 first
  |exact aA (gv (bf #[_,Y,bf h]) JG)
  |exact aA (gv (aA (bf (bf #[_,Y,bf h]))) JG)
  |exact aA (aA (gv (bf (bf #[_,Y,bf h])) JG))
  |exact aA (aA (gv (bf #[_,Y,bf h]) JG))
end
end HT
namespace L2
open PySem PySem.Spec PyProof.Rows
variable{its:!M}{n t':Nat}
abbrev TO:=St->Hp->(Option Int->Hp->Prop)->Prop
def PO(X:Cx)(e:Option bY)(t:TO):Prop:=
 ∀(pins:!(U×Obj))(s:aU)(σ:St)(H:Hp)(Q:Option Int->Hp->Prop),Inv X pins σ H s->t σ H Q->
  wpAny (model X.prog X.w) X.A (evalPart e X.env) (λu s'=>∃o H',Inv X pins σ H' s'/\C_ u o/\Q o H') X.xe s
def QD:TO:=λ_ H Q=>Q none H
def YF(t:TE):TO:=λσ H Q=>t σ H λx H1=>∃i,x=.int i/\Q (some i) H1
theorem intsAre_of:∀{us:!M},dJ (ns.map V.int) us->Bs us ns:=by
 induction ns with
 |nil=>intro us r;rw[iK]at r;cases r;exact .nil
 |cons n ns ih=>
  intro us r;cases r with
  |cons r1 r2=>let#[t,e]:=r1;subst e;exact .cons n t (ih r2)
section
variable{e:bY}{te:TE}{lo hi:Option bY}{tl th:TO}{p2:Pos}
theorem QF:PO X none QD:=by intro pins s σ H Q I h;exact bf #[none,H,I,.none,h]
theorem QG(h:PE X e te):PO X (some e) (YF te):=by intro pins s σ H Q I hw;refine gU (h pins s σ H _ I hw) λu s1 #[x,H1,I1,r1,q1]=>?_;let#[i,rfl,q]:=q1;let#[t,rfl]:=r1;exact#[_,H1,I1,.int i t,q]
def SlR(X:Cx)(r:V->Option Int->Option Int->Hp->VK->Prop):Prop:=
 ∀(pins:!(U×Obj))(s:aU)(σ:St)(H:Hp)(x:V)(v vl vu:M)(lo hi:Option Int)(sl:U)(Q:VK),Inv X pins σ H s->RelV x v->s.heap.IsSliceOf sl vl vu .none->C_ vl lo->C_ vu hi->r x lo hi H Q->
  ∃T id,typeLookup (.type T) "__getitem__"=pure (some (.builtin id))/\s.TypeIs v T/\wpAny (model X.prog X.w) X.A (getItem v (.ref sl)) (EP X pins σ Q) X.xe s
def tSl(r:V->Option Int->Option Int->Hp->VK->Prop)(te:TE)(tl th:TO):TE:=λσ H Q=>te σ H λx H1=>tl σ H1 λl H2=>th σ H2 λu H3=>r x l u H3 Q
theorem zW{X:Cx}{pos:Pos}{r:V->Option Int->Option Int->Hp->VK->Prop}(hr:SlR X r)(he:PE X e te)(hl:PO X lo tl)(hu:PO X hi th):PE X (.Subscript e (.Slice lo hi none p2) pos) (tSl r te tl th):=by intro pins s σ H Q I h;refine Subscript_ (gU (he pins s σ H _ I h) λv s1 #[x,H1,I1,r1,q1]=>?_);refine wpAny_Slice (gU (hl pins s1 σ H1 _ I1 q1) λvl s2 #[l,H2,I2,pl,q2]=>gU (hu pins s2 σ H2 _ I2 q2) λvu s3 #[u,H3,I3,pu,q3]=>?_);refine bf ?_;let I4:Inv X pins σ H3 { s3 with heap:=s3.heap.push { cls:=.type "slice",data:=.fields (bQ [vl,vu,.none]) } }:=I3.kept λb ob q=>aE _ q;let#[T,id,hT,ht,hg]:=hr pins { s3 with heap:=s3.heap.push { cls:=.type "slice",data:=.fields (bQ [vl,vu,.none]) } } σ H3 x v vl vu l u s3.heap.objs.size Q I4 r1 (dF.IsSliceOf.new ..) pl pu q3;exact tail_any ht hT hg (by with_unfolding_all rfl)
def K3(xs:!V)(lo hi:Option Int):!V:=(xs.drop (HT.pE xs.length 0 lo)).take (HT.pE xs.length xs.length hi-HT.pE xs.length 0 lo)
theorem yj(xs:!V)(lo hi:Option Int):(K3 xs lo hi).length<=xs.length:=by unfold K3;rw[a9,cX];omega
def zcS(K:aq):V->Option Int->Option Int->Hp->VK->Prop:=λx lo hi H Q=>∃a xs,x=.ref a/\oC K H a xs/\
 ¬(HT.pE xs.length 0 lo=0/\HT.pE xs.length xs.length hi=xs.length)/\∀p,H p=none->Q (.ref p) (upd H p (.tup (K3 xs lo hi)))
theorem Vq:SlR X (zcS X.K):=by intro pins s σ H x v vl vu lo hi sl Q I rx hs pl pu h;let#[a,xs,rfl,hx,hw,q]:=h;cases rx;let#[its,r,ht,hz]:=I.tuple hx;let hlen:its.toArray.size=xs.length:=[bC]▸r.length.symm;refine#[_,_,lq.lookup,ht.typeIs,?_];refine HT.wg ht hs pl pu ([hlen]▸hw) ?_ ([hlen]▸hz);rw[hlen];refine#[.ref s.heap.objs.size,_,I.laid (λb ob q=>aE _ q) () ?_,Y,q _ (I.hok.fresh ())];exact#[bA (yj xs lo hi) hz,_,(r.drop _).take _,uJ _ _]
def YG(K:aq):R2:=λx y H Q=>∃a b xs ys,x=.ref a/\y=.ref b/\oC K H a xs/\oC K H b ys/\xs≠[]/\xs.length+ys.length<=sizeLine/\
 (ys=[]->Q (.ref a) H)/\(ys≠[]->∀p,H p=none->Q (.ref p) (upd H p (.tup (xs++ys))))
theorem dJ.zq(r:dJ xs us):us=[]↔xs=[]:=by
 cases r with
 |nil=>simp
 |cons _ _=>simp
theorem QH:uf X (binaryOp .Add) (YG X.K):=by intro pins s σ H x y v u Q I rx ry h;let#[a,b,xs,ys,rfl,rfl,ha,hb,hx,hz,q1,q2]:=h;cases rx;cases ry;let#[its,r1,p1,_]:=I.tuple ha;let#[nE,r2,p2,_]:=I.tuple hb;refine HT.QC p1 p2 (λz=>hx (r1.zq.mp z)) (λz=>#[.ref a,H,I,Y,q1 (r2.zq.mp z)]) (λz=>?_) ([<-r1.length,<-r2.length]▸hz);refine#[.ref s.heap.objs.size,_,I.laid (λb ob q=>aE _ q) () ?_,Y,q2 (λw=>z (r2.zq.mpr w)) _ (I.hok.fresh ())];exact#[[aR]▸hz,_,r1.append r2,uJ _ _]
end
def Tp(n:Nat)(i:Int):Option Nat:=if 0<=i then(if i<n then some i.toNat else none)else if -(n:Int)<=i then some (i+n).toNat else none
def uN{α:Type}(xs:!α)(i:Int):Option α:=(Tp xs.length i).bind λj=>xs[j]?
theorem QI(h:Tp n i>>j):seqIndex? i n>>j/\j<n/\-(n:Int)<=i/\i<n:=by
 unfold Tp at h;by_cases h0:0<=i
 .rw[qQ3 h0]at h;by_cases h1:i<n
  .rw[qQ3 h1]at h;let e:=cv h;exact#[by rw[seqIndex_of h0 h1,e],(),(),h1]
  .rw[qQ2 h1]at h;cases h
 .rw[qQ2 h0]at h;by_cases h1:-n<=i
  .rw[qQ3 h1]at h;let e:=cv h;exact#[by rw[seqIndex_neg () h1,e],(),h1,()]
  .rw[qQ2 h1]at h;cases h
theorem Dw{α:Type}{xs:!α}{i:Int}{v:α}(h:uN xs i>>v):∃j,seqIndex? i xs.length>>j/\xs[j]?>>v/\j<xs.length/\-(xs.length:Int)<=i/\i<xs.length:=by
 unfold uN at h;cases e:Tp xs.length i with
 |none=>rw[e]at h;cases h
 |some j=>rw[e]at h;let#[h1,h2,h3,h4]:=QI e;exact#[j,h1,h,h2,h3,h4]
theorem cB{α:Type}{xs:!α}{j:Nat}{v:α}(h:xs[j]?>>v):uN xs (j:Int)>>v:=by
 let hj:=(aF.mp h).1;let e:Tp xs.length j>>j:=by unfold Tp;rw[qQ3 (),qQ3 ()];simp
 unfold uN;rwa[e]
def n_(b:bY):Prop:=∀o i,subscripted b false o i=operate [o,i] (getItem o i)
def Qe(X:Cx)(r:R2):Prop:=
 ∀(value slice:bY)(pins:!(U×Obj))(s:aU)(σ:St)(H:Hp)(x y:V)(v u:M)(Q:VK),Inv X pins σ H s->RelV x v->RelV y u->r x y H Q->
  subscripted slice false v u=operate [v,u] (getItem v u)->wpAny (model X.prog X.w) X.A (subscriptTail value slice v u) (EP X pins σ Q) X.xe s
def MtR(X:Cx)(id:String)(r:V->!V->Hp->VK->Prop):Prop:=
 ∀(pins:!(U×Obj))(s:aU)(σ:St)(H:Hp)(x:V)(xs:!V)(v:M)(us:!M)(Q:VK),Inv X pins σ H s->RelV x v->dJ xs us->r x xs H Q->
  wpAny (model X.prog X.w) X.A (call (.builtin id) (v::us)) (EP X pins σ Q) X.xe s
section
variable{X:Cx}{a:bY}
theorem Qe.or(h:Qe X r)(h':Qe X r'):Qe X (λx y H Q=>r x y H Q\/r' x y H Q):=by
 intro value slice pins s σ H x y v u Q I rx ry q hs;rcases q with q|q
 .exact h value slice pins s σ H x y v u Q I rx ry q hs
 .exact h' value slice pins s σ H x y v u Q I rx ry q hs
theorem JH(hr:Qe X r)(ha:PE X a ta)(hb:PE X b tb)(hs:n_ b):PE X (.Subscript a b pos) (Yq r ta tb):=by intro pins s σ H Q I h;exact Subscript_ (Vg ha hb I h λv u s2 x y H2 I2 rx ry q=>hr a b pins s2 σ H2 x y v u Q I2 rx ry q (hs _ _))
def YH(K:aq):R2:=λx y H Q=>∃p xs i v,x=.ref p/\y=.int i/\jW K H p xs/\uN xs i>>v/\Q v H
def YJ(K:aq):R2:=λx y H Q=>∃p xs i v,x=.ref p/\y=.int i/\oC K H p xs/\uN xs i>>v/\Q v H
def YK:R2:=λx y H Q=>∃z i c,x=.str z/\y=.int i/\z.length<=sizeLine/\uN z.cps.toList i>>c/\Q (.str #[(bQ [c])]) H
theorem QJ:Qe X (YH X.K):=by
 intro value slice pins s σ H x y v u Q I rx ry h hs;let#[p,xs,i,z,rfl,rfl,hq,he,q]:=h;cases rx;let#[t,rfl]:=ry;let#[its,r,pl,hz]:=I.list hq;let#[j,h1,h2,h3,h4,h5]:=Dw he;let#[w,ew,vY]:=r.get h2;let hl:=r.length;let hn:=vp;let fin:EP X pins σ Q w s:=#[z,H,I,vY,q];by_cases h0:0<=i
 .let hj:i.toNat=j:=by rw[seqIndex_of h0 h5]at h1;exact cv h1
  exact item_listR pl.isList h0 () (by rw[hj];simpa using ew) fin hs
 .let hj:(i+its.toArray.size).toNat=j:=by rw[seqIndex_neg () h4]at h1;rw[bC,<-hl];exact cv h1
  exact subscriptTail_builtinR pl.isList.typeIs slot_list_getitem.lookup
   (wpAny_getItem_list_neg pl.isList () (by rw[bC]<;>omega) () (by rw[hj];simpa using ew) #[Y,fin]) hs
theorem Vr:Qe X (YJ X.K):=by
 intro value slice pins s σ H x y v u Q I rx ry h hs;let#[p,xs,i,z,rfl,rfl,hq,he,q]:=h;cases rx;let#[t,rfl]:=ry;let#[its,r,pl,hz]:=I.tuple hq;let#[j,h1,h2,h3,h4,h5]:=Dw he;let#[w,ew,vY]:=r.get h2;let hl:=r.length;let hn:=vp;exact subscriptTail_builtinR pl.typeIs slot_tuple_getitem.lookup
  (getItem_tuple pl () () ([bC,<-hl]▸h1) ↑ew #[Y,(#[z,H,I,vY,q])]) hs
theorem Vs:Qe X YK:=by
 intro value slice pins s σ H x y v u Q I rx ry h hs;let#[z,i,c,rfl,rfl,hz,he,q]:=h;let#[t,rfl]:=rx;let#[t',rfl]:=ry;let#[j,h1,h2,h3,h4,h5]:=Dw he;let hl:z.cps.toList.length=z.length:=by simp[Str.length]
 rw[hl]at h1 h4 h5;let hn:=vp;exact tail_any (vh s z t) slot_str_getitem.lookup (getItem_str (by rw[qQ0 (),qQ0 (),Bool.or_false]) (by rw[h1];simpa using h2) #[.str #[(bQ [c])],H,I.tok _,#[_,Y],q]) hs
def rIx(K:aq):R2:=λx y H Q=>YH K x y H Q\/YJ K x y H Q\/YK x y H Q
theorem xH:Qe X (rIx X.K):=QJ.or (Vr.or Vs)
theorem Dx(lo hi:Option Int)(n:Nat):(sliceBounds lo hi none n).1=((HT.pE n 0 lo:Nat):Int)/\(sliceBounds lo hi none n).2.1=((HT.pE n n hi:Nat):Int)/\(sliceBounds lo hi none n).2.2=1:=by
 refine#[?_,?_,Y]
 .cases lo with
  |none=>simp[sliceBounds,HT.pE]
  |some i=>
   simp[sliceBounds,HT.pE,Option.getD_none,show(1:Int)>0 by decide,if_true];by_cases h:i<0
   .simp[h,if_true]<;>omega
   .simp[h,if_false]<;>omega
 .cases hi with
  |none=>simp[sliceBounds,HT.pE]
  |some i=>
   simp[sliceBounds,HT.pE,Option.getD_none,show(1:Int)>0 by decide,if_true];by_cases h:i<0
   .simp[h,if_true]<;>omega
   .simp[h,if_false]<;>omega
theorem BD(its:!M)(lo hi:Option Int):slicePick its.toArray lo hi none=((its.drop (HT.pE its.length 0 lo)).take (HT.pE its.length its.length hi-HT.pE its.length 0 lo)).toArray:=by let#[h1,h2,h3]:=Dx lo hi its.toArray.size;unfold slicePick;rw[h1,h2,h3];simp only[sliceRange_one,pick_run,bC]<;>rfl
def zcU(K:aq):V->Option Int->Option Int->Hp->VK->Prop:=λx lo hi H Q=>∃a xs,x=.ref a/\jW K H a xs/\∀p,H p=none->Q (.ref p) (upd H p (.lst (K3 xs lo hi)))
theorem QK:SlR X (zcU X.K):=by intro pins s σ H x v vl vu lo hi sl Q I rx hs pl pu h;let#[a,xs,rfl,hx,q]:=h;cases rx;let#[its,r,ht,hz]:=I.list hx;let hlen:=r.length;refine#[_,_,slot_list_getitem.lookup,ht.isList.typeIs,?_];refine wpAny_getItem_list_slice ht.isList hs pl pu .none ∅ ?_ (by rw[bC]<;>omega);rw[BD,<-hlen];refine#[.ref s.heap.objs.size,_,I.laid (λb ob q=>aE _ q) () ?_,Y,q _ (I.hok.fresh ())];exact#[bA (yj xs lo hi) hz,_,0,(r.drop _).take _,bx _ Y]
theorem wj:iY X (.builtin "len") (λxs H Q=>∃p ys,xs=[.ref p]/\(jW X.K H p ys\/oC X.K H p ys)/\Q (.int ys.length) H):=by
 intro pins s σ H xs us Q I r h;let#[p,ys,rfl,hq,q]:=h;let#[u,rfl,rx]:=vals1 r;cases rx;let hn:=vp;rcases hq with hq|hq
 .let#[its,r',pl,hz]:=I.list hq;let hlen:=r'.length;exact Calls.call_len_list pl.isList (by simp<;>omega) #[.int ys.length,H,I.tok _,#[_,by rw[bC,hlen]],q]
 .let#[its,r',pl,hz]:=I.tuple hq;let hlen:=r'.length;exact len_tuple pl (by simp<;>omega) #[.int ys.length,H,I.tok _,#[_,by rw[bC,hlen]],q]
theorem Dy:iY X (.builtin "len") (λxs H Q=>∃z,xs=[.str z]/\z.length<=sizeLine/\Q (.int z.length) H):=by intro pins s σ H xs us Q I r h;let#[z,rfl,hz,q]:=h;let#[u,rfl,t,rfl]:=vals1 r;let hn:=vp;exact len_str () #[.int z.length,H,I.tok _,#[_,Y],q]
theorem lM:iY X (.type "list") (λxs H Q=>∃p ys,xs=[.ref p]/\(jW X.K H p ys\/oC X.K H p ys)/\∀l,H l=none->Q (.ref l) (upd H l (.lst ys))):=by
 intro pins s σ H xs us Q I r h;let#[p,ys,rfl,hq,q]:=h;let#[u,rfl,rx]:=vals1 r;cases rx;let fin:∀(its:!M),dJ ys its->ys.length<=sizeLine->∀(h':dF)(c':Nat),(∀b o',s.heap.get? b>>o'->h'.get? b>>o')->
   h'.get? s.heap.objs.size=some { cls:=.type "list",dict:=none,data:=.seq its.toArray c',slots:=#[] }->EP X pins σ Q _ { s with heap:=h' }:=λits r' hz h' c' kp e=>
  #[.ref s.heap.objs.size,_,I.laid kp () (show iX X.prog X.w _ h' _ (.lst ys) from#[hz,its,c',r',e]),Y,q _ (I.hok.fresh ())];rcases hq with hq|hq
 .let#[its,r',pl,hz]:=I.list hq;let hlen:=r'.length;let#[o,ho,hc,n,hd]:=pl.isList;exact call_list_seq p (.inl Y) ho hc hd (λh' c' kp e=>fin its r' hz h' c' kp e) (by simp<;>omega)
 .let#[its,r',pl,hz]:=I.tuple hq;let hlen:=r'.length;let#[o,ho,hc,n,hd]:=pl;exact call_list_seq p (.inr Y) ho hc hd (λh' c' kp e=>fin its r' hz h' c' kp e) (by simp<;>omega)
theorem kP:iY X (.type "tuple") (λxs H Q=>∃p ys,xs=[.ref p]/\((jW X.K H p ys/\∀l,H l=none->Q (.ref l) (upd H l (.tup ys)))\/(oC X.K H p ys/\Q (.ref p) H))):=by
 intro pins s σ H xs us Q I r h;let#[p,ys,rfl,h]:=h;let#[u,rfl,rx]:=vals1 r;cases rx;rcases h with⟨hq,q⟩|⟨hq,q⟩
 .let#[its,r',pl,hz]:=I.list hq;let hlen:=r'.length;refine call_tuple_list pl.isList (λh' kp=>?_) (by simp<;>omega);let I1:Inv X pins σ H { s with heap:=h' }:=I.kept kp;let I2:Inv X pins σ (upd H h'.objs.size _) { s with heap:=h'.push { cls:=.type "tuple",data:=.seq its.toArray } }:=
   I1.laid (λb o e=>aE _ e) (aP _) (show iX X.prog X.w _ _ _ (.tup ys) from#[hz,its,r',uJ _ _]);exact#[.ref h'.objs.size,_,I2,Y,q _ (I1.hok.fresh (aP _))]
 .let#[its,r',pl,hz]:=I.tuple hq;exact call_tuple_same pl #[.ref p,H,I,Y,q]
def tyV(K:aq)(T:String)(x:V)(H:Hp):Prop:=match x with
 | .str _=>T="str"
 | .int _=>T="int"
 | .ref p=>(T="list"/\∃xs,jW K H p xs)\/(T="tuple"/\∃o,K.lookup p>>o/\o.cls=.type "tuple"/\o.dict=none)\/
   (T="dict"/\((∃kvs,H p>>(.dK kvs))\/∃kvs,H p>>(.dT kvs)))\/(T="set"/\∃S n,H p>>(.set S n))
 |_=>False
theorem Nb{pins:!(U×Obj)}{σ:St}{H:Hp}{s:aU}{T:String}{x:V}{v:M}(I:Inv X pins σ H s)(r:RelV x v)(ty:tyV X.K T x H):
  s.TypeIs v T/\∀a,v=.ref a->∃ob,s.heap.get? a>>ob/\ob.dict=none:=by
 cases x with
 |str z=>
  let#[t,rfl]:=r
  cases(show T="str" from ty)
  exact#[vh s z t,λ_ e=>nomatch e]
 |int i=>
  let#[t,rfl]:=r
  cases(show T="int" from ty)
  exact#[typeIs_int s i t,λ_ e=>nomatch e]
 |ref p=>
  cases r;rcases ty with⟨rfl,xs,hq⟩|⟨rfl,o,hk,hc,hd⟩|⟨rfl,hk⟩|⟨rfl,S,n,hk⟩
  .let#[its,_,pl,_]:=I.list hq;refine#[pl.isList.typeIs,λa e=>?_];cases e;let#[o,n,e,c,hd,_]:=pl;exact#[o,e,hd]
  .refine#[#[o,I.zO p o hk,hc],λa e=>?_];cases e;exact#[o,I.zO _ o hk,hd]
  .let z:∃o,s.heap.get? p>>o/\o.ExactDict:=by
    rcases hk with⟨kvs,hk⟩|⟨kvs,hk⟩
    .let#[_,_,_,_,o,_,_,e,ex,_]:=I.hok p _ hk;exact#[o,e,ex]
    .let#[_,_,_,_,o,_,_,e,ex,_]:=I.hok p _ hk;exact#[o,e,ex]
   let#[o,e,ex]:=z;refine#[#[o,e,ex.1],λa e2=>?_];cases e2;exact#[o,e,ex.2.1]
  .let#[o,_,_,_,e,ex,_]:=I.hok p _ hk;refine#[#[o,e,ex.1],λa e2=>?_];cases e2;exact#[o,e,ex.2.1]
 |_=>exact h7 ty
def zcW(K:aq)(T:String)(r:V->!V->Hp->VK->Prop)(to:TE):TE:=λσ H Q=>to σ H λx H1=>tyV K T x H1/\r x [] H1 Q
def tBM(K:aq)(T:String)(r:V->!V->Hp->VK->Prop)(to:TE)(t:TA):TE:=λσ H Q=>to σ H λx H1=>tyV K T x H1/\t σ H1 λxs H2=>r x xs H2 Q
variable{o e:bY}{to:TE}{t:TA}{name:O}{apos sf:Pos}{T id:String}{r:V->!V->Hp->VK->Prop}
theorem Nc(pa:PlainAttrs T)(slot:Slot T name id)(hty:typeOf (.builtin id)=pure (.type "method_descriptor"))(hm:MtR X id r)(ho:PE X o to)
  (gC:vn X o name:=by rfl)(hline:(apos.endLine==sf.line)=true:=by rfl):PE X (.Call (.Attribute o name apos) [] [] sf) (zcW X.K T r to):=by intro pins s σ H Q I h;refine wpAny_Call_method0_late gC hline (gU (ho pins s σ H _ I h) λv s1 #[x,H1,I1,r1,ty,q1]=>?_);let#[h1,h2]:=Nb I1 r1 ty;exact#[T,id,pa,slot,hty,h1,h2,mG Y (PySem.evalArgs_none (hm pins s1 σ H1 x [] v [] Q I1 r1 .nil q1))]
theorem pF{es:!bY}(pa:PlainAttrs T)(slot:Slot T name id)(hty:typeOf (.builtin id)=pure (.type "method_descriptor"))(hm:MtR X id r)(ho:PE X o to)(ha:PA X (e::es) t)
  (gC:vn X o name:=by rfl)
  (lN:((backTo sf (starEach (e::es) X.env)).all (λx=>not x.1)&&(backToKw sf (keywordEach [] X.env)).all (λx=>x.1.isSome)
   && decide ((e::es).length+([]:!Keyword).length+(if([]:!Keyword).isEmpty then 0 else 1)<30))=true:=by rfl)
  (hline:(apos.endLine==sf.line)=true:=by rfl) (hs:j8 X e es:=by rfl) (fQ:qg X sf es:=by rfl) :
  PE X (.Call (.Attribute o name apos) (e::es) [] sf) (tBM X.K T r to t):=by intro pins s σ H Q I h;refine wpAny_Call_method_late gC lN hline Y (gU (ho pins s σ H _ I h) λv s1 #[x,H1,I1,r1,ty,q1]=>?_);let#[h1,h2]:=Nb I1 r1 ty;refine#[T,id,pa,slot,hty,h1,h2,?_];let hA:=ha sf pins s1 σ H1 _ I1 q1;rw[hs]at hA ⊢;exact mG (by show(false||(backTo sf (starEach es X.env)).any (·.1))=false;rw[fQ]<;>rfl) (uB (gU hA λus s2 #[vs,H2,I2,r2,q2]=>hm pins s2 σ H2 x vs v us Q I2 r1 r2 q2))
end
def Tq(X:Cx)(id:String)(r:V->!V->Hp->VK->Prop):Prop:=
 ∀(pins:!(U×Obj))(s:aU)(σ:St)(H:Hp)(x:V)(xs:!V)(v:M)(us:!M)(Q:VK),Inv X pins σ H s->RelV x v->dJ xs us->r x xs H Q->
  wpAny (model X.prog X.w) X.A (call (.builtin id) (v::us)) (EP X pins σ Q) X.xe s
theorem dJ.one:∀{x:V}{us:!M},dJ [x] us->∃u,us=[u]/\RelV x u
 |_,_,.cons r .nil=>#[_,Y,r]
theorem dJ.two:∀{x y:V}{us:!M},dJ [x,y] us->∃u v,us=[u,v]/\RelV x u/\RelV y v
 |_,_,_,.cons r (.cons q .nil)=>#[_,_,Y,r,q]
theorem dJ.zero:∀{us:!M},dJ [] us->us=[]
 |_,.nil=>rfl
theorem dJ.reverse(h:dJ xs us):dJ xs.reverse us.reverse:=by
 induction h with
 |nil=>exact .nil
 |cons r t ih=>rw[qo,qo];exact dJ.append ih (.cons r .nil)
theorem dJ.rep(h:dJ xs us):∀k:Nat,dJ (aW k xs).flatten (aW k us).flatten
 |0=>.nil
 |k+1=>by exact dJ.append h (dJ.rep h k)
theorem foldl_rep(its:!M):∀(k:Nat)(acc:!M),
  List.foldl (λx1 x2=>x1++x2) acc.toArray (aW k its.toArray)=(acc++(aW k its).flatten).toArray
 |0,acc=>∅
 |k+1,acc=>by
  let e:acc.toArray++its.toArray=(acc++its).toArray:=∅
  let e2:(acc++its)++(aW k its).flatten=acc++(aW (k+1) its).flatten:=by rw[fu,fx,cw]
  rw[<-e2,<-foldl_rep its k _,<-e,fu,lF]
section
variable{X:Cx}{pins:!(U×Obj)}{σ:St}{H:Hp}{s:aU}{l:U}{xs ys:!V}
theorem Inv.Nf{GX: !M}{f:Array M->Array M}(I:Inv X pins σ H s)(hH:H l>>(.lst xs))
  (e:s.heap.get? l=some { cls:=.type "list",data:=.seq its.toArray n })(hf:f its.toArray=GX.toArray)(hv:dJ ys GX)(hz:ys.length<=sizeLine):
  Inv X pins σ (upd H l (.lst ys)) { s with heap:=s.heap.update l (Dc f),toks:=t' }:=by let q:=PySem.IsL.update e f;rw[hf]at q;refine I.write ([hH]▸trivial) (.inl Y) (λb' u hb hu=>(dF.get?_update_other s.heap (Dc f) (bF hb)).trans hu) #[_,q] ?_;exact#[hz,GX,_,hv,q]
theorem Inv.zcX(I:Inv X pins σ H s)(hv:dJ ys its)(hz:ys.length<=sizeLine):
  Inv X pins σ (upd H s.heap.objs.size (.lst ys)) { s with heap:=s.heap.push { cls:=.type "list",data:=.seq its.toArray },toks:=t' }:=
 I.laid (λ_ _ q=>aE _ q) () #[hz,its,0,hv,bx _ Y]
theorem Inv.fresh(I:Inv X pins σ H s):H s.heap.objs.size=none:=I.hok.fresh ()
theorem Inv.K4(I:Inv X pins σ H s)(hH:H l>>(.lst xs)):xs.length<=sizeLine/\∃(its:!M)(n:Nat),dJ xs its/\xs.length=its.length/\s.heap.get? l=some { cls:=.type "list",data:=.seq its.toArray n }:=by let#[z,its,n,r,e]:=I.hok l _ hH;exact#[z,its,n,r,r.length,e]
theorem EZ(h:n<=sizeLine):kr n=false:=by exact qQ0 ()
end
section
def QL:V->!V->Hp->VK->Prop:=λx vs H Q=>∃l xs y,x=.ref l/\vs=[y]/\H l>>(.lst xs)/\xs.length<sizeLine/\Q .non (upd H l (.lst (xs ++ [y])))
theorem lu:Tq X "list.append" QL:=by intro pins s σ H x vs v us Q I rx rv h;let#[l,xs,y,rfl,rfl,hH,hz,q]:=h;cases rx;let#[u,rfl,ru]:=rv.one;let#[z,its,n,r,hl,e]:=I.K4 hH;refine jq F.slot_list_append #[_,e,Y] F.entry_list_append (F.args_list_append_2 _ _) (PySem.list_append l its.toArray n u (by rw[bC];omega)) #[e,?_];refine#[.non,_,I.Nf hH e ∅ (r.append (.cons ru .nil)) ?_,Y,q];rw[aR,nz];omega
def QM:V->!V->Hp->VK->Prop:=λx vs H Q=>∃l b xs zs,x=.ref l/\vs=[.ref b]/\H l>>(.lst xs)/\H b>>(.lst zs)/\xs.length+zs.length<=sizeLine/\Q .non (upd H l (.lst (xs++zs)))
theorem K5:Tq X "list.extend" QM:=by
 intro pins s σ H x vs v us Q I rx rv h;let#[l,b,xs,zs,rfl,rfl,hH,hB,hz,q]:=h;cases rx;let#[u,rfl,ru]:=rv.one;cases ru;let#[z,its,n,r,hl,e]:=I.K4 hH;let#[z2,nE,n2,r2,MB,e2]:=I.K4 hB;let yT:its.toArray.size+nE.toArray.size<=sizeLine:=by rw[bC,bC];omega
 let JK:¬(not its.toArray.isEmpty&&kr (its.toArray.size+nE.toArray.size))=true:=by rw[EZ yT,uK];exact ia
 refine jq F.slot_list_extend #[_,e,Y] F.entry_list_extend (F.args_list_extend_2 _ _)
  (AutoSeq1.list_extend_list_list_0 l its.toArray n b nE.toArray n2 JK (by rw[bC];omega) ()) #[e,e2,?_];refine#[.non,_,I.Nf hH e ∅ (r.append r2) ?_,Y,q];rw[aR];omega
def Nh:V->!V->Hp->VK->Prop:=λx vs H Q=>∃l xs,x=.ref l/\vs=[]/\H l>>(.lst xs)/\Q .non (upd H l (.lst xs.reverse))
theorem Hw:Tq X "list.reverse" Nh:=by intro pins s σ H x vs v us Q I rx rv h;let#[l,xs,rfl,rfl,hH,q]:=h;cases rx;let hus:=rv.zero;subst hus;let#[z,its,n,r,hl,e]:=I.K4 hH;refine jq F.slot_list_reverse #[_,e,Y] F.entry_list_reverse (F.args_list_reverse_1 _) (AutoSeq1.list_reverse_list_0 l its.toArray n (by rw[bC];omega)) #[e,?_];refine#[.non,_,I.Nf hH e ∅ r.reverse ?_,Y,q];rw[List.length_reverse];omega
theorem len_rep{α:Type}(xs:!α)(k:Nat):(aW k xs).flatten.length=k*xs.length:=by
 induction k with
 |zero=>simp
 |succ k ih=>rw[fu,fx,aR,ih,GO,Nat.add_comm]
end
end L2
namespace Att
open PySem PySem.W PySem.Calls PyProof.Rows
variable{l:OpenLaw}
theorem yU:∀(ns:!Int)(vs:!M),WellAll P h vs (ns.map WData.int)->Bs vs ns:=by
 intro ns;induction ns with
 |nil=>intro vs w;cases w;exact .nil
 |cons n ns ih=>
  intro vs w;cases w with
  |cons a b=>cases a;exact .cons _ _ (ih _ b)
theorem K6{h:dF}{P:GP}{n:Nat}(hn:l.most>>n){args:!WData}{vals:!M}
  (QN:l.row.toRowW.claim.pre args=true)(YL:WellAll P h vals args):
  ∃a vs ns,vals=[dY a]/\args=[WData.list (ns.map WData.int)]/\h.get? a=some { cls:=.type "list",data:=.seq vs.toArray }/\Bs vs ns/\ns.length<=n:=by
 let#[d,r,rfl,h1,h2]:=hasAllW_cons ((pre_splitW QN).1);obtain rfl:=hasAllW_nil h2;let#[xs,rfl,h3]:=hasW_list h1;let#[ns,rfl]:=items_int h3;let hlen:ns.length<=n:=by
  let h4:(WTm.not (.lt (.lit (.int n)) (.len (.arg 0)))).holds [] { args:=[.list (ns.map .int)] }=true:=by let h4:=(holds_andW ((pre_splitW QN).2)).1;rwa[hn]at h4
  let h5:=condW_of h4 (w_not (w_lt w_lit (w_len_list (w_arg Y))));refine h8 λq=>?_
  first
   |(rw[qQ1 q']at h5;exact qQ7 h5 ⋯)
   |(simp at h5;omega)
 cases YL with
 |cons w1 w2=>
  cases w2;cases w1 with
  |list ho E1=>exact#[_,_,ns,Y,Y,ho,yU ns _ E1,hlen]
theorem K7(l:OpenLaw)(args:!WData):l.row.toRowW.claim.post args (.bool true) args=true:=
 postW_of
  (show WShape.has [] _ .bool=true by first|rfl|decide|simp[WShape.has,WShape.arms,WShape.armsAll])
  (show(WTm.eq .res _).value [] { args:=args,res:=some _,after:=args }>>(.bool (true==true))from w_eq_bool (w_res Y) w_lit) Y
theorem E2{n:Nat}{q:bU}{loose:!O}{XP:(O->Option M)->dF->Prop}{YP:c0->dF->Prop}{d:DefRec}
  (hn:l.most>>n)(YM:d.params.defaults=[])
  (call:∀(w:c0)(s₀ s₁:aU)(mg mb:O->Option M)(fa:U)(o:Obj)(pm cd doc:M)(a:U)(vs:!M)(ns:!Int),
   Ground q loose [] XP w s₀ mg mb s₁.heap->YP w s₁.heap->
   s₁.heap.get? fa>>o->o.data=.func (docDef d.name d.params d.body d.scope pm cd doc)->s₁.heap.CodeRec cd d.name->mg d.name>>(.ref fa)->
   s₁.heap.get? a=some { cls:=.type "list",data:=.seq vs.toArray }->Bs vs ns->ns.length<=n->s₁.gens=#[]->
   codeAny (model l.prog w) callerA (.call (.ref fa) #[[.ref a],[]]) (λr s'=>r=.ok (.ret (.bool true))/\OldK s₁.heap s'.heap/\s'.os=s₁.os/\vd s'.gens) s₁) :
  WalkO q loose XP YP l.row.toRowW d [] (λf vs=>PySem.call f vs):=by intro w s₀ s₁ mg mb G Ya fa o pm cd doc dV kV ho hd Qq hD MC hg args vals as QN hlay hrd YL hlo;obtain rfl:dV=.none:=Dflts.none hD YM;obtain rfl:kV=.none:=Dflts.noKw hD;let#[a,vs,ns,rfl,rfl,Vt,hints,hlen]:=K6 hn QN YL;refine enter_call (qm (call w s₀ s₁ mg mb fa o pm cd doc a vs ns G Ya ho (fd_plain hd) Qq MC Vt hints hlen hg) λr s' hq=>?_);let#[rfl,h2,h3,h4]:=hq;exact#[.inl #[_,_,[],Y,λ_=>rfl,.bool true,K7 l _,λ_=>#[List.Pairwise.nil,λ_ hm=>(nomatch hm)]],h2,h3,h4]
end Att
namespace L2
open PySem PySem.Spec PyProof.Rows
variable{a b f:U}{X:Cx}{fd:fW}{h':dF}{H H':Hp}{pins:!(U×Obj)}{kvs:!(!Key×V)}{o:Option V}{pos:Pos}{P:bU}{K:aq}{s:aU}{st:jT}{qual x:O}{y:V}{u:M}{Q:M->aU->Prop}{w:c0}
theorem B5:∀{vs:!M}{ns:!Int},Bs vs ns->dJ (ns.map V.int) vs
 |_,_,.nil=>.nil
 |_,_,.cons n t h=>.cons #[t,Y] (B5 h)
def Only(H:Hp):Prop:=∀b,H b=none\/∃o xs,H b>>(.oJ o (.lst xs))
theorem Ni
  (KX:K.In s₁.heap)(Hz:s₁.heap.Ns mainGlobals mg)(hb:s₁.heap.Ns builtinsNs mb)(hbb:∀x:O,x≠"__name__"->mb x=bootBuiltins x)(zc0:s₁.heap.NoLimit)(hg:s₁.gens=#[])
  (ha:s₁.heap.get? a=some { cls:=.type "list",data:=.seq vs.toArray })(hi:Bs vs ns)(hl:ns.length<=sizeLine)(hr:dB k callerA)
  (F:∀base:dF,K.In base->base.Ns mainGlobals mg->dR P w K mg base CX k fa fd [x] sp)(YN:∀(s:aU)(u:M),BindsTo s fd #[[u],[]] [(x,u)])
  (Dv:∀H:Hp,Only H->jW K H a (ns.map V.int)->sp [.ref a] H (λv _=>v=.bl true) λ_ _ _=>False)
  (hCX:∀H e s',CX [] H s₁ (λ_ _ _=>False) e s'->False):
  codeAny (model P w) callerA (.call (.ref fa) #[[.ref a],[]]) (λr s'=>r=.ok (.ret (.bool true))/\OldK s₁.heap s'.heap/\s'.os=s₁.os/\vd s'.gens) s₁:=by
 let rv:=B5 hi;let zc2:=hi.length;let core:∀H:Hp,Only H->jW K H a (ns.map V.int)->vm P w H s₁.heap->(∀b,H b≠none->b=a)->(H a≠none->K.lookup a=none)->
   codeAny (model P w) callerA (.call (.ref fa) #[[.ref a],[]]) (λr s'=>r=.ok (.ret (.bool true))/\OldK s₁.heap s'.heap/\s'.os=s₁.os/\vd s'.gens) s₁:=by
  intro H hO hS hok hA hK;let JL:∀{b:U}{o:Obj},s₁.heap.get? b>>o->H b=none->(KG s₁.heap H).get? b>>o:=λe n=>MR e n;let YB:∀{b:U}{o:Obj}{es:Array Dd}{ep:Nat},s₁.heap.get? b>>o->o.data=.dict es ep->H b=none:=λ{b o es ep}e d=>by
   cases q:H b with
   |none=>rfl
   |some u=>let e':=hA b (by rw[q];simp);subst e';rw[ha]at e;cases e;let d':=d;cases d'
  let nsK:∀{b:U}{m:O->Option M},s₁.heap.Ns b m->(KG s₁.heap H).Ns b m:=λ{b m}#[o,es,ep,e,d,r]=>#[o,es,ep,JL e (YB e d),d,r];let hKb:=λb o e=>JL (KX b o e) (by
   cases q:H b with
   |none=>rfl
   |some u=>let e':=hA b (by rw[q];simp);subst e';rw[hK (by rw[q];simp)]at e;cases e);refine qm ((F _ hKb (nsK Hz)).run callerA [] s₁ H #[_,[]] [.ref a] [.ref a] _ _ hr (#[Y,#[hKb,nsK Hz,#[mb,nsK hb,hbb],let#[mc,h1,h2]:=zc0;#[mc,nsK h1,h2]],λb o e=>Qo e,Nat.le_of_eq (KH _ _),trivial,λb hb=>qQ7 (show b∈([])from hb) ∅,hok,.of_eq hg]) (YN s₁ (.ref a)) (.cons Y .nil) (Dv H hO hS)) λr s' h=>?_;cases r with
  |error e=>exact(hCX H e s' h).elim
  |ok fl=>
   cases fl with
   |next=>exact h7 h
   |brk=>exact h7 h
   |cont=>exact h7 h
   |ret u=>
    let#[v,H',os,bare,un,zc3,r',q]:=h;let q':=q;subst q';obtain rfl:u=M.bool true:=r';refine#[Y,OldK.of_keep λb o e=>?_,os,bare];cases q:H b with
    |none=>exact un.keep b o e q (by intro z;exact qQ7 (show b∈([])from z) ∅) ∅
    |some u=>
     rcases hO b with z|⟨ob,xs,z⟩
     .rw[q]at z;cases z
     .let z2:=un.xC b ob _ z;let#[e1,_]:=hok b _ z;let#[e2,_]:=zc3 b _ z2;rw[e]at e1;cases e1;exact e2
 cases hk:K.lookup a with
 |some o=>let e:=KX a o hk;rw[ha]at e;cases e;refine core (λ_=>none) (λ_=>.inl Y) (.inr #[_,_,_,hk,Y,Y,Y,[bC,zc2]▸hl,by simpa using rv]) (λb u z=>by let z':none>>u:=z;cases z') (λb z=>qQ7 Y z) λz=>qQ7 Y z
 |none=>
  refine core (λb=>if b=a then some (.oJ { cls:=.type "list",data:=.seq vs.toArray } (.lst _))else none) (λb=>?_) (.inl (.inr #[_,qQ3 Y])) (λb u z=>?_) (λb z=>?_) λ_=>hk
  .by_cases hb:b=a
   .exact .inr #[_,_,qQ3 hb]
   .exact .inl (qQ2 hb)
  .by_cases hb:b=a
   .let z':=(qQ3 hb).symm.trans z;cases z';subst hb;exact#[ha,[ae]▸hl,vs,_,rv,ha]
   .let z':=(qQ2 hb).symm.trans z;cases z'
  .by_cases hb:b=a
   .exact hb
   .exact qQ7 (qQ2 hb) z
theorem QO{l:PySem.W.OpenLaw}{n k:Nat}{q:bU}{loose:!O}{XP:(O->Option M)->dF->Prop}{YP:c0->dF->Prop}{d:DefRec}{K:GP->aq}{CX:c0->Tf}{sp:c0->Sp}
  (hn:l.most>>n)(hn2:n<=sizeLine)(YM:d.params.defaults=[])(hr:dB k callerA)
  (hY:∀(w:c0)(h:dF),YP w h->(K w.params).In h)
  (F:∀(w:c0)(mg:O->Option M)(fa:U)(h:dF),(K w.params).In h->h.Ns mainGlobals mg->mg d.name>>(.ref fa)->
   ∃fd:fW,(∀(s:aU)(u:M),BindsTo s fd #[[u],[]] [(x,u)])/\
    ∀base:dF,(K w.params).In base->base.Ns mainGlobals mg->dR l.prog w (K w.params) mg base (CX w) k fa fd [x] (sp w))
  (Dv:∀(w:c0)(H:Hp)(a:U)(ns:!Int),ns.length<=n->Only H->jW (K w.params) H a (ns.map V.int)->sp w [.ref a] H (λv _=>v=.bl true) λ_ _ _=>False)
  (hCX:∀(w:c0)(H:Hp)(s:aU)(e:M)(s':aU),CX w [] H s (λ_ _ _=>False) e s'->False) :
  PySem.W.WalkO q loose XP YP l.row.toRowW d [] (λf vs=>PySem.call f vs):=by refine Att.E2 hn YM λw s₀ s₁ mg mb fa o pm cd doc a vs ns G Ya ho hd Qq MC Vt hints hlen hg=>?_;let KX:=hY w _ Ya;let#[fd,hb,hF]:=F w mg fa _ KX G.T.g MC;exact Ni KX G.T.g G.T.b G.T.builtins G.T.nolimit hg Vt hints () hr hF hb (λH hO hS=>Dv w H a ns hlen hO hS) λH e s'=>hCX w H s₁ e s'
def inClass(s:jT)(j:Nat):jT:=match s with
 | .ClassDef _ _ _ body _ _ _ _ _ _ _=>body.getD j (.Pass #[0,0,0,0])
 |_=>.Pass #[0,0,0,0]
def nq(s:jT):Arguments:=match s with
 | .FunctionDef _ a _ _ _ _ _ _ _ _=>a
 |_=>{ posonlyargs:=[],args:=[],vararg:=none,kwonlyargs:=[],kw_defaults:=[],kwarg:=none,defaults:=[] }
def jN(s:jT):!jT:=match s with
 | .FunctionDef _ _ b _ _ _ _ _ _ _=>b
 |_=>[]
def bt(s:jT):o6:=match s with
 | .FunctionDef _ _ _ _ _ _ sc _ _ _=>sc
 |_=>{ kind:=.function,names:=[],isGenerator:=false,isCoroutine:=false }
abbrev ju:Tf:=λ_ _ _ _ _ _=>False
abbrev E0:XK:=λ_ _ _=>False
theorem wm:vq ju X E0:=λ_ _ _ _ _ _ _ h=>h.elim
structure jO(K:aq)(x qual:O)(st:jT)(f:U)(fd:fW):Prop where
 ex:∃(oc:M)(od:Option U)(kV doc pm:M)(an:Option U)(gj ct:M)(K1:Array (Option M)),
  fd=gy x qual (nq st) (jN st) (bt st) .none kV doc pm an gj ct/\K.lookup f>>#[oc,od,.func fd,K1]/\jZ K gj qual=true
 kp:fw K (.ref f)=true
section
theorem jO.ok(F:jO K x qual st f fd)(S:bW N ps (bt st))(len:∀vs H Q E,sp vs H Q E->vs.length=ps.length)
  (M9:∀(gj:M)(A:jm)(outer:!Env)(s:aU)(H:Hp)(vs:!V)(Q:VK)(E:XK),dB k (A.deeper (envOfC qual (bt st) s.heap.objs.size f gj))->sp vs H Q E->
   ∃t,Jx (EV ju P w K mg base N qual (bt st) f gj A outer s H E).Vd (jN st) t/\t { nx:=λ_ H'=>Q .non H',rt:=Q } (start N vs) H):dR P w K mg base ju (k+1) f fd ps sp:=by let#[oc,od,kV,doc,pm,an,gj,ct,K1,rfl,lk,Qq]:=F.ex;refine YC lk Qq S len λA outer s H vs Q E hr Dv=>?_;let#[t,h,q]:=M9 gj A outer s H vs Q E hr Dv;exact#[t,h.Vd,q]
theorem jO.binds(F:jO K x qual st f fd)
  (h:∀(kV doc pm:M)(an:Option U)(gj ct:M)(us:!M),us.length=ps.length->bindArgs (gy x qual (nq st) (jN st) (bt st) .none kV doc pm an gj ct) #[us,[]]=pure (ps.zip us)):Binds K fd ps []:=by let#[oc,od,kV,doc,pm,an,gj,ct,K1,rfl,lk,Qq]:=F.ex;exact .all (h kV doc pm an gj ct)
theorem Dz{K:aq}{oc:M}{od an:Option U}{K1:Array (Option M)}{kV doc pm gj ct:M}(l:K.lookup f>>#[oc,od,.func (gy x qual (nq st) (jN st) (bt st) .none kV doc pm an gj ct),K1])
  (c:jZ K gj qual=true)(k:fw K (.ref f)=true):jO K x qual st f (gy x qual (nq st) (jN st) (bt st) .none kV doc pm an gj ct):=#[#[oc,od,kV,doc,pm,an,gj,ct,K1,Y,l,c],k]
end
section
theorem pv(i:Nat)(hN:rT X i x:=by ac_rfl):PE X (.Name x pos) (U8 i):=ud hN
end
theorem Vu{A B:Prop}(h:B):if false=true then A else B:=by exact h
theorem Vv{A B:Prop}(h:A):if true=true then A else B:=by exact h
def cz(H H':Hp):Prop:=∀b o,H b>>o->H' b>>o
theorem cz.refl(H:Hp):cz H H:=λ_ _ h=>h
theorem cz.trans(a:cz H H1)(b:cz H1 H2):cz H H2:=λc o h=>b c o (a c o h)
theorem cz.free(e:cz H H')(h:H' l=Option.none):H l=Option.none:=by
 cases q:H l with
 |none=>rfl
 |some o=>rw[e l o q]at h;cases h
theorem cz.seq(e:cz H H')(h:jW K H a xs):jW K H' a xs:=by
 rcases h with(h|⟨o,h⟩)|h
 .exact .inl (.inl (e _ _ h))
 .exact .inl (.inr #[o,e _ _ h])
 .exact .inr h
section
variable{κ:Type}[DecidableEq κ]
def gD(kvs:!(κ×V))(k:κ):Option V:=(kvs.find? λkv=>decide (kv.1=k)).map (·.2)
def putK(kvs:!(κ×V))(k:κ)(v:V):!(κ×V):=
 if(kvs.any λkv=>decide (kv.1=k))=true then kvs.map (λkv=>if kv.1=k then(kv.1,v)else kv)else kvs ++ [(k,v)]
theorem kQ{p:κ×V}{r:!(κ×V)}{k:κ}(e:p.1=k):gD (p::r) k>>p.2:=by simp[gD,c9,e]
theorem jA{p:κ×V}{r:!(κ×V)}{k:κ}(e:¬p.1=k):gD (p::r) k=gD r k:=by simp[gD,c9,e]
theorem wo(k:κ):∀kvs:!(κ×V),(kvs.any λkv=>decide (kv.1=k))=(gD kvs k).isSome
 | []=>rfl
 |p::r=>by
  rw[v7];by_cases e:p.1=k
  .simp[kQ e,qQ1 e,Bool.true_or,Option.isSome_some]
  .rw[jA e,qQ0 e,Ew];exact wo k r
theorem nF(kvs:!(κ×V))(k:κ)(v:V):(putK kvs k v).length<=kvs.length+1:=by
 unfold putK;split
 .rw[ae];omega
 .rw[aR,a8,dP];omega
theorem qw{kvs:!(κ×V)}{k:κ}(v:V)(h:gD kvs k=none):putK kvs k v=kvs ++ [(k,v)]:=by unfold putK;rw[wo,h];exact qQ2 ⋯
theorem r9.qx{u:Option M}(r:r9 o u):o.isSome=u.isSome:=by
 cases o with
 |none=>cases u with
  |none=>rfl
  |some _=>exact(show False from r).elim
 |some _=>cases u with
  |none=>exact(show False from r).elim
  |some _=>rfl
theorem r9.getD{u:Option M}{d:V}{d':M}(r:r9 o u)(rd:RelV d d'):RelV (o.getD d) (u.getD d'):=by
 cases o with
 |none=>cases u with
  |none=>exact rd
  |some _=>exact(show False from r).elim
 |some _=>cases u with
  |none=>exact(show False from r).elim
  |some _=>exact r
theorem KV.val{kvs:!(κ×V)}{vs:!(κ×M)}(r:KV kvs vs)(k:κ):r9 (gD kvs k) (valueAt vs k):=by
 induction r with
 |nil=>exact fY
 | @cons p q ps qs h t ih=>
  let#[h1,h2]:=h;by_cases e:p.1=k
  .let e':=h1.symm.trans e;let b:valueAt (q::qs) k>>q.2:=by simp[valueAt,c9,e']
   rwa[kQ e,b]
  .let e':¬q.1=k:=λz=>e (h1.trans z);let b:valueAt (q::qs) k=valueAt qs k:=by simp[valueAt,c9,e']
   rwa[jA e,b]
theorem KV.any{kvs:!(κ×V)}{vs:!(κ×M)}(r:KV kvs vs)(k:κ):(kvs.any λkv=>decide (kv.1=k))=vs.any λkv=>decide (kv.1=k):=by
 induction r with
 |nil=>rfl
 |cons h t ih=>rw[v7,v7,ih,h.1]
theorem KV.repl{kvs:!(κ×V)}{vs:!(κ×M)}(r:KV kvs vs)(k:κ)(ry:RelV y u):
  KV (kvs.map λkv=>if kv.1=k then(kv.1,y)else kv) (vs.map λkv=>if kv.1=k then(kv.1,u)else kv):=by
 induction r with
 |nil=>exact .nil
 | @cons p q ps qs h t ih=>
  rw[av,av];refine .cons ?_ ih;let#[h1,h2]:=h;by_cases e:p.1=k
  .rw[qQ3 e,qQ3 (h1.symm.trans e)];exact#[h1,ry]
  .rw[qQ2 e,qQ2 (λz=>e (h1.trans z))];exact#[h1,h2]
theorem KV.put{kvs:!(κ×V)}{vs:!(κ×M)}(r:KV kvs vs)(k:κ)(ry:RelV y u):KV (putK kvs k y) (stored vs k u):=by
 unfold putK stored;rw[r.any k];by_cases e:(vs.any λkv=>decide (kv.1=k))=true
 .rw[qQ3 e,qQ3 e];exact r.repl k ry
 .rw[qQ2 e,qQ2 e];exact oH.snoc r #[Y,ry]
theorem KV.keys{kvs:!(κ×V)}{vs:!(κ×M)}(r:KV kvs vs):kvs.map (·.1)=vs.map (·.1):=by
 induction r with
 |nil=>rfl
 |cons h t ih=>rw[av,av,ih,h.1]
theorem KV.length{kvs:!(κ×V)}{vs:!(κ×M)}(r:KV kvs vs):kvs.length=vs.length:=vb r
end
theorem sL(r:RelV (kV k) u):(eU P w).is k u=true:=by
 cases k with
 |inl i=>let#[t,e]:=r;subst e;exact EH P w i t
 |inr x=>let#[t,e]:=r;subst e;exact sF P w x t
theorem B6:∀{ks:!Key}{us:!M},dJ (ks.map kV) us->ItemsAre (eU P w) ks us
 | [],_,r=>by rw[iK]at r;cases r;exact .nil
 |k::ks,_,r=>by
  cases r with
  |cons h t=>exact .cons (sL h) (B6 t)
abbrev KT(H:Hp):!(!Key×V)->!(!Key×U×M)->Prop:=oH λp q=>p.1=q.1/\H q.2.1>>(.tup (p.1.map kV))/\RelV p.2 q.2.2
theorem KT.val(r:KT H kvs xs)(k:!Key):r9 (gD kvs k) ((atKey xs k).map (·.2)):=by
 induction r with
 |nil=>exact fY
 | @cons p q ps qs h t ih=>
  let#[h1,_,h2]:=h;by_cases e:p.1=k
  .let e':=h1.symm.trans e;let b:atKey (q::qs) k>>q.2:=by simp[atKey,c9,e']
   rwa[kQ e,b]
  .let e':¬q.1=k:=λz=>e (h1.trans z);let b:atKey (q::qs) k=atKey qs k:=by simp[atKey,c9,e']
   rwa[jA e,b]
theorem KT.repl(r:KT H kvs xs)(k:!Key)(ry:RelV y u):
  KT H (kvs.map λkv=>if kv.1=k then(kv.1,y)else kv) (xs.map (putAt k u)):=by
 induction r with
 |nil=>exact .nil
 | @cons p q ps qs h t ih=>
  rw[av,av];refine .cons ?_ ih;let#[h1,h2,h3]:=h;unfold putAt;by_cases e:p.1=k
  .rw[qQ3 e,qQ3 (h1.symm.trans e)];exact#[h1,h2,ry]
  .rw[qQ2 e,qQ2 (λz=>e (h1.trans z))];exact#[h1,h2,h3]
theorem KT.put(r:KT H kvs xs)(k:!Key)(hb:H b>>(.tup (k.map kV)))(ry:RelV y u):
  KT H (putK kvs k y) (storedH xs k b u):=by
 let e:(kvs.any λkv=>decide (kv.1=k))=(atKey xs k).isSome:=by rw[wo,(r.val k).qx,xo]
 unfold putK storedH;rw[e];by_cases q:(atKey xs k).isSome=true
 .rw[qQ3 q,qQ3 q];exact r.repl k ry
 .rw[qQ2 q,qQ2 q];exact oH.snoc r #[Y,hb,ry]
theorem KT.keeps(r:KT H kvs xs)(ht:∀b ys,H b>>(.tup ys)->H' b>>(.tup ys)):KT H' kvs xs:=
 oH.MQ r λ_ _ z=>#[z.1,ht _ _ z.2.1,z.2.2]
section
variable{P:bU}{w:c0}{H:Hp}{h:dF}{a:U}
theorem Tr{u:HO}(ok:vm P w H h)(e:Rd H a u):iX P w H h a u:=e.ok ok
theorem zX{kvs:!(Key×V)}(ok:vm P w H h)(e:Rd H a (.dK kvs)):kvs.length<=sizeLine/\(a==sysModules)=false/\∃vs,KV kvs vs/\h.DictOf (eU P w) a vs:=
 show iX P w H h a (.dK kvs)from Tr ok e
theorem B7{kvs:!(Key×V)}(ok:vm P w H h)(e:H a>>(.dK kvs)):kvs.length<=sizeLine/\(a==sysModules)=false/\∃vs,KV kvs vs/\h.DictOf (eU P w) a vs:=zX ok (.inl e)
theorem sM(ok:vm P w H h)(e:H a>>(.tup (ks.map kV))):(tupleKind (eU P w)).is h ks a:=by let#[_,its,r,o,h1,h2,n,h3]:=(ok a _ e);exact#[o,_,n,h1,h2,h3,by simpa using B6 r]
theorem zY(ok:vm P w H h)(e:Rd H a (.dT kvs)):kvs.length<=sizeLine/\(a==sysModules)=false/\
  ∃xs,KT H kvs xs/\h.DictOfH (tupleKind (eU P w)) a xs:=by
 let#[z,y,xs,r,o,es,ep,h1,h2,h3,h4,h5]:=(Tr ok e);refine#[z,y,xs,r,o,es,ep,h1,h2,h3,h4,λx hx=>?_,h5];let all:∀{l:!(!Key×V)}{m:!(!Key×U×M)},KT H l m->∀x∈m,(tupleKind (eU P w)).is h x.1 x.2.1:=by
  intro l m q;induction q with
  |nil=>intro x hx;exact nomatch hx
  | @cons p q ps qs hq t ih=>
   intro x hx;rcases au.mp hx with e|hx
   .subst e;exact sM ok ([<-hq.1]▸hq.2.1)
   .exact ih x hx
 exact all r x hx
theorem YQ(ok:vm P w H h)(e:H a>>(.dT kvs)):kvs.length<=sizeLine/\(a==sysModules)=false/\
  ∃xs,KT H kvs xs/\h.DictOfH (tupleKind (eU P w)) a xs:=zY ok (.inl e)
end
def mH(H:Hp)(a:U)(y:V)(r:Option V):Prop:=
 (∃kvs k,Rd H a (.dK kvs)/\y=kV k/\r=gD kvs k)\/∃kvs k b,Rd H a (.dT kvs)/\y=.ref b/\H b>>(.tup (k.map kV))/\r=gD kvs k
def wq(H:Hp)(a:U)(y v:V)(H':Hp):Prop:=
 (∃kvs k,H a>>(.dK kvs)/\y=kV k/\kvs.length<sizeLine/\H'=upd H a (.dK (putK kvs k v)))\/
 ∃kvs k b,H a>>(.dT kvs)/\y=.ref b/\H b>>(.tup (k.map kV))/\kvs.length<sizeLine/\H'=upd H a (.dT (putK kvs k v))
theorem mH.k{kvs:!(Key×V)}{k:Key}(e:H a>>(.dK kvs)):mH H a (kV k) (gD kvs k):=.inl #[kvs,k,.inl e,Y,Y]
theorem mH.t{k:!Key}(e:H a>>(.dT kvs))(eb:H b>>(.tup (k.map kV))):mH H a (.ref b) (gD kvs k):=.inr #[kvs,k,b,.inl e,Y,eb,Y]
theorem wq.k{kvs:!(Key×V)}{k:Key}{v:V}(e:H a>>(.dK kvs))(hl:kvs.length<sizeLine):wq H a (kV k) v (upd H a (.dK (putK kvs k v))):=.inl #[kvs,k,e,Y,hl,Y]
theorem wq.t{k:!Key}{v:V}(e:H a>>(.dT kvs))(eb:H b>>(.tup (k.map kV)))(hl:kvs.length<sizeLine):
  wq H a (.ref b) v (upd H a (.dT (putK kvs k v))):=.inr #[kvs,k,b,e,Y,eb,hl,Y]
section
variable{X:Cx}{pins:!(U×Obj)}{σ:St}{H:Hp}{s:aU}{a:U}{y v:V}{u r:M}{o:Option V}{A:jm}{E:M->aU->Prop}
theorem Inv.big(I:Inv X pins σ H s):sysModules<s.heap.objs.size:=by exact sy ⋯ ((I.mod.glob.keeps I.bk).lt)
theorem K8(hu:A.units+1<cLine)(I:Inv X pins σ H s)(g:mH H a y (some v))(ry:RelV y u)(h:∀w' s',Inv X pins σ H s'->RelV v w'->Q w' s'):
  wpAny (model X.prog X.w) A (getItem (.ref a) u) Q E s:=by
 rcases g with⟨kvs,k,e,ey,l⟩|⟨kvs,k,b,e,ey,eb,l⟩
 .subst ey;let#[z,hd,vs,rel,dd]:=zX I.hok e;let#[w',hw,vY]:=r9.some_of ([l]▸rel.val k);exact wpAny_getItem_of (sL ry) dd.mapOf hw (h w' _ (I.tok _) vY)
 .subst ey
  cases(show u=dY b from ry)
  let#[z,hd,xs,rel,dd]:=zY I.hok e;let#[w',hw,vY]:=r9.some_of ([l]▸rel.val k);let#[p,hp,hp2]:=Option.map_eq_some_iff.mp hw;refine wpAny_getItem_heap (mO hu) (sM I.hok eb) dd hp ?_;rw[hp2];exact h w' _ (I.tok _) vY
theorem zc4(hu:A.units+1<cLine)(I:Inv X pins σ H s)(g:mH H a y o)(ry:RelV y u)(h:∀s',Inv X pins σ H s'->Q (.bool o.isSome) s'):
  wpAny (model X.prog X.w) A (compareOp .In u (.ref a)) Q E s:=by
 rcases g with⟨kvs,k,e,ey,l⟩|⟨kvs,k,b,e,ey,eb,l⟩
 .subst ey;let#[z,hd,vs,rel,dd]:=zX I.hok e;refine wpAny_in_of (sL ry) hd dd.mapOf ?_;rw[<-(rel.val k).qx,<-l];exact h _ (I.tok _)
 .subst ey
  cases(show u=dY b from ry)
  let#[z,hd,xs,rel,dd]:=zY I.hok e;refine wpAny_in_heap (mO hu) (sM I.hok eb) hd dd ?_;let q:=(rel.val k).qx;rw[xo]at q;rw[<-q,<-l];exact h _ (I.tok _)
theorem QP(hu:A.units+1<cLine)(I:Inv X pins σ H s)(g:mH H a y o)(ry:RelV y u)(h:∀s',Inv X pins σ H s'->Q (.bool (not o.isSome)) s'):
  wpAny (model X.prog X.w) A (compareOp .NotIn u (.ref a)) Q E s:=by
 rcases g with⟨kvs,k,e,ey,l⟩|⟨kvs,k,b,e,ey,eb,l⟩
 .subst ey;let#[z,hd,vs,rel,dd]:=zX I.hok e;refine wpAny_notIn_of (sL ry) hd dd.mapOf ?_;rw[<-(rel.val k).qx,<-l];exact h _ (I.tok _)
 .subst ey
  cases(show u=dY b from ry)
  let#[z,hd,xs,rel,dd]:=zY I.hok e;refine wpAny_notIn_heap (mO hu) (sM I.hok eb) hd dd ?_;let q:=(rel.val k).qx;rw[xo]at q;rw[<-q,<-l];exact h _ (I.tok _)
theorem wt{t':Nat}{ob:HO}(I:Inv X pins σ H s)(mu:X7 (H a))(hs:iJ a s.heap h')(he:∃q,h'.get? a>>q)(new:iX X.prog X.w (upd H a ob) h' a ob):
  Inv X pins σ (upd H a ob) { s with heap:=h',toks:=t' }:=
 I.write mu (.inl Y) (λb q hb z=>(hs.2 b hb).trans z) he new
theorem zZ{kvs:!(Key×V)}{vs:!(Key×M)}(z:kvs.length<=sizeLine)(hd:(a==sysModules)=false)(rel:KV kvs vs)(dd:h'.DictOf (eU P w) a vs):
  iX P w H' h' a (.dK kvs):=#[z,hd,vs,rel,dd]
theorem K9{Q:Unit->aU->Prop}(hu:A.units+1<cLine)(I:Inv X pins σ H s)(g:wq H a y v H')(ry:RelV y u)(rv:RelV v r)(h:∀s',Inv X pins σ H' s'->Q .unit s'):
  wpAny (model X.prog X.w) A (setItem (.ref a) u r) Q E s:=by
 rcases g with⟨kvs,k,e,ey,l,eH⟩|⟨kvs,k,b,e,ey,eb,l,eH⟩
 .subst ey eH;let#[z,hd,vs,rel,dd]:=B7 I.hok e;let hz:vs.length<=sizeLine:=[<-rel.length]▸z;refine wpAny_setItem_pairs (sL ry) dd λh' HB hs=>h _ ?_;let he:∃q,h'.get? a>>q:=let#[q,_,_,hq,_]:=HB;#[q,hq];exact wt I ([e]▸fY) hs he (zZ (by let:=nF kvs k v;omega) hd (rel.put k rv) HB)
 .subst ey eH
  cases(show u=dY b from ry)
  let#[z,hd,xs,rel,dd]:=YQ I.hok e;let hz:xs.length<=sizeLine:=[<-vb rel]▸z;refine wpAny_setItem_heap (mO hu) (sM I.hok eb) dd λh' HB hs=>h _ ?_;let#[q,es,ep,hq,h2,h3,h4,_,h5]:=HB;refine wt I ([e]▸fY) hs #[q,hq] #[(by let:=nF kvs k v;omega),hd,_,(rel.put k eb rv).keeps λc ys ec=>?_,q,es,ep,hq,h2,h3,h4,h5];rwa[L (X6 ec e (λz=>nomatch z))]
end
def yV(i:bY):Prop:=∀ov iv,subscripted i false ov iv=operate [ov,iv] (getItem ov iv)
theorem JM{prog:bU}{A:jm}{E:M->aU->Prop}{env:Env}{value slice:bY}{T id:String}
  (hl:typeLookup (.type T) "__getitem__"=pure (some (.builtin id)))(hs:yV slice)
  (h:wpAny (model prog w) A (eval value env) (λo s₁=>wpAny (model prog w) A (eval slice env) (λi s₂=>s₂.TypeIs o T/\wpAny (model prog w) A (getItem o i) Q E s₂) E s₁) E s):
  wpAny (model prog w) A (eval (.Subscript value slice pos) env) Q E s:=by
 refine Subscript_ (iE h (λo s₁ h₁=>iE h₁ (λi s₂ h₂=>?_) λ_ _ x=>x) λ_ _ x=>x);let#[hT,h₂]:=h₂;refine aA ?_;refine aA (wpAny_specialOf hT hl ?_);let fin:wpAny (model prog w) A (subscripted slice false o i) (λr s₃=>wpAny (model prog w) A (letTemporaryGo value o r >>= λ_=>pure r) Q E s₃) E s₂:=by rw[hs o i];exact wpAny_operating (iE h₂ (λr s₃ h₃=>aA (wpAny_letTemporaryGo (bf h₃))) λ_ _ x=>x)
 first
  |exact bf (aA fin)
  |exact aA (bf (aA fin))
  |exact aA fin
theorem E3{σ:St}(I:Inv X pins σ H s)(g:mH H a y o):s.TypeIs (.ref a) "dict":=by
 rcases g with⟨kvs,k,e,_,_⟩|⟨kvs,k,b,e,_,_,_⟩
 .let#[_,_,vs,_,dd]:=zX I.hok e;exact dd.typeIs
 .let#[_,_,xs,_,dd]:=zY I.hok e;exact dd.typeIs
def YR(td ty:TE):TE:=λσ H Q=>td σ H λx H1=>ty σ H1 λy H2=>∃a v,x=.ref a/\mH H2 a y (some v)/\Q v H2
def zc5(ty td:TE):TE:=λσ H Q=>ty σ H λy H1=>td σ H1 λx H2=>∃a o,x=.ref a/\mH H2 a y o/\Q (.bl o.isSome) H2
def QQ(ty td:TE):TE:=λσ H Q=>ty σ H λy H1=>td σ H1 λx H2=>∃a o,x=.ref a/\mH H2 a y o/\Q (.bl (not o.isSome)) H2
def YS(td ty tv:TE):TS:=λD σ H=>tv σ H λv H1=>td σ H1 λx H2=>ty σ H2 λy H3=>∃a H4,x=.ref a/\wq H3 a y v H4/\D.nx σ H4
section
variable{X:Cx}{o i value:bY}{pos pos':Pos}{td ty tv:TE}
theorem og(hu:X.A.units+1<cLine)(ho:PE X o td)(hi:PE X i ty)(hs:yV i):PE X (.Subscript o i pos) (YR td ty):=by intro pins s σ H Q I h;refine JM Bh.lookup hs (gU (ho pins s σ H _ I h) λu s1 #[x,H1,I1,rx,q1]=>gU (hi pins s1 σ H1 _ I1 q1) λiv s2 #[y,H2,I2,ry,a,v,ex,g,q2]=>?_);subst ex;obtain rfl:u=dY a:=rx;exact#[E3 I2 g,K8 hu I2 g ry λw' s3 I3 vY=>#[v,H2,I3,vY,q2]]
theorem Nj(hu:X.A.units+1<cLine)(hi:PE X i ty)(ho:PE X o td):PC X .In i o (zc5 ty td):=by intro pins s σ H Q I h;refine gU (hi pins s σ H _ I h) λiv s1 #[y,H1,I1,ry,q1]=>gU (ho pins s1 σ H1 _ I1 q1) λu s2 #[x,H2,I2,rx,a,ov,ex,g,q2]=>?_;subst ex;obtain rfl:u=dY a:=rx;exact zc4 hu I2 g ry λs3 I3=>#[.bl ov.isSome,H2,I3,Y,q2]
theorem ug(hu:X.A.units+1<cLine)(hi:PE X i ty)(ho:PE X o td):PC X .NotIn i o (QQ ty td):=by intro pins s σ H Q I h;refine gU (hi pins s σ H _ I h) λiv s1 #[y,H1,I1,ry,q1]=>gU (ho pins s1 σ H1 _ I1 q1) λu s2 #[x,H2,I2,rx,a,ov,ex,g,q2]=>?_;subst ex;obtain rfl:u=dY a:=rx;exact QP hu I2 g ry λs3 I3=>#[.bl (not ov.isSome),H2,I3,Y,q2]
theorem pG(hu:X.A.units+1<cLine)(ho:PE X o td)(hi:PE X i ty)(hv:PE X value tv)(hs:zN X pos value (.Subscript o i pos')):
  PS X (.Assign [.Subscript o i pos'] value pos) (YS td ty tv):=by intro pins s σ H D I h;refine wpAny_Assign_Subscript (gU (hv pins s σ H _ I h) λr s1 #[v,H1,I1,rv,q1]=>gU (ho pins s1 σ H1 _ I1 q1) λu s2 #[x,H2,I2,rx,q2]=>gU (hi pins s2 σ H2 _ I2 q2) λiv s3 #[y,H3,I3,ry,a,H4,ex,g,q3]=>?_) hs;subst ex;obtain rfl:u=dY a:=rx;exact K9 hu I3 g ry rv λs4 I4=>#[σ,H4,I4,q3]
end
theorem E4(h:dF)(hb:sysModules<h.objs.size):iX P w H (h.push { cls:=.type "dict",data:=.dict #[] }) h.objs.size (.dK []):=
 #[bj _,beq_eq_false_iff_ne.mpr (bF (aX hb)),[],.nil,dF.DictOf.new h]
theorem Nk(h:dF)(hb:sysModules<h.objs.size):iX P w H (h.push { cls:=.type "dict",data:=.dict #[] }) h.objs.size (.dT []):=
 #[bj _,beq_eq_false_iff_ne.mpr (bF (aX hb)),[],.nil,_,#[],0,bx _ Y,#[Y,Y,Y],Y,Y,gL]
def Vw:TE:=λ_ H Q=>∀p,H p=none->Q (.ref p) (upd H p (.dK []))
def Vx:TE:=λ_ H Q=>∀p,H p=none->Q (.ref p) (upd H p (.dT []))
section
theorem qy:PE X (.Dict [] [] pos) Vw:=λpins s σ H Q I h=>wpAny_Dict_empty #[.ref s.heap.objs.size,_,I.laid (λ_ _ q=>aE _ q) () (E4 s.heap I.big),Y,h _ (I.hok.fresh ())]
theorem Nn:PE X (.Dict [] [] pos) Vx:=λpins s σ H Q I h=>wpAny_Dict_empty #[.ref s.heap.objs.size,_,I.laid (λ_ _ q=>aE _ q) () (Nk s.heap I.big),Y,h _ (I.hok.fresh ())]
end
def DB:!(TE×TE)->St->Hp->(!(V×V)->Hp->Prop)->Prop
 | [],_,H,Q=>Q [] H
 |(tk,tv)::r,σ,H,Q=>tk σ H λx H1=>tv σ H1 λy H2=>DB r σ H2 λps H3=>Q ((x,y)::ps) H3
abbrev VV:!(V×V)->!(M×M)->Prop:=oH λp q=>RelV p.1 q.1/\RelV p.2 q.2
def YT(X:Cx)(pos:Pos)(keys:!(Option bY))(values:!bY)(MD:!(TE×TE)):Prop:=
 ∀(pins:!(U×Obj))(s:aU)(σ:St)(H:Hp)(Q:!(V×V)->Hp->Prop),Inv X pins σ H s->DB MD σ H Q->
  wpAny (model X.prog X.w) X.A (evalPairs (pairTrees keys values X.env pos)) (λvs s'=>∃ps H',Inv X pins σ H' s'/\VV ps vs/\Q ps H') X.xe s
theorem JN:YT X pos [] [] []:=λpins s σ H Q I h=>pairTrees_nil_walk #[[],H,I,.nil,h]
theorem sN(hk:PE X k tk)(hv:PE X v tv)(hr:YT X pos ks vs MD):
  YT X pos (some k::ks) (v::vs) ((tk,tv)::MD):=λpins s σ H Q I h=>
 pairTrees_cons_walk (gU (hk pins s σ H _ I h) λu s1 #[x,H1,I1,rx,q1]=>gU (hv pins s1 σ H1 _ I1 q1) λw2 s2 #[y,H2,I2,ry,q2]=>gU (hr pins s2 σ H2 _ I2 q2) λws s3 #[ps,H3,I3,rel,q3]=>#[_,H3,I3,.cons #[rx,ry] rel,q3])
def sO(kvs more:!(Key×V)):!(Key×V):=more.foldl (λacc kv=>putK acc kv.1 kv.2) kvs
theorem KV.merge:∀{more:!(Key×V)}{rs:!(Key×M)}{kvs:!(Key×V)}{vs:!(Key×M)},KV more rs->KV kvs vs->KV (sO kvs more) (merged vs rs):=by
 intro more rs kvs vs r;induction r generalizing kvs vs with
 |nil=>intro q;exact q
 | @cons p q ps qs h t ih=>
  intro r0;let e:KV (putK kvs p.1 p.2) (stored vs q.1 q.2):=by let:=r0.put p.1 h.2;rwa[<-h.1]
  exact ih e
theorem uO:∀(more kvs:!(Key×V)),(sO kvs more).length<=kvs.length+more.length
 | [],kvs=>by show kvs.length<=kvs.length+0;omega
 |p::r,kvs=>by let h1:=uO r (putK kvs p.1 p.2);let h2:=nF kvs p.1 p.2;show(sO (putK kvs p.1 p.2) r).length<=_;rw[a8];omega
theorem z8:∀{kvs:!(Key×V)}{ws:!(M×M)},VV (kvs.map λkv=>(kV kv.1,kv.2)) ws->∃rs,Carries (eU P w) ws rs/\KV kvs rs
 | [],_,r=>by rw[iK]at r;cases r;exact#[[],fY,.nil]
 |p::kvs,_,r=>by
  cases r with
  | @cons a b as bs h t=>let#[rs,c,q]:=z8 t;let#[b1,b2]:=b;exact#[(p.1,b2)::rs,#[sL h.1,Y,c],.cons #[Y,h.2] q]
def YV(MD:!(TE×TE)):TE:=λσ H Q=>∀p,H p=none->DB MD σ (upd H p (.dK [])) λps H2=>H2 p>>(.dK [])/\∃kvs:!(Key×V),ps=kvs.map (λkv=>(kV kv.1,kv.2))/\kvs.length<=15/\Q (.ref p) (upd H2 p (.dK (sO [] kvs)))
theorem JQ(h:YT X pos keys values MD)(E1:keys.all (·.isSome)=true)(hl:keys.length=values.length)(h0:keys≠[])
  (h15:keys.length<=15):PE X (.Dict keys values pos) (YV MD):=by
 intro pins s σ H Q I q;let I1:=I.laid (t':=s.toks) (λ_ _ q=>aE _ q) () (E4 s.heap I.big);refine wpAny_Dict_walk (knd:=eU X.prog X.w) E1 hl h0 h15 (gU (h pins _ σ _ _ I1 (q _ (I.hok.fresh (aP s.heap.objs.size)))) λws s2 #[ps,H2,I2,rel,e,kvs,ep,lk,q2]=>?_);subst ep;let#[rs,c,rk]:=z8 rel;let#[z,hd,vs0,r0,dd]:=B7 I2.hok e;cases r0;refine#[rs,c,dd,λh' HB hs=>#[.ref s.heap.objs.size,_,?_,Y,q2]];let hz:(sO [] kvs).length<=sizeLine:=by let h1:=uO kvs [];rw[dP]at h1;rw[dD];omega
 let he:∃q,h'.get? s.heap.objs.size>>q:=let#[q,_,_,hq,_]:=HB;#[q,hq];exact wt I2 ([e]▸fY) hs he (zZ hz hd (rk.merge .nil) HB)
structure M2(X:Cx)(o:bY)(m:O)(apos:Pos)(e f:bY)(sf:Pos):Prop where
 base:vn X o m
 few:GV X sf [e,f]
 line:(apos.endLine==sf.line)=true
 trees:backTo sf (starEach [e,f] X.env)=[(false,eval e X.env),(false,eval f X.env)]
def IsD(H:Hp)(a:U):Prop:=(∃kvs,Rd H a (.dK kvs))\/∃kvs,Rd H a (.dT kvs)
theorem Nq{σ:St}(I:Inv X pins σ H s)(d:IsD H a):
  s.TypeIs (.ref a) "dict"/\(∀b,dY a=.ref b->∃ob,s.heap.get? b>>ob/\ob.dict=none)/\(a==sysModules)=false:=by
 rcases d with⟨kvs,e⟩|⟨kvs,e⟩
 .let#[_,hd,vs,_,dd]:=zX I.hok e;refine#[dd.typeIs,λb q=>?_,hd];cases q;let#[ob,_,_,h1,h2,_]:=dd;exact#[ob,h1,h2.2.1]
 .let#[_,hd,xs,_,dd]:=zY I.hok e;refine#[dd.typeIs,λb q=>?_,hd];cases q;let#[ob,_,_,h1,h2,_]:=dd;exact#[ob,h1,h2.2.1]
section
variable{X:Cx}{d:V}{o:Option V}
theorem Vy{a:U}{H:Hp}{pins:!(U×Obj)}{s:aU}{y:V}{u r:M}{σ:St}{A:jm}{E:M->aU->Prop}(hu:A.units+1<cLine)(I:Inv X pins σ H s)(g:mH H a y o)(ry:RelV y u)(rd:RelV d r)(h:∀w' s',Inv X pins σ H s'->RelV (o.getD d) w'->Q w' s'):
  wpAny (model X.prog X.w) A (call (.builtin "dict.get") [.ref a,u,r]) Q E s:=by
 rcases g with⟨kvs,k,e,ey,l⟩|⟨kvs,k,b,e,ey,eb,l⟩
 .subst ey;let#[z,hd,vs,rel,dd]:=zX I.hok e;refine Bt rZ dd.typeIs De (BP _ _ _) (meets_dict_get_default _ a (sL ry) hd r) #[_,dd.mapOf,h _ _ (I.tok _) ?_];rw[l];exact(rel.val k).getD rd
 .subst ey
  cases(show u=dY b from ry)
  let#[z,hd,xs,rel,dd]:=zY I.hok e;refine Bt rZ dd.typeIs De (BP _ _ _) (meetsH_dict_get_default (tupleKind _) a b hd r) #[mO hu,k,xs,sM I.hok eb,dd,h _ _ (I.tok _) ?_];rw[l];exact(rel.val k).getD rd
end
def Vz(td ty tx:TE):TE:=λσ H Q=>td σ H λx H1=>∃a,x=.ref a/\IsD H1 a/\ty σ H1 λy H2=>tx σ H2 λz H3=>∃o,mH H3 a y o/\Q (o.getD z) H3
section
variable{o e f:bY}{apos sf:Pos}{td ty tx:TE}
theorem E5{X:Cx}(hu:X.A.units+1<cLine)(ho:PE X o td)(he:PE X e ty)(hf:PE X f tx)(m:M2 X o "get" apos e f sf):PE X (.Call (.Attribute o "get" apos) [e,f] [] sf) (Vz td ty tx):=by
 intro pins s σ H Q I h;refine wpAny_Call_method m.base m.few m.line qp rZ PySem.F.type_dict_get (gU (ho pins s σ H _ I h) λu s1 #[x,H1,I1,rx,a,ex,d,q1]=>?_);subst ex;obtain rfl:u=dY a:=rx;let#[t1,t2,_]:=Nq I1 d;refine#[t1,t2,?_];rw[m.trees];refine mG Y (uB (lC (gU (he pins s1 σ H1 _ I1 q1) λiv s2 #[y,H2,I2,ry,q2]=>lC (gU (hf pins s2 σ H2 _ I2 q2) λfv s3 #[z,H3,I3,rz,ov,g,q3]=>xt ?_))));exact Vy hu I3 g ry rz λw' s4 I4 vY=>#[_,H3,I4,vY,q3]
end
section
variable{prog:bU}{w:c0}
theorem Nr{P:Nat->M->Prop}{A:jm}{R:GN->aU->Prop}{I:U}{fp wr:!U}{G:Array Bn->Array Bn->Prop}{n:Nat}{St:Nat->aU->Prop}(W:WalksS prog w A.in1 I fp wr G n P St)(S:U)(VB:S∉fp)(T:Nat->dF->Prop)(keep:∀i h h',T i h->(∀b o,b∉wr->h.get? b>>o->h'.get? b>>o)->T i h')
  (add:∀i v (s:aU) (Q:Bool->aU->Prop) (E:M->aU->Prop),i<n->P i v->T i s.heap->(∀h' tk b,s.toks<=tk->iJ S s.heap h'->T (i+1) h'->Q b { s with heap:=h',toks:=tk })->wpAny (model prog w) A.in1 (setAdd S v) Q E s):
  ∀(k i:Nat)(s:aU),n-i=k->i<=n->St i s->T i s.heap->(∀s',Moved (S::wr) G s s'->T n s'.heap->R (.ok (.ret .none)) s')->
   codeAny (model prog w) A (.builtin "set.update.loop" #[[.ref S,.ref I],[]]) R s:=by
 let z_:∀b∈wr,b∈S::wr:=λb hb=>ay _ hb;intro k;induction k with
 |zero=>intro i s hk hi EJ hS hR;let BF:i=n:=();subst BF;refine mI Jr ?_;exact aA (W.done s _ _ EJ λs' hm=>(bf (hR s' (hm.mono z_) (keep _ _ _ hS λb o hb e=>hm.heap b o hb e))))
 |succ k ih=>
  intro i s hk hi EJ hS hR;let oE:i<n:=();refine mI Jr ?_;refine aA (W.item i s _ _ oE EJ λv s' hP VC hm=>?_);refine aA (mF ?_);refine add i v s' _ _ oE hP (keep _ _ _ hS λb o hb e=>hm.heap b o hb e) λh' tk b M6 VF hT=>?_;refine bf #[zk F.plain_set_update_loop _,ih (i+1) _ () oE (W.frame _ s' _ _ VC M6 λb hb o e=>?_) hT λTi VG VH=>?_]
  .rwa[VF.2 b (λh:b=S=>VB ([<-h]▸hb))]
  .refine hR Ti (Moved.trans W.gtrans ((hm.mono z_).then_heap M6 λb o hb e=>?_) VG) VH;rwa[VF.2 b (λh:b=S=>hb ([h]▸aJ))]
end
section
abbrev j9(led:Bool):Obj:={ cls:=.type "set",dict:=none,data:=.set #[] 0 (.fresh 0 0 led) }
end
end L2
namespace L2
open PySem
end L2
namespace L2
open PySem PySem.Spec PyProof.Rows
variable{a:U}{b k1 k2:Bool}{op:CmpOp}{X:Cx}{env:Env}{o:HO}{H H' H0:Hp}{g:Int->Int->Int}{cl:!(O×U)}{elts:!bY}{cap:!Nat}{zs:!J}{R:!J->!J->Prop}{own:!O}{xs:!V}{r:!V->Hp->VK->Prop}{i n:Nat}{p p2 pos tp:Pos}{P:bU}{d:J}{K:aq}{sc:o6}{s:aU}{σ:St}{x:O}{id:String}{w:c0}
abbrev QR:M->aU->Prop:=λ_ _=>False
abbrev testsOf(ifs:!bY)(env:Env):Sem Bool:=
 forIn ifs true λc r=>if r=true then(do let ok <-isTrue c env (eval c env);pure (qS ok))else pure (qS r)
theorem K_{A:jm}{R:GN->aU->Prop}{elt tg iter:bY}{ifs:!bY}{it acc:M}(Ja:Nat->aU->Prop)
  (turn:∀n s,Ja n s->wpAny (model P w) A (pyNext it) (λr s1=>match r with
   |none=>R (.ok .next) s1
   |some v=>wpAny (model P w) A (letOwnedTupleGo tg it v) (λ_ s2=>wpAny (model P w) A (assign tg env v) (λ_ s3=>
     wpAny (model P w) A (testsOf ifs env) (λok s4=>if ok=true then wpAny (model P w) A (eval elt env) (λx s5=>
       wpAny (model P w) A (call (.builtin "list.append") [acc,x]) (λ_ s6=>∃m,m<n/\Ja m s6) QR s5) QR s4
      else ∃m,m<n/\Ja m s4) QR s3) QR s2) QR s1) QR s)
  (h:Ja n s):codeAny (model P w) A (.compLoop (.ListComp elt [#[tg,iter,ifs,0]] sc pos) 0 it acc env) R s:=by
 refine codeAny_loop Y Ja (λn s hJ=>?_) n h;refine wpAny_noted ?_;refine aA (zj (aA (iE (turn n s hJ) (λr s1 h1=>?_) λ_ _ f=>f.elim)));cases r with
 |none=>exact bf h1
 |some v=>
  refine aA (iE h1 (λ_ s2 h2=>?_) λ_ _ f=>f.elim);refine aA (iE h2 (λ_ s3 h3=>?_) λ_ _ f=>f.elim);refine aA (iE h3 (λok s4 h4=>?_) λ_ _ f=>f.elim);cases ok with
  |false=>exact bf #[Y,h4]
  |true=>exact aA (aA (iE h4 (λx s5 h5=>(aA (iE h5 (λ_ s6 h6=>bf (bf #[Y,h6])) λ_ _ f=>f.elim))) λ_ _ f=>f.elim))
def qz(env:Env):!(O×o7)->!(O×U)->Option (!(O×U))
  | [],acc=>some acc
  | (n,k)::r,acc=>if(k==eN)=true then(match env.cells.lookup n with
      | some c=>qz env r ((n,c)::acc)
      | none=>none)else qz env r acc
theorem DC(env:Env):∀(names:!(O×o7))(acc cl:!(O×U)),qz env names acc>>cl->
  (forIn names acc λ(x:O×o7)(r:!(O×U))=>if(x.2==eN)=true then(do let c <-cellOf env x.1;pure (qS ((x.1,c)::r)))else pure (qS r):Sem (!(O×U)))=pure cl
 | [],acc,cl,h=>by simp[qz,h_]at h;subst h;rfl
 |(n,k)::r,acc,cl,h=>by
  rw[List.forIn_cons];unfold qz at h;by_cases hk:(k==eN)=true
  .rw[qQ3 hk]at h;rw[qQ3 (show((n,k).2==eN)=true from hk)];cases e:env.cells.lookup n with
   |none=>rw[e]at h;cases h
   |some c=>
    rw[e]at h;let e2:cellOf env (n,k).1=pure c:=by unfold cellOf;rw[show lJ (n,k).1 env.cells>>c from e]
    rw[e2,pure_bind,pure_bind];exact DC env r _ cl h
  .rw[qQ2 hk]at h;rw[qQ2 hk,pure_bind];exact DC env r acc cl h
theorem JR(h:qz env sc.names []>>cl):closureFor sc env=pure cl:=by unfold closureFor;let:=DC env sc.names [] cl h;simp only[bind_pure];exact this
theorem wu:∀{names:!(O×o7)}{acc cl:!(O×U)},qz env names acc>>cl->(∀x c,acc.lookup x>>c->env.cells.lookup x>>c)->∀x c,cl.lookup x>>c->env.cells.lookup x>>c
 | [],acc,cl,h,ha=>by simp[qz,h_]at h;subst h;exact ha
 |(n,k)::r,acc,cl,h,ha=>by
  unfold qz at h;by_cases hk:(k==eN)=true
  .rw[qQ3 hk]at h;cases e:env.cells.lookup n with
   |none=>rw[e]at h;cases h
   |some c=>
    rw[e]at h;refine wu h λx d hx=>?_;rw[d_]at hx;cases hxn:x==n with
    |true=>
     rw[hxn]at hx;let:x=n:=by simpa using hxn
     subst this;rwa[e]
    |false=>rw[hxn]at hx;exact ha x d hx
  .rw[qQ2 hk]at h;exact wu h ha
theorem wx:∀{names:!(O×o7)}{acc cl:!(O×U)},qz env names acc>>cl->∀x,((x,eN)∈names\/∃c,acc.lookup x>>c)->∃c,cl.lookup x>>c
 | [],acc,cl,h,x,hx=>by
  simp[qz,h_]at h;subst h;rcases hx with hx|hx
  .exact qQ7 hx ∅
  .exact hx
 |(n,k)::r,acc,cl,h,x,hx=>by
  unfold qz at h;by_cases hk:(k==eN)=true
  .rw[qQ3 hk]at h;cases e:env.cells.lookup n with
   |none=>rw[e]at h;cases h
   |some c=>
    rw[e]at h;refine wx h x ?_;rcases hx with hx|⟨d,hx⟩
    .rcases au.mp hx with hx|hx
     .cases hx;exact .inr #[c,by simp[d_]]
     .exact .inl hx
    .refine .inr ?_;rw[d_];cases hxn:x==n with
     |true=>exact#[_,Y]
     |false=>exact#[d,hx]
  .rw[qQ2 hk]at h;refine wx h x ?_;rcases hx with hx|hx
   .rcases au.mp hx with hx|hx
    .cases hx;exact qQ7 Y hk
    .exact .inl hx
   .exact .inr hx
theorem wy{env:Env}:∀{names:!(O×o7)}{x:O},names.lookup x>>.free->
  (names.map λ(n,k)=>if(k==eN&&env.scope.kind == .function&&env.kindOf n==some .cell) then(n,mP) else(n,k)).lookup x>>.cell\/
   (names.map λ(n,k)=>if(k==eN&&env.scope.kind == .function&&env.kindOf n==some .cell) then(n,mP) else(n,k)).lookup x>>.free
 | [],x,h=>by simp at h
 |(n,k)::r,x,h=>by
  let ih:=@wy env r x;rw[av];dsimp only;by_cases hb:(k==eN&&env.scope.kind == .function&&env.kindOf n==some .cell)=true
  .rw[qQ3 hb];cases hx:x==n with
   |true=>simp[d_,hx]
   |false=>simp only[d_,hx]at h ⊢;exact ih h
  .rw[qQ2 hb];cases hx:x==n with
   |true=>simp[d_,hx]at h ⊢;exact .inr h
   |false=>simp only[d_,hx]at h ⊢;exact ih h
theorem yk{env:Env}:∀{names:!(O×o7)}{x:O},(∀y∈names,y.2≠mP)->
  ((names.map λ(n,k)=>if(k==eN&&env.scope.kind == .function&&env.kindOf n==some .cell) then(n,mP) else(n,k)).lookup x>>.cell\/
   (names.map λ(n,k)=>if(k==eN&&env.scope.kind == .function&&env.kindOf n==some .cell) then(n,mP) else(n,k)).lookup x>>.free)->(x,eN)∈names
 | [],x,_,h=>by simp at h
 |(n,k)::r,x,hc,h=>by
  let ih:=@yk env r x λy hy=>hc y (ay _ hy);let hk0:=hc (n,k) aJ;rw[av]at h;dsimp only at h;by_cases hb:(k==eN&&env.scope.kind == .function&&env.kindOf n==some .cell)=true
  .let hk:k=eN:=by simp only[nO]at hb;simpa using hb.1.1
   rw[qQ3 hb]at h;cases hx:x==n with
   |true=>
    let:x=n:=by simpa using hx
    subst this;rw[hk];exact aJ
   |false=>simp only[d_,hx]at h;exact ay _ (ih h)
  .rw[qQ2 hb]at h;cases hx:x==n with
   |true=>
    let:x=n:=by simpa using hx
    subst this;simp[d_,beq_self_eq_true,h_]at h;rcases h with h|h
    .exact qQ7 h hk0
    .rw[h];exact aJ
   |false=>simp only[d_,hx]at h;exact ay _ (ih h)
def fS(X:Cx)(sc:o6)(N:!O)(cl:!(O×U))(fp:!U)(s:aU)(H:Hp):Cx where
 prog:=X.prog
 w:=X.w
 K:=X.K
 mg:=X.mg
 base:=X.base
 A:=X.A
 N:=N
 s₀:=s
 H₀:=H
 env:=compEnvC sc cl s.heap.objs.size X.env
 outer:=X.stack
 stack:=X.stack
 ex:=fp
 fn:=λ_=>false
 calm:=X.calm
 pn:=[]
 xe:=QR
structure ky(X:Cx)(sc:o6)(own:!O)(cap:!Nat)(N:!O)(cl:!(O×U)):Prop where
 kind:sc.kind=.function
 Nt:∀y∈sc.names,y.2≠mP
 loc:∀y∈sc.names,y.2=.local->sc.names.lookup y.1>>.local
 clos:qz X.env sc.names []>>cl
 names:N=own++cap.map λi=>X.N.getD i fZ
 YW:∀i∈cap,i<X.N.length/\(X.env.kindOf (X.N.getD i fZ)>>.cell\/X.env.kindOf (X.N.getD i fZ)>>.free)/\sc.names.lookup (X.N.getD i fZ)>>.free
def nS(own:!O)(cap:!Nat)(σ:St):St:=aW own.length none++cap.map λi=>σ.getD i none
section
variable{s:aU}
theorem Nu(CS:ky X sc own cap N cl)(I:Inv X pins σ H s)(T:Turn X.prog X.w X.K tg Ja fp it tn)(st:tn 0 s.heap)(hf:∀b∈fp,wc X pins H b)
  (D:U)(hD:D=s.heap.objs.size)(s3:aU)(h3:s3={ s with heap:=s.heap.push { cls:=.type "list",dict:=none,data:=.seq ([]:!M).toArray } })
  (Hz:h4.Ns s3.heap.objs.size (λ_=>none))(hk:∀b o,s3.heap.get? b>>o->h4.get? b>>o):
  Inv (fS X sc N cl fp s3 (upd H D (.lst []))) [] (nS own cap σ) (upd H D (.lst [])) { s3 with heap:=h4,toks:=t4 }:=by
 subst hD;let k3:∀b o,s.heap.get? b>>o->s3.heap.get? b>>o:=λb o e=>[h3]▸aE _ e;let z3:s3.heap.objs.size=s.heap.objs.size+1:=[h3]▸ic ..;let I3:Inv X pins σ (upd H s.heap.objs.size (.lst [])) s3:=by rw[h3];exact I.laid (λb o e=>aE _ e) () #[bj _,[],0,.nil,bx _ Y]
 let QS:∀b∈fp,b<s.heap.objs.size:=λb hb=>by let#[o,e,_]:=T.obj 0 _ st b hb;exact aV e
 let QT:∀b,b<s.heap.objs.size->b≠s3.heap.objs.size:=λb hb=>[z3]▸aX ();let rg:=wu CS.clos λx c h=>by simp at h
 let ok:(fS X sc N cl fp s3 (upd H s.heap.objs.size (.lst []))).Ok:=by
  refine#[I.ok.mod,CS.kind,I.ok.glob,I.ok.blt,aP _,λx y c hx hy=>I.ok.inj x y c (rg x c hx) (rg y c hy),λx hx=>?_,λx c hx _=>qQ7 hx ia,I.ok.hd,I.ok.frames,.inl Y,λb hb=>#[?_,λx c hx=>?_],λb o e=>?_,?_,λb o e hb=>?_,λb hb hs=>?_,?_,?_]
  .exact wx CS.clos x (.inl (yk CS.Nt hx))
  .exact QT b (QS b hb)
  .exact(hf b hb).2.2.2.2.1 x c (rg x c hx)
  .exact I3.bs b o e
  .exact bA I.ok.S9 (bA I.sz (by show s.heap.objs.size<=s3.heap.objs.size;rw[z3];exact Bi _))
  .rcases(hf b hb).2.2.2.1 with z|z
   .exact I.ok.MS b o e z
   .exact qQ7 (bV (aV (I.ok.bs b o e).1) z) ()
  .rcases au.mp (I.Dm b hs)with z|z
   .exact(hf b hb).2.1 z
   .exact(hf b hb).2.2.1 z
  .exact I3.stack
  .exact I3.Jv
 let frC:∀b,s.heap.objs.size<b->(upd H s.heap.objs.size (.lst [])) b=none:=λb hb=>by rw[L (gI hb)];exact I.hok.fresh ()
 refine#[ok,?_,I3.bare,Un.kept hk,#[_,Hz,λi x v e1 e2 e3=>?_],λx c hx=>?_,?_,λx c hx=>?_,λp hp=>qQ7 (show p∈([])from hp) ∅,I3.hok.kept hk,?_]
 .rfl
 .let VJ:=e2;let YX:N[i]?>>x:=e1;unfold nS at VJ;by_cases hi:i<own.length
  .rw[bN ↑hi,dZ]at VJ;split at VJ<;>cases VJ
  .rw[bM ↑(h8 hi),du,ax]at VJ;rw[CS.names,bM (),ax]at YX;cases ec:cap[i-own.length]? with
   |none=>rw[ec]at YX;cases YX
   |some j=>
    rw[ec]at YX VJ;let ex:X.N.getD j fZ=x:=by simpa using YX
    let ev:σ.getD j none>>v:=by simpa using VJ
    let#[hj,EX,uC]:=CS.YW j (aH ec);rw[ex]at EX uC;let#[m,hn,hl]:=I.loc;let hxj:X.N[j]?>>x:=by rw[<-ex,aG,ao hj];rfl
    let hvj:σ[j]?>>(some v):=by let:j < σ.length:=[I.len]▸hj;rw[aG,ao this]at ev;rw[ao this];exact qQ6 some ev
    let#[u,r,l]:=hl j x v hxj hvj (by
     rcases EX with z|z
     .exact .inr (.inl z)
     .exact .inr (.inr z));refine#[u,r,?_];rcases l with⟨k,_⟩|⟨k,c,e,z⟩
    .rcases EX with z|z<;>(rw[z]at k;cases k)
    .let#[c',ec']:=wx CS.clos x (.inl (je uC));let:c'=c:=by let:=rg x c' ec';rw[e]at this;exact(cv this).symm
     subst this;refine .inr #[?_,c',ec',?_]
     .exact wy uC
     .let#[o,ho,hd]:=z;exact#[o,hk _ _ (k3 _ _ ho),hd]
 .let#[v,o,ho,hd]:=I.cell x c (rg x c hx);exact#[v,o,hk _ _ (k3 _ _ ho),hd]
 .exact frC _ (by show s.heap.objs.size<s3.heap.objs.size;rw[z3];exact Nat.lt_succ_self _)
 .let#[v,o,ho,hd]:=I.cell x c (rg x c hx);rw[L (aX (aV ho))];exact I.qu x c (rg x c hx)
 .show(nS own cap σ).length=N.length;unfold nS;rw[CS.names];simp
theorem Inv.zr{X:Cx}{H:Hp}{pins:!(U×Obj)}{σ:St}{h':dF}{t':Nat}{ch:!U}(I:Inv X pins σ H s)(k:∀b o,b∉ch->s.heap.get? b>>o->h'.get? b>>o)(hf:∀b∈ch,wc X pins H b):Inv X pins σ H { s with heap:=h',toks:=t' }:=by
 let Yb:∀b u,H b>>u->b∉ch:=λb u e z=>by rw[(hf b z).1]at e;cases e
 refine I.step (λb hb=>#[(hf b hb).2.2.2.1,(hf b hb).2.1,(hf b hb).2.2.2.2.1,(hf b hb).2.2.2.2.2]) (λb o _ _ hc e _=>k b o hc e) (λb o _ _ hc e _=>#[o.slots,k b o hc e]) (λ_ _ _ _ n=>n)
  (λb o hc e=>#[o,k b o hc e]) (λ_ _ e=>e) (λ_ _ _ e=>e) (λb ps e=>#[#[],by rw[e];simp]) (λm hm=>?_) (λb u e=>?_) I.bare
 .let#[o,es,ep,ho,r]:=hm;exact#[o,es,ep,k _ o (λz=>(hf _ z).2.1 Y) ho,r]
 .refine(I.hok b u e).stay (λc v hc q=>k c v ?_ q) (λ_ q=>q) λ_ _ q=>q;rcases hc with z|z
  .rw[z];exact Yb b u e
  .exact Yb c _ z
theorem Inv.track(I:Inv X pins σ H s)(f:wc X pins H a)(new:iX X.prog X.w (upd H a o) s.heap a o):Inv X pins σ (upd H a o) s:=by
 let#[f0,f1,f2,f3,f4,f5]:=f;let ne:∀b u,H b>>u->b≠a:=λb u e=>bq e f0;refine#[I.ok,I.os,I.bare,#[I.base.keep,I.base.slot,λb ob e n hx=>?_,I.base.there,λb xs e=>?_,λb ob u e=>?_,λb ps e=>?_],I.loc,I.cell,?_,λx c e=>?_,λp hp=>?_,λb u e=>?_,I.len]
 .let nb:b≠a:=λz=>by
   subst z;rcases f3 with z|z
   .exact hx z
   .exact qQ7 (bV (aV e) z) ()
  rw[L nb];exact I.base.free b ob e n hx
 .let q:=I.base.tups b xs e;rwa[L (ne _ _ q)]
 .let q:=I.base.xC b ob u e;rwa[L (ne _ _ q)]
 .let#[more,q]:=I.base.zM b ps e;exact#[more,[L (ne _ _ q)]▸q]
 .rw[L (bF f1)];exact I.free
 .rw[L (f4 x c e)];exact I.qu x c e
 .let#[e,n,r]:=I.pin p hp;exact#[e,[L (f5 p hp)]▸n,r]
 .by_cases hb:b=a
  .subst hb;rw[aM]at e;cases e;exact new
  .rw[L hb]at e;exact(I.hok b u e).stay (λ_ _ _ q=>q) (λc q=>[L (ne _ _ q)]▸q) λc xs q=>[L (ne _ _ q)]▸q
end
def YY(X:Cx)(ifs:!bY)(t:TT):Prop:=
 ∀(pins:!(U×Obj))(s:aU)(σ:St)(H:Hp)(Q:Bool->Hp->Prop),Inv X pins σ H s->t σ H Q->wpAny (model X.prog X.w) X.A (testsOf ifs X.env) (TP X pins σ Q) X.xe s
def zc7:TT:=λ_ H Q=>Q true H
theorem QV:YY X [] zc7:=λ_ _ _ H _ I h=>wpAny_tests_nil #[H,I,h]
theorem QW(h:PT X c t):YY X [c] t:=λpins s σ H Q I q=>wpAny_tests_one (h pins s σ H Q I q)
def qA(Ja:It)(g:TG)(tc:TT)(te:TE)(σ:St)(H:Hp)(Q:VK):Prop:=
 ∀D,H D=none->∃W:Nat->Nat->!V->St->Hp->Prop,(∃m,W 0 m [] σ (upd H D (.lst [])))/\∀i m ys σ' H',W i m ys σ' H'->
  (Ja.stop i H'/\Q (.ref D) H')\/(Ja.go i H'/\∀x H2,Ja.Ym i H' x H2->g x σ' H2 λσ3 H3=>tc σ3 H3 λb H4=>if b=true then te σ3 H4 λy H5=>
   H5 D>>(.lst ys)/\ys.length<sizeLine/\∃m',m'<m/\W (i+1) m' (ys ++ [y]) σ3 (upd H5 D (.lst (ys ++ [y])))else ∃m',m'<m/\W (i+1) m' ys σ3 H4)
def Ts(own:!O)(cap:!Nat)(wi:TI)(g:TG)(tc:TT)(te:TE):TE:=λσ H Q=>wi σ H λJa H1=>qA Ja g tc te (nS own cap σ) H1 Q
section
variable{X:Cx}{σ:St}{sc:o6}{own N:!O}{cap:!Nat}{cl:!(O×U)}{tg elt iter:bY}{ifs:!bY}{it:U}{g:TG}{tc:TT}{te:TE}{wi:TI}{pos:Pos}
theorem B8{H:Hp}{pins:!(U×Obj)}{s:aU}{fp:!U}{Ja:It}{tn:Nat->dF->Prop}{RR:M->U->GN->aU->Prop}{E:M->aU->Prop}{Q:VK}(hc:X.calm=true)(CS:ky X sc own cap N cl)(I:Inv X pins σ H s)(T:Turn X.prog X.w X.K tg Ja fp it tn)(st:tn 0 s.heap)(hf:∀b∈fp,wc X pins H b)
  (hg:∀f s3 H3,PG (fS X sc N cl f s3 H3) tg g)(ht:∀f s3 H3,YY (fS X sc N cl f s3 H3) ifs tc)(he:∀f s3 H3,PE (fS X sc N cl f s3 H3) elt te)
  (h:qA Ja g tc te (nS own cap σ) H Q)
  (fin:∀D C H' s',Inv X pins σ H' s'->(∃m,s'.heap.Ns C m)->wc X pins H' C->Q (.ref D) H'->RR (.ref D) C (.ok .next) s'):
  wpAny (model X.prog X.w) X.A (newList []) (λacc s₃=>wpAny (model X.prog X.w) X.A (newFunctionEnv sc X.env.globals cl [] X.env.qual none .none (some X.env)) (λYZ s₄=>
   codeAny (model X.prog X.w) X.A (.compStart (.ListComp elt [#[tg,iter,ifs,0]] sc pos) 0 (.ref it) acc { YZ with scope:=relabel sc X.env }) (RR acc YZ.locals) s₄) E s₃) E s:=by
 refine gv (wpAny_newFunctionEnv CS.Nt (λy hy=>qQ7 hy ∅) (λh4 Hz VF=>?_) CS.kind);let hD:=I.fresh;let#[W,#[m0,w0],turn]:=h s.heap.objs.size hD;generalize Y0:({ s with heap:=s.heap.push { cls:=.type "list",dict:=none,data:=.seq ([]).toArray } })=s3 at *;let h3:=Y0.symm;let z3:s3.heap.objs.size=s.heap.objs.size+1:=[h3]▸ic ..;let k3:∀b o,s.heap.get? b>>o->s3.heap.get? b>>o:=λb o e=>[h3]▸aE _ e;let k4:=λb o e=>VF.extBut b o (aX (aV e)) (aE _ e);let QS:∀b∈fp,b<s.heap.objs.size:=λb hb=>by let#[o,e,_]:=T.obj 0 _ st b hb;exact aV e
 let Ic:=λt4=>
  Nu (t4:=t4) CS I T st hf _ Y s3 h3 ↑Hz k4;let st4:=T.keep _ _ _ st λb hb o e=>k4 b o (k3 b o e);let fr4:∀b∈fp,(upd H s.heap.objs.size (.lst [])) b=none:=λb hb=>by
  rw[L (aX (QS b hb))];exact(hf b hb).1
 let stat:∀{H':Hp},(∀b∈fp,H' b=none)->∀b∈fp,wc (fS X sc N cl fp s3 (upd H s.heap.objs.size (.lst []))) [] H' b:=λ{H'}hn b hb=>by
  refine#[hn b hb,?_,λhs=>?_,.inl hb,λx c hx=>?_,λp hp=>qQ7 (show p∈([])from hp) ∅]
  .show b≠s3.heap.objs.size;rw[z3];exact aX (ku (QS b hb))
  .rcases au.mp (I.Dm b hs)with z|z
   .exact(hf b hb).2.1 z
   .exact(hf b hb).2.2.1 z
  .exact(hf b hb).2.2.2.2.1 x c (wu CS.clos (λx c h=>by simp at h) x c hx)
 let loop:∀s5:aU,(∃t4,s5={ s3 with heap:=h4,toks:=t4 })->codeAny (model X.prog X.w) X.A (.compLoop (.ListComp elt [#[tg,iter,ifs,0]] sc pos) 0 (.ref it) (.ref s.heap.objs.size) (compEnvC sc cl s3.heap.objs.size X.env))
   (RR (.ref s.heap.objs.size) s3.heap.objs.size) s5:=by
  rintro s5 ⟨t4,rfl⟩;refine K_ (λn s'=>∃i ys σ' H',Inv _ [] σ' H' s'/\tn i s'.heap/\(∀b∈fp,H' b=none)/\W i n ys σ' H') ?_
   #[0,[],_,_,Ic t4,st4,fr4,w0];rintro n s' ⟨i,ys,σ',H',I',yg,fr',w'⟩;rcases turn i n ys σ' H' w' with⟨stop,q⟩|⟨go,step⟩
  .refine gU (T.done (fS X sc N cl fp s3 _) Y Y Y hc i [] s' σ' H' QR I' (stat fr') yg stop) λr s6 #[hr,I6]=>?_;subst hr;let bs:=I6.base;let un:Un (Mx X.stack) fp H H' s.heap s6.heap:=by
    let neD:∀b o,s.heap.get? b>>o->b≠s.heap.objs.size:=λb o e=>aX (aV e);refine#[λb o e n hb hx=>bs.keep b o (k3 b o e) (by show upd H _ _ b=none;rw[L (neD b o e)];exact n) hb hx,λb o e n hb hx=>bs.slot b o (k3 b o e) (by show upd H _ _ b=none;rw[L (neD b o e)];exact n) hb hx,
     λb o e n hx=>bs.free b o (k3 b o e) (by show upd H _ _ b=none;rw[L (neD b o e)];exact n) hx,λb o e hx=>bs.there b o (k3 b o e) hx,
     λb xs e=>bs.tups b xs (by show upd H _ _ b=_;rw[L (bq e hD)];exact e),λb o u e=>bs.xC b o u (by show upd H _ _ b=_;rw[L (bq e hD)];exact e),λb ps e=>bs.zM b ps (by show upd H _ _ b=_;rw[L (bq e hD)];exact e)]
   let I7:=I.call' (by rw[I6.os];show s3.os=s.os;rw[h3]) un I6.hok I6.bare λb hb=>#[(hf b hb).2.2.2.1,(hf b hb).2.1,(hf b hb).2.2.2.2.1,(hf b hb).2.2.2.2.2];let#[mC,nC,_]:=I6.loc;exact fin _ _ H' s6 I7 #[mC,nC] (I.zQ ([z3]▸Bi _) I6.free) q
  .refine gU (T.item (fS X sc N cl fp s3 _) Y Y Y hc i [] s' σ' H' QR I' (stat fr') yg go) λr s6 #[u,hr,h6]=>?_;subst hr;refine gU h6 λ_ s7 #[x,H7,I7,r7,y7,st7,fr7]=>?_;let back:∀{σ8:St}{H8:Hp}{s8:aU},Inv (fS X sc N cl fp s3 (upd H s.heap.objs.size (.lst []))) ([]++Dr fp s7.heap) σ8 H8 s8->tn (i+1) s8.heap/\∀b∈fp,H8 b=none:=λ{σ8 H8 s8}I8=>by refine#[T.keep _ _ _ st7 λb hb o e=>(I8.pin (b,o) (aZ _ (aZ _ (qY hb e)))).1,λb hb=>?_];let#[o,e,d]:=T.obj _ _ st7 b hb;exact(I8.pin (b,o) (aZ _ (aZ _ (qY hb e)))).2.1
   refine gU (hg _ _ _ _ s7 σ' H7 x u _ (I7.pinned (stat fr7) (T.obj _ _ st7)) r7 (step x H7 y7)) λ_ s8 #[σ8,H8,I8,q8]=>?_;refine gU (ht _ _ _ _ s8 σ8 H8 _ I8 q8) λok s9 #[H9,I9,q9]=>?_;cases ok with
   |false=>let#[m',hm,w9]:=q9;exact#[m',hm,i+1,ys,σ8,H9,I9.sH,(back I9).1,(back I9).2,w9]
   |true=>refine gU (he _ _ _ _ s9 σ8 H9 _ I9 q9) λxv s10 #[y,H10,I10,r10,E6,hz,m',hm,w10]=>?_;refine gU (lu _ s10 σ8 H10 (.ref s.heap.objs.size) [y] _ [xv] (λ_ Ez=>Ez=upd H10 s.heap.objs.size _) I10 Y (.cons r10 .nil) #[_,ys,y,Y,Y,E6,hz,Y]) λ_ s11 #[_,H11,I11,_,e11]=>?_;subst e11;exact#[m',hm,i+1,_,σ8,_,I11.sH,(back I11).1,(back I11).2,w10]
 exact codeAny_compStart_list (loop _ #[_,Y]) (T.self _ 0 _ _ _ st4 (loop _ #[_,Y]))
theorem DE(hc:X.calm=true)(CS:ky X sc own cap N cl)(hi:PI X tg iter wi)(hg:∀f s3 H3,PG (fS X sc N cl f s3 H3) tg g)(ht:∀f s3 H3,YY (fS X sc N cl f s3 H3) ifs tc)(he:∀f s3 H3,PE (fS X sc N cl f s3 H3) elt te)
  (hs:My X iter:=by intro _;rfl):PE X (.ListComp elt [#[tg,iter,ifs,0]] sc pos) (Ts own cap wi g tc te):=by intro pins s σ H Q I h;refine wpAny_comprehension_free Y hs (JR CS.clos) CS.kind CS.loc (gU (hi pins s σ H _ I h) λv s1 h1=>gU h1 λitv s2 h2=>?_);let#[it,fp,tn,Ja,H2,e,I2,T,Yp,f2,q2]:=h2;subst e;refine B8 hc CS I2 T Yp f2 hg ht he q2 ?_;intro D C H' s' I' #[m,hn] fC q;exact#[m,hn,λh' sb=>#[.ref D,H',I'.turned (λb o hb e=>(sb.2 b hb).trans e) fC.1 fC.2.1 fC.2.2.2.1 fC.2.2.2.2.1 fC.2.2.2.2.2,Y,q]]
theorem Aa{px E7:Pos}(hN:X.N.Nodup)(Y1:X.N[i]?>>x)(hx:Loc X.env.scope x)(hc:X.calm=true)(CS:ky X sc own cap N cl)(hi:PI X tg iter wi)(hg:∀f s3 H3,PG (fS X sc N cl f s3 H3) tg g)
  (ht:∀f s3 H3,YY (fS X sc N cl f s3 H3) ifs tc)(he:∀f s3 H3,PE (fS X sc N cl f s3 H3) elt te)(qB:swapsWith (.ListComp elt [#[tg,iter,ifs,0]] sc pos) (some (.Name x px)) E7.line X.env=pure true:=by rfl)
  (hs:My X iter:=by intro _;rfl)(hf:Dl X x:=by left):
  PS X (.Assign [.Name x px] (.ListComp elt [#[tg,iter,ifs,0]] sc pos) E7) (Yl (Ts own cap wi g tc te) (BZ i)):=by
 intro pins s σ H D I h;rw[exec_Assign_Name_used _ _ _ _ qB];refine aA (zj (aA ?_));refine aA (iE (wpAny_comprehension_free Y hs (JR CS.clos) CS.kind CS.loc
  (gU (hi pins s σ H _ I h) λv s1 h1=>gU h1 λitv s2 h2=>?_)) (λ_ s' hq=>bf (bf hq)) λ_ _ e=>e);let#[it,fp,tn,Ja,H2,e,I2,T,Yp,f2,q2]:=h2;subst e;refine B8 hc CS I2 T Yp f2 hg ht he q2 ?_;intro D' C H' s' I' #[m,hn] fC q;refine wpAny_assign_Name (BV I' hN Y1 hx (v:=.ref D') Y (λTi I'' #[a,sb,ha]=>?_) hf);let Xu:C≠a:=by
  rcases ha with z|z
  .rw[z];exact fC.2.1
  .exact λy=>fC.2.2.2.2.1 x a z y.symm
 exact#[m,hn.sameBut sb Xu,λh' sb'=>#[_,H',I''.turned (λb o hb e=>(sb'.2 b hb).trans e) fC.1 fC.2.1 fC.2.2.2.1 fC.2.2.2.2.1 fC.2.2.2.2.2,q]]
end
def Ite(K:aq)(a:U):It:=
 #[λi H=>∃xs x,jW K H a xs/\xs[i]?>>x,λi H v H'=>∃t x,v=.ref t/\H t=none/\H'=upd H t (.tup [.int i,x])/\∀xs,jW K H a xs->xs[i]?>>x,λi H=>∃xs,jW K H a xs/\xs.length<=i]
theorem Lb{k}(a e it:U)(Xx:e≠it):Turn P w K (.Tuple elts k tp) (Ite K a) [e,it] e (λi h=>(∃old,IsEnum h e it (i:Nat) old)/\h.IsListIter it a i) where
 mem:=∅
 obj:=λi h st b hb=>by
  let#[#[old,he],#[o,ho,c,d]]:=st;rcases au.mp hb with z|z
  .subst z;exact#[_,he,λv z=>by cases z]
  .let z':b=it:=by simpa using z
   subst z';exact#[o,ho,λv z=>by rw[d]at z;cases z]
 keep:=λi h h' st kp=>#[let#[old,he]:=st.1;#[old,kp e ∅ _ he],st.2.at λo q=>kp it ∅ o q]
 item:=by
  intro X hP hw hK hc i pins s σ H E I hf st hg;subst hP hw hK;let#[#[old,he],hit]:=st;let#[xs,x,hq,hx]:=hg;let#[its,rv,p,hz]:=I.list hq;let#[u,hu,ru]:=rv.get hx;refine wpAny_pyNext_enum_item he hit p.isList ↑hu Xx λh1 S7 zdc ht1 hz1 hk1=>?_;refine#[_,Y,wpAny_letOwnedTupleGo_enum S7 λh2 HC pZ=>?_];let elt:=aV he;let ilt:it<s.heap.objs.size:=by let#[o,ho,_]:=_root_.id hit;exact aV ho
  let k2:∀b o,b∉[e,it]->s.heap.get? b>>o->h2.get? b>>o:=λb o hb q=>by let n1:b≠e:=λz=>hb (by simp[z]);exact(pZ.2 b n1).trans (hk1 b o n1 (λz=>hb (by simp[z])) q)
  let fT:wc X pins H s.heap.objs.size:=I.zQ (aP _) I.fresh;let I3:Inv X pins σ (upd H s.heap.objs.size (.tup [.int i,x])) { s with heap:=h2,toks:=s.toks+1 }:=
   (I.zr k2 hf).track fT #[by show 2<=sizeLine;rw[dD];decide,_,.cons #[_,Y] (.cons ru .nil),#[_,(pZ.2 _ (gI elt)).trans ht1,Y,_,Y]]
  refine#[.ref s.heap.objs.size,_,I3,Y,#[_,x,Y,I.fresh,Y,λys hy=>[I.zP hy hq]▸hx],#[#[_,by simpa using HC],zdc.at λo q=>(pZ.2 it Xx.symm).trans q],λb hb=>?_];rcases au.mp hb with z|z
  .subst z;rw[L (aX elt)];exact(hf b hb).1
  .let z':b=it:=by simpa using z
   subst z';rw[L (aX ilt)];exact(hf b hb).1
 done:=by intro X hP hw hK hc i pins s σ H E I hf st hg;subst hP hw hK;let#[#[old,he],hit]:=st;let#[xs,hq,hx]:=hg;let#[its,rv,p,hz]:=I.list hq;let hl:=rv.length;exact wpAny_pyNext_enum_end (I.ok.hd hc) he hit p.isList (by simp;omega) λh' eb=>#[Y,I.zr (λb o hb q=>eb b o (λz=>hb (by simp[z])) q) hf]
 self:=λ_ _ _ _ _ st h=>let#[#[_,he],_]:=st;wpAny_pyIter_enum he h
def Y2(K:aq)(ta:TA):TI:=λσ H R=>ta σ H λvs H1=>∃a,vs=[.ref a]/\(∃xs,jW K H1 a xs)/\R (Ite K a) H1
theorem QX{a:bY}{ta:TA}{k}(hg:Gl X "enumerate")(hm:X.mg "enumerate"=none)(ha:PA X [a] ta)(hs:starEach [a] X.env=[(false,eval a X.env)]:=by rfl):
  PI X (.Tuple elts k tp) (.Call (.Name "enumerate" p) [a] [] pos) (Y2 X.K ta):=by
 intro pins s σ H R I h;refine Call_ (xD I hg hm boot_enumerate (jo (gU (ha pos pins s σ H _ I h) λus s1 #[vs,H1,I1,r1,q1]=>?_) hs Y));let#[l,e,#[xs,hq],q]:=q1;subst e;let#[u,rfl,rx]:=vals1 r1;cases rx;let#[its,rv,pl,hz]:=I1.list hq;refine call_enumerate_list pl.isList λh' he hit yT hk=>wpAny_pyIter_enum he ?_;refine#[_,_,_,_,H1,Y,I1.kept hk,Lb l _ _ (Nat.succ_ne_self _),#[#[_,he],hit],λb hb=>?_,q];rcases au.mp hb with z|z
 .subst z;exact I1.zQ () (I1.hok.fresh ())
 .let z':b=s1.heap.objs.size:=by simpa using z
  subst z';exact I1.zQ () I1.fresh
def k6:Key->J
 | .inl i=>.int i
 | .inr x=>.str x
mutual
inductive Rep(K:aq)(H:Hp):V->J->Prop
 |non:Rep K H .non .none
 |bl (b:Bool):Rep K H (.bl b) (.bool b)
 |int (i:Int):Rep K H (.int i) (.int i)
 |str (x:O):Rep K H (.str x) (.str x)
 |lst {a:U} {xs:!V} {ds:!J}:jW K H a xs->b_ K H xs ds->Rep K H (.ref a) (.list ds)
 |tup {a:U} {xs:!V} {ds:!J}:oC K H a xs->b_ K H xs ds->Rep K H (.ref a) (.tuple ds)
 |dct {a:U} {kvs:!(Key×V)} {ds:!(J×J)}:H a>>(.dK kvs)->ds.map (·.1)=kvs.map (λp=>k6 p.1)->b_ K H (kvs.map (·.2)) (ds.map (·.2))->Rep K H (.ref a) (.dict ds)
 |Tt {a:U} {kvs:!(!Key×V)} {ds:!(J×J)}:H a>>(.dT kvs)->ds.map (·.1)=kvs.map (λp=>fH (p.1.map k6))->b_ K H (kvs.map (·.2)) (ds.map (·.2))->Rep K H (.ref a) (.dict ((.none,.bool true)::ds))
 |obj {a C dx:U} {fs:!(O×V)} {ds:!(J×J)}:H a>>(.ins C dx fs)->uM K C->(∀f∈fs.map (·.1),gw K C f)->ds.map (·.1)=fs.map (λp=>aN p.1)->b_ K H (fs.map (·.2)) (ds.map (·.2))->Rep K H (.ref a) (.dict ((.none,.none)::ds))
 |QY {a:U} {o:Obj} {kvs:!(Key×V)} {ds:!(J×J)}:H a>>(.oJ o (.dK kvs))->ds.map (·.1)=kvs.map (λp=>k6 p.1)->b_ K H (kvs.map (·.2)) (ds.map (·.2))->Rep K H (.ref a) (.dict ((.none,.int 1)::ds))
 |VL {a C dx:U} {fs:!(O×V)} {ds:!(J×J)}:H a>>(.ins C dx fs)->uM K C->(∀f∈fs.map (·.1),gw K C f)->ds.map (·.1)=fs.map (λp=>aN p.1)->b_ K H (fs.map (·.2)) (ds.map (·.2))->Rep K H (.ref a) (.dict ((.bool true,.int (Int.ofNat C))::ds))
inductive b_(K:aq)(H:Hp):!V->!J->Prop
 |nil:b_ K H [] []
 |cons {x:V} {d:J} {xs:!V} {ds:!J}:Rep K H x d->b_ K H xs ds->b_ K H (x::xs) (d::ds)
end
theorem cz.oM(e:cz H H')(h:oC K H a xs):oC K H' a xs:=by
 rcases h with(h|⟨o,h⟩)|h
 .exact .inl (.inl (e _ _ h))
 .exact .inl (.inr #[o,e _ _ h])
 .exact .inr h
theorem Rep.mono(s:cz H H')(r:Rep K H v d):Rep K H' v d:=
 Rep.rec .non (λb=>.bl b) (λi=>.int i) (λx=>.str x) (λh _ t=>.lst (s.seq h) t) (λh _ t=>.tup (s.oM h) t) (λh k _ t=>.dct (s _ _ h) k t) (λh k _ t=>.Tt (s _ _ h) k t) (λh c n k _ t=>.obj (s _ _ h) c n k t) (λh k _ t=>.QY (s _ _ h) k t) (λh c n k _ t=>.VL (s _ _ h) c n k t) .nil (λ_ _ a t=>.cons a t) r
theorem b_.mono(s:cz H H'):∀{ds:!J}{xs:!V},b_ K H xs ds->b_ K H' xs ds
 | [],_,r=>by cases r;exact .nil
 |d::ds,_,r=>by cases r with|cons a t=>exact .cons (a.mono s) (b_.mono s t)
section
theorem b_.length:∀{xs:!V}{ds:!J},b_ K H xs ds->xs.length=ds.length
 | [],_,r=>by cases r;rfl
 |x::xs,_,r=>by cases r with|cons a t=>simp[b_.length t]
theorem b_.get:∀{xs:!V}{ds:!J}{i:Nat}{d:J},b_ K H xs ds->ds[i]?>>d->∃x,xs[i]?>>x/\Rep K H x d
 | [],_,_,_,r,e=>by cases r;simp at e
 |x::xs,_,i,d,r,e=>by
  cases r with
  |cons a t=>
   cases i with
   |zero=>simp at e;subst e;exact#[x,Y,a]
   |succ i=>simpa using b_.get t ↑e
theorem b_.at{H:Hp}{K:aq}{ds:!J}{x:V}(r:b_ K H xs ds)(e:ds[i]?>>d)(h:xs[i]?>>x):Rep K H x d:=by let#[y,h1,h2]:=r.get e;rw[h]at h1;cases h1;exact h2
theorem b_.append:∀{xs ys:!V}{ds es:!J},b_ K H xs ds->b_ K H ys es->b_ K H (xs++ys) (ds++es)
 | [],_,_,_,r,s=>by cases r;exact s
 |x::xs,_,_,_,r,s=>by cases r with|cons a t=>exact .cons a (b_.append t s)
theorem b_.take:∀{xs:!V}{ds:!J}(n:Nat),b_ K H xs ds->b_ K H (xs.take n) (ds.take n)
 |_,_,0,_=>by simpa using b_.nil
 | [],_,_+1,r=>by cases r;exact .nil
 |x::xs,_,n+1,r=>by cases r with|cons a t=>exact .cons a (b_.take n t)
theorem b_.drop:∀{xs:!V}{ds:!J}(n:Nat),b_ K H xs ds->b_ K H (xs.drop n) (ds.drop n)
 |_,_,0,r=>r
 | [],_,_+1,r=>by cases r;exact .nil
 |x::xs,_,n+1,r=>by cases r with|cons a t=>exact b_.drop n t
end
mutual
theorem kR(I:Inv X pins σ H s):∀(d:J){v:V}{u:M},d.canLay0=true->Rep X.K H v d->RelV v u->∃as,Reads s.heap u d as
 | .none,_,_,_,r,q=>by cases r;cases q;exact#[_,.none]
 | .bool b,_,_,_,r,q=>by cases r;cases q;exact#[_,.bool b]
 | .int i,_,_,_,r,q=>by cases r;let#[t,rfl]:=q;exact#[_,.int i t]
 | .str x,_,_,_,r,q=>by cases r;let#[t,rfl]:=q;exact#[_,.str x t]
 | .list ds,_,_,hc,r,q=>by
  cases r with
  |lst h t=>cases q;let#[its,rv,#[o,n,e,c,_,dt],_]:=I.list h;let#[as,ra]:=pH I ds hc t rv;exact#[_,.list e c dt ↑ra]
 | .tuple ds,_,_,hc,r,q=>by
  cases r with
  |tup h t=>cases q;let#[its,rv,#[o,e,c,n,dt],_]:=I.tuple h;let#[as,ra]:=pH I ds hc t rv;exact#[_,.tuple e c dt ↑ra]
 | .dict _,_,_,hc,_,_=>by cases hc
theorem pH(I:Inv X pins σ H s):∀(ds:!J){xs:!V}{us:!M},pV ds=true->b_ X.K H xs ds->dJ xs us->∃as,ReadsAll s.heap us ds as
 | [],_,_,_,r,q=>by cases r;cases q;exact#[_,.nil]
 |d::ds,_,_,hc,r,q=>by
  let Xv:(d.canLay0&&pV ds)=true:=hc;rw[nO]at Xv;cases r with
  |cons a t=>
   cases q with
   |cons b w=>let#[as,h1]:=kR I d Xv.1 a b;let#[bs,h2]:=pH I ds Xv.2 t w;exact#[_,.cons h1 h2]
end
def Lay(n:Nat)(d:J):Prop:=d.canLay0=true/\d.depth<=n
inductive Slot where
 |un
 |val (d:J)
 |own (ds:!J)
 |ref (a:U)
variable{δ δ':!Slot}
structure cP(H0 H cY H':Hp):Prop where
 big:cz H H'
 eV:cz H0 cY
 sub:cz cY H'
 new:∀a,cY a≠none->H0 a≠none\/H a=none
theorem cP.refl(s:cz H0 H):cP H0 H H0 H:=#[cz.refl _,cz.refl _,s,λ_ h=>.inl h]
theorem cz.ne(s:cz H H')(h:H a≠none):H' a≠none:=by
 cases e:H a with
 |none=>exact qQ7 e h
 |some o=>rw[s a o e];simp
theorem cP.trans(x:cP A B C D)(y:cP C D E F):cP A B E F:=
 #[x.big.trans y.big,x.eV.trans y.eV,y.sub,λa h=>(y.new a h).elim (x.new a) λz=>.inr (x.big.free z)]
theorem cP.laid(s:cz H0 H){p:U}(h:H p=none):cP H0 H (upd H0 p o) (upd H p o):=by
 refine#[λb u e=>?_,λb u e=>?_,λb u e=>?_,λb e=>?_]
 .rwa[L (bq e h)]
 .rwa[L (bq e (s.free h))]
 .by_cases hb:b=p
  .subst hb;rw[aM]at e ⊢;exact e
  .rw[L hb]at e ⊢;exact s b u e
 .by_cases hb:b=p
  .subst hb;exact .inr h
  .rw[L hb]at e;exact .inl e
theorem cP.loose(s:cz H0 H){p:U}(h:H p=none):cP H0 H H0 (upd H p o):=
 #[λb u e=>[L (bq e h)]▸e,cz.refl _,λb u e=>[L (bq (s b u e) h)]▸s b u e,λ_ e=>.inl e]
def Nv(K:aq)(B H0 H:Hp):Slot->Option (Option V)->Prop
 | .un,_=>True
 | .val d,o=>∃v,o>>(some v)/\Rep K H0 v d
 | .own ds,o=>∃p xs,o>>(some (.ref p))/\H p>>(.lst xs)/\H0 p=none/\B p=none/\b_ K H0 xs ds
 | .ref a,o=>o>>(some (.ref a))
structure fM(K:aq)(B0 B H0 H:Hp)(σ:St)(δ:!Slot):Prop where
 ent:cP B0 B H0 H
 len:σ.length=δ.length
 slot:∀(i:Nat)sl,δ[i]?>>sl->Nv K B H0 H sl σ[i]?
 apart:∀(i j:Nat)ds es p,i≠j->δ[i]?>>(.own ds)->δ[j]?>>(.own es)->σ[i]?>>(some (.ref p))->σ[j]?≠some (some (.ref p))
section
variable{K:aq}{B0 B H0 H:Hp}{σ:St}{δ:!Slot}
theorem fM.sub(f:fM K B0 B H0 H σ δ):cz H0 H:=f.ent.sub
theorem fM.grow(f:fM K B0 B H0 H σ δ)(g:cP H0 H cY H'):fM K B0 B cY H' σ δ:=by
 refine#[f.ent.trans g,f.len,λi sl e=>?_,f.apart];let q:=f.slot i sl e;cases sl with
 |un=>trivial
 |ref a=>exact q
 |val d=>let#[v,h1,h2]:=q;exact#[v,h1,h2.mono g.eV]
 |own ds=>
  let#[p,xs,h1,h2,h3,h4,h5]:=q;refine#[p,xs,h1,g.big _ _ h2,?_,h4,h5.mono g.eV];cases e2:cY p with
  |none=>rfl
  |some o=>
   rcases g.new p (by rw[e2];simp)with z|z
   .exact qQ7 h3 z
   .rw[h2]at z;cases z
theorem fM.val(f:fM K B0 B H0 H σ δ)(h:δ[i]?>>(.val d)):∃v,σ[i]?>>(some v)/\Rep K H0 v d:=f.slot i _ h
theorem fM.set(f:fM K B0 B H0 H σ δ)(r:Rep K H0 v d):fM K B0 B H0 H (σ.set i (some v)) (δ.set i (.val d)):=by
 refine#[f.ent,by simp[f.len],λj sl e=>?_,λj k ds es p JT e1 e2 e3=>?_]
 .by_cases hj:j=i
  .subst hj;let hl:j < δ.length:=by let:=(aF.mp e).1;simpa using this
   rw[a7 hl]at e;cases e;rw[a7 ([f.len]▸hl)];exact#[v,Y,r]
  .rw[aY (bF hj)]at e;rw[aY (bF hj)];exact f.slot j sl e
 .let nj:j≠i:=λz=>by
   subst z;let hl:j < δ.length:=by simpa using(aF.mp e1).1
   rw[a7 hl]at e1;cases e1
  let nk:k≠i:=λz=>by
   subst z;let hl:k < δ.length:=by simpa using(aF.mp e2).1
   rw[a7 hl]at e2;cases e2
  rw[aY (bF nj)]at e1 e3;rw[aY (bF nk)]at e2 ⊢;exact f.apart j k ds es p JT e1 e2 e3
theorem fM.DF(f:fM K B0 B H0 H σ δ){ds:!J}{p:U}(h1:H p>>(.lst xs))(h2:H0 p=none)(h3:B p=none)(r:b_ K H0 xs ds)(hn:∀(j:Nat)es,δ[j]?>>(.own es)->σ[j]?≠some (some (.ref p))):
  fM K B0 B H0 H (σ.set i (some (.ref p))) (δ.set i (.own ds)):=by
 refine#[f.ent,by simp[f.len],λj sl e=>?_,λj k QZ es q JT e1 e2 e3=>?_]
 .by_cases hj:j=i
  .subst hj;let hl:j < δ.length:=by simpa using(aF.mp e).1
   rw[a7 hl]at e;cases e;rw[a7 ([f.len]▸hl)];exact#[p,xs,Y,h1,h2,h3,r]
  .rw[aY (bF hj)]at e;rw[aY (bF hj)];exact f.slot j sl e
 .let hlj:j < δ.length:=by simpa using(aF.mp e1).1
  let hlk:k < δ.length:=by simpa using(aF.mp e2).1
  by_cases nj:j=i
  .subst nj;rw[a7 ([f.len]▸hlj)]at e3;cases e3;rw[aY JT]at e2 ⊢;exact hn k es e2
  .rw[aY (bF nj)]at e1 e3;by_cases nk:k=i
   .subst nk;rw[a7 ([f.len]▸hlk)];intro z;cases z;exact hn j QZ e1 e3
   .rw[aY (bF nk)]at e2 ⊢;exact f.apart j k QZ es q JT e1 e2 e3
theorem fM.push(f:fM K B0 B H0 H σ δ){ds:!J}{p:U}{y:V}(hi:δ[i]?>>(.own ds))(hp:σ[i]?>>(some (.ref p)))(h1:H p>>(.lst xs))(ry:Rep K H0 y d):
  fM K B0 B H0 (upd H p (.lst (xs ++ [y]))) σ (δ.set i (.own (ds ++ [d]))):=by
 let#[p',xs',e1,e2,e3,e4,e5]:=f.slot i _ hi;rw[hp]at e1;cases e1;rw[h1]at e2;cases e2;let hl:=(aF.mp hi).1;refine#[#[λb u e=>?_,f.ent.eV,λb u e=>?_,f.ent.new],by simp[f.len],λj sl e=>?_,λj k QZ es q JT a1 a2 a3=>?_]
 .let:b≠p:=bq e e4;rw[L this];exact f.ent.big b u e
 .let:b≠p:=bq e e3;rw[L this];exact f.ent.sub b u e
 .by_cases hj:j=i
  .subst hj;rw[a7 hl]at e;cases e;exact#[p,_,hp,aM,e3,e4,e5.append (.cons ry .nil)]
  .rw[aY (bF hj)]at e;let q:=f.slot j sl e;cases sl with
   |un=>trivial
   |ref a=>exact q
   |val d=>exact q
   |own QZ=>
    let#[p2,Y3,g1,g2,g3,g4,g5]:=q;let:p2≠p:=λz=>by subst z;exact f.apart i j ds QZ p2 (bF hj) hi e hp g1
    exact#[p2,Y3,g1,[L this]▸g2,g3,g4,g5]
 .let c1:∃Xy,δ[j]?>>(.own Xy):=by
   by_cases hj:j=i
   .subst hj;exact#[_,hi]
   .rw[aY (bF hj)]at a1;exact#[_,a1]
  let c2:∃Xy,δ[k]?>>(.own Xy):=by
   by_cases hk:k=i
   .subst hk;exact#[_,hi]
   .rw[aY (bF hk)]at a2;exact#[_,a2]
  let#[d1,c1]:=c1;let#[d2,c2]:=c2;exact f.apart j k d1 d2 q JT c1 c2 a3
theorem fM.freeze(f:fM K B0 B H0 H σ δ){ds:!J}{p:U}(hi:δ[i]?>>(.own ds))(hp:σ[i]?>>(some (.ref p)))(h1:H p>>(.lst xs)):
  fM K B0 B (upd H0 p (.lst xs)) H σ (δ.set i (.val (.list ds)))/\cz H0 (upd H0 p (.lst xs)):=by
 let#[p',xs',e1,e2,e3,e4,e5]:=f.slot i _ hi;rw[hp]at e1;cases e1;rw[h1]at e2;cases e2;let hl:=(aF.mp hi).1;let sm:cz H0 (upd H0 p (.lst xs)):=λb u e=>[L (bq e e3)]▸e;refine#[#[#[f.ent.big,f.ent.eV.trans sm,λb u e=>?_,λb e=>?_],by simp[f.len],λj sl e=>?_,λj k QZ es q JT a1 a2 a3=>?_],sm]
 .by_cases hb:b=p
  .subst hb;rw[aM]at e;rwa[<-e]
  .rw[L hb]at e;exact f.ent.sub b u e
 .by_cases hb:b=p
  .subst hb;exact .inr e4
  .rw[L hb]at e;exact f.ent.new b e
 .by_cases hj:j=i
  .subst hj;rw[a7 hl]at e;cases e;exact#[_,hp,.lst (jW.of aM) (e5.mono sm)]
  .rw[aY (bF hj)]at e;let q:=f.slot j sl e;cases sl with
   |un=>trivial
   |ref a=>exact q
   |val d=>let#[v,g1,g2]:=q;exact#[v,g1,g2.mono sm]
   |own QZ=>
    let#[p2,Y3,g1,g2,g3,g4,g5]:=q;let:p2≠p:=λz=>by subst z;exact f.apart i j ds QZ p2 (bF hj) hi e hp g1
    exact#[p2,Y3,g1,g2,[L this]▸g3,g4,g5.mono sm]
 .let nj:j≠i:=λz=>by subst z;rw[a7 hl]at a1;cases a1
  let nk:k≠i:=λz=>by subst z;rw[a7 hl]at a2;cases a2
  rw[aY (bF nj)]at a1;rw[aY (bF nk)]at a2;exact f.apart j k QZ es q JT a1 a2 a3
end
def cE(X:Cx)(e:bY):TE:=λσ H Q=>∀pins s,Inv X pins σ H s->wpAny (model X.prog X.w) X.A (eval e X.env) (EP X pins σ Q) X.xe s
def cT(X:Cx)(e:bY):TT:=λσ H Q=>∀pins s,Inv X pins σ H s->wpAny (model X.prog X.w) X.A (isTrue e X.env (eval e X.env)) (TP X pins σ Q) X.xe s
def cS(X:Cx)(st:jT):TS:=λD σ H=>∀pins s,Inv X pins σ H s->wpAny (model X.prog X.w) X.A (exec st X.env) (SP X pins D) X.xe s
def zt(X:Cx)(st:!jT):TS:=λD σ H=>∀pins s,Inv X pins σ H s->wpAny (model X.prog X.w) X.A (execs st X.env) (SP X pins D) X.xe s
theorem ck:PE X e (cE X e):=λpins s _ _ _ I h=>h pins s I
theorem p7:PT X e (cT X e):=λpins s _ _ _ I h=>h pins s I
theorem Nx:PS X e (cS X e):=λpins s _ _ _ I h=>h pins s I
theorem ly:Jx X e (zt X e):=λpins s _ _ _ I h=>h pins s I
def VE(X:Cx)(e:bY)(δ:!Slot)(d:J):Prop:=∀B0 B σ H0 H Q,fM X.K B0 B H0 H σ δ->(∀v cY H',cP H0 H cY H'->Rep X.K cY v d->Q v H')->cE X e σ H Q
def VO(X:Cx)(e:bY)(δ:!Slot)(ds:!J):Prop:=∀B0 B σ H0 H Q,fM X.K B0 B H0 H σ δ->
 (∀p xs cY H',cP H0 H cY H'->H p=none->cY p=none->H' p>>(.lst xs)->b_ X.K cY xs ds->Q (.ref p) H')->cE X e σ H Q
def VT(X:Cx)(e:bY)(δ:!Slot)(b:Bool):Prop:=∀B0 B σ H0 H Q,fM X.K B0 B H0 H σ δ->(∀cY H',cP H0 H cY H'->Q b H')->cT X e σ H Q
def VA(X:Cx)(es:!bY)(δ:!Slot)(ds:!J):Prop:=∃t,PA X es t/\∀B0 B σ H0 H Q,fM X.K B0 B H0 H σ δ->(∀vs cY H',cP H0 H cY H'->b_ X.K cY vs ds->Q vs H')->t σ H Q
theorem VE.of(h:PE X e t)(q:∀B0 B σ H0 H Q,fM X.K B0 B H0 H σ δ->(∀v cY H',cP H0 H cY H'->Rep X.K cY v d->Q v H')->t σ H Q):VE X e δ d:=
 λB0 B σ H0 H Q f k pins s I=>h pins s σ H Q I (q B0 B σ H0 H Q f k)
theorem VO.of(h:PE X e t)(q:∀B0 B σ H0 H Q,fM X.K B0 B H0 H σ δ->
  (∀p xs cY H',cP H0 H cY H'->H p=none->cY p=none->H' p>>(.lst xs)->b_ X.K cY xs ds->Q (.ref p) H')->t σ H Q):VO X e δ ds:=
 λB0 B σ H0 H Q f k pins s I=>h pins s σ H Q I (q B0 B σ H0 H Q f k)
theorem VT.of(h:PT X e t)(q:∀B0 B σ H0 H Q,fM X.K B0 B H0 H σ δ->(∀cY H',cP H0 H cY H'->Q b H')->t σ H Q):VT X e δ b:=
 λB0 B σ H0 H Q f k pins s I=>h pins s σ H Q I (q B0 B σ H0 H Q f k)
theorem VO.ve(h:VO X e δ ds):VE X e δ (.list ds):=λB0 B σ H0 H Q f k=>h B0 B σ H0 H Q f λp xs cY H' g h1 h2 h3 r=>by
 let sm:cz cY (upd cY p (.lst xs)):=λb u e=>[L (bq e h2)]▸e;refine k _ _ H' #[g.big,g.eV.trans sm,λb u e=>?_,λb e=>?_] (.lst (jW.of aM) (r.mono sm))
 .by_cases hb:b=p
  .subst hb;rw[aM]at e;rwa[<-e]
  .rw[L hb]at e;exact g.sub b u e
 .by_cases hb:b=p
  .subst hb;exact .inr h1
  .rw[L hb]at e;exact g.new b e
def B9(K:aq)(r:R2)(d1 d2 d:J):Prop:=∀x y H0 H Q,cz H0 H->Rep K H0 x d1->Rep K H0 y d2->(∀v cY H',cP H0 H cY H'->Rep K cY v d->Q v H')->r x y H Q
section
variable{X:Cx}{a b:bY}{δ:!Slot}{d d1 d2:J}{pos:Pos}
theorem mR(i:Nat)(h:δ[i]?>>(.val d))(hN:rT X i x:=by ac_rfl):VE X (.Name x pos) δ d:=
 .of (ud hN) λB0 B σ H0 H Q f k=>let#[v,h1,h2]:=f.val h;#[v,h1,k v H0 H (.refl f.sub) h2]
theorem aB{i:Int}{j}:VE X (.Constant (.int i) j pos) δ (.int i):=.of Dn λ_ _ _ _ _ _ f k=>k _ _ _ (.refl f.sub) (.int i)
theorem B_{i:Bool}{j}:VE X (.Constant (.bool i) j pos) δ (.bool i):=.of Ye λ_ _ _ _ _ _ f k=>k _ _ _ (.refl f.sub) (.bl i)
theorem eD{j}:VE X (.Constant .none j pos) δ .none:=.of U_ λ_ _ _ _ _ _ f k=>k _ _ _ (.refl f.sub) .non
theorem aQ{i:O}{j}:VE X (.Constant (.str i) j pos) δ (.str i):=.of vo λ_ _ _ _ _ _ f k=>k _ _ _ (.refl f.sub) (.str i)
theorem two_d{r:R2}(hd:B9 X.K r d1 d2 d)(h1:VE X a δ d1)(h2:VE X b δ d2):∀B0 B σ H0 H Q,fM X.K B0 B H0 H σ δ->(∀v cY H',cP H0 H cY H'->Rep X.K cY v d->Q v H')->Yq r (cE X a) (cE X b) σ H Q:=λB0 B σ H0 H Q f k=>h1 B0 B σ H0 H _ f λv H1 c7 g1 r1=>h2 B0 B σ H1 c7 _ (f.grow g1) λu H2 fA g2 r2=>hd v u H2 fA Q g2.sub (r1.mono g2.eV) r2 λw H3 uD g3 r3=>k w H3 uD ((g1.trans g2).trans g3) r3
theorem vv{op:Operator}{r:R2}(ho:uf X (binaryOp op) r)(hd:B9 X.K r d1 d2 d)(h1:VE X a δ d1)(h2:VE X b δ d2):VE X (.BinOp a op b pos) δ d:=.of (JB ho ck ck) (two_d hd h1 h2)
theorem vy{r:R2}(ho:uf X (compareOp op) r)(hd:B9 X.K r d1 d2 d)(h1:VE X a δ d1)(h2:VE X b δ d2)(hm:behindInMarks op b=false):VE X (.Compare a [op] [b] pos) δ d:=.of (Qv ho ck ck hm) (two_d hd h1 h2)
theorem eW{r:R2}{k:Bool}(ho:uf X (compareOp op) r)(hd:B9 X.K r d1 d2 (.bool k))(h1:VE X a δ d1)(h2:VE X b δ d2)(hm:behindInMarks op b=false):VT X (.Compare a [op] [b] pos) δ k:=
 .of (Qw ho ck ck hm) λB0 B σ H0 H Q f q=>two_d hd h1 h2 B0 B σ H0 H _ f λv cY H' g r=>by cases r;exact#[_,Y,q cY H' g]
theorem HD{r:R2}(ho:Qe X r)(hd:B9 X.K r d1 d2 d)(h1:VE X a δ d1)(h2:VE X b δ d2)(hs:n_ b:=by intro _ _;rfl):VE X (.Subscript a b pos) δ d:=.of (JH ho ck ck hs) (two_d hd h1 h2)
end
theorem Y4(i j:Int):B9 K (Qd λi j=>.int (g i j)) (.int i) (.int j) (.int (g i j)):=λx y H0 H Q s r1 r2 k=>by cases r1;cases r2;exact#[_,_,Y,Y,k _ _ _ (.refl s) (.int _)]
theorem yW{g:Int->Int->Bool}(i j:Int):B9 K (Qd λi j=>.bl (g i j)) (.int i) (.int j) (.bool (g i j)):=λx y H0 H Q s r1 r2 k=>by cases r1;cases r2;exact#[_,_,Y,Y,k _ _ _ (.refl s) (.bl _)]
theorem VM{C:Int->Int->Prop}(i j:Int)(h:C i j):B9 K (rI C λi j=>.int (g i j)) (.int i) (.int j) (.int (g i j)):=λx y H0 H Q s r1 r2 k=>by cases r1;cases r2;exact#[_,_,Y,Y,h,k _ _ _ (.refl s) (.int _)]
def VN(K:aq)(n:Nat)(g:J->J->Bool):R2:=λx y H Q=>∃dx dy,Rep K H x dx/\Rep K H y dy/\Lay n dx/\Lay n dy/\Q (.bl (g dx dy)) H
theorem Ny(hu:X.A.units+n+2<cLine):uf X (compareOp .Eq) (VN X.K n λx y=>cV x y):=by intro pins s σ H x y v u Q I rx ry #[dx,dy,r1,r2,l1,l2,q];let#[as,ra]:=kR I dx l1.1 r1 rx;let#[bs,rb]:=kR I dy l2.1 r2 ry;let h1:=l1.2;exact SeqAt.compareEq_reads ra rb l1.1 l2.1 () #[.bl _,H,I,Y,q]
theorem Nz(hu:X.A.units+n+2<cLine):uf X (compareOp .NotEq) (VN X.K n λx y=>not (cV x y)):=by intro pins s σ H x y v u Q I rx ry #[dx,dy,r1,r2,l1,l2,q];let#[as,ra]:=kR I dx l1.1 r1 rx;let#[bs,rb]:=kR I dy l2.1 r2 ry;let h1:=l1.2;exact SeqAt.neOverData X.prog X.w X.A X.xe s v u dx dy as bs _ ra rb l1.1 l2.1 () #[.bl _,H,I,Y,q]
def lz(d:J):J->Bool
 | .list xs=>xs.any λy=>cV y d
 | .tuple xs=>xs.any λy=>cV y d
 |_=>false
def E8:J->Bool
 | .list _=>true
 | .tuple _=>true
 |_=>false
def VQ(K:aq)(n:Nat)(neg:Bool):R2:=λx y H Q=>∃dx dy,Rep K H x dx/\Rep K H y dy/\E8 dy=true/\Lay n dx/\Lay n dy/\Q (.bl (if neg then not (lz dx dy) else lz dx dy)) H
theorem NB(hu:X.A.units+n+2<cLine):uf X (compareOp .In) (VQ X.K n false):=by
 intro pins s σ H x y v u Q I rx ry #[dx,dy,r1,r2,hs,l1,l2,q];let#[as,ra]:=kR I dx l1.1 r1 rx;let#[bs,rb]:=kR I dy l2.1 r2 ry;let h1:=l1.2;cases dy with
 |list ys=>exact SeqAt.in_list_reads rb ra l2.1 l1.1 () #[.bl _,H,I,Y,q]
 |tuple ys=>exact SeqAt.in_tuple_reads rb ra l2.1 l1.1 () #[.bl _,H,I,Y,q]
 |_=>cases hs
theorem Lc(hu:X.A.units+n+2<cLine):uf X (compareOp .NotIn) (VQ X.K n true):=by
 intro pins s σ H x y v u Q I rx ry #[dx,dy,r1,r2,hs,l1,l2,q];let#[as,ra]:=kR I dx l1.1 r1 rx;let#[bs,rb]:=kR I dy l2.1 r2 ry;let h1:=l1.2;cases dy with
 |list ys=>exact SeqAt.notIn_list_reads rb ra l2.1 l1.1 () #[.bl _,H,I,Y,q]
 |tuple ys=>exact SeqAt.notIn_tuple_reads rb ra l2.1 l1.1 () #[.bl _,H,I,Y,q]
 |_=>cases hs
theorem JV{g:J->J->Bool}{d1 d2:J}(l1:Lay n d1)(l2:Lay n d2):B9 K (VN K n g) d1 d2 (.bool (g d1 d2)):=λx y H0 H Q s r1 r2 k=>#[d1,d2,r1.mono s,r2.mono s,l1,l2,k _ _ _ (.refl s) (.bl _)]
theorem VW(hs:E8 d2=true)(l1:Lay n d1)(l2:Lay n d2):B9 K (VQ K n neg) d1 d2 (.bool (if neg then not (lz d1 d2) else lz d1 d2)):=λx y H0 H Q s r1 r2 k=>#[d1,d2,r1.mono s,r2.mono s,hs,l1,l2,k _ _ _ (.refl s) (.bl _)]
theorem zde{ds:!J}{i:Int}(h:uN ds i>>d):B9 K (rIx K) (.list ds) (.int i) d:=λx y H0 H Q s r1 r2 k=>by
 cases r2;cases r1 with
 |lst hq r=>
  rename_i p xs
  unfold uN at h;cases e:Tp ds.length i with
  |none=>rw[e]at h;cases h
  |some j=>rw[e]at h;let#[v,hv,rv]:=r.get h;exact .inl #[p,xs,i,v,Y,Y,s.seq hq,by unfold uN;rw[r.length,e];exact hv,k v _ _ (.refl s) rv]
theorem Y5{ds:!J}{i:Int}(h:uN ds i>>d):B9 K (rIx K) (.tuple ds) (.int i) d:=λx y H0 H Q s r1 r2 k=>by
 cases r2;cases r1 with
 |tup hq r=>
  rename_i p xs
  unfold uN at h;cases e:Tp ds.length i with
  |none=>rw[e]at h;cases h
  |some j=>rw[e]at h;let#[v,hv,rv]:=r.get h;exact .inr (.inl #[p,xs,i,v,Y,Y,s.oM hq,by unfold uN;rw[r.length,e];exact hv,k v _ _ (.refl s) rv])
def Y6(K:aq):R2:=λx y H Q=>∃l b xs zs,x=.ref l/\y=.ref b/\jW K H l xs/\jW K H b zs/\xs.length+zs.length<=sizeLine/\∀p,H p=none->Q (.ref p) (upd H p (.lst (xs++zs)))
theorem Q0:uf X (binaryOp .Add) (Y6 X.K):=by intro pins s σ H x y v u Q I rx ry h;let#[l,b,xs,zs,rfl,rfl,hl,hb,hz,q]:=h;cases rx;cases ry;let#[its,r1,#[#[cls,dd,data,sl],n,e1,c1,_,d1],z1]:=I.list hl;let#[nE,r2,#[#[zcR,dd2,data2,sl2],n2,e2,c2,_,d2],z2]:=I.list hb;subst c1 d1 c2 d2;let l1:=r1.length;let l2:=r2.length;refine concat_meets #[_,e1,Y] #[_,e2,Y] noFill_list_add seq_list_add PySem.F.slot_list_add PySem.F.entry_list_add (PySem.F.args_list_add_2 _ _) (list_addW l b its.toArray nE.toArray n n2 dd dd2 sl sl2 (by rw[bC,bC];omega)) #[e1,e2,?_];rw[show its.toArray++nE.toArray=(its++nE).toArray by simp];exact#[.ref _,_,I.zcX (r1.append r2) (by rw[aR];omega),Y,q _ I.fresh]
section
variable{X:Cx}{a b c e:bY}{es:!bY}{δ:!Slot}{d d1 d2:J}{ds:!J}{pos:Pos}{i j:Int}{k:Nat}
theorem dM(h1:VE X a δ (.int i))(h2:VE X b δ (.int j)):VE X (.BinOp a .Add b pos) δ (.int (i+j)):=vv Vh (Y4 i j) h1 h2
theorem VX(h1:VE X a δ (.int i))(h2:VE X b δ (.int j)):VE X (.BinOp a .Sub b pos) δ (.int (i-j)):=vv Vi (Y4 i j) h1 h2
theorem sP(h1:VE X a δ (.int i))(h2:VE X b δ (.int j))(h:Qt i j):VE X (.BinOp a .Mult b pos) δ (.int (i*j)):=vv Vj (VM i j h) h1 h2
theorem cn(h1:VE X a δ (.int i))(h2:VE X b δ (.int j))(h:0<j):VE X (.BinOp a .Mod b pos) δ (.int (i%j)):=vv Vk (VM i j h) h1 h2
theorem eE(h1:VE X a δ (.int i))(h2:VE X b δ (.int j))(h:Ys i j):VE X (.BinOp a .FloorDiv b pos) δ (.int (i/j)):=vv Qu (VM i j h) h1 h2
theorem Y7(h1:VE X a δ (.int i))(h2:VE X b δ (.int j)):VE X (.Compare a [.LtE] [b] pos) δ (.bool (decide (i<=j))):=vy zR (yW i j) h1 h2 (eM _)
theorem Y8(h1:VE X a δ (.int i))(h2:VE X b δ (.int j)):VE X (.Compare a [.Gt] [b] pos) δ (.bool (decide (j<i))):=vy Te (yW i j) h1 h2 (eM _)
theorem yl(h1:VE X a δ (.int i))(h2:VE X b δ (.int j)):VT X (.Compare a [.Lt] [b] pos) δ (decide (i<j)):=eW Td (yW i j) h1 h2 (eM _)
theorem E9(h1:VE X a δ (.int i))(h2:VE X b δ (.int j)):VT X (.Compare a [.LtE] [b] pos) δ (decide (i<=j)):=eW zR (yW i j) h1 h2 (eM _)
theorem Ca(h1:VE X a δ (.int i))(h2:VE X b δ (.int j)):VT X (.Compare a [.Gt] [b] pos) δ (decide (j<i)):=eW Te (yW i j) h1 h2 (eM _)
theorem Tv(h1:VE X a δ (.int i))(h2:VE X b δ (.int j)):VT X (.Compare a [.GtE] [b] pos) δ (decide (j<=i)):=eW Yt (yW i j) h1 h2 (eM _)
theorem E_(hr:dB k X.A):X.A.units+20+2<cLine:=by let:=hr.un;omega
theorem fB(hr:dB k X.A)(l1:Lay 20 d1)(l2:Lay 20 d2)(h1:VE X a δ d1)(h2:VE X b δ d2):VT X (.Compare a [.Eq] [b] pos) δ (cV d1 d2):=eW (Ny (E_ hr)) (JV l1 l2) h1 h2 (eM _)
theorem gQ(hr:dB k X.A)(l1:Lay 20 d1)(l2:Lay 20 d2)(h1:VE X a δ d1)(h2:VE X b δ d2):VT X (.Compare a [.NotEq] [b] pos) δ (not (cV d1 d2)):=eW (Nz (E_ hr)) (JV l1 l2) h1 h2 (eM _)
theorem oN(hr:dB k X.A)(l1:Lay 20 d1)(l2:Lay 20 d2)(h1:VE X a δ d1)(h2:VE X b δ d2):VE X (.Compare a [.Eq] [b] pos) δ (.bool (cV d1 d2)):=vy (Ny (E_ hr)) (JV l1 l2) h1 h2 (eM _)
theorem JW(hr:dB k X.A)(hs:E8 d2=true)(l1:Lay 20 d1)(l2:Lay 20 d2)(h1:VE X a δ d1)(h2:VE X b δ d2)(hm:behindInMarks .In b=false:=by with_unfolding_all rfl):VT X (.Compare a [.In] [b] pos) δ (lz d1 d2):=eW (NB (E_ hr)) (VW hs l1 l2) h1 h2 hm
theorem Ab(hr:dB k X.A)(hs:E8 d2=true)(l1:Lay 20 d1)(l2:Lay 20 d2)(h1:VE X a δ d1)(h2:VE X b δ d2)(hm:behindInMarks .NotIn b=false:=by with_unfolding_all rfl):VT X (.Compare a [.NotIn] [b] pos) δ (not (lz d1 d2)):=eW (Lc (E_ hr)) (VW hs l1 l2) h1 h2 hm
theorem fU(h1:VE X a δ (.list ds))(h2:VE X b δ (.int i))(h:uN ds i>>d)(hs:n_ b:=by intro _ _;rfl):VE X (.Subscript a b pos) δ d:=HD xH (zde h) h1 h2 hs
theorem di(h1:VE X a δ (.tuple ds))(h2:VE X b δ (.int i))(h:uN ds i>>d)(hs:n_ b:=by intro _ _;rfl):VE X (.Subscript a b pos) δ d:=HD xH (Y5 h) h1 h2 hs
theorem gB{ds:!J}{p0 q: Pos}{c}(i j:Nat)(h:δ[i]?>>(.val (.tuple ds)))(hj:ds[j]?>>d)(hN:rT X i x:=by ac_rfl)(hs:n_ (.Constant (.int (j:Int)) c q):=by intro _ _;rfl):VE X (.Subscript (.Name x p0) (.Constant (.int (j:Int)) c q) pos) δ d:=di (mR i h hN) aB (cB hj) hs
theorem sQ:PT X e (λ_ _ _=>False):=λ_ _ _ _ _ _ h=>h.elim
theorem p8{k:Bool}(h:VT X a δ k):VT X (.UnaryOp .Not a pos) δ (not k):=.of (Va p7) λB0 B σ H0 H Q f q=>h B0 B σ H0 H _ f q
theorem jJ(h1:VT X a δ k1)(h2:k1=true->VT X b δ k2):VT X (.BoolOp .And [a,b] pos) δ (k1&&k2):=by
 cases k1 with
 |true=>
  exact .of (pw_and p7 (pw_and1 p7)).pt λB0 B σ H0 H Q f q=>h1 B0 B σ H0 H _ f λH1 c7 g=>by exact h2 Y B0 B σ H1 c7 _ (f.grow g) λH2 fA g2=>q H2 fA (g.trans g2)
 |false=>
  exact .of (pw_and p7 (pw_and1 sQ)).pt λB0 B σ H0 H Q f q=>h1 B0 B σ H0 H _ f λH1 c7 g=>by exact q H1 c7 g
theorem iz(h1:VT X a δ k1)(h2:k1=false->VT X b δ k2):VT X (.BoolOp .Or [a,b] pos) δ (k1||k2):=by
 cases k1 with
 |false=>
  exact .of (pw_or p7 (pw_or1 p7)).pt λB0 B σ H0 H Q f q=>h1 B0 B σ H0 H _ f λH1 c7 g=>by exact h2 Y B0 B σ H1 c7 _ (f.grow g) λH2 fA g2=>q H2 fA (g.trans g2)
 |true=>
  exact .of (pw_or p7 (pw_or1 sQ)).pt λB0 B σ H0 H Q f q=>h1 B0 B σ H0 H _ f λH1 c7 g=>by exact q H1 c7 g
theorem HF{k3: Bool}(h1:VT X a δ k1)(h2:k1=false->VT X b δ k2)(h3:k1=false->k2=false->VT X c δ k3):VT X (.BoolOp .Or [a,b,c] pos) δ (k1||(k2||k3)):=by
 cases k1 with
 |true=>
  exact .of (pw_or p7 (pw_or sQ (pw_or1 sQ))).pt λB0 B σ H0 H Q f q=>h1 B0 B σ H0 H _ f λH1 c7 g=>by exact q H1 c7 g
 |false=>
  cases k2 with
  |true=>
   exact .of (pw_or p7 (pw_or p7 (pw_or1 sQ))).pt λB0 B σ H0 H Q f q=>h1 B0 B σ H0 H _ f λH1 c7 g=>by exact h2 Y B0 B σ H1 c7 _ (f.grow g) λH2 fA g2=>(q H2 fA (g.trans g2))
  |false=>
   exact .of (pw_or p7 (pw_or p7 (pw_or1 p7))).pt λB0 B σ H0 H Q f q=>h1 B0 B σ H0 H _ f λH1 c7 g=>by exact h2 Y B0 B σ H1 c7 _ (f.grow g) λH2 fA g2=>(h3 Y Y B0 B σ H2 fA _ ((f.grow g).grow g2) λH3 uD g3=>q H3 uD ((g.trans g2).trans g3))
def zdf:J->Option Bool
 | .none=>some false
 | .bool b=>some b
 | .int i=>some (i != 0)
 | .list ds=>some (not ds.isEmpty)
 | .tuple ds=>some (not ds.isEmpty)
 |_=>none
theorem b_.empty(r:b_ K H xs ds):xs.isEmpty=ds.isEmpty:=by cases r<;>rfl
theorem gV{t:Bool}(h:VE X a δ d)(ht:zdf d>>t)(he:∀whole,isTrue a X.env whole=(do let v <-whole;standAt a.pos;holding [v] (truthy v)):=by intro _;rfl):VT X a δ t:=
 .of (M0 ck he) λB0 B σ H0 H Q f q=>h B0 B σ H0 H _ f λv H1 c7 g r=>by
  refine#[t,?_,q H1 c7 g];cases r with
  |non=>cases ht;exact(rfl:false=false)
  |bl b=>cases ht;exact(rfl:t=t)
  |int i=>cases ht;exact(rfl:(i != 0)=(i != 0))
  |str x=>cases ht
  |lst hq r=>cases ht;exact .inl #[_,g.sub.seq hq,by rw[r.empty]]
  |tup hq r=>cases ht;exact .inr (.inl #[_,g.sub.oM hq,by rw[r.empty]])
  |dct _ _ _=>cases ht
  |Tt _ _ _=>cases ht
  |obj _ _ _ _ _=>cases ht
  |VL _ _ _ _ _=>cases ht
  |QY _ _ _=>cases ht
theorem sS{k:Bool}(h:VT X c δ k)(h1:k=true->VE X a δ d)(h2:k=false->VE X b δ d):VE X (.IfExp c a b pos) δ d:=
 .of (MX p7 ck ck) λB0 B σ H0 H Q f q=>h B0 B σ H0 H _ f λH1 c7 g=>by
  cases k with
  |true=>exact h1 Y B0 B σ H1 c7 _ (f.grow g) λv H2 fA g2 r=>q v H2 fA (g.trans g2) r
  |false=>exact h2 Y B0 B σ H1 c7 _ (f.grow g) λv H2 fA g2 r=>q v H2 fA (g.trans g2) r
theorem cO:VA X [] δ []:=#[_,dU,λ_ _ _ _ _ _ f q=>q _ _ _ (.refl f.sub) .nil]
theorem cR(h:VE X e δ d)(hr:VA X es δ ds)(hs:j8 X e es:=by rfl):VA X (e::es) δ (d::ds):=by let#[t,p,ht]:=hr;exact#[_,cy ck p hs,λB0 B σ H0 H Q f q=>h B0 B σ H0 H _ f λv H1 c7 g r=>ht B0 B σ H1 c7 _ (f.grow g) λvs H2 fA g2 rs=>q _ _ _ (g.trans g2) (.cons (r.mono g2.eV) rs)]
theorem fc{x1}(h:VA X es δ ds)(hz:ds.length<=sizeLine:=by(simp only[dX];rw[dD];decide)):VE X (.Tuple es x1 pos) δ (.tuple ds):=by let#[t,p,ht]:=h;exact .of (sI p) λB0 B σ H0 H Q f q=>ht B0 B σ H0 H _ f λvs H1 c7 g r=>#[[r.length]▸hz,λa ha=>q _ _ _ (g.trans (.laid g.sub ha)) (.tup (oC.of aM) (r.mono (cP.laid g.sub ha).eV))]
theorem dQ(h:VA X es δ ds)(hz:ds.length<=sizeLine:=by(simp only[dX];rw[dD];decide)):VO X (.List es pos) δ ds:=by let#[t,p,ht]:=h;exact .of (zU p) λB0 B σ H0 H Q f q=>ht B0 B σ H0 H _ f λvs H1 c7 g r=>#[[r.length]▸hz,λa ha=>q a vs H1 _ (g.trans (.loose g.sub ha)) (g.big.free ha) (g.sub.free ha) aM r]
def cutD{α:Type}(xs:!α)(lo hi:Option Int):!α:=(xs.drop (HT.pE xs.length 0 lo)).take (HT.pE xs.length xs.length hi-HT.pE xs.length 0 lo)
theorem b_.cut(r:b_ K H xs ds)(lo hi:Option Int):b_ K H (K3 xs lo hi) (cutD ds lo hi):=by unfold K3 cutD;rw[r.length];exact(r.drop _).take _
inductive uP(X:Cx)(δ:!Slot):Option bY->Option Int->Prop
 |no:uP X δ none none
 |yes {e:bY} {i:Int}:VE X e δ (.int i)->uP X δ (some e) (some i)
theorem uP.ok{o:Option bY}{p:Option Int}(h:uP X δ o p):∃t,PO X o t/\∀B0 B σ H0 H Q,fM X.K B0 B H0 H σ δ->(∀cY H',cP H0 H cY H'->Q p H')->t σ H Q:=by
 cases h with
 |no=>exact#[_,QF,λ_ _ _ _ _ _ f q=>q _ _ (.refl f.sub)]
 |yes h=>exact#[_,QG ck,λB0 B σ H0 H Q f q=>h B0 B σ H0 H _ f λv H1 c7 g r=>by cases r;exact#[_,Y,q _ _ g]]
theorem gE{lo hi:Option bY}{l u:Option Int}(h:VE X a δ (.list ds))(hl:uP X δ lo l)(hh:uP X δ hi u):VO X (.Subscript a (.Slice lo hi none p2) pos) δ (cutD ds l u):=by
 let#[tl,pl,ql]:=hl.ok;let#[th,ph,qh]:=hh.ok;refine .of (zW QK ck pl ph) λB0 B σ H0 H Q f q=>h B0 B σ H0 H _ f λv H1 c7 g r=>ql B0 B σ H1 c7 _ (f.grow g) λH2 fA g2=>qh B0 B σ H2 fA _ ((f.grow g).grow g2) λH3 uD g3=>?_;cases r with
 |lst hq r=>refine#[_,_,Y,g3.sub.seq ((g2.eV.trans g3.eV).seq hq),λp hp=>?_];let gg:=(g.trans g2).trans g3;exact q p _ H3 _ (gg.trans (.loose g3.sub hp)) (gg.big.free hp) (g3.sub.free hp) aM ((r.mono (g2.eV.trans g3.eV)).cut l u)
theorem xI{lo hi:Option bY}{l u:Option Int}(h:VE X a δ (.tuple ds))(hl:uP X δ lo l)(hh:uP X δ hi u)(hw:¬(HT.pE ds.length 0 l=0/\HT.pE ds.length ds.length u=ds.length)):
  VE X (.Subscript a (.Slice lo hi none p2) pos) δ (.tuple (cutD ds l u)):=by
 let#[tl,pl,ql]:=hl.ok;let#[th,ph,qh]:=hh.ok;refine .of (zW Vq ck pl ph) λB0 B σ H0 H Q f q=>h B0 B σ H0 H _ f λv H1 c7 g r=>ql B0 B σ H1 c7 _ (f.grow g) λH2 fA g2=>qh B0 B σ H2 fA _ ((f.grow g).grow g2) λH3 uD g3=>?_;cases r with
 |tup hq r=>exact#[_,_,Y,g3.sub.oM ((g2.eV.trans g3.eV).oM hq),[r.length]▸hw,λp hp=>(q _ _ _ (((g.trans g2).trans g3).trans (.laid g3.sub hp)) (.tup (oC.of aM) (((r.mono (g2.eV.trans g3.eV)).cut l u).mono (cP.laid g3.sub hp).eV)))]
def pI(K:aq)(r:!V->Hp->VK->Prop)(ds:!J)(d:J):Prop:=∀vs H0 H Q,cz H0 H->b_ K H0 vs ds->(∀v cY H',cP H0 H cY H'->Rep K cY v d->Q v H')->r vs H Q
def ym(K:aq)(r:!V->Hp->VK->Prop)(ds es:!J):Prop:=∀vs H0 H Q,cz H0 H->b_ K H0 vs ds->
 (∀p xs cY H',cP H0 H cY H'->H p=none->cY p=none->H' p>>(.lst xs)->b_ K cY xs es->Q (.ref p) H')->r vs H Q
theorem gF(hc:iY X (.builtin id) r)(hd:pI X.K r ds d)(ha:VA X (e::es) δ ds)(hm:X.mg x=none)(hv:bootBuiltins x>>(.builtin id))(hg:Gl X x:=by rfl)(hn:x≠"__name__":=by decide)(sJ:xr x:=by decide)
  (he:j8 X e es:=by rfl)(jX:qg X pos es:=by rfl):VE X (.Call (.Name x p) (e::es) [] pos) δ d:=by let#[t,pa,ht]:=ha;exact .of (qv hc hg hm hv pa hn sJ he jX) λB0 B σ H0 H Q f q=>ht B0 B σ H0 H _ f λvs H1 c7 g r=>hd vs H1 c7 Q g.sub r λv H2 fA g2 r2=>q v H2 fA (g.trans g2) r2
theorem Fb(hc:iY X (.builtin id) r)(hd:ym X.K r ds zs)(ha:VA X (e::es) δ ds)(hm:X.mg x=none)(hv:bootBuiltins x>>(.builtin id))(hg:Gl X x:=by rfl)(hn:x≠"__name__":=by decide)(sJ:xr x:=by decide)
  (he:j8 X e es:=by rfl)(jX:qg X pos es:=by rfl):VO X (.Call (.Name x p) (e::es) [] pos) δ zs:=by let#[t,pa,ht]:=ha;exact .of (qv hc hg hm hv pa hn sJ he jX) λB0 B σ H0 H Q f q=>ht B0 B σ H0 H _ f λvs H1 c7 g r=>hd vs H1 c7 Q g.sub r λv xs H2 fA g2 a1 a2 a3 a4=>q v xs H2 fA (g.trans g2) (g.big.free a1) a2 a3 a4
theorem kz(hc:iY X (.type id) r)(hd:pI X.K r ds d)(ha:VA X (e::es) δ ds)(hm:X.mg x=none)(hv:bootBuiltins x>>(.type id))(hg:Gl X x:=by rfl)(hn:x≠"__name__":=by decide)(sJ:xr x:=by decide)
  (he:j8 X e es:=by rfl)(jX:qg X pos es:=by rfl):VE X (.Call (.Name x p) (e::es) [] pos) δ d:=by let#[t,pa,ht]:=ha;exact .of (mV hc hg hm hv pa hn sJ he jX) λB0 B σ H0 H Q f q=>ht B0 B σ H0 H _ f λvs H1 c7 g r=>hd vs H1 c7 Q g.sub r λv H2 fA g2 r2=>q v H2 fA (g.trans g2) r2
theorem i_(hc:iY X (.type id) r)(hd:ym X.K r ds zs)(ha:VA X (e::es) δ ds)(hm:X.mg x=none)(hv:bootBuiltins x>>(.type id))(hg:Gl X x:=by rfl)(hn:x≠"__name__":=by decide)(sJ:xr x:=by decide)
  (he:j8 X e es:=by rfl)(jX:qg X pos es:=by rfl):VO X (.Call (.Name x p) (e::es) [] pos) δ zs:=by let#[t,pa,ht]:=ha;exact .of (mV hc hg hm hv pa hn sJ he jX) λB0 B σ H0 H Q f q=>ht B0 B σ H0 H _ f λvs H1 c7 g r=>hd vs H1 c7 Q g.sub r λv xs H2 fA g2 a1 a2 a3 a4=>q v xs H2 fA (g.trans g2) (g.big.free a1) a2 a3 a4
theorem b_.one(r:b_ K H vs [d]):∃v,vs=[v]/\Rep K H v d:=by cases r with|cons a t=>cases t;exact#[_,Y,a]
theorem b_.two(r:b_ K H vs [d1,d2]):∃v w,vs=[v,w]/\Rep K H v d1/\Rep K H w d2:=by cases r with|cons a t=>cases t with|cons b t=>cases t;exact#[_,_,Y,a,b]
theorem Y9:pI K (λxs H Q=>∃p ys,xs=[.ref p]/\(jW K H p ys\/oC K H p ys)/\Q (.int ys.length) H) [.list ds] (.int ds.length):=λvs H0 H Q s r k=>by let#[v,rfl,r1]:=r.one;cases r1 with|lst hq r=>exact#[_,_,rfl,.inl (s.seq hq),k _ _ _ (.refl s) ([r.length]▸.int _)]
theorem VY:pI K (λxs H Q=>∃p ys,xs=[.ref p]/\(jW K H p ys\/oC K H p ys)/\Q (.int ys.length) H) [.tuple ds] (.int ds.length):=λvs H0 H Q s r k=>by let#[v,rfl,r1]:=r.one;cases r1 with|tup hq r=>exact#[_,_,rfl,.inr (s.oM hq),k _ _ _ (.refl s) ([r.length]▸.int _)]
theorem NC:ym K (λxs H Q=>∃p ys,xs=[.ref p]/\(jW K H p ys\/oC K H p ys)/\∀l,H l=none->Q (.ref l) (upd H l (.lst ys))) [.list ds] ds:=λvs H0 H Q s r k=>by let#[v,rfl,r1]:=r.one;cases r1 with|lst hq r=>exact#[_,_,rfl,.inl (s.seq hq),λl hl=>k l _ H0 _ (.loose s hl) hl (s.free hl) aM r]
theorem wz:pI K (λxs H Q=>∃p ys,xs=[.ref p]/\((jW K H p ys/\∀l,H l=none->Q (.ref l) (upd H l (.tup ys)))\/(oC K H p ys/\Q (.ref p) H))) [.list ds] (.tuple ds):=λvs H0 H Q s r k=>by let#[v,rfl,r1]:=r.one;cases r1 with|lst hq r=>exact#[_,_,rfl,.inl #[s.seq hq,λl hl=>k _ _ _ (.laid s hl) (.tup (oC.of aM) (r.mono (cP.laid s hl).eV))]]
theorem fD(h:VE X a δ (.list ds))(hm:X.mg "len"=none)(hg:Gl X "len":=by rfl)(hs:j8 X a []:=by rfl):VE X (.Call (.Name "len" p) [a] [] pos) δ (.int ds.length):=gF wj Y9 (cR h cO hs) hm o8 hg (he:=hs)
theorem iS(h:VE X a δ (.tuple ds))(hm:X.mg "len"=none)(hg:Gl X "len":=by rfl)(hs:j8 X a []:=by rfl):VE X (.Call (.Name "len" p) [a] [] pos) δ (.int ds.length):=gF wj VY (cR h cO hs) hm o8 hg (he:=hs)
theorem lO{d1 d2:!J}(h1:VE X a δ (.list d1))(h2:VE X b δ (.list d2))(hz:d1.length+d2.length<=sizeLine):VO X (.BinOp a .Add b pos) δ (d1++d2):=by
 refine .of (JB Q0 ck ck) λB0 B σ H0 H Q f q=>h1 B0 B σ H0 H _ f λv H1 c7 g1 r1=>h2 B0 B σ H1 c7 _ (f.grow g1) λu H2 fA g2 r2=>?_;cases r1 with
 |lst hq r1=>
  cases r2 with
  |lst EA r2=>let gg:=g1.trans g2;exact#[_,_,_,_,Y,Y,g2.sub.seq (g2.eV.seq hq),g2.sub.seq EA,[r1.length,r2.length]▸hz,λp hp=>(q p _ H2 _ (gg.trans (.loose g2.sub hp)) (gg.big.free hp) (g2.sub.free hp) aM ((r1.mono g2.eV).append r2))]
end
inductive Qf where
 |one (i:Nat)
 |tup (is:!Nat)
variable{tgt:Qf}
def HG:!Nat->Tb
 | []=>Yj
 |i::r=>Tc (BZ i) (HG r)
def Ld(K:aq):Qf->TG
 | .one i=>BZ i
 | .tup is=>Yk K is.length (HG is)
def rh:!Nat->!J->!Slot->!Slot
 |i::r,d::ds,δ=>rh r ds (δ.set i (.val d))
 |_,_,δ=>δ
def yX:Qf->J->!Slot->Option (!Slot)
 | .one i,d,δ=>some (δ.set i (.val d))
 | .tup is,.tuple ds,δ=>if ds.length=is.length then some (rh is ds δ)else none
 |_,_,_=>none
section
theorem Fc:∀{is:!Nat}{xs:!V}{ds:!J}{σ:St}{δ:!Slot}{Q:St->Hp->Prop},fM K B0 B H0 H σ δ->b_ K H0 xs ds->ds.length=is.length->(∀σ',fM K B0 B H0 H σ' (rh is ds δ)->Q σ' H)->HG is xs σ H Q
 | [],xs,ds,σ,δ,Q,f,r,hl,q=>by let:ds=[]:=nU hl;subst this;cases r;exact#[Y,q σ f]
 |i::is,xs,ds,σ,δ,Q,f,r,hl,q=>by
  cases r with
  |nil=>cases hl
  |cons a t=>exact#[_,_,Y,Fc (f.set a) t ↑hl q]
theorem sU(f:fM K B0 B H0 H σ δ)(r:Rep K H0 v d)(h:yX tgt d δ>>δ')(q:∀σ',fM K B0 B H0 H σ' δ'->Q σ' H):Ld K tgt v σ H Q:=by
 cases tgt with
 |one i=>cases h;exact q _ (f.set r)
 |tup is=>
  cases r with
  |tup hq r=>
   rename_i ds
   let h':(if ds.length=is.length then some (rh is ds δ)else none)>>δ':=h;by_cases hl:ds.length=is.length
   .rw[qQ3 hl]at h';cases h';exact#[_,_,Y,f.sub.oM hq,by rw[r.length,hl],Fc f r hl q]
   .rw[qQ2 hl]at h';cases h'
  |_=>cases h
end
def ItD(K:aq)(Ja:It)(H0:Hp)(ds:!J):Prop:=∀cY H',cz H0 cY->cz cY H'->∀i,(i<ds.length->Ja.go i H')/\(ds.length<=i->Ja.stop i H')/\
 ∀x Ez d,ds[i]?>>d->Ja.Ym i H' x Ez->∃Y_,cP cY H' Y_ Ez/\Rep K Y_ x d
def VI(X:Cx)(tg iter:bY)(δ:!Slot)(ds:!J):Prop:=∃wi,PI X tg iter wi/\∀B0 B σ H0 H R,fM X.K B0 B H0 H σ δ->(∀Ja cY H',cP H0 H cY H'->ItD X.K Ja cY ds->R Ja H')->wi σ H R
def Ac(ds:!J):!J:=ds.zipIdx.map λp=>.tuple [.int p.2,p.1]
theorem dC(ds:!J):(Ac ds).length=ds.length:=by simp[Ac]
theorem ja(h:(Ac ds)[i]?>>d):∃x,ds[i]?>>x/\d=.tuple [.int i,x]:=by
 unfold Ac at h;rw[ax,kD]at h;cases e:ds[i]? with
 |none=>rw[e]at h;simp at h
 |some x=>rw[e]at h;simp at h;exact#[x,Y,h.symm]
def kH(n:Nat):!J:=(cF n).map λ(i:Nat)=>.int (i:Int)
section
variable{X:Cx}{tg a:bY}{δ:!Slot}{ds:!J}{pos:Pos}
theorem eG(h:VE X a δ (.list ds)):VI X tg a δ ds:=#[_,JA ck,λB0 B σ H0 H R f q=>h B0 B σ H0 H _ f λv H1 c7 g r=>by
 cases r with
 |lst hq r=>
  refine#[_,Y,#[_,g.sub.seq hq],q _ H1 c7 g λHa Hb s1 s2 i=>?_];let hl:=r.length;let hS:=(s1.trans s2).seq hq;refine#[λhi=>?_,λhi=>#[_,hS,()],λx Ez d hd #[e,y]=>?_]
  .let#[x,hx,_]:=r.get (i:=i) (d:=ds[i]) (by simp[hi]);exact#[_,x,hS,hx]
  .subst e;exact#[Ha,.refl s2,(r.mono s1).at hd (y _ hS)]]
theorem p_(h:VE X a δ (.tuple ds)):VI X tg a δ ds:=#[_,Vf ck,λB0 B σ H0 H R f q=>h B0 B σ H0 H _ f λv H1 c7 g r=>by
 cases r with
 |tup hq r=>
  refine#[_,Y,#[_,g.sub.oM hq],q _ H1 c7 g λHa Hb s1 s2 i=>?_];let hl:=r.length;let hS:=(s1.trans s2).oM hq;refine#[λhi=>?_,λhi=>#[_,hS,()],λx Ez d hd #[e,y]=>?_]
  .let#[x,hx,_]:=r.get (i:=i) (d:=ds[i]) (by simp[hi]);exact#[_,x,hS,hx]
  .subst e;exact#[Ha,.refl s2,(r.mono s1).at hd (y _ hS)]]
theorem oO{n:Int}(h:VE X a δ (.int n))(hm:X.mg "range"=none)(h1:-(2^62)<=n)(h2:n<2^62)(hg:Gl X "range":=by rfl)(hs:starEach [a] X.env=[(false,eval a X.env)]:=by rfl):VI X tg (.Call (.Name "range" p) [a] [] pos) δ (kH n.toNat):=
 #[_,KL hg hm (cy ck dU hs) hs,λB0 B σ H0 H R f q=>h B0 B σ H0 H _ f λv H1 c7 g r=>by
  cases r;refine#[n,Y,h1,h2,q _ H1 c7 g λHa Hb s1 s2 i=>#[λhi=>(show i<n.toNat from by simpa[kH]using hi),λhi=>(show n.toNat<=i from by simpa[kH]using hi),λx Ez d hd #[e,y]=>?_]];subst e;subst y;unfold kH at hd;rw[ax]at hd;let hi:i<n.toNat:=by
   rcases Nat.lt_or_ge i n.toNat with z|z
   .exact z
   .rw[eP ↑z]at hd;cases hd
  rw[kW hi]at hd;cases hd;exact#[Ha,.refl s2,[Int.zero_add]▸.int _]]
theorem nr{k}(h:VE X a δ (.list ds))(hm:X.mg "enumerate"=none)(hg:Gl X "enumerate":=by rfl)(hs:starEach [a] X.env=[(false,eval a X.env)]:=by rfl):VI X (.Tuple elts k tp) (.Call (.Name "enumerate" p) [a] [] pos) δ (Ac ds):=
 #[_,QX hg hm (cy ck dU hs) hs,λB0 B σ H0 H R f q=>h B0 B σ H0 H _ f λv H1 c7 g r=>by
  cases r with
  |lst hq r=>
   refine#[_,Y,#[_,g.sub.seq hq],q _ H1 c7 g λHa Hb s1 s2 i=>?_];let hl:=r.length;let hS:=(s1.trans s2).seq hq;refine#[λhi=>?_,λhi=>#[_,hS,by rw[dC]at hi;omega],λx Ez d hd #[t,y,e1,e2,e3,e4]=>?_]
   .rw[dC]at hi;let#[x,hx,_]:=r.get (i:=i) (d:=ds[i]) (by simp[hi]);exact#[_,x,hS,hx]
   .let#[z,hz,rfl]:=ja hd;subst e1;subst e3;refine#[_,.laid s2 e2,.tup (oC.of aM) (.cons (.int _) (.cons ?_ .nil))];exact((r.mono s1).at hz (e4 _ hS)).mono (cP.laid s2 e2).eV]
end
def cTs(X:Cx)(ifs:!bY):TT:=λσ H Q=>∀pins s,Inv X pins σ H s->wpAny (model X.prog X.w) X.A (testsOf ifs X.env) (TP X pins σ Q) X.xe s
def Fd(X:Cx)(ifs:!bY)(δ:!Slot)(b:Bool):Prop:=∀B0 B σ H0 H Q,fM X.K B0 B H0 H σ δ->(∀cY H',cP H0 H cY H'->Q b H')->cTs X ifs σ H Q
theorem lP:Fd X [] δ true:=λ_ _ _ _ _ _ f q pins s I=>QV pins s _ _ _ I (q _ _ (.refl f.sub))
theorem pJ(h:VT X c δ b):Fd X [c] δ b:=λB0 B σ H0 H Q f q pins s I=>QW p7 pins s σ H Q I (h B0 B σ H0 H Q f q)
def Y':Slot->Slot
 | .val d=>.val d
 |_=>.un
def nG(own:!O)(cap:!Nat)(δ:!Slot):!Slot:=aW own.length .un++cap.map λi=>Y' (δ.getD i .un)
section
theorem fM.comp(f:fM K B0 B H0 H σ δ)(own:!O)(cap:!Nat):fM K B0 B H0 H (nS own cap σ) (nG own cap δ):=by
 let noOwn:∀(i:Nat)ds,(nG own cap δ)[i]?≠some (.own ds):=λi ds e=>by
  unfold nG at e;by_cases hi:i<own.length
  .rw[bN ↑hi,dZ]at e;split at e<;>cases e
  .rw[bM ↑(h8 hi),ax]at e;cases q:cap[i-(aW own.length Slot.un).length]? with
   |none=>rw[q]at e;cases e
   |some j=>rw[q]at e;simp only[k0,h_]at e;revert e;cases δ.getD j .un<;>(intro e;cases e)
 refine#[f.ent,by simp[nS,nG],λi sl e=>?_,λi j ds es p _ a1=>qQ7 a1 (noOwn i ds)];unfold nG at e;unfold nS;by_cases hi:i<own.length
 .rw[bN ↑hi,dZ]at e;split at e<;>cases e<;>trivial
 .rw[bM ↑(h8 hi),ax,du]at e;rw[bM ↑(h8 hi),ax,du];cases q:cap[i-own.length]? with
  |none=>rw[q]at e;cases e
  |some j=>
   rw[q]at e;simp only[k0,h_]at e ⊢;cases w:δ[j]? with
   |none=>rw[aG,w]at e;subst e;trivial
   |some X'=>
    rw[aG,w]at e;cases X' with
    |un=>subst e;trivial
    |ref a=>subst e;trivial
    |own ds=>subst e;trivial
    |val d=>subst e;let#[v,h1,h2]:=f.slot j _ w;exact#[v,by rw[aG,h1];rfl,h2]
theorem fM.forget(f:fM K B0 B H0 H σ δ)(hl:δ'.length=δ.length)(h:∀(i:Nat)sl,δ'[i]?>>sl->sl=.un\/δ[i]?>>sl):fM K B0 B H0 H σ δ':=by
 refine#[f.ent,[hl]▸f.len,λi sl e=>?_,λi j ds es p Bl a1 a2 a3=>?_]
 .rcases h i sl e with rfl|z
  .trivial
  .exact f.slot i sl z
 .rcases h i _ a1 with z|z
  .cases z
  .rcases h j _ a2 with y|y
   .cases y
   .exact f.apart i j ds es p Bl z y a3
theorem fM.touch(f:fM K B0 B H0 H σ δ)(h0:H0 D=none)(hB:B D=none)(hn:∀(i:Nat)ds,δ[i]?≠some (.own ds)):fM K B0 B H0 (upd H D o) σ δ:=by
 refine#[#[λb u e=>[L (bq e hB)]▸f.ent.big b u e,f.ent.eV,λb u e=>[L (bq e h0)]▸f.ent.sub b u e,f.ent.new],f.len,λi sl e=>?_,f.apart];let q:=f.slot i sl e;cases sl with
 |un=>trivial
 |ref a=>exact q
 |val d=>exact q
 |own ds=>exact qQ7 e (hn i ds)
end
theorem uQ:∀(is:!Nat)(ds:!J)(δ:!Slot),(rh is ds δ).length=δ.length
 | [],_,_=>rfl
 |_::_,[],_=>rfl
 |i::is,d::ds,δ=>by show(rh is ds (δ.set i _)).length=_;rw[uQ];simp
theorem Ad:∀(is:!Nat)(ds:!J)(δ:!Slot)(j:Nat),j∉is->(rh is ds δ)[j]?=δ[j]?
 | [],_,_,_,_=>rfl
 |_::_,[],_,_,_=>rfl
 |i::is,d::ds,δ,j,h=>by show(rh is ds (δ.set i _))[j]?=_;rw[Ad is ds _ j λz=>h (ay _ z),aY (λ(z:i=j)=>h ([z]▸aJ))]
def uR(n:Nat):Qf->Bool
 | .one i=>decide (i<n)
 | .tup is=>is.all λi=>decide (i<n)
theorem comp_back(ht:uR own.length tgt=true)(h:yX tgt d (nG own cap δ)>>δ'):
  δ'.length=(nG own cap δ).length/\∀(i:Nat)sl,(nG own cap δ)[i]?>>sl->sl=.un\/δ'[i]?>>sl:=by
 let low:∀(i:Nat)sl,i<own.length->(nG own cap δ)[i]?>>sl->sl=.un:=λi sl hi e=>by unfold nG at e;rw[bN ↑hi,dZ]at e;split at e<;>cases e<;>rfl
 cases tgt with
 |one i=>
  cases h;refine#[∅,λj sl e=>?_];let hi:i<own.length:=by simpa[uR]using ht
  by_cases hj:j<own.length
  .exact .inl (low j sl hj e)
  .exact .inr ((aY ()).trans e)
 |tup is=>
  cases d with
  |tuple ds=>
   let h':(if ds.length=is.length then some (rh is ds _)else none)>>δ':=h;by_cases hl:ds.length=is.length
   .rw[qQ3 hl]at h';cases h';refine#[uQ _ _ _,λj sl e=>?_];by_cases hj:j<own.length
    .exact .inl (low j sl hj e)
    .refine .inr ?_;rw[Ad _ _ _ _ λz=>hj ?_]
     .exact e
     .let:=fk.mp ht j z;simpa using this
   .rw[qQ2 hl]at h';cases h'
  |_=>cases h
theorem ji(i:Nat)(ds:!J):(nG own cap δ)[i]?≠some (.own ds):=λe=>by
 unfold nG at e;by_cases hi:i<own.length
 .rw[bN ↑hi,dZ]at e;split at e<;>cases e
 .rw[bM ↑(h8 hi),ax]at e;cases q:cap[i-(aW own.length Slot.un).length]? with
  |none=>rw[q]at e;cases e
  |some j=>rw[q]at e;simp only[k0,h_]at e;revert e;cases δ.getD j .un<;>(intro e;cases e)
section
variable{X:Cx}{sc:o6}{own:!O}{cap:!Nat}{cl:!(O×U)}{δ:!Slot}
def DG(X:Cx)(sc:o6)(own:!O)(cap:!Nat)(N:!O)(cl:!(O×U))(tgt:Qf)(elt:bY)(ifs:!bY)(δ:!Slot)(F:J->Option J)(d:J):Prop:=
 ∃δ',yX tgt d (nG own cap δ)>>δ'/\(∀f s3 H3,Fd (fS X sc N cl f s3 H3) ifs δ' (F d).isSome)/\∀r,F d>>r->∀f s3 H3,VE (fS X sc N cl f s3 H3) elt δ' r
theorem Cb{F:J->Option J}{tgt:Qf}{N: !O}{elt:bY}{r: J}(h1:yX tgt d (nG own cap δ)>>δ')(h2:F d>>r)(h3:∀f s3 H3,VE (fS X sc N cl f s3 H3) elt δ' r):DG X sc own cap N cl tgt elt [] δ F d:=
 #[δ',h1,λf s3 H3=>[h2]▸lP,λr' e f s3 H3=>by rw[h2]at e;cases e;exact h3 f s3 H3]
def teC(X:Cx)(sc:o6)(N:!O)(cl:!(O×U))(elt:bY):TE:=λσ H Q=>∀f s3 H3,cE (fS X sc N cl f s3 H3) elt σ H Q
def Tw(X:Cx)(sc:o6)(N:!O)(cl:!(O×U))(ifs:!bY):TT:=λσ H Q=>∀f s3 H3,cTs (fS X sc N cl f s3 H3) ifs σ H Q
theorem yn(ht:uR own.length tgt=true)(hz:ds.length<=sizeLine)(step:∀d∈ds,DG X sc own cap N cl tgt elt ifs δ F d)(f:fM X.K B0 B H0 H σ δ)(it:ItD X.K Ja H0 ds)
  (q:∀p xs cY H',cP H0 H cY H'->H p=none->cY p=none->H' p>>(.lst xs)->b_ X.K cY xs (ds.filterMap F)->Q (.ref p) H'):
  qA Ja (Ld X.K tgt) (Tw X sc N cl ifs) (teC X sc N cl elt) (nS own cap σ) H Q:=by
 intro D hD;let Tx:=f.ent.big.free hD;refine#[λi m ys σ' H'=>i<=ds.length/\m=ds.length-i/\ys.length<=i/\∃Ha,cP H0 H Ha H'/\fM X.K B0 B Ha H' σ' _/\Ha D=none/\H' D>>(.lst ys)/\b_ X.K Ha ys ((ds.take i).filterMap F),
  #[_,bj _,Y,aP _,H0,.loose f.sub hD,(f.comp own cap).touch (f.sub.free hD) Tx ji,f.sub.free hD,aM,by simpa using b_.nil],?_];rintro i m ys σ' H' ⟨hi,rfl,hy,Ha,g,fa,Tz,E6,rs⟩;let#[i1,i2,i3]:=it Ha H' g.eV g.sub i;by_cases oE:i<ds.length
 .refine .inr #[i1 oE,λx H2 y=>?_];let hd:ds[i]?>>ds[i]:=by simp[oE]
  let#[Hb,g2,rx]:=i3 x H2 ds[i] hd y;let#[δ',e1,e2,e3]:=step ds[i] (cN oE);let#[k1,k2]:=comp_back ht e1;let TB:∀{Hx Hy:Hp},cP Ha H' Hx Hy->Hx D=none:=λ{Hx Hy}gg=>by
   cases e:Hx D with
   |none=>rfl
   |some o=>
    rcases gg.new D (by rw[e];simp)with z|z
    .exact qQ7 Tz z
    .rw[E6]at z;cases z
  let tk:(ds.take (i+1)).filterMap F=(ds.take i).filterMap F++(F ds[i]).toList:=by rw[bO,hd,jV];cases eF:F ds[i]<;>simp[jf,eF]
  refine sU (fa.grow g2) rx e1 λσ3 f3=>?_;intro fp s3 H3;refine e2 fp s3 H3 B0 B σ3 Hb H2 _ f3 λHc H4 g4=>?_;let Cd:=g2.trans g4;cases eF:F ds[i] with
  |none=>refine#[_,(),oE,Y,(),Hc,g.trans Cd,(f3.grow g4).forget k1.symm k2,TB Cd,Cd.big _ _ E6,?_];rw[tk,eF];simpa using rs.mono Cd.eV
  |some r=>
   intro Xz s3' uD;refine e3 r eF Xz s3' uD B0 B σ3 Hc H4 _ (f3.grow g4) λw Hd H5 g5 r5=>?_;let Ce:=Cd.trans g5;let NF:=TB Ce;refine#[Ce.big _ _ E6,(),_,(),oE,Y,by simp;omega,Hd,?_,((f3.grow g4).grow g5 |>.forget k1.symm k2).touch NF Tx ji,NF,aM,?_]
   .let gg:=g.trans Ce;exact#[λb u e=>[L (bq e hD)]▸gg.big b u e,gg.eV,λb u e=>[L (bq e NF)]▸gg.sub b u e,gg.new]
   .rw[tk,eF];exact(rs.mono Ce.eV).append (.cons r5 .nil)
 .let e:i=ds.length:=();subst e;refine .inl #[i2 (),q D ys Ha H' g hD Tz E6 ?_];simpa using rs
theorem eI(hc:X.calm=true)(CS:ky X sc own cap N cl)(hi:VI X tg iter δ ds)(hg:∀f s3 H3,PG (fS X sc N cl f s3 H3) tg (Ld X.K tgt))(ht:uR own.length tgt=true)(hz:ds.length<=sizeLine)
  (step:∀d∈ds,DG X sc own cap N cl tgt elt ifs δ F d)(hs:My X iter:=by intro _;rfl):VO X (.ListComp elt [#[tg,iter,ifs,0]] sc pos) δ (ds.filterMap F):=by let#[wi,pi,qi]:=hi;exact .of (DE (tc:=Tw X sc N cl ifs) (te:=teC X sc N cl elt) hc CS pi hg (λf s3 H3 pins s σ H Q I h=>h f s3 H3 pins s I) (λf s3 H3 pins s σ H Q I h=>h f s3 H3 pins s I) hs) λB0 B σ H0 H Q f q=>(qi B0 B σ H0 H _ f λJa H1 c7 g it=>(yn ht hz step (f.grow g) it λp xs Ha Hb g2 a1 a2 a3 a4=>q p xs Ha Hb (g.trans g2) (g.big.free a1) a2 a3 a4))
end
inductive Out where
 |nx (δ:!Slot)|bk (δ:!Slot)|ct (δ:!Slot)
 |rt (d:J)|ro (ds:!J)|r2 (ds:!J) (d:J)|ru (Ua:Hp->V->Hp->Hp->Prop)
def sV(K:aq)(B0 B H0:Hp)(D:Ends):Out->Prop
 | .nx δ=>∀σ' cY H',cz H0 cY->fM K B0 B cY H' σ' δ->D.nx σ' H'
 | .bk δ=>∀σ' cY H',cz H0 cY->fM K B0 B cY H' σ' δ->D.bk σ' H'
 | .ct δ=>∀σ' cY H',cz H0 cY->fM K B0 B cY H' σ' δ->D.ct σ' H'
 | .rt d=>∀v cY H',cP B0 B cY H'->Rep K cY v d->D.rt v H'
 | .ro ds=>∀p xs cY H',cP B0 B cY H'->B p=none->cY p=none->H' p>>(.lst xs)->b_ K cY xs ds->D.rt (.ref p) H'
 | .r2 ds d=>∀t p xs v cY H',cP B0 B cY H'->B p=none->cY p=none->H' p>>(.lst xs)->b_ K cY xs ds->B t=none->cY t=none->H' t>>(.tup [.ref p,v])->Rep K cY v d->D.rt (.ref t) H'
 | .ru Ua=>∀v cY H',cP B0 B cY H'->Ua B v cY H'->D.rt v H'
def NK:Out->Bool
 | .rt _=>true | .ro _=>true | .r2 _ _=>true | .ru _=>true|_=>false
theorem sV.mono(s:cz H0 cY):∀{o:Out},sV K B0 B H0 D o->sV K B0 B cY D o
 | .nx _,h=>λσ a b s' f=>h σ a b (s.trans s') f
 | .bk _,h=>λσ a b s' f=>h σ a b (s.trans s') f
 | .ct _,h=>λσ a b s' f=>h σ a b (s.trans s') f
 | .rt _,h=>h
 | .ro _,h=>h
 | .r2 _ _,h=>h
 | .ru _,h=>h
theorem sV.ret(e:D.rt=D'.rt):∀{o:Out},NK o=true->sV K B0 B H0 D o->sV K B0 B cY D' o
 | .rt _,_,h=>by unfold sV at *;rw[<-e];exact h
 | .ro _,_,h=>by unfold sV at *;rw[<-e];exact h
 | .r2 _ _,_,h=>by unfold sV at *;rw[<-e];exact h
 | .ru _,_,h=>by unfold sV at *;rw[<-e];exact h
 | .nx _,z,_=>by cases z
 | .bk _,z,_=>by cases z
 | .ct _,z,_=>by cases z
def VS(X:Cx)(st:jT)(δ:!Slot)(o:Out):Prop:=∀B0 B σ H0 H D,fM X.K B0 B H0 H σ δ->sV X.K B0 B H0 D o->cS X st D σ H
def vz(X:Cx)(st:!jT)(δ:!Slot)(o:Out):Prop:=∀B0 B σ H0 H D,fM X.K B0 B H0 H σ δ->sV X.K B0 B H0 D o->zt X st D σ H
section
variable{X:Cx}{st:jT}{rest body orelse:!jT}{δ δ':!Slot}{o:Out}{c e:bY}{d:J}{ds:!J}{pos px:Pos}{x:O}
theorem a_:vz X [] δ (.nx δ):=λ_ _ σ H0 H _ f ok pins s I=>Jz pins s σ H _ I (ok σ H0 H (cz.refl _) f)
theorem aD(h1:VS X st δ (.nx δ'))(h2:vz X rest δ' o):vz X (st::rest) δ o:=λB0 B σ H0 H D f ok pins s I=>lL Nx ly pins s σ H D I (h1 B0 B σ H0 H _ f λσ' Ha Hb sm f'=>h2 B0 B σ' Ha Hb D f' (ok.mono sm))
theorem cZ(h1:VS X st δ o)(hr:NK o=true):vz X (st::rest) δ o:=λB0 B σ H0 H D f ok pins s I=>lL Nx mS pins s σ H D I (h1 B0 B σ H0 H _ f (sV.ret (by rfl) hr ok))
theorem aS(h1:VS X st δ o):vz X [st] δ o:=λB0 B σ H0 H D f ok pins s I=>Dq Nx pins s σ H D I (h1 B0 B σ H0 H D f ok)
theorem cL(i:Nat)(h:VE X e δ d)(hN:X.N.Nodup)(hi:X.N[i]?>>x:=by rfl)(hx:Loc X.env.scope x:=by left)(hs:zN X pos e (.Name x px):=by rfl)(hf:Dl X x:=by left):
  VS X (.Assign [.Name x px] e pos) δ (.nx (δ.set i (.val d))):=λB0 B σ H0 H D f ok pins s I=>pY hN hi hx ck hs hf pins s σ H D I (h B0 B σ H0 H _ f λv H1 c7 g r=>ok _ H1 c7 g.eV ((f.grow g).set r))
theorem iT(i:Nat)(h:VO X e δ ds)(hN:X.N.Nodup)(hi:X.N[i]?>>x:=by rfl)(hx:Loc X.env.scope x:=by left)(hs:zN X pos e (.Name x px):=by rfl)(hf:Dl X x:=by left):
  VS X (.Assign [.Name x px] e pos) δ (.nx (δ.set i (.own ds))):=λB0 B σ H0 H D f ok pins s I=>
 pY hN hi hx ck hs hf pins s σ H D I (h B0 B σ H0 H _ f λp xs H1 c7 g h1 h2 h3 r=>ok _ H1 c7 g.eV ((f.grow g).DF h3 h2 (f.ent.big.free h1) r λj es e2 e3=>by let#[p',xs',g1,g2,_]:=f.slot j _ e2;rw[e3]at g1;cases g1;rw[h1]at g2;cases g2))
theorem dm(h:VT X c δ true)(h1:vz X body δ o):VS X (.If c body orelse pos) δ o:=λB0 B σ H0 H D f ok pins s I=>BX p7 ly mS pins s σ H D I (h B0 B σ H0 H _ f λH1 c7 g=>Vv (h1 B0 B σ H1 c7 D (f.grow g) (ok.mono g.eV)))
theorem bE(h:VT X c δ false)(h1:vz X orelse δ o):VS X (.If c body orelse pos) δ o:=λB0 B σ H0 H D f ok pins s I=>BX p7 mS ly pins s σ H D I (h B0 B σ H0 H _ f λH1 c7 g=>Vu (h1 B0 B σ H1 c7 D (f.grow g) (ok.mono g.eV)))
theorem TF{k:Bool}(h:VT X c δ k)(h1:k=true->vz X body δ o)(h2:k=false->vz X orelse δ o):VS X (.If c body orelse pos) δ o:=by
 cases k with
 |true=>exact dm h (h1 Y)
 |false=>exact bE h (h2 Y)
theorem bL(h:VE X e δ d):VS X (.Return (some e) pos) δ (.rt d):=λB0 B σ H0 H D f ok pins s I=>xE ck pins s σ H D I (h B0 B σ H0 H _ f λv H1 c7 g r=>ok v H1 c7 (f.ent.trans g) r)
theorem zu(h:VO X e δ ds):VS X (.Return (some e) pos) δ (.ro ds):=λB0 B σ H0 H D f ok pins s I=>xE ck pins s σ H D I (h B0 B σ H0 H _ f λp xs H1 c7 g a1 a2 a3 a4=>ok p xs H1 c7 (f.ent.trans g) (f.ent.big.free a1) a2 a3 a4)
theorem DH(i:Nat)(h:δ[i]?>>(.own ds))(hN:rT X i x:=by ac_rfl):
  VS X (.Return (some (.Name x px)) pos) δ (.ro ds):=λB0 B σ H0 H D f ok pins s I=>xE (ud hN) pins s σ H D I (by let#[p,xs,h1,h2,h3,h4,h5]:=f.slot i _ h;exact#[_,h1,ok p xs H0 H f.ent h4 h3 h2 h5])
theorem jH(i:Nat){ap:Pos}{p0:Pos}(hi:δ[i]?>>(.own ds))(h:VE X e δ d)(hz:ds.length<sizeLine)(hN:rT X i x:=by ac_rfl)
  (hs:j8 X e []:=by rfl)(gC:vn X (.Name x p0) "append":=by rfl)
  (lN:GV X px [e]:=by rfl)
  (hline:(ap.endLine==px.line)=true:=by rfl)(fQ:qg X px []:=by rfl)(qB:S8 X pos (.Call (.Attribute (.Name x p0) "append" ap) [e] [] px):=by rfl):
  VS X (.Expr (.Call (.Attribute (.Name x p0) "append" ap) [e] [] px) pos) δ (.nx (δ.set i (.own (ds ++ [d])))):=λB0 B σ H0 H D f ok pins s I=>by refine iR (pF cK fy fz lu (ud hN) (cy ck dU hs) gC lN hline hs fQ) qB pins s σ H D I ?_;let#[p,xs,h1,h2,h3,h4,h5]:=f.slot i _ hi;refine#[_,h1,.inl #[Y,_,jW.of h2],?_];refine h B0 B σ H0 H _ f λv H1 c7 g r=>?_;refine#[p,xs,v,Y,Y,g.big _ _ h2,[h5.length]▸hz,ok σ H1 _ g.eV ((f.grow g).push hi h1 (g.big _ _ h2) r)]
theorem eJ(i:Nat)(hi:δ[i]?>>(.own ds))(h:vz X rest (δ.set i (.val (.list ds))) o):vz X rest δ o:=λB0 B σ H0 H D f ok=>by let#[p,xs,h1,h2,h3,h4,h5]:=f.slot i _ hi;let#[f',sm]:=f.freeze hi h1 h2;exact h B0 B σ _ H D f' (ok.mono sm)
def MF:!Slot->!Slot->Prop
 | [],[]=>True
 |a::l,b::m=>(b=.un\/a=b)/\MF l m
 |_,_=>False
theorem MF.len:∀{l m:!Slot},MF l m->m.length=l.length
 | [],[],_=>rfl
 |_::_,_::_,h=>by simp[MF.len h.2]
 | [],_::_,h=>h.elim
 |_::_,[],h=>h.elim
theorem MF.at:∀{l m:!Slot},MF l m->∀(i:Nat)sl,m[i]?>>sl->sl=.un\/l[i]?>>sl
 | [],[],_,_,_,e=>by simp at e
 |a::l,b::m,h,0,sl,e=>by
  simp at e;subst e;rcases h.1 with z|z
  .exact .inl z
  .exact .inr (by simp[z])
 |a::l,b::m,h,i+1,sl,e=>by simpa using MF.at h.2 i sl ↑e
 | [],_::_,h,_,_,_=>h.elim
 |_::_,[],h,_,_,_=>h.elim
theorem gW(h:vz X rest δ (.nx δ'))(hf:MF δ' δ2):vz X rest δ (.nx δ2):=λB0 B σ H0 H D f ok=>h B0 B σ H0 H D f λσ' Ha Hb sm f'=>ok σ' Ha Hb sm (f'.forget hf.len hf.at)
theorem k7{tg iter:bY}(hp:C7 (model X.prog X.w) X.A X.env X.xe)(hc:X.calm=true)(hi:VI X tg iter δ ds)(hg:PG X tg (Ld X.K tgt))(δs:Nat->!Slot)(m:Nat)(h0:δs 0=δ)(hm:m<=ds.length)
  (step:∀k d,k<m->ds[k]?>>d->∃δ',yX tgt d (δs k)>>δ'/\vz X body δ' (.nx (δs (k+1))))
  (fin:(m=ds.length/\o=.nx (δs m))\/∃d δ',ds[m]?>>d/\yX tgt d (δs m)>>δ'/\NK o=true/\vz X body δ' o)
  (hs:My X iter:=by intro _;rfl):VS X (.For tg iter body [] pos) δ o:=λB0 B σ H0 H D f ok pins s I=>by
 let#[wi,pi,qi]:=hi;refine G' hp hc pi hg ly hs pins s σ H D I ?_;refine qi B0 B σ H0 H _ f λJa H1 c7 g it=>?_;refine#[λi mm σ' H'=>i<=m/\mm=m+1-i/\∃Ha,cz H1 Ha/\fM X.K B0 B Ha H' σ' (δs i),#[m+1,bj _,Y,H1,cz.refl _,[h0]▸f.grow g],?_];rintro i mm σ' H' ⟨hi,rfl,Ha,sm,fa⟩;let#[i1,i2,i3]:=it Ha H' sm fa.sub i;by_cases oE:i<m
 .refine .inr #[i1 (),λσ'' Ez=>∃Hb,cz H1 Hb/\fM X.K B0 B Hb Ez σ'' (δs (i+1)),λσ'' Ez #[Hb,z1,z2]=>#[_,(),oE,Y,Hb,z1,z2],λv H2 y=>?_];let hd:ds[i]?>>(ds[i]'()):=∅
  let#[Hb,g2,rx]:=i3 v H2 _ hd y;let#[δ',e1,e2]:=step i _ oE hd;exact sU (fa.grow g2) rx e1 λσ3 f3=>(e2 B0 B σ3 Hb H2 _ f3 λσ4 Hc H4 s4 f4=>#[Hc,(sm.trans g2.eV).trans s4,f4])
 .let e:i=m:=();subst e;rcases fin with⟨e1,e2⟩|⟨d,δ',hd,e1,hr,e2⟩
  .subst e2;exact .inl #[i2 (),ok σ' Ha H' (g.eV.trans sm) fa]
  .let zdg:=(aF.mp hd).1;refine .inr #[i1 zdg,λ_ _=>False,λ_ _ z=>z.elim,λv H2 y=>?_];let#[Hb,g2,rx]:=i3 v H2 _ hd y;exact sU (fa.grow g2) rx e1 λσ3 f3=>(e2 B0 B σ3 Hb H2 _ f3 (sV.ret (D:=D) (by rfl) hr ok))
end
def gk(K:aq)(R:!J->J->Prop):Sp:=λvs H Q _=>∃H0 ds d,cz H0 H/\b_ K H0 vs ds/\R ds d/\∀v cY H',cP H0 H cY H'->Rep K cY v d->Q v H'
def HJ(K:aq)(R:!J->!J->Prop):Sp:=λvs H Q _=>∃H0 ds es,cz H0 H/\b_ K H0 vs ds/\R ds es/\
 ∀p xs cY H',cP H0 H cY H'->H p=none->cY p=none->H' p>>(.lst xs)->b_ K cY xs es->Q (.ref p) H'
def bw(P:bU)(w:c0)(K:aq)(mg:O->Option M)(base:dF)(k:Nat)(x:O)(ps:!O)(sp:Sp):Prop:=
 ∃f fd,dR P w K mg base ju k f fd ps sp/\mg x>>(.ref f)/\fw K (.ref f)=true/\Binds K fd ps []
section
variable{X:Cx}{x:O}{e:bY}{p pos:Pos}
theorem bB{d:J}{δ:!Slot}{es:!bY}{ds:!J}{k:Nat}{ps:!O}{R:!J->J->Prop}(C:bw X.prog X.w X.K X.mg X.base k x ps (gk X.K R))(hr:dB k X.A)(ha:VA X (e::es) δ ds)(hp:R ds d)(hg:Gl X x:=by rfl)(sJ:xr x:=by decide)
  (he:j8 X e es:=by rfl)(jX:qg X pos es:=by rfl):VE X (.Call (.Name x p) (e::es) [] pos) δ d:=by
 let#[f,fd,F,hm,hk,hb]:=C;let#[t,pa,qa]:=ha;exact .of (wd F hr hg hm hk hb .nil wm pa sJ he jX) λB0 B σ H0 H Q fr q=>qa B0 B σ H0 H _ fr λvs H1 c7 g1 rs=>by rw[cA];exact#[H1,ds,d,g1.sub,rs,hp,λv H2 fA g2 r=>q v H2 fA (g1.trans g2) r]
theorem pK(C:bw X.prog X.w X.K X.mg X.base k x ps (HJ X.K R))(hr:dB k X.A)(ha:VA X (e::es) δ ds)(hp:R ds zs)(hg:Gl X x:=by rfl)(sJ:xr x:=by decide)
  (he:j8 X e es:=by rfl)(jX:qg X pos es:=by rfl):VO X (.Call (.Name x p) (e::es) [] pos) δ zs:=by
 let#[f,fd,F,hm,hk,hb]:=C;let#[t,pa,qa]:=ha;exact .of (wd F hr hg hm hk hb .nil wm pa sJ he jX) λB0 B σ H0 H Q fr q=>qa B0 B σ H0 H _ fr λvs H1 c7 g1 rs=>by rw[cA];exact#[H1,ds,zs,g1.sub,rs,hp,λv xs H2 fA g2 a1 a2 a3 a4=>q v xs H2 fA (g1.trans g2) (g1.big.free a1) a2 a3 a4]
end
def Ae(N:!O)(ds:!J):!Slot:=ds.map .val++aW (N.length-ds.length) .un
theorem fM.start(s:cz H0 H)(r:b_ K H0 vs ds):fM K H0 H H0 H (start N vs) (Ae N ds):=by
 let hl:=r.length;refine#[.refl s,by simp[L2.start,Ae,hl],λi sl e=>?_,λi j a b p _ e=>?_]
 .unfold Ae at e;unfold L2.start;by_cases hi:i<ds.length
  .rw[bN ↑hi,ax]at e;let hd:ds[i]?>>ds[i]:=by simp[hi]
   rw[hd]at e;cases e;let#[v,h1,h2]:=r.get hd;exact#[v,by rw[bN (by simp;omega),ax,h1];rfl,h2]
  .rw[bM ↑(h8 hi),dZ]at e;split at e<;>cases e;trivial
 .unfold Ae at e;by_cases hi:i<ds.length
  .rw[bN ↑hi,ax]at e;let hd:ds[i]?>>ds[i]:=by simp[hi]
   rw[hd]at e;cases e
  .rw[bM ↑(h8 hi),dZ]at e;split at e<;>cases e
section
variable{P:bU}{w:c0}{K:aq}{mg:O->Option M}{base:dF}{x qual:O}{st:jT}{f:U}{fd:fW}{N ps:!O}{k:Nat}
abbrev wA(P:bU)(w:c0)(K:aq)(mg:O->Option M)(base:dF)(N:!O)(qual:O)(st:jT)(f:U)(k:Nat)(ds:!J)(o:Out):Prop:=
 ∀gj A outer s H E,dB k (A.deeper (envOfC qual (bt st) s.heap.objs.size f gj))->vz (EV ju P w K mg base N qual (bt st) f gj A outer s H E).Vd (jN st) (Ae N ds) o
theorem ik{R:!J->J->Prop}(F:jO K x qual st f fd)(S:bW N ps (bt st))(hl:∀ds d,R ds d->ds.length=ps.length)(hb:∀ds d,R ds d->wA P w K mg base N qual st f k ds (.rt d)):dR P w K mg base ju (k+1) f fd ps (gk K R):=by
 refine F.ok S (λvs H Q E h=>?_) (λgj A outer s H vs Q E hr h=>?_)
 .let#[H0,ds,d,_,r,hp,_]:=h;rw[r.length,hl ds d hp]
 .let#[H0,ds,d,sm,r,hp,q]:=h;exact#[_,ly,hb ds d hp gj A outer s H E hr H0 H _ H0 H _ (.start sm r) q]
theorem Le(F:jO K x qual st f fd)(S:bW N ps (bt st))(hl:∀ds d,R ds d->ds.length=ps.length)(hb:∀ds d,R ds d->wA P w K mg base N qual st f k ds (.ro d)):dR P w K mg base ju (k+1) f fd ps (HJ K R):=by
 refine F.ok S (λvs H Q E h=>?_) (λgj A outer s H vs Q E hr h=>?_)
 .let#[H0,ds,d,_,r,hp,_]:=h;rw[r.length,hl ds d hp]
 .let#[H0,ds,d,sm,r,hp,q]:=h;exact#[_,ly,hb ds d hp gj A outer s H E hr H0 H _ H0 H _ (.start sm r) q]
end
end L2
namespace L2.Srt
open PySem PySem.W PyProof.Rows
end L2.Srt
namespace L2
open PySem PySem.Spec PyProof.Rows PySem.W
theorem b_.ints{K:aq}{H:Hp}:∀{ns:!Int}{xs:!V},b_ K H xs (ns.map .int)->xs=ns.map V.int
 | [],_,r=>by cases r;rfl
 |n::ns,_,r=>by cases r with|cons a t=>cases a;rw[av,b_.ints t]
theorem dJ.getD:∀{xs:!V}{us:!M}(i:Nat),dJ xs us->RelV (xs.getD i .non) (us.getD i rX)
 |_,_,_,.nil=>by simp;rfl
 |_,_,0,.cons r _=>by simpa using r
 |_,_,i+1,.cons _ t=>by simpa using dJ.getD i t
end L2
namespace L2
open PySem PySem.Spec PyProof.Rows
variable{l:U}{kb:Bool}{H:Hp}{ns:!Int}{K:aq}
section
variable{d:J}
def yo:J->Bool
 | .none=>true
 | .bool _=>true
 | .int _=>true
 | .str _=>true
 |_=>false
theorem Rep.HK{H': Hp}{v:V}(r:Rep K H v d)(h:yo d=true):Rep K H' v d:=by
 cases r with
 |non=>exact .non
 |bl b=>exact .bl b
 |int i=>exact .int i
 |str x=>exact .str x
 |_=>cases h
def tyD:J->Option String
 | .none=>some "NoneType"
 | .bool _=>some "bool"
 | .int _=>some "int"
 | .str _=>some "str"
 | .list _=>some "list"
 | .tuple _=>some "tuple"
 |_=>none
theorem Zb(ht:tyD d>>t)(hk:dz X.K (.type t) (.type tn)>>kb):iY X (.builtin "isinstance") (λxs H Q=>∃x,xs=[x,.ty tn]/\Rep X.K H x d/\Q (.bl kb) H):=by
 intro pins s σ H xs us Q I r h;let#[x,rfl,rx,q]:=h;let#[u,w',rfl,r1,r2]:=vals2 r;cases r2;let fin:∀tk,EP X pins σ Q _ { s with toks:=tk }:=λtk=>#[.bl kb,H,I.tok tk,Y,q];cases rx with
 |non=>cases ht;cases r1;exact jz PySem.W.kitx_none I.zO fY hk (λz=>nomatch z) fin
 |bl b=>cases ht;cases r1;exact jz PySem.W.kitx_bool I.zO fY hk (λz=>nomatch z) fin
 |int i=>cases ht;let#[t,rfl]:=r1;exact jz PySem.W.kitx_int I.zO fY hk (λz=>nomatch z) fin
 |str y=>cases ht;let#[t,rfl]:=r1;exact jz PySem.W.kitx_str I.zO fY hk (λz=>nomatch z) fin
 |lst hq rs=>cases ht;cases r1;let#[its,_,#[o,n,e,c,_],_]:=I.list hq;exact jz PySem.W.kitx_list I.zO #[o,e,c] hk (λz=>nomatch z) fin
 |tup hq rs=>cases ht;cases r1;let#[its,_,#[o,e,c,_],_]:=I.tuple hq;exact jz PySem.W.kitx_tuple I.zO #[o,e,c] hk (λz=>nomatch z) fin
 |dct _ _ _=>cases ht
 |Tt _ _ _=>cases ht
 |obj _ _ _ _ _=>cases ht
 |VL _ _ _ _ _=>cases ht
 |QY _ _ _=>cases ht
theorem jv{X:Cx}{δ:!Slot}{a:bY}{pos:Pos}{x:O}{t tn:String}{p p2:Pos}(h:VE X a δ d)(ht:tyD d>>t)(hk:dz X.K (.type t) (.type tn)>>kb)(hb:bootBuiltins x>>(.type tn))(m1:X.mg "isinstance"=none)(m2:X.mg x=none)(hv:bootBuiltins "isinstance"=some (.builtin "isinstance"))
  (hg:Gl X "isinstance":=by rfl)(Q5:Gl X x:=by rfl)(hn:x≠"__name__":=by decide)(sJ:xr x:=by decide)(hs:starEach [a,.Name x p2] X.env=(false,eval a X.env)::starEach [.Name x p2] X.env:=by rfl)(pZ:starEach [.Name x p2] X.env=(false,eval (.Name x p2) X.env)::starEach [] X.env:=by rfl)
  (jX:qg X pos [.Name x p2]:=by rfl):VE X (.Call (.Name "isinstance" p) [a,.Name x p2] [] pos) δ (.bool kb):=
 .of (qv (Zb ht hk) hg m1 hv (cy ck (cy (Jy Q5 m2 hb (v:=.ty tn) Y hn sJ) dU pZ) hs) ⋯ ⋯ hs jX) λB0 B σ H0 H Q f q=>h B0 B σ H0 H _ f λv H1 c7 g r=>#[v,Y,r.mono g.sub,q _ H1 c7 g (.bl _)]
theorem Fe(hh:A.handled=none)(hl:s.heap.IsList l vs.toArray)(hi:Bs vs ns)(sj:ns≠[])
  (h:∀h' Ma (t:Tok) tk,(∀b o,s.heap.get? b>>o->h'.get? b>>o)->Ma∈ns->(∀z,z∈ns->z<=Ma)->Q (.int Ma t) { s with heap:=h',toks:=tk }):wpAny (model P w) A (call (.builtin "max") [.ref l]) Q E s:=by
 let#[xs,ex]:=hi.allInts.items;let Hz:ns=xs.toList.map (·.1):=by rw[<-hi.numsOf,<-nums_intItems,<-ex]
 let hz:0<xs.size:=by
  rcases xu xs.size with z|z
  .exfalso;apply sj;rw[Hz,Array.eq_empty_of_size_eq_zero z];rfl
  .exact z
 rw[ex]at hl;refine max_intList hh hl hz λv h' tk hv hk=>?_;let#[t,rfl]:=intItems_at hv;let#[g1,g2]:=argBest_gt (numAt xs) (xs.size-1);refine h h' _ t tk hk ?_ λz XA=>?_
 .rw[Hz,numAt_eq];exact getD_mem (by rw[ae,cW];omega)
 .rw[Hz]at XA;let#[j,hj,rfl]:=mem_getD XA;rw[ae,cW]at hj;rw[<-numAt_eq];exact g2 j ()
theorem xJ(hc:X.calm=true):iY X (.builtin "max") (λxs H Q=>∃p ns,xs=[.ref p]/\jW X.K H p (ns.map V.int)/\ns≠[]/\∀Ma,Ma∈ns->(∀z,z∈ns->z<=Ma)->Q (.int Ma) H):=by intro pins s σ H xs us Q I r h;let#[p,ns,rfl,hq,sj,q]:=h;let#[u,rfl,rx]:=vals1 r;cases rx;let#[its,rv,pl,hz]:=I.list hq;exact Fe (I.ok.hd hc) pl.isList (intsAre_of rv) sj λh' Ma t tk hk h1 h2=>#[.int Ma,H,I.kept hk,#[_,Y],q Ma h1 h2]
theorem NM{Ma:Int}(h1:Ma∈ns)(h2:∀z,z∈ns->z<=Ma):pI K (λxs H Q=>∃p ns,xs=[.ref p]/\jW K H p (ns.map V.int)/\ns≠[]/\∀Ma,Ma∈ns->(∀z,z∈ns->z<=Ma)->Q (.int Ma) H) [.list (ns.map .int)] (.int Ma):=λvs H0 H Q s r q=>by
 let#[v,rfl,r1]:=r.one;cases r1 with
 |lst hq rs=>let e:=rs.ints;subst e;refine#[_,ns,Y,s.seq hq,(λz=>by rw[z]at h1;cases h1),λM' g1 g2=>q _ _ _ (.refl s) ?_];let:M'=Ma:=Int.le_antisymm (h2 M' g1) (g2 Ma h1);rw[this];exact .int _
end
section
variable{X:Cx}{sc:o6}{N:!O}{cl:!(O×U)}{elt iter:bY}{δ:!Slot}{ds:!J}{px E7:Pos}{tgt:Qf}{x:O}
theorem zv{own:!O}{cap:!Nat}{tg:bY}{ifs:!bY}{pos:Pos}(i:Nat){F:J->Option J}(hc:X.calm=true)(CS:ky X sc own cap N cl)(hi:VI X tg iter δ ds)(hg:∀f s3 H3,PG (fS X sc N cl f s3 H3) tg (Ld X.K tgt))(ht:uR own.length tgt=true)(hz:ds.length<=sizeLine)
  (step:∀d∈ds,DG X sc own cap N cl tgt elt ifs δ F d)(hN:X.N.Nodup)(Y1:X.N[i]?>>x:=by rfl)(hx:Loc X.env.scope x:=by left)
  (qB:swapsWith (.ListComp elt [#[tg,iter,ifs,0]] sc pos) (some (.Name x px)) E7.line X.env=pure true:=by rfl)(hs:My X iter:=by intro _;rfl)(hf:Dl X x:=by left):
  VS X (.Assign [.Name x px] (.ListComp elt [#[tg,iter,ifs,0]] sc pos) E7) δ (.nx (δ.set i (.own (ds.filterMap F)))):=λB0 B σ H0 H D f ok pins s I=>by let#[wi,pi,qi]:=hi;refine Aa (tc:=Tw X sc N cl ifs) (te:=teC X sc N cl elt) hN Y1 hx hc CS pi hg (λf s3 H3 pins s σ H Q I h=>h f s3 H3 pins s I) (λf s3 H3 pins s σ H Q I h=>h f s3 H3 pins s I) qB hs hf pins s σ H D I ?_;refine qi B0 B σ H0 H _ f λJa H1 c7 g it=>?_;refine yn ht hz step (f.grow g) it λp xs Ha Hb g2 a1 a2 a3 a4=>?_;let gg:=g.trans g2;let hp:=g.big.free a1;refine ok _ Ha Hb gg.eV ((f.grow gg).DF a3 a2 (f.ent.big.free hp) a4 λj es e2 e3=>?_);let#[p',xs',g1,g2',_]:=f.slot j _ e2;rw[e3]at g1;cases g1;rw[hp]at g2';cases g2'
end
theorem VT.to(h:VT X c δ k')(e:k'=k):VT X c δ k:=e▸h
theorem VE.to(h:VE X c δ k')(e:k'=k):VE X c δ k:=e▸h
theorem VO.to(h:VO X c δ k')(e:k'=k):VO X c δ k:=e▸h
theorem Lay.mono(h:Lay m d)(hn:m<=n):Lay n d:=#[h.1,bA h.2 hn]
theorem bJ(n:Nat)(i:Int):Lay n (.int i):=#[Y,bj _]
theorem Q6(n:Nat):Lay n .none:=#[Y,bj _]
theorem bo(h:cj (.str x)=true):Lay n (.str x):=#[h,bj _]
theorem HL:∀{ds:!J},(∀d∈ds,Lay n d)->pV ds=true/\J.depthAll ds<=n
 | [],_=>#[Y,bj _]
 |d::ds,h=>by let#[h1,h2]:=HL λe he=>h e (ay _ he);let#[h3,h4]:=h d aJ;refine#[by simp[pV,h1,h3],?_];show max d.depth (J.depthAll ds)<=n;omega
theorem oh(h:∀d∈ds,Lay n d):Lay (n+1) (.list ds):=by let#[h1,h2]:=HL h;exact#[h1,Nat.succ_le_succ h2]
theorem kA(h:∀d∈ds,Lay n d):Lay (n+1) (.tuple ds):=by let#[h1,h2]:=HL h;exact#[h1,Nat.succ_le_succ h2]
theorem filterMap_some{α β:Type}{F:α->Option β}{g:α->β}:∀{l:!α},(∀a∈l,F a>>(g a))->l.filterMap F=l.map g
 | [],_=>rfl
 |a::l,h=>by rw[cI (h a aJ),av,filterMap_some λb hb=>h b (ay _ hb)]
def TH:Slot->Bool
 | .own _=>true
 |_=>false
def noOwn(δ:!Slot):Bool:=δ.all λs=>not (TH s)
theorem fK(h:noOwn δ=true)(i:Nat)(ds:!J):δ[i]?≠some (.own ds):=λe=>by let:=fk.mp h _ (aH e);cases this
section
variable{K:aq}{B0 B H0 H C0 C:Hp}{σ:St}{δ:!Slot}
theorem fM.xK(f:fM K B0 B H0 H σ δ){i:Nat}{v:V}{sl:Slot}(hs:Nv K B H0 H sl (some (some v)))(hn:TH sl=false):fM K B0 B H0 H (σ.set i (some v)) (δ.set i sl):=by
 refine#[f.ent,by simp[f.len],λj X' e=>?_,λj k ds es p JT e1 e2 e3=>?_]
 .by_cases hj:j=i
  .subst hj;let hl:j < δ.length:=by simpa using(aF.mp e).1
   rw[a7 hl]at e;cases e;rwa[a7 ([f.len]▸hl)]
  .rw[aY (bF hj)]at e;rw[aY (bF hj)];exact f.slot j X' e
 .let nj:j≠i:=λz=>by
   subst z;let hl:j < δ.length:=by simpa using(aF.mp e1).1
   rw[a7 hl]at e1;cases e1;cases hn
  let nk:k≠i:=λz=>by
   subst z;let hl:k < δ.length:=by simpa using(aF.mp e2).1
   rw[a7 hl]at e2;cases e2;cases hn
  rw[aY (bF nj)]at e1 e3;rw[aY (bF nk)]at e2 ⊢;exact f.apart j k ds es p JT e1 e2 e3
theorem fM.re(f:fM K B0 B H0 H σ δ)(hn:noOwn δ=true)(g:cP C0 C H0 H):fM K C0 C H0 H σ δ:=by
 refine#[g,f.len,λi sl e=>?_,f.apart];let q:=f.slot i sl e;cases sl with
 |own ds=>exact qQ7 e (fK hn i ds)
 |_=>exact q
theorem cP.still(g:cP H0 H Ha Hb)(h0:H0 p=none)(h:H p>>o):Ha p=none:=by
 cases e:Ha p with
 |none=>rfl
 |some u=>
  rcases g.new p (by rw[e];simp)with z|z
  .exact qQ7 h0 z
  .rw[h]at z;cases z
theorem cP.far(s:cz H0 H)(b:cz H Hb):cP H0 H H0 Hb:=#[b,cz.refl _,s.trans b,λ_ z=>.inl z]
end
section
variable{δ:!Slot}{d1 d2:J}{px py:Pos}{x y:O}
theorem iG(n:Nat):(kH n).length=n:=by simp[kH]
theorem NP{X:Cx}{a b:bY}{pos:Pos}(i j:Nat){pt GY:Pos}{kt k2}(h1:VE X a δ d1)(h2:VE X b δ d2)(hc:X.calm=true)(hN:X.N.Nodup)(Bl:i≠j)(hi:X.N[i]?>>x:=by rfl)(hj:X.N[j]?>>y:=by rfl)(hx:X.env.scope.names.lookup x>>.local:=by rfl)(hy:X.env.scope.names.lookup y>>.local:=by rfl)
  (hw:swappedStores [.Tuple [.Name x px,.Name y py] kt pt] (.Tuple [a,b] k2 GY) X.env=pure (some [x,y]):=by rfl)(hs:swapsWithSole [.Tuple [.Name x px,.Name y py] kt pt] (.Tuple [a,b] k2 GY) pos.line X.env=pure false:=by rfl)
  (Qg:j8 X a [b]:=by rfl)(pZ:j8 X b []:=by rfl):
  VS X (.Assign [.Tuple [.Name x px,.Name y py] kt pt] (.Tuple [a,b] k2 GY) pos) δ (.nx ((δ.set i (.val d1)).set j (.val d2))):=λB0 B σ H0 H D f ok pins s I=>by let#[t,pa,qa]:=cR h1 (cR h2 cO pZ) Qg;refine MY hc hN hi hj Bl hx hy pa hw hs pins s σ H D I (qa B0 B σ H0 H _ f λvs H1 c7 g rs=>?_);let#[v,w,rfl,r1,r2]:=rs.two;exact#[v,w,Y,ok _ H1 c7 g.eV (((f.grow g).set r1).set r2)]
end
section
variable{X:Cx}{H:Hp}{σ:St}{D:Ends}{st:jT}
def Ends.tail(D:Ends)(u:St->Hp->Prop):Ends:={ D with nx:=u }
theorem bT{rest:!jT}(h:cS X st (D.tail λσ H=>zt X rest D σ H) σ H):zt X (st::rest) D σ H:=λpins s I=>lL Nx ly pins s σ H D I h
theorem bK(h:cS X st D σ H):zt X [st] D σ H:=λpins s I=>Dq Nx pins s σ H D I h
end
theorem sW{α:Type}(l:!α)(n:Nat):cutD l none (some (n:Int))=l.take n:=by
 unfold cutD;rw[HT.EY,HT.q_,mJ,Nat.sub_zero];by_cases h:n<=l.length
 .rw[iL h]
 .rw[Nat.min_eq_right (),da (),da ()]
theorem jP:Lay 20 (.list []):=oh λd hd=>by cases hd
structure Nm(mg:O->Option M):Prop where
 len:mg "len"=none
 NQ:mg "enumerate"=none
 srt:mg "sorted"=none
 max:mg "max"=none
 min:mg "min"=none
 rng:mg "range"=none
 sum:mg "sum"=none
 BG:mg "isinstance"=none
 tup:mg "tuple"=none
 lst:mg "list"=none
 int:mg "int"=none
 bool:mg "bool"=none
def Ff(l:U)(n:Nat):dF->Prop:=λh=>∃o es ep t,h.get? l>>o/\o.ExactSet/\o.data=.set es ep t/\t.fits es.size=true/\es.size=n
theorem Ff.ok(x:Ff l n h):iX P w H h l (.ext (Ff l n)):=by
 refine#[x,?_,λh1 h2 y k=>?_]
 .let#[o,_,_,_,e,_]:=x;exact#[o,e]
 .let#[o,es,ep,t,e,r]:=y;exact#[o,es,ep,t,k o e,r]
section
def dd:!O->!O->!O
 |acc,[]=>acc
 |acc,x::l=>dd (if decide (x∈acc)=true then acc else acc ++ [x]) l
theorem Cg:∀(l:!O)(acc m:!O),dd acc (l++m)=dd (dd acc l) m
 | [],_,_=>rfl
 |x::l,acc,m=>Cg l _ m
theorem xM:∀(l acc:!O),(dd acc l).length<=acc.length+l.length
 | [],_=>aP _
 |x::l,acc=>by
  let:=xM l (if decide (x∈acc)=true then acc else acc ++ [x]);unfold dd;split at this
  .rename_i h;rw[qQ3 h];simp;omega
  .rename_i h;rw[qQ2 h];simp at this ⊢;omega
theorem Fg:∀{l acc:!O},(acc++l).Nodup->dd acc l=acc++l
 | [],acc,_=>by rw[cA];rfl
 |x::l,acc,h=>by
  unfold dd;let hx:=λz=>by rw[bD]at h;exact h.2.2 x z x aJ Y
  rw[qQ2 ↑hx,Fg ↑h];simp
theorem Ci:∀{ss:!O}{its:!M},dJ (ss.map V.str) its->∀(i:Nat)v,its[i]?>>v->∃x t,ss[i]?>>x/\v=.str x t
 | [],_,r,i,v,e=>by cases r;simp at e
 |x::ss,_,r,i,v,e=>by
  cases r with
  |cons a t=>
   cases i with
   |zero=>let#[t,rfl]:=a;simp at e;exact#[x,t,Y,e.symm]
   |succ i=>simpa using Ci t i v ↑e
theorem SetOf.zdh(x:h.SetOf (strKind P w) l S n):Ff l n h:=by let#[o,es,ep,t,ho,hex,hd,_,_,_,hf,hn]:=x;exact#[o,es,ep,t,ho,hex,hd,hf,hn]
theorem uS:iY X (.builtin "len") (λxs H Q=>∃p n,xs=[.ref p]/\H p>>(.ext (Ff p n))/\n<10000/\Q (.int n) H):=by intro pins s σ H xs us Q I r h;let#[p,n,rfl,hp,hn,q]:=h;let#[u,rfl,rx]:=vals1 r;cases rx;let#[#[o,es,ep,t,ho,hex,hd,hf,hz],_]:=I.hok p _ hp;exact call_len_set ho hex hd hf () #[.int n,H,I.tok _,#[_,by rw[hz]],q]
end
section
variable{p:Pos}
theorem b_.strs:∀{ss:!O}{xs:!V},b_ K H xs (ss.map .str)->xs=ss.map V.str
 | [],_,r=>by cases r;rfl
 |x::ss,_,r=>by cases r with|cons a t=>cases a;rw[b_.strs t];rfl
theorem Af:PE X e (λ_ _ _=>False):=λ_ _ _ _ _ _ h=>h.elim
theorem jb{op}(h:VE X a δ d):VE X (.BoolOp op [a] pos) δ d:=.of (Vb ck) λB0 B σ H0 H Q f q=>h B0 B σ H0 H Q f q
theorem k8(h1:VE X a δ (.bool k1))(h2:k1=true->VE X (.BoolOp .And (b::rest) pos) δ (.bool k2)):VE X (.BoolOp .And (a::b::rest) pos) δ (.bool (k1&&k2)):=by
 cases k1 with
 |true=>refine .of (MV ck ck) λB0 B σ H0 H Q f q=>h1 B0 B σ H0 H _ f λv H1 c7 g r=>?_;cases r;exact#[true,Y,(h2 Y B0 B σ H1 c7 _ (f.grow g) λu H2 fA g2 r2=>q u H2 fA (g.trans g2) r2)]
 |false=>refine .of (MV ck Af) λB0 B σ H0 H Q f q=>h1 B0 B σ H0 H _ f λv H1 c7 g r=>?_;cases r;exact#[false,Y,(q _ H1 c7 g (.bl false))]
theorem sX(h1:VE X a δ (.bool k1))(h2:k1=false->VE X (.BoolOp .Or (b::rest) pos) δ (.bool k2)):VE X (.BoolOp .Or (a::b::rest) pos) δ (.bool (k1||k2)):=by
 cases k1 with
 |false=>refine .of (Ta ck ck) λB0 B σ H0 H Q f q=>h1 B0 B σ H0 H _ f λv H1 c7 g r=>?_;cases r;exact#[false,Y,(h2 Y B0 B σ H1 c7 _ (f.grow g) λu H2 fA g2 r2=>q u H2 fA (g.trans g2) r2)]
 |true=>refine .of (Ta ck Af) λB0 B σ H0 H Q f q=>h1 B0 B σ H0 H _ f λv H1 c7 g r=>?_;cases r;exact#[true,Y,(q _ H1 c7 g (.bl true))]
def rU:!Bool->Bool:=λl=>l.all id
theorem lQ(hc:X.calm=true):iY X (.builtin "all") (λxs H Q=>∃p bs,xs=[.ref p]/\jW X.K H p (bs.map V.bl)/\Q (.bl (rU bs)) H):=by
 intro pins s σ H xs us Q I r h;let#[p,bs,rfl,hq,q]:=h;let#[u,rfl,rx]:=vals1 r;cases rx;let#[its,rv,pl,hz]:=I.list hq;let hl:=rv.length;simp only[ae]at hl;refine call_all_walkS (nQ pl.isList ?_);let VZ:∀(i:Nat)v,its.toArray[i]?>>v->v=.bool _:=λi v hv=>by
  let M3:its[i]?>>v:=by simpa using hv
  let e:=rv.getD i;let e2:its.getD i rX=v:=by rw[aG,M3];rfl
  let hi:i<bs.length:=by let:=(aF.mp M3).1;omega
  let e3:(bs.map V.bl).getD i .non=.bl (bs.getD i false):=by rw[aG,ax,aG,ao hi];rfl
  rwa[e2,e3]at e
 refine#[_,_,_,_,_,_,_,λi=>bs.getD i false,Y,(Walks.list (by simp[I.ok.hd hc]) _ p (aX (aV pl.isList.choose_spec.1)) its.toArray).toS,#[#[_,bx _ Y,Y,Y],pl.isList.push _],?_,λs' hm=>?_]
 .intro i v Q' E' s' hv q';rw[VZ i v hv];exact gu q'
 .let ea:(cF its.toArray.size).all (λi=>bs.getD i false)=rU bs:=by
   rw[bC,<-hl];unfold rU;rw[e8,fk,fk];constructor
   .intro h x hx;let#[i,hi]:=ub.mp hx;let:=h i (cG.mpr (aF.mp hi).1);rwa[aG,hi]at this
   .intro h i hi;let hi:=cG.mp hi;rw[aG,ao hi];exact h _ (cN hi)
  rw[ea];let#[h',g',d',Cj,Xw]:=s';let eg:=hm.gens;let ed:=hm.drawn;let eo:=hm.os;subst eg;subst ed;subst eo;refine#[.bl _,H,I.kept λb o e=>hm.heap b o ?_ (aE _ e),Y,q];let:=aV e;simp;exact aX this
theorem b_.bls:∀{bs:!Bool}{xs:!V},b_ K H xs (bs.map .bool)->xs=bs.map V.bl
 | [],_,r=>by cases r;rfl
 |x::ss,_,r=>by cases r with|cons a t=>cases a;rw[b_.bls t];rfl
theorem wB{bs:!Bool}:pI K (λxs H Q=>∃p bs,xs=[.ref p]/\jW K H p (bs.map V.bl)/\Q (.bl (rU bs)) H) [.list (bs.map .bool)] (.bool (rU bs)):=λvs H0 H Q s r q=>by
 let#[v,rfl,r1]:=r.one;cases r1 with
 |lst hq rs=>let e:=rs.bls;subst e;exact#[_,bs,Y,s.seq hq,q _ _ _ (.refl s) (.bl _)]
theorem NR(hr:dB k X.A)(hs:E8 d2=true)(l1:Lay 20 d1)(l2:Lay 20 d2)(h1:VE X a δ d1)(h2:VE X b δ d2)(hm:behindInMarks .In b=false:=by with_unfolding_all rfl):VE X (.Compare a [.In] [b] pos) δ (.bool (lz d1 d2)):=vy (NB (E_ hr)) (VW hs l1 l2) h1 h2 hm
theorem NS(hr:dB k X.A)(l1:Lay 20 d1)(l2:Lay 20 d2)(h1:VE X a δ d1)(h2:VE X b δ d2):VE X (.Compare a [.NotEq] [b] pos) δ (.bool (not (cV d1 d2))):=vy (Nz (E_ hr)) (JV l1 l2) h1 h2 (eM _)
end
end L2
namespace L2
open PySem PySem.Spec PyProof.Rows PySem.Builtin PySem.Builtin.Str
variable{i n:Int}{ap:Pos}{K:aq}
section
def V0:V->!V->Hp->VK->Prop:=λx vs H Q=>∃z y,x=.str z/\vs=[.str y]/\(y.length==0)=false/\z.length+2<=sizeLine/\∀l,H l=none->Q (.ref l) (upd H l (.lst ((cU z y).map V.str)))
theorem wC:∀(l:!(O×Tok)),dJ ((l.map (·.1)).map V.str) (strValues l)
 | []=>.nil
 |(x,t)::l=>.cons #[t,Y] (wC l)
theorem split_len(hz:z.length+2<=sizeLine):(cU z y).length<=sizeLine/\(partsBetween z (occurrences z y 0 z.length (z.length+1)) y.length).length<=sizeLine:=by
 let e1:=Ex z y 0 z.length (z.length+1);let e2:(partsBetween z (occurrences z y 0 z.length (z.length+1)) y.length).length<=sizeLine:=by rw[yO];omega
 refine#[?_,e2];unfold cU;split
 .show 1<=sizeLine;omega
 .split
  .show 1<=sizeLine;omega
  .exact e2
theorem NT:Tq X "str.split" V0:=by
 intro pins s σ H x vs v us Q I rx rv h;let#[z,y,rfl,rfl,hy,hz,q]:=h;let#[t,rfl]:=rx;let#[u,rfl,ru]:=rv.one;let#[tu,rfl]:=ru;let#[sl,sp]:=split_len hz;let fin:∀(l:!(O×Tok))(k:Nat),l.map (·.1)=cU z y->EP X pins σ Q _ { s with heap:=s.heap.push { cls:=.type "list",data:=.seq (strValues l).toArray },toks:=k }:=λl k e=>by refine#[.ref s.heap.objs.size,_,I.laid (λb o e=>aE _ e) () (show iX X.prog X.w _ _ _ (.lst ((cU z y).map V.str)) from#[[ae]▸sl,strValues l,0,[<-e]▸wC l,bx _ Y]),Y,q _ (I.hok.fresh ())]
 cases h1:(decide (z.length<y.length)||decide (strKind z<strKind y)) with
 |true=>exact jq Bu (vh _ _ _) zK (yP _ _) (meets_str_split_cannot_occur z y t tu h1) (fin [(z,t)] s.toks (by unfold cU;rw[qQ3 h1];rfl))
 |false=>
  cases hf:(occurrences z y 0 z.length _).isEmpty with
  |true=>exact jq Bu (vh _ _ _) zK (yP _ _) (meets_str_split_not_found z y t tu h1 hy hf) (fin [(z,t)] s.toks (by unfold cU;rw[qQ2 (by rw[h1];decide),qQ3 hf];rfl))
  |false=>refine jq Bu (vh _ _ _) zK (yP _ _) (meets_str_split_sep z y t tu h1 hy hf () sp) ?_;rw[strsFrom_eq];exact fin (numbered s.toks _) _ ((numbered_texts _ _).trans (by unfold cU;rw[qQ2 (by rw[h1];decide),qQ2 (by rw[hf];decide)]))
def rJoin(K:aq):V->!V->Hp->VK->Prop:=λx vs H Q=>∃y p zs,x=.str y/\vs=[.ref p]/\(jW K H p (zs.map V.str)\/oC K H p (zs.map V.str))/\(zs.map (·.length)).sum+zs.length*y.length<=16777216/\Q (.str (dA y zs)) H
theorem Ag:∀{zs:!O}{us:!M},dJ (zs.map V.str) us->StrsAre us zs
 | [],_,r=>by cases r;exact .nil
 |z::zs,_,r=>by cases r with|cons a t=>let#[tk,rfl]:=a;exact .cons z tk (Ag t)
theorem Q7:Tq X "str.join" (rJoin X.K):=by
 intro pins s σ H x vs v us Q I rx rv h;let#[y,p,zs,rfl,rfl,hq,hz,q]:=h;let#[t,rfl]:=rx;let#[u,rfl,ru]:=rv.one;cases ru;let e:Txt.join y zs=dA y zs:=StrLaws.glued_eq_join y zs;rcases hq with hq|hq
 .let#[its,r,pl,_]:=I.list hq;exact join_list pl.isList ↑(Ag r) hz λt' k=>#[.str _,H,I.tok k,#[t',by rw[e]],q]
 .let#[its,r,pl,_]:=I.tuple hq;exact join_tuple pl ↑(Ag r) hz λt' k=>#[.str _,H,I.tok k,#[t',by rw[e]],q]
theorem BH:iY X (.type "int") (λxs H Q=>∃x n,xs=[.str x]/\intText? x>>n/\x.length<=640/\Q (.int n) H):=by intro pins s σ H xs us Q I r h;let#[x,n,rfl,hn,hl,q]:=h;let#[u,rfl,t,rfl]:=vals1 r;exact PySem.W.KIN.call_text hn hl #[.int n,H,I.tok _,#[_,Y],q]
def kB(x:O):Nat->O
 |0=>fZ
 |n+1=>x++kB x n
theorem JX(x:O):∀(n:Nat)(acc:Array Nat),(aW n x.cps).foldl (· ++ ·) acc=acc++(kB x n).cps
 |0,acc=>by show acc=acc ++ #[];simp
 |n+1,acc=>by rw[fu,lF,JX x n];show acc++x.cps++(kB x n).cps=acc++(x.cps++(kB x n).cps);rw[Array.append_assoc]
theorem JY(x:O):∀n,(kB x n).length=n*x.length
 |0=>by show(fZ).length=_;simp[fZ,Str.length]
 |n+1=>by show(x++kB x n).length=_;rw[cC,JY x n,GO,Nat.add_comm]
theorem Q8:uf X (binaryOp .Mult) (λx y H Q=>∃z n,x=.str z/\y=.int n/\0<=n/\n<=1000/\z.length<=1000/\Q (.str (kB z n.toNat)) H):=by
 intro pins s σ H x y v u Q I rx ry h;let#[z,n,rfl,rfl,h0,h1,hz,q]:=h;let#[t,rfl]:=rx;let#[t',rfl]:=ry;let h63:1000<2^63:=⋯;let e63:2^63=9223372036854775808:=⋯;refine PySem.P.mul_str (by rw[qQ0 (),qQ0 ()];rfl) (λha _=>?_) (λ_ _=>?_) ?_
 .let:(2^63-1)/n>=1000:=by rw[ge_iff_le,Int.le_ediv_iff_mul_le ()];omega
  omega
 .unfold tooLong;rw[qQ0];rw[dD];let:z.length*n.toNat<=1000*1000:=kG hz ();omega
 .by_cases hn:n<1
  .rw[qQ3 hn];let:n.toNat=0:=();rw[this]at q;exact#[⋯,.str _,H,I.tok _,#[_,Y],q]
  .rw[qQ2 hn];by_cases hc:(n==1||z.length==0)=true
   .rw[qQ3 hc];let e:kB z n.toNat=z:=by
     rw[Bj]at hc;rcases hc with hc|hc
     .let:n=1:=by simpa using hc
      subst this;cases z with|mk c=>show(#[c ++ #[]]:O)=#[c];simp
     .let hz0:z.length=0:=by simpa using hc
      let:z=fZ:=by cases z with|mk c=>simp[Str.length]at hz0;simp[fZ,hz0]
      subst this;let:∀m,kB fZ m=fZ:=by
       intro m;induction m with
       |zero=>rfl
       |succ m ih=>show fZ++kB fZ m=_;rw[ih];rfl
      exact this _
    rw[e]at q;exact#[.str _,H,I.tok _,#[_,Y],q]
   .rw[qQ2 hc];let e:(#[(aW n.toNat z.cps).foldl (· ++ ·) #[]])=kB z n.toNat:=by rw[JX];simp
    rw[e];refine#[?_,.str _,H,I.tok _,#[_,Y],q];rw[JY,dD];let:n.toNat*z.length<=1000*1000:=kG () hz;omega
def Its(x:O):It:=#[λi _=>i<x.cps.size,λi H v H'=>H'=H/\∃c,x.cps[i]?>>c/\v=.str #[(bQ [c])],λi _=>x.cps.size<=i]
theorem NV{P:bU}{w:c0}{tg:bY}(it:U)(x:O)(t:Tok){ty:String}(hty:ty="str_ascii_iterator"\/ty="str_iterator"):Turn P w K tg (Its x) [it] it (λi h=>h.IsStrIter it ty x t i) where
 mem:=∅
 obj:=λi h st b hb=>by
  let e:b=it:=by simpa using hb
  subst e;let#[o,e,c,d]:=st;exact#[o,e,λv z=>by rw[d]at z;cases z]
 keep:=λi h h' st k=>let#[o,e,r]:=st;#[o,k it ∅ o e,r]
 item:=by
  intro X hP hw hK hc i pins s σ H E I hf st hg;subst hP hw hK;let#[f0,f1,f2,f3,f4,f5]:=hf it ∅;let fin:∀v h' tk,SignAt x i v->h'.IsStrIter it ty x t (i+1)->(∀b o,b∉[it]->s.heap.get? b>>o->h'.get? b>>o)->∃u,some v>>u/\wpAny (model X.prog X.w) X.A (letOwnedTupleGo tg (.ref it) u) (λ_ s2=>∃y H',Inv X pins σ H' s2/\RelV y u/\(Its x).Ym i H y H'/\s2.heap.IsStrIter it ty x t (i+1)/\∀b∈[it],H' b=none) E { s with heap:=h',toks:=tk }:=by intro v h' tk hv yg kk;let#[c,u,hcu,rfl]:=hv;let I1:Inv X pins σ H { s with heap:=h',toks:=tk }:=I.turned (λb o hb e=>kk b o ↑hb e) f0 f1 f3 f4 f5;let#[o,e,cc,d]:=id yg;exact#[_,Y,EK e cc d (by rcases hty with rfl|rfl<;>decide) #[.str #[(bQ [c])],H,I1,#[u,Y],#[Y,c,hcu,Y],yg,λb hb=>(hf b hb).1]]
  rcases hty with rfl|rfl
  .exact(Walks.strAscii (I.ok.hd hc) it x t).item i s _ _ hg st λv h' tk hv yg kk=>fin v h' tk hv yg kk
  .exact(Walks.strWide (I.ok.hd hc) it x t).item i s _ _ hg st λv h' tk hv yg kk=>fin v h' tk hv yg kk
 done:=by
  intro X hP hw hK hc i pins s σ H E I hf st hg;subst hP hw hK;let#[f0,f1,f2,f3,f4,f5]:=hf it ∅;let hge:=hg;rcases hty with rfl|rfl
  .exact wpAny_pyNext_ascii_end (I.ok.hd hc) st (by simp;exact hge) λh' eb=>#[Y,I.turned (λb o hb e=>eb b o hb e) f0 f1 f3 f4 f5]
  .exact wpAny_pyNext_wide_end (I.ok.hd hc) st (by simp;exact hge) λh' eb=>#[Y,I.turned (λb o hb e=>eb b o hb e) f0 f1 f3 f4 f5]
 self:=λ_ _ _ _ _ st h=>by
  rcases hty with rfl|rfl
  .exact wpAny_pyIter_striter_ascii st h
  .exact wpAny_pyIter_striter_wide st h
def zdk(tl:TE):TI:=λσ H R=>tl σ H λv H1=>∃x,v=.str x/\R (Its x) H1
theorem V1(hl:PE X l tl):PI X tg l (zdk tl):=by
 intro pins s σ H R I h;refine gU (hl pins s σ H _ I h) λv s1 #[y,H1,I1,r1,q1]=>?_;let#[x,e,q]:=q1;subst e;let#[t,rfl]:=r1;let go:∀ty,(ty="str_ascii_iterator"\/ty="str_iterator")->∀o:Obj,o.cls=.type ty->o.data=.fields (bQ [.str x t,.int 0 0])->o.isFreed=false->PIE X pins σ tg R _ { s1 with heap:=s1.heap.push o }:=λty hty o c d fr=>
  #[s1.heap.objs.size,_,_,_,H1,Y,I1.kept λb o e=>aE _ e,NV _ x t hty,#[o,bx _ fr,c,d],λb hb=>by
   let e:b=s1.heap.objs.size:=by simpa using hb
   subst e;exact I1.zQ () (I1.hok.fresh ()),q];cases ha:x.cps.all (·<128)
 .exact wpAny_pyIter_wide ha (go "str_iterator" (.inr Y) _ Y Y Y)
 .exact wpAny_pyIter_ascii ha (go "str_ascii_iterator" (.inl Y) _ Y Y Y)
end
section
variable{X:Cx}{a b:bY}{δ:!Slot}{pos p:Pos}{x y z:O}
def sY(x:O):!J:=x.cps.toList.map λc=>.str #[(bQ [c])]
theorem V2(h:VE X a δ (.str x)):VI X tg a δ (sY x):=#[_,V1 ck,λB0 B σ H0 H R f q=>h B0 B σ H0 H _ f λv H1 c7 g r=>by
 cases r;let hl:(sY x).length=x.cps.size:=by unfold sY;rw[ae,cW]
 refine#[x,Y,q _ H1 c7 g λHa Hb s1 s2 i=>#[λhi=>(show i<x.cps.size by omega),λhi=>(show x.cps.size<=i by omega),λv Ez d hd #[e,c,hc,ev]=>?_]];subst e;subst ev;unfold sY at hd;rw[ax,nh,hc]at hd;cases hd;exact#[Ha,.refl s2,.str _]]
theorem odS(h:x.length+y.length<=sizeLine):B9 K (λx y H Q=>∃i j,x=.str i/\y=.str j/\i.length+j.length<=sizeLine/\Q (.str (i++j)) H) (.str x) (.str y) (.str (x++y)):=λv u H0 H Q s r1 r2 k=>by cases r1;cases r2;exact#[_,_,Y,Y,h,k _ _ _ (.refl s) (.str _)]
theorem iU(h1:VE X a δ (.str x))(h2:VE X b δ (.str y))(h:x.length+y.length<=sizeLine):VE X (.BinOp a .Add b pos) δ (.str (x++y)):=vv Hg (odS h) h1 h2
theorem V3(h0:0<=n)(h1:n<=1000)(hz:x.length<=1000):B9 K (λx y H Q=>∃z n,x=.str z/\y=.int n/\0<=n/\n<=1000/\z.length<=1000/\Q (.str (kB z n.toNat)) H) (.str x) (.int n) (.str (kB x n.toNat)):=λv u H0 H Q s r1 r2 k=>by cases r1;cases r2;exact#[_,_,Y,Y,h0,h1,hz,k _ _ _ (.refl s) (.str _)]
theorem JZ(h1:VE X a δ (.str x))(h2:VE X b δ (.int n))(h0:0<=n)(hn:n<=1000)(hz:x.length<=1000):VE X (.BinOp a .Mult b pos) δ (.str (kB x n.toNat)):=vv Q8 (V3 h0 hn hz) h1 h2
theorem Zc{c:Nat}(hz:x.length<=sizeLine)(h:uN x.cps.toList i>>c):B9 K (rIx K) (.str x) (.int i) (.str #[(bQ [c])]):=λv u H0 H Q s r1 r2 k=>by cases r1;cases r2;exact .inr (.inr #[x,i,c,Y,Y,hz,h,k _ _ _ (.refl s) (.str _)])
theorem DI(h1:VE X a δ (.str x))(h2:VE X b δ (.int i))(hz:x.length<=sizeLine)(h:uN x.cps.toList i>>c)(hs:n_ b:=by intro _ _;rfl):VE X (.Subscript a b pos) δ (.str #[(bQ [c])]):=HD xH (Zc hz h) h1 h2 hs
def Fh(x y:O):Bool:=not (occurrences y x 0 y.length 1).isEmpty
theorem Zd:B9 K (λx y H Q=>∃i j,x=.str i/\y=.str j/\Q (.bl (not (occurrences j i 0 j.length 1).isEmpty)) H) (.str x) (.str y) (.bool (Fh x y)):=λv u H0 H Q s r1 r2 k=>by cases r1;cases r2;exact#[_,_,Y,Y,k _ _ _ (.refl s) (.bl _)]
theorem V4(h1:VE X a δ (.str x))(h2:VE X b δ (.str y))(hm:behindInMarks .In b=false:=by with_unfolding_all rfl):VE X (.Compare a [.In] [b] pos) δ (.bool (Fh x y)):=vy KP Zd h1 h2 hm
theorem V5(hz:x.length<=sizeLine):pI K (λxs H Q=>∃z,xs=[.str z]/\z.length<=sizeLine/\Q (.int z.length) H) [.str x] (.int x.length):=λvs H0 H Q s r k=>by let#[v,rfl,r1]:=r.one;cases r1;exact#[x,Y,hz,k _ _ _ (.refl s) (.int _)]
theorem J0(h:VE X a δ (.str x))(hz:x.length<=sizeLine)(hm:X.mg "len"=none)(hg:Gl X "len":=by rfl)(hs:j8 X a []:=by rfl):VE X (.Call (.Name "len" p) [a] [] pos) δ (.int x.length):=gF Dy (V5 hz) (cR h cO hs) hm o8 hg (he:=hs)
theorem V6(h:i.natAbs.log2<1920):pI K (λxs H Q=>∃i,xs=[.int i]/\i.natAbs.log2<1920/\Q (.str (toString i)) H) [.int i] (.str (toString i)):=λvs H0 H Q s r k=>by let#[v,rfl,r1]:=r.one;cases r1;exact#[i,Y,h,k _ _ _ (.refl s) (.str _)]
theorem V7(h:intText? x>>n)(hl:x.length<=640):pI K (λxs H Q=>∃x n,xs=[.str x]/\intText? x>>n/\x.length<=640/\Q (.int n) H) [.str x] (.int n):=λvs H0 H Q s r k=>by let#[v,rfl,r1]:=r.one;cases r1;exact#[x,n,Y,h,hl,k _ _ _ (.refl s) (.int _)]
theorem uh(h:VE X a δ (.int i))(hl:i.natAbs.log2<1920)(hm:X.mg "str"=none)(hg:Gl X "str":=by rfl)(hs:j8 X a []:=by rfl):VE X (.Call (.Name "str" p) [a] [] pos) δ (.str (toString i)):=kz Ds (V6 hl) (cR h cO hs) hm Y hg (he:=hs)
theorem Q9(h:VE X a δ (.str x))(hn:intText? x>>n)(hl:x.length<=640)(hm:X.mg "int"=none)(hg:Gl X "int":=by rfl)(hs:j8 X a []:=by rfl):VE X (.Call (.Name "int" p) [a] [] pos) δ (.int n):=kz BH (V7 hn hl) (cR h cO hs) hm Y hg (he:=hs)
theorem sZ(h1:VE X a δ (.str x))(h2:VE X b δ (.str y))(hy:(y.length==0)=false)(hz:x.length+2<=sizeLine)
  (hs:j8 X b []:=by rfl)(gC:vn X a "split":=by rfl)
  (lN:GV X pos [b]:=by rfl)
  (hline:(ap.endLine==pos.line)=true:=by rfl)(fQ:qg X pos []:=by rfl):VO X (.Call (.Attribute a "split" ap) [b] [] pos) δ ((cU x y).map .str):=
 .of (pF Df PySem.F.slot_str_split PySem.F.type_str_split NT ck (cy ck dU hs) gC lN hline hs fQ) λB0 B σ H0 H Q f q=>h1 B0 B σ H0 H _ f λv H1 c7 g r1=>by
  cases r1;refine#[Y,h2 B0 B σ H1 c7 _ (f.grow g) λu H2 fA g2 r2=>?_];cases r2;refine#[x,y,Y,Y,hy,hz,λl hl=>?_];let gg:=g.trans g2;refine q l _ H2 _ (gg.trans (.loose g2.sub hl)) (gg.big.free hl) (g2.sub.free hl) aM ?_;let go:∀l:!O,b_ X.K H2 (l.map V.str) (l.map aN):=by
   intro l;induction l with
   |nil=>exact .nil
   |cons z l ih=>exact .cons (.str z) ih
  exact go _
theorem ui{zs:!O}(h1:VE X a δ (.str y))(h2:VE X b δ (.list (zs.map .str)))(hz:(zs.map (·.length)).sum+zs.length*y.length<=16777216)
  (hs:j8 X b []:=by rfl)(gC:vn X a "join":=by rfl)
  (lN:GV X pos [b]:=by rfl)
  (hline:(ap.endLine==pos.line)=true:=by rfl)(fQ:qg X pos []:=by rfl):VE X (.Call (.Attribute a "join" ap) [b] [] pos) δ (.str (dA y zs)):=
 .of (pF Df PySem.F.slot_str_join PySem.F.type_str_join Q7 ck (cy ck dU hs) gC lN hline hs fQ) λB0 B σ H0 H Q f q=>h1 B0 B σ H0 H _ f λv H1 c7 g r1=>by
  cases r1;refine#[Y,h2 B0 B σ H1 c7 _ (f.grow g) λu H2 fA g2 r2=>?_];cases r2 with
  |lst hq rs=>let e:=rs.strs;subst e;exact#[y,_,zs,Y,Y,.inl (g2.sub.seq hq),hz,q _ H2 fA (g.trans g2) (.str _)]
end
end L2
namespace L2
open PySem PySem.Spec PyProof.Rows
variable{a l l1 l2:U}{xs ys:Array M}{X:Cx}{h:dF}{H:Hp}{pins:!(U×Obj)}{elts:!bY}{ds:!J}{i:Nat}{d:Option J}{o:Option V}{tp:Pos}{K:aq}{s:aU}{x:M}
def iO(kvs:!(O×J)):J:=.dict (kvs.map λp=>(.str p.1,p.2))
def DJ(kvs:!((O×O)×J)):J:=.dict ((.none,.bool true)::kvs.map λp=>(.tuple [.str p.1.1,.str p.1.2],p.2))
def Q_(fs:!(O×J)):J:=.dict ((.none,.none)::fs.map λp=>(.str p.1,p.2))
def gJ{κ:Type}[DecidableEq κ](kvs:!(κ×J))(k:κ):Option J:=(kvs.find? λp=>decide (p.1=k)).map (·.2)
theorem fE{κ:Type}[DecidableEq κ]{p:κ×J}{r:!(κ×J)}{k:κ}(e:p.1=k):gJ (p::r) k>>p.2:=by simp[gJ,c9,e]
theorem cQ{κ:Type}[DecidableEq κ]{p:κ×J}{r:!(κ×J)}{k:κ}(e:¬p.1=k):gJ (p::r) k=gJ r k:=by simp[gJ,c9,e]
def Fj(K:aq)(H:Hp):Option V->Option J->Prop
 |none,none=>True
 |some v,some d=>Rep K H v d
 |_,_=>False
theorem Fj.some_of{d:J}(h:Fj K H o (some d)):∃v,o>>v/\Rep K H v d:=by
 cases o with
 |none=>exact h.elim
 |some v=>exact#[v,Y,h]
theorem Fj.isSome(h:Fj K H o d):o.isSome=d.isSome:=by cases o<;>cases d<;>first|rfl|exact h.elim
theorem Fj.getD{v:V}{e:J}(h:Fj K H o d)(r:Rep K H v e):Rep K H (o.getD v) (d.getD e):=by cases o<;>cases d<;>first|exact r|exact h|exact h.elim
section
variable{K:aq}{H:Hp}{v:V}
theorem Rep.nH{kvs:!(O×J)}(r:Rep K H v (iO kvs)):∃a ws,v=.ref a/\H a>>(.dK ws)/\ws.map (·.1)=kvs.map (λp=>(aL p.1:Key))/\b_ K H (ws.map (·.2)) (kvs.map (·.2)):=by
 unfold iO at r;generalize e:kvs.map (λp=>(aN p.1,p.2))=ds at r;cases r with
 |dct h k t=>
  rename_i a ws
  refine#[a,ws,Y,h,?_,?_]
  .let k2:ws.map (λp=>k6 p.1)=kvs.map λp=>aN p.1:=by rw[<-k,<-e,aj];rfl
   clear k t h e;induction ws generalizing kvs with
   |nil=>cases kvs with|nil=>rfl|cons p l=>simp at k2
   |cons q ws ih=>
    cases kvs with
    |nil=>simp at k2
    |cons p l=>
     rw[av,av]at k2 ⊢;injection k2 with h1 h2
     rw[ih h2]
     congr 1
     cases eq:q.1 with
     |inl i=>rw[eq]at h1;cases h1
     |inr x=>rw[eq]at h1;injection h1 with h1;rw[h1]
  .rwa[<-e,aj]at t
 |Tt _ _ _=>cases kvs with|nil=>simp at e|cons p l=>simp at e
 |obj _ _ _ _ _=>cases kvs with|nil=>simp at e|cons p l=>simp at e
 |VL _ _ _ _ _=>cases kvs with|nil=>simp at e|cons p l=>simp at e
 |QY _ _ _=>cases kvs with|nil=>simp at e|cons p l=>simp at e
theorem vA:∀{kvs:!(O×J)}{ws:!(Key×V)},ws.map (·.1)=kvs.map (λp=>(aL p.1:Key))->b_ K H (ws.map (·.2)) (kvs.map (·.2))->∀k,Fj K H (gD ws (aL k)) (gJ kvs k)
 | [],ws,e,_,k=>by
  let:ws=[]:=by simpa using e
  subst this;exact fY
 |p::kvs,ws,e,r,k=>by
  cases ws with
  |nil=>simp at e
  |cons q ws=>
   rw[av,av]at e r;injection e with e1 e2
   cases r with
   |cons r1 r2=>
    by_cases h:p.1=k
    .rwa[fE h,kQ (by rw[e1,h])]
    .rw[cQ h,jA (λz=>h (by rw[e1]at z;injection z))];exact vA e2 r2 k
def vB(p:O×O):!Key:=[.inr p.1,.inr p.2]
theorem Ah(e:vB p=vB q):p=q:=by
 injection e with e1 e2
 injection e2 with e2 _
 injection e1 with e1
 injection e2 with e2
 exact Prod.ext e1 e2
theorem Rep.Fk{kvs:!((O×O)×J)}(r:Rep K H v (DJ kvs)):∃a ws,v=.ref a/\H a>>(.dT ws)/\ws.map (·.1)=kvs.map (λp=>vB p.1)/\b_ K H (ws.map (·.2)) (kvs.map (·.2)):=by
 unfold DJ at r;generalize e:kvs.map (λp=>(fH [.str p.1.1,.str p.1.2],p.2))=ds at r;cases r with
 |dct h k t=>
  rename_i a ws
  exfalso;cases ws with
  |nil=>simp at k
  |cons q ws=>
   rw[av,av]at k;injection k with k1 _
   cases eq:q.1 with
   |inl i=>rw[eq]at k1;cases k1
   |inr x=>rw[eq]at k1;cases k1
 |Tt h k t=>
  rename_i a ws
  refine#[a,ws,Y,h,?_,?_]
  .let k2:ws.map (λp=>fH (p.1.map k6))=kvs.map λp=>fH [.str p.1.1,.str p.1.2]:=by rw[<-k,<-e,aj];rfl
   clear k t h e;induction ws generalizing kvs with
   |nil=>cases kvs with|nil=>rfl|cons p l=>simp at k2
   |cons q ws ih=>
    cases kvs with
    |nil=>simp at k2
    |cons p l=>
     rw[av,av]at k2 ⊢;injection k2 with h1 h2
     rw[ih h2]
     congr 1
     injection h1 with h1
     let one:∀(k:Key)(x:O),k6 k=.str x->k=.inr x:=λk x h=>by
      cases k with
      |inl i=>cases h
      |inr y=>injection h with h;rw[h]
     cases e0:q.1 with
     |nil=>rw[e0]at h1;cases h1
     |cons k1 l1=>
      rw[e0]at h1;injection h1 with g1 g2
      cases l1 with
      |nil=>cases g2
      |cons k2 l2=>
       injection g2 with g2 g3
       let:l2=[]:=by simpa using g3
       subst this;rw[one k1 _ g1,one k2 _ g2];rfl
  .rwa[<-e,aj]at t
theorem HM:∀{kvs:!((O×O)×J)}{ws:!(!Key×V)},ws.map (·.1)=kvs.map (λp=>vB p.1)->b_ K H (ws.map (·.2)) (kvs.map (·.2))->∀k,Fj K H (gD ws (vB k)) (gJ kvs k)
 | [],ws,e,_,k=>by
  let:ws=[]:=by simpa using e
  subst this;exact fY
 |p::kvs,ws,e,r,k=>by
  cases ws with
  |nil=>simp at e
  |cons q ws=>
   rw[av,av]at e r;injection e with e1 e2
   cases r with
   |cons r1 r2=>
    by_cases h:p.1=k
    .rwa[fE h,kQ (by rw[e1,h])]
    .rw[cQ h,jA (λz=>h (Ah (e1.symm.trans z)))];exact HM e2 r2 k
theorem Rep.NW{fs:!(O×J)}(r:Rep K H v (Q_ fs)):∃a C dx ws,v=.ref a/\H a>>(.ins C dx ws)/\uM K C/\(∀f∈ws.map (·.1),gw K C f)/\ws.map (·.1)=fs.map (·.1)/\b_ K H (ws.map (·.2)) (fs.map (·.2)):=by
 unfold Q_ at r;generalize e:fs.map (λp=>(aN p.1,p.2))=ds at r;cases r with
 |dct h k t=>
  rename_i a ws
  exfalso;cases ws with
  |nil=>simp at k
  |cons q ws=>
   rw[av,av]at k;injection k with k1 _
   cases eq:q.1 with
   |inl i=>rw[eq]at k1;cases k1
   |inr x=>rw[eq]at k1;cases k1
 |obj h c nn k t=>
  rename_i a C dx ws
  refine#[a,C,dx,ws,Y,h,c,nn,?_,?_]
  .let k2:ws.map (λp=>aN p.1)=fs.map λp=>aN p.1:=by rw[<-k,<-e,aj];rfl
   clear k t h e nn;induction ws generalizing fs with
   |nil=>cases fs with|nil=>rfl|cons p l=>simp at k2
   |cons q ws ih=>
    cases fs with
    |nil=>simp at k2
    |cons p l=>
     rw[av,av]at k2 ⊢;injection k2 with h1 h2
     injection h1 with h1
     rw[ih h2,h1]
  .rwa[<-e,aj]at t
theorem HN:∀{fs:!(O×J)}{ws:!(O×V)},ws.map (·.1)=fs.map (·.1)->b_ K H (ws.map (·.2)) (fs.map (·.2))->∀k d,gJ fs k>>d->∃u,ws.lookup k>>u/\k∈ws.map (·.1)/\Rep K H u d
 | [],ws,e,_,k,d,h=>by cases h
 |p::fs,ws,e,r,k,d,h=>by
  cases ws with
  |nil=>simp at e
  |cons q ws=>
   let#[q1,q2]:=q;injection e with e1 e2
   let e1:q1=p.1:=e1;cases r with
   |cons r1 r2=>
    by_cases hk:p.1=k
    .rw[fE hk]at h;cases h;refine#[q2,?_,?_,r1]
     .rw[d_,e1,hk];simp
     .rw[av,e1,hk];exact aJ
    .rw[cQ hk]at h;let#[u,h1,h2,h3]:=HN e2 r2 k d h;refine#[u,?_,ay _ h2,h3];rw[d_];let:(k==q1)=false:=by rw[beq_eq_false_iff_ne,e1];exact λz=>hk z.symm
     rwa[this]
end
section
variable{X:Cx}{a b c e:bY}{δ:!Slot}{d:J}{pos ap:Pos}{k:Nat}{kvs fs:!(O×J)}{tvs:!((O×O)×J)}{x y:O}
theorem yZ(hr:dB k X.A):X.A.units+1<cLine:=by let:=hr.un;omega
theorem lR{f:O}(h:VE X a δ (Q_ fs))(hf:gJ fs f>>d)(hb:vn X a f:=by rfl):VE X (.Attribute a f pos) δ d:=
 .of (mU ck hb) λB0 B σ H0 H Q fr q=>h B0 B σ H0 H _ fr λv H1 c7 g r=>by let#[p,C,dx,ws,rfl,hp,cl,nn,ke,rs]:=r.NW;let#[u,h1,h2,h3]:=HN ke rs f d hf;exact#[p,C,dx,ws,u,Y,g.sub _ _ hp,cl,nn f h2,h1,q u H1 c7 g h3]
theorem cJ(hr:dB k X.A)(h1:VE X a δ (iO kvs))(h2:VE X b δ (.str x))(hx:gJ kvs x>>d)(hs:yV b:=by intro _ _;rfl):VE X (.Subscript a b pos) δ d:=
 .of (og (yZ hr) ck ck hs) λB0 B σ H0 H Q fr q=>h1 B0 B σ H0 H _ fr λv H1 c7 g r=>h2 B0 B σ H1 c7 _ (fr.grow g) λu H2 fA g2 r2=>by let#[p,ws,rfl,hp,ke,rs]:=r.nH;cases r2;let o:=vA ke rs x;rw[hx]at o;let#[w,hw,vY]:=o.some_of;refine#[p,w,Y,?_,q w H2 fA (g.trans g2) (vY.mono g2.eV)];rw[<-hw];exact mH.k (k:=.inr x) (g2.sub _ _ (g2.eV _ _ hp))
theorem HP(hr:dB k X.A)(h2:VE X b δ (.str x))(h1:VE X a δ (iO kvs))(hm:behindInMarks .In a=false:=by with_unfolding_all rfl):VE X (.Compare b [.In] [a] pos) δ (.bool (gJ kvs x).isSome):=
 .of (Dp (Nj (yZ hr) ck ck) hm) λB0 B σ H0 H Q fr q=>h2 B0 B σ H0 H _ fr λu H1 c7 g r2=>h1 B0 B σ H1 c7 _ (fr.grow g) λv H2 fA g2 r=>by let#[p,ws,rfl,hp,ke,rs]:=r.nH;cases r2;refine#[p,_,Y,mH.k (k:=.inr x) (g2.sub _ _ hp),q _ H2 fA (g.trans g2) ?_];rw[(vA ke rs x).isSome];exact .bl _
theorem Lf(hr:dB k X.A)(h2:VE X b δ (.str x))(h1:VE X a δ (iO kvs))(hm:behindInMarks .NotIn a=false:=by with_unfolding_all rfl):VE X (.Compare b [.NotIn] [a] pos) δ (.bool (not (gJ kvs x).isSome)):=
 .of (Dp (ug (yZ hr) ck ck) hm) λB0 B σ H0 H Q fr q=>h2 B0 B σ H0 H _ fr λu H1 c7 g r2=>h1 B0 B σ H1 c7 _ (fr.grow g) λv H2 fA g2 r=>by let#[p,ws,rfl,hp,ke,rs]:=r.nH;cases r2;refine#[p,_,Y,mH.k (k:=.inr x) (g2.sub _ _ hp),q _ H2 fA (g.trans g2) ?_];rw[(vA ke rs x).isSome];exact .bl _
theorem Ck(hr:dB k X.A)(h2:VE X b δ (.str x))(h1:VE X a δ (iO kvs))(hm:behindInMarks .NotIn a=false:=by with_unfolding_all rfl):VT X (.Compare b [.NotIn] [a] pos) δ (not (gJ kvs x).isSome):=
 .of (GW (ug (yZ hr) ck ck) hm) λB0 B σ H0 H Q fr q=>h2 B0 B σ H0 H _ fr λu H1 c7 g r2=>h1 B0 B σ H1 c7 _ (fr.grow g) λv H2 fA g2 r=>by let#[p,ws,rfl,hp,ke,rs]:=r.nH;cases r2;refine#[p,_,Y,mH.k (k:=.inr x) (g2.sub _ _ hp),_,Y,?_];rw[(vA ke rs x).isSome];exact q H2 fA (g.trans g2)
theorem Ra{x1}(hr:dB k X.A)(h1:VE X a δ (.str x))(h2:VE X b δ (.str y))(h3:VE X c δ (DJ tvs))(hm:behindInMarks .In c=false:=by with_unfolding_all rfl)
  (hs:j8 X a [b]:=by rfl)(pZ:j8 X b []:=by rfl):VE X (.Compare (.Tuple [a,b] x1 tp) [.In] [c] pos) δ (.bool (gJ tvs (x,y)).isSome):=
 .of (Dp (Nj (yZ hr) (sI (cy ck (cy ck dU pZ) hs)) ck) hm) λB0 B σ H0 H Q fr q=>h1 B0 B σ H0 H _ fr λv H1 c7 g r1=>h2 B0 B σ H1 c7 _ (fr.grow g) λu H2 fA g2 r2=>by cases r1;cases r2;refine#[by show 2<=sizeLine;rw[dD];decide,λt ht=>?_];let g3:=(g.trans g2).trans (cP.loose (o:=HO.tup [.str x,.str y]) g2.sub ht);refine h3 B0 B σ H2 _ _ (fr.grow g3) λv H4 Ze g4 r=>?_;let#[p,ws,rfl,hp,ke,rs]:=r.Fk;refine#[p,_,Y,mH.t (k:=vB (x,y)) (g4.sub _ _ hp) (g4.big _ _ aM),q _ H4 Ze (g3.trans g4) ?_];rw[(HM ke rs (x,y)).isSome];exact .bl _
theorem Cm{x1}(hr:dB k X.A)(h3:VE X c δ (DJ tvs))(h1:VE X a δ (.str x))(h2:VE X b δ (.str y))(h4:VE X e δ d)(m:M2 X c "get" ap (.Tuple [a,b] x1 tp) e pos:=by exact#[rfl,rfl,rfl,rfl])
  (hs:j8 X a [b]:=by rfl)(pZ:j8 X b []:=by rfl):VE X (.Call (.Attribute c "get" ap) [.Tuple [a,b] x1 tp,e] [] pos) δ ((gJ tvs (x,y)).getD d):=
 .of (E5 (yZ hr) ck (sI (cy ck (cy ck dU pZ) hs)) ck m) λB0 B σ H0 H Q fr q=>h3 B0 B σ H0 H _ fr λv H1 c7 g r=>by let#[p,ws,rfl,hp,ke,rs]:=r.Fk;refine#[p,Y,.inr #[ws,.inl (g.sub _ _ hp)],?_];refine h1 B0 B σ H1 c7 _ (fr.grow g) λv H2 fA g2 r1=>h2 B0 B σ H2 fA _ ((fr.grow g).grow g2) λu H3 uD g3 r2=>?_;cases r1;cases r2;refine#[by show 2<=sizeLine;rw[dD];decide,λt ht=>?_];let g4:=g3.trans (cP.loose (o:=HO.tup [.str x,.str y]) g3.sub ht);refine h4 B0 B σ H3 _ _ (((fr.grow g).grow g2).grow g4) λw H5 TJ g5 r5=>?_;let gg:=(g2.trans g4).trans g5;exact#[_,mH.t (k:=vB (x,y)) (gg.big _ _ (g.sub _ _ hp)) (g5.big _ _ aM),q _ H5 TJ (g.trans gg) (((HM ke (rs.mono gg.eV) (x,y))).getD r5)]
end
section
theorem HQ(hit:s.heap.IsTupleIter it l i)(hl:s.heap.IsTuple l items)(hx:items[i]?>>x)
  (hQ:∀h',h'.IsTupleIter it l (i+1)->iJ it s.heap h'->Q x { s with heap:=h' }):wpAny (model prog w) A (jt (.ref it)) Q E s:=by let#[o,ho,hc,hd]:=_root_.id hit;let#[ol,Qh,HR,nl,NX]:=hl;refine aA (jI hit.typeIs kM (lE kM hit.typeIs Ey ?_ (Dg _)));show wpAny _ _ (field _ 0 >>= _) _ _ s;refine aA (fX ho hd Y ?_);refine aA (fX ho hd Y ?_);refine aA (iF Qh NX ?_);simp[fF,hx];refine aA (wpAny_setField ho hd ∅ (bf #[x,Y,bf (hQ _ ?_ (Bv ..))]));refine#[_,dF.get?_update_self _ ho (Obj.isFreed_of_fields (Obj.data_mapFields hd _)),(Obj.cls_mapFields ..).trans hc,?_];rw[Obj.data_mapFields hd];simp[rawInt]
theorem Lg(hh:A.handled=none)(hit:s.heap.IsTupleIter it l i)(hl:s.heap.IsTuple l items)(hx:items[i]?=none)
  (hE:∀h' e,dF.ExtBut it s.heap h'->(∃o,h'.get? e>>o/\o.cls=.type "StopIteration")->E (.ref e) { s with heap:=h' }):wpAny (model prog w) A (jt (.ref it)) Q E s:=by
 let#[o,ho,hc,hd]:=_root_.id hit;let#[ol,Qh,HR,nl,NX]:=hl;refine aA (jI hit.typeIs kM (lE kM hit.typeIs Ey ?_ (Dg _)));show wpAny _ _ (field _ 0 >>= _) _ _ s;refine aA (fX ho hd (x:=.ref l) Y ?_);refine aA (fX ho hd Y ?_);refine aA (iF Qh NX ?_);simp[fF,hx];refine aA (vf (aA (wpAny_setField ho hd ∅ ?_)));refine aA ?_;refine aA (gv ?_ (by size_fits));refine aA (wpAny_of_eq (by first|rfl|(simp;rfl)) ?_);refine gv ?_ (by size_fits);simp only[raiseNew];refine aA (wpAny_handled ?_)
 first|rw[show A.in1.handled=none from hh]|rw[hh]
 exact aA (bf (wpAny_throw (hE _ _ (((Bv ..).extBut.push _).push _) #[_,bx _ Y,Y])))
end
inductive HS where|lst|tup
variable{k k1 k2:HS}
def ri(k:HS)(h:dF)(l:U)(xs:Array M):Prop:=match k with | .lst=>h.IsList l xs | .tup=>h.IsTuple l xs
def xN(k:HS)(h:dF)(i l:U)(n:Nat):Prop:=match k with | .lst=>h.IsListIter i l n | .tup=>h.IsTupleIter i l n
theorem xN.at{h': dF}{i: U}{n:Nat}(x:xN k h i l n)(e:∀o,h.get? i>>o->h'.get? i>>o):xN k h' i l n:=by
 cases k with
 |lst=>let#[o,a,r]:=x;exact(#[o,e o a,r])
 |tup=>let#[o,a,r]:=x;exact(#[o,e o a,r])
theorem ri.at(x:ri k h l xs)(e:∀o,h.get? l>>o->h'.get? l>>o):ri k h' l xs:=by
 cases k with
 |lst=>let#[o,a,r]:=x;exact(#[o,e o a,r])
 |tup=>let#[o,a,r]:=x;exact(#[o,e o a,r])
theorem xN.get{i: U}{n:Nat}(x:xN k h i l n):∃o,h.get? i>>o/\∀v,o.data≠.cell v:=by
 cases k with
 |lst=>let#[o,a,_,d]:=x;exact#[o,a,λv z=>by rw[d]at z;cases z]
 |tup=>let#[o,a,_,d]:=x;exact#[o,a,λv z=>by rw[d]at z;cases z]
theorem ri.get(x:ri k h l xs):∃o,h.get? l>>o:=by
 cases k with
 |lst=>let#[o,a,_]:=x;exact#[o,a]
 |tup=>let#[o,a,_]:=x;exact#[o,a]
section
variable{prog:bU}{w:c0}{A:jm}{E:M->aU->Prop}{s:aU}
theorem next_item(hit:xN k s.heap it l i)(hl:ri k s.heap l items)(hx:items[i]?>>x)
  (hQ:∀h',xN k h' it l (i+1)->iJ it s.heap h'->Q x { s with heap:=h' }):wpAny (model prog w) A (jt (.ref it)) Q E s:=by
 cases k with
 |lst=>exact wpAny_nextOf_list_item hit hl hx hQ
 |tup=>exact HQ hit hl hx hQ
theorem next_end(hh:A.handled=none)(hit:xN k s.heap it l i)(hl:ri k s.heap l items)(hx:items[i]?=none)
  (hE:∀h' e,dF.ExtBut it s.heap h'->(∃o,h'.get? e>>o/\o.cls=.type "StopIteration")->E (.ref e) { s with heap:=h' }):wpAny (model prog w) A (jt (.ref it)) Q E s:=by
 cases k with
 |lst=>exact wpAny_nextOf_list_end hh hit hl hx hE
 |tup=>exact Lg hh hit hl hx hE
structure Zp(k1 k2:HS)(h:dF)(z TI TO i1 i2 l1 l2:U)(f0:M)(a b:M)(n1 n2:Nat)(xs ys:Array M):Prop where
 hz:IsZip h z TI TO f0
 hTI:GQ h TI (.ref i1) (.ref i2)
 hTO:GQ h TO a b
 h1:xN k1 h i1 l1 n1
 h2:xN k2 h i2 l2 n2
 s1:ri k1 h l1 xs
 s2:ri k2 h l2 ys
theorem Lh{z TI TO i1 i2: U}{n1 n2:Nat}{y a b: M}{Q:Option M->aU->Prop}(D:ZipApart z TI TO i1 i2 l1 l2)(Za:Zp k1 k2 s.heap z TI TO i1 i2 l1 l2 .none a b n1 n2 xs ys)(hx:xs[n1]?>>x)(hy:ys[n2]?>>y)
  (hQ:∀h',Zp k1 k2 h' z TI TO i1 i2 l1 l2 (rawInt s.heap.objs.size) x y (n1+1) (n2+1) xs ys->GQ h' s.heap.objs.size x y->(∀c o,c≠z->c≠TO->c≠i1->c≠i2->s.heap.get? c>>o->h'.get? c>>o)->Q (some (.ref s.heap.objs.size)) { s with heap:=h' }):
  wpAny (model prog w) A (pyNext (.ref z)) Q E s:=by
 let#[hz,hTI,hTO,h1,h2,s1,s2]:=Za;let hT:s.TypeIs (.ref z) "zip":=#[_,hz,Y];unfold pyNext;refine aA (wpAny_attempt (jI hT uL (lE uL hT F.entry_zip_next ?_ (F.args_zip_next_1 _))));show wpAny _ _ (field (.ref z) 2 >>= _) _ _ _;refine aA (fX hz Y Y ?_);refine aA (fX hz Y Y (aA (iF hTI Y ?_)));refine aA ?_;refine aA (fX hz Y Y (bf ?_));simp only[if_true];refine aA (vf (aA (fX hz Y Y (aA (j0 hz ∅ λha TK sa=>?_)))));replace TK:IsZip ha z TI TO .ellipsis:=TK;refine aA ?_;refine aA (aA (zl ?_));refine aA (next_item (h1.at λo e=>sa.extBut _ o D.i1z e) (s1.at λo e=>sa.extBut _ o D.l1z e) hx λhb h1b sb=>bf ?_);let tb:=sb.extBut _ _ D.TOi1 (sa.extBut _ _ D.TOz hTO);refine aA (iF tb Y (aA (xx tb λhc tc sc=>?_)));replace tc:GQ hc TO x b:=tc;refine aA (wpAny_letGo (bf (aA (aA (zl ?_)))));refine aA (next_item (h2.at λo e=>sc.extBut _ o D.TOi2.symm (sb.extBut _ o D.i12.symm (sa.extBut _ o D.i2z e))) (s2.at λo e=>sc.extBut _ o D.l2TO (sb.extBut _ o D.l2i1 (sa.extBut _ o D.l2z e))) hy λhd h2d sd=>bf ?_);let td:=sd.extBut _ _ D.TOi2 tc;refine aA (iF td Y (aA (xx td λhe te se=>?_)));replace te:GQ he TO x y:=te;refine aA (wpAny_letGo (bf (bf (aA (iF te Y (aA (wpAny_newTuple ?_)))))));let yT:he.objs.size=s.heap.objs.size:=by rw[se.1,sd.1,sc.1,sb.1,sa.1]
 let kp:∀c o,c≠z->c≠TO->c≠i1->c≠i2->s.heap.get? c>>o->he.get? c>>o:=λc o c1 c2 c3 c4 e=>se.extBut _ _ c2 (sd.extBut _ _ c4 (sc.extBut _ _ c2 (sb.extBut _ _ c3 (sa.extBut _ _ c1 e))));let ze:=se.extBut _ _ D.TOz.symm (sd.extBut _ _ D.i2z.symm (sc.extBut _ _ D.TOz.symm (sb.extBut _ _ D.i1z.symm TK)));let h1e:=h1b.at λo e=>se.extBut _ o D.TOi1.symm (sd.extBut _ o D.i12 (sc.extBut _ o D.TOi1.symm e));refine aA ?_;let zf:IsZip (he.push { cls:=.type "tuple",data:=.seq (bQ [x,y]) }) z TI TO .ellipsis:=aE _ ze;refine aA (j0 zf ∅ λhg zg sg=>?_);replace zg:IsZip hg z TI TO (rawInt he.objs.size):=zg;refine j0 zg ∅ λhi zi si=>?_;replace zi:IsZip hi z TI TO (rawInt he.objs.size):=zi;let up:∀c o,c≠z->he.get? c>>o->hi.get? c>>o:=λc o c1 e=>si.extBut _ _ c1 (sg.extBut _ _ c1 (aE _ e));let ti:=si.extBut _ _ (gI (aV ze)) (sg.extBut _ _ (gI (aV ze)) (bx _ Y));rw[yT]at zi ti;refine bf #[_,Y,?_];rw[yT];refine bf (hQ hi #[zi,up _ _ D.TIz (kp _ _ D.TIz D.TITO D.TIi1 D.TIi2 hTI),up _ _ D.TOz te,h1e.at λo e=>up _ o D.i1z e,(h2d.at λo e=>se.extBut _ o D.TOi2.symm e).at λo e=>up _ o D.i2z e,s1.at λo e=>up _ o D.l1z (kp _ o D.l1z D.l1TO D.l1i1 D.l1i2 e),s2.at λo e=>up _ o D.l2z (kp _ o D.l2z D.l2TO D.l2i1 D.l2i2 e)] ti λc o c1 c2 c3 c4 e=>up c o c1 (kp c o c1 c2 c3 c4 e))
theorem NZ{z TI TO i1 i2: U}{n1 n2:Nat}{a b:M}{Q:Option M->aU->Prop}(hh:A.handled=none)(D:ZipApart z TI TO i1 i2 l1 l2)(Za:Zp k1 k2 s.heap z TI TO i1 i2 l1 l2 .none a b n1 n2 xs ys)(Rb:xs[n1]?=none\/ys[n2]?=none)
  (hQ:∀h',(∀c o,c≠z->c≠TO->c≠i1->c≠i2->s.heap.get? c>>o->h'.get? c>>o)->Q none { s with heap:=h' }):wpAny (model prog w) A (pyNext (.ref z)) Q E s:=by
 let#[hz,hTI,hTO,h1,h2,s1,s2]:=Za;let hT:s.TypeIs (.ref z) "zip":=#[_,hz,Y];let fin:∀h' e,(∀c o,c≠z->c≠TO->c≠i1->c≠i2->s.heap.get? c>>o->h'.get? c>>o)->(∃o,h'.get? e>>o/\o.cls=.type "StopIteration")->wpAny (model prog w) A (do if <-isInstance (.ref e) (.type "StopIteration")then pure none else throw (.ref e)) Q E { s with heap:=h' }:=by intro h' e hk #[o,ho,hc];exact aA (wpAny_isInstance #[o,ho,hc] isSubtype_stop (bf (hQ _ hk)))
 refine aA (wpAny_attempt (jI hT uL (lE uL hT F.entry_zip_next ?_ (F.args_zip_next_1 _))));show wpAny _ _ (field _ 2 >>= _) _ _ _;refine aA (fX hz Y Y ?_);refine aA (fX hz Y Y (aA (iF hTI Y ?_)));refine aA ?_;refine aA (fX hz Y Y (bf ?_));simp only[if_true];refine aA (vf (aA (fX hz Y Y (aA (j0 hz ∅ λha TK sa=>?_)))));replace TK:IsZip ha z TI TO .ellipsis:=TK;refine aA ?_;refine aA (aA (zl ?_));cases hx:xs[n1]? with
 |none=>
  refine aA (next_end hh (h1.at λo e=>sa.extBut _ o D.i1z e) (s1.at λo e=>sa.extBut _ o D.l1z e) hx λhb e sb he=>?_);let#[oe,V8,Zf]:=he;let zb:=sb _ _ D.i1z.symm TK;let ne:e≠z:=λx=>by subst x;rw[zb]at V8;cases V8;simp at Zf
  exact j0 zb ∅ λhc _ sc=>fin hc e (λc o c1 _ c3 _ x=>sc.extBut _ _ c1 (sb _ _ c3 (sa.extBut _ _ c1 x))) #[oe,sc.extBut _ _ ne V8,Zf]
 |some x=>
  let hy:ys[n2]?=none:=by
   rcases Rb with h|h
   .rw[hx]at h;cases h
   .exact h
  refine aA (next_item (h1.at λo e=>sa.extBut _ o D.i1z e) (s1.at λo e=>sa.extBut _ o D.l1z e) hx λhb h1b sb=>bf ?_);let tb:=sb.extBut _ _ D.TOi1 (sa.extBut _ _ D.TOz hTO);refine aA (iF tb Y (aA (xx tb λhc tc sc=>?_)));refine aA (wpAny_letGo (bf (aA (aA (zl ?_)))));refine aA (next_end hh (h2.at λo e=>sc.extBut _ o D.TOi2.symm (sb.extBut _ o D.i12.symm (sa.extBut _ o D.i2z e))) (s2.at λo e=>sc.extBut _ o D.l2TO (sb.extBut _ o D.l2i1 (sa.extBut _ o D.l2z e))) hy λhd e sd he=>?_);let#[oe,V8,Zf]:=he;let zd:=sd _ _ D.i2z.symm (sc.extBut _ _ D.TOz.symm (sb.extBut _ _ D.i1z.symm TK));let ne:e≠z:=λx=>by subst x;rw[zd]at V8;cases V8;simp at Zf
  exact j0 zd ∅ λhg _ sg=>fin hg e (λc o c1 c2 c3 c4 x=>sg.extBut _ _ c1 (sd _ _ c4 (sc.extBut _ _ c2 (sb.extBut _ _ c3 (sa.extBut _ _ c1 x))))) #[oe,sg.extBut _ _ ne V8,Zf]
def tf(k:HS)(l:U):Obj:=match k with | .lst=>{ cls:=.type "list_iterator",data:=.fields (bQ [.ref l,.int 0 0]) } | .tup=>{ cls:=.type "tuple_iterator",data:=.fields (bQ [.ref l,.int 0 0]) }
theorem J1(hl:ri k s.heap l xs)(h:Q (.ref s.heap.objs.size) { s with heap:=s.heap.push (tf k l) }):wpAny (model prog w) A (pyIter (.ref l)) Q E s:=by
 cases k with
 |lst=>exact nQ hl h
 |tup=>exact zJ hl h
def HV(k1 k2:HS)(h:dF)(l1 l2:U):dF:=(h.push (tf k1 l1)).push (tf k2 l2)
def zH5(k1 k2:HS)(h:dF)(l1 l2:U):dF:=(((HV k1 k2 h l1 l2).push { cls:=.type "tuple",data:=.seq (bQ [.ref h.objs.size,.ref (h.push (tf k1 l1)).objs.size]) }).push { cls:=.type "tuple",data:=.seq (bQ [.none,.none]) }).push
 { cls:=.type "zip",data:=.fields (bQ [.none,.bool false,.bool false,.ref (HV k1 k2 h l1 l2).objs.size,.ref ((HV k1 k2 h l1 l2).push { cls:=.type "tuple",data:=.seq (bQ [.ref h.objs.size,.ref (h.push (tf k1 l1)).objs.size]) }).objs.size]) }
theorem ri.push(x:ri k h l xs)(o:Obj):ri k (h.push o) l xs:=x.at λ_ e=>aE _ e
theorem HW(k1 k2:HS)(l1 l2:U)(xs ys:Array M):Meets (vi.«zip.__new__» #[[.type "zip",.ref l1,.ref l2],[]]) (λ_ R s=>ri k1 s.heap l1 xs/\ri k2 s.heap l2 ys/\
  R (.ok (.ret (.ref (((HV k1 k2 s.heap l1 l2).push { cls:=.type "tuple",data:=.seq (bQ [.ref s.heap.objs.size,.ref (s.heap.push (tf k1 l1)).objs.size]) }).push { cls:=.type "tuple",data:=.seq (bQ [.none,.none]) }).objs.size))) { s with heap:=zH5 k1 k2 s.heap l1 l2 }):=
 .of_wp λprog w A R s h=>by
  let#[hp,g,d,tk,os]:=s;let#[MG,MB,h]:=h;let z_:=sub_zip;let a2:ri k2 (aU.heap #[hp.push (tf k1 l1),g,d,tk,os]) l2 ys:=MB.push _
  wp_walk using J1 MG,J1 a2
  exact#[_,Y,h]
theorem Fm{i: U}(e:h.get? i>>(tf k l)):xN k h i l 0:=by
 cases k with
 |lst=>exact(#[_,e,Y,Y])
 |tup=>exact(#[_,e,Y,Y])
theorem Ai(k:HS)(l:U):(tf k l).isFreed=false:=by cases k<;>rfl
theorem Li(MG:ri k1 s.heap l1 xs)(MB:ri k2 s.heap l2 ys)
  (h:∀h',Zp k1 k2 h' (s.heap.objs.size+4) (s.heap.objs.size+2) (s.heap.objs.size+3) s.heap.objs.size (s.heap.objs.size+1) l1 l2 .none .none .none 0 0 xs ys->(∀c o,s.heap.get? c>>o->h'.get? c>>o)->Q (.ref (s.heap.objs.size+4)) { s with heap:=h' }):
  wpAny (model prog w) A (call (.type "zip") [.ref l1,.ref l2]) Q E s:=by
 refine callType_new F.called_zip ⋯ (F.typeCall_zip_2 _ _) (F.newCall_zip_2 _ _) (λobj=>F.args_object_init_3 obj _ _) F.entry_zip_new (HW k1 k2 l1 l2 xs ys) #[MG,MB,?_];let z1:(s.heap.push (tf k1 l1)).objs.size=s.heap.objs.size+1:=ic ..;let z2:(HV k1 k2 s.heap l1 l2).objs.size=s.heap.objs.size+2:=by unfold HV;rw[ic,z1]
 generalize hT:({ cls:=.type "tuple",data:=.seq (bQ [.ref s.heap.objs.size,.ref (s.heap.push _).objs.size]) }:Obj)=tI;generalize hT2:({ cls:=.type "tuple",data:=.seq (bQ [.none,.none]) }:Obj)=tO;let z3:((HV k1 k2 s.heap l1 l2).push tI).objs.size=s.heap.objs.size+3:=by rw[ic,z2]
 let z4:(((HV k1 k2 s.heap l1 l2).push tI).push tO).objs.size=s.heap.objs.size+4:=by rw[ic,z3]
 let fI:tI.isFreed=false:=by rw[<-hT];rfl
 let fO:tO.isFreed=false:=by rw[<-hT2];rfl
 let eq:zH5 k1 k2 s.heap l1 l2=(((HV k1 k2 s.heap l1 l2).push tI).push tO).push { cls:=.type "zip",data:=.fields (bQ [.none,.bool false,.bool false,.ref (s.heap.objs.size+2),.ref (s.heap.objs.size+3)]) }:=by unfold zH5;rw[hT,hT2,z2,z3]
 rw[eq,z4];let g5:((((HV k1 k2 s.heap l1 l2).push tI).push tO).push { cls:=.type "zip",data:=.fields (bQ [.none,.bool false,.bool false,.ref (s.heap.objs.size+2),.ref (s.heap.objs.size+3)]) }).get? (s.heap.objs.size+4)=some { cls:=.type "zip",data:=.fields (bQ [.none,.bool false,.bool false,.ref (s.heap.objs.size+2),.ref (s.heap.objs.size+3)]) }:=by rw[<-z4];exact bx _ Y
 let up3:∀c o,((HV k1 k2 s.heap l1 l2).push tI).get? c>>o->((((HV k1 k2 s.heap l1 l2).push tI).push tO).push { cls:=.type "zip",data:=.fields (bQ [.none,.bool false,.bool false,.ref (s.heap.objs.size+2),.ref (s.heap.objs.size+3)]) }).get? c>>o:=λc o e=>aE _ (aE _ e);let Zg:=λc o e=>up3 c o (aE _ e);let up0:∀c o,s.heap.get? c>>o->(HV k1 k2 s.heap l1 l2).get? c>>o:=λc o e=>aE _ (aE _ e);refine#[#[_,g5,Y],h _ #[g5,?_,?_,?_,?_,?_,?_] λc o e=>Zg c o (up0 c o e)]
 .refine up3 _ _ ?_;rw[<-z2];let:=bx (HV k1 k2 s.heap l1 l2) fI;rw[this,<-hT,z1]
 .refine aE _ ?_;rw[<-z3];let:=bx ((HV k1 k2 s.heap l1 l2).push tI) fO;rw[this,<-hT2]
 .exact Fm (Zg _ _ (aE _ (bx _ (Ai k1 l1))))
 .refine Fm (Zg _ _ ?_);let:=bx (s.heap.push (tf k1 l1)) (Ai k2 l2);rwa[z1]at this
 .exact MG.at λo e=>Zg _ o (up0 _ o e)
 .exact MB.at λo e=>Zg _ o (up0 _ o e)
end
def J2(k:HS)(K:aq)(H:Hp)(a:U)(xs:!V):Prop:=match k with | .lst=>jW K H a xs | .tup=>oC K H a xs
theorem Inv.sq{σ:St}{xs:!V}(I:Inv X pins σ H s)(h:J2 k X.K H a xs):∃its,dJ xs its/\ri k s.heap a its.toArray/\xs.length<=sizeLine:=by
 cases k with
 |lst=>let#[its,r,p,z]:=I.list h;exact#[its,r,p.isList,z]
 |tup=>let#[its,r,p,z]:=I.tuple h;exact#[its,r,p,z]
theorem Inv.N0{σ:St}{xs ys:!V}(I:Inv X pins σ H s)(h:J2 k X.K H a xs)(h':J2 k X.K H a ys):xs=ys:=by
 cases k with
 |lst=>exact I.zP h h'
 |tup=>exact I.BW h h'
theorem cz.TL{H': Hp}{xs:!V}(e:cz H H')(h:J2 k K H a xs):J2 k K H' a xs:=by
 cases k with
 |lst=>exact e.seq h
 |tup=>exact e.oM h
def Itz(k1 k2:HS)(K:aq)(a b:U):It:=
 #[λi H=>∃xs x ys y,J2 k1 K H a xs/\xs[i]?>>x/\J2 k2 K H b ys/\ys[i]?>>y,
  λi H v H'=>∃t x y,v=.ref t/\H t=none/\H'=upd H t (.tup [x,y])/\(∀xs,J2 k1 K H a xs->xs[i]?>>x)/\∀ys,J2 k2 K H b ys->ys[i]?>>y,
  λi H=>∃xs ys,J2 k1 K H a xs/\J2 k2 K H b ys/\(xs.length<=i\/ys.length<=i)]
theorem N1{P:bU}{w:c0}{kk}{z TI TO i1 i2: U}(D:ZipApart z TI TO i1 i2 l1 l2):
  Turn P w K (.Tuple elts kk tp) (Itz k1 k2 K l1 l2) [z,TI,TO,i1,i2] z (λi h=>IsZip h z TI TO .none/\GQ h TI (.ref i1) (.ref i2)/\(∃a b,GQ h TO a b)/\xN k1 h i1 l1 i/\xN k2 h i2 l2 i) where
 mem:=∅
 obj:=λi h st b hb=>by
  let#[hz,hTI,#[a,c,hTO],h1,h2]:=st;simp[au,bu,or_false]at hb;rcases hb with rfl|rfl|rfl|rfl|rfl
  .exact#[_,hz,λv z=>by cases z]
  .exact#[_,hTI,λv z=>by cases z]
  .exact#[_,hTO,λv z=>by cases z]
  .exact h1.get
  .exact h2.get
 keep:=λi h h' st kp=>by let#[hz,hTI,#[a,c,hTO],h1,h2]:=st;exact#[kp z ∅ _ hz,kp TI ∅ _ hTI,#[a,c,kp TO ∅ _ hTO],h1.at λo e=>kp i1 ∅ o e,h2.at λo e=>kp i2 ∅ o e]
 item:=by
  intro X hP hw hK hc i pins s σ H E I hf st hg;subst hP hw hK;let#[hz,hTI,#[a,c,hTO],h1,h2]:=st;let#[xs,x,ys,y,Lj,hx,EA,hy]:=hg;let#[its,rv,p1,_]:=I.sq Lj;let#[jts,TN,p2,_]:=I.sq EA;let#[u,hu,ru]:=rv.get hx;let#[u2,hu2,Zh]:=TN.get hy;refine Lh D #[hz,hTI,hTO,h1,h2,p1,p2] ↑hu ↑hu2 λha Za ht hk=>?_;let#[az,aTI,aTO,a1,a2,_,_]:=Za;refine#[_,Y,wpAny_letOwnedTupleGo_zip az λhb bz sb=>?_];let zlt:=aV hz;let k2:∀b o,b∉[z,TI,TO,i1,i2]->s.heap.get? b>>o->hb.get? b>>o:=λb o nb q=>by let n1:b≠z:=λe=>nb (by simp[e]);let n4:b≠i2:=λe=>nb (by simp[e]);exact(sb.2 b n1).trans (hk b o n1 (λe=>nb (by simp[e])) (λe=>nb (by simp[e])) n4 q)
  let fT:wc X pins H s.heap.objs.size:=I.zQ (aP _) I.fresh;let I3:Inv X pins σ (upd H s.heap.objs.size (.tup [x,y])) { s with heap:=hb,toks:=s.toks }:=
   (I.zr k2 hf).track fT #[by show 2<=sizeLine;rw[dD];decide,_,.cons ru (.cons Zh .nil),#[_,(sb.2 _ (gI zlt)).trans ht,Y,_,Y]]
  let up:∀b o,b≠z->ha.get? b>>o->hb.get? b>>o:=λb o nb q=>(sb.2 b nb).trans q;refine#[.ref s.heap.objs.size,_,I3,Y,#[_,x,y,Y,I.fresh,Y,λzs hy'=>[I.N0 hy' Lj]▸hx,λzs hy'=>[I.N0 hy' EA]▸hy],#[bz,up _ _ D.TIz aTI,#[_,_,up _ _ D.TOz aTO],a1.at λo q=>up _ o D.i1z q,a2.at λo q=>up _ o D.i2z q],λb Zi=>?_];let oE:b<s.heap.objs.size:=by
   simp[au,bu,or_false]at Zi;rcases Zi with rfl|rfl|rfl|rfl|rfl
   .exact zlt
   .exact aV hTI
   .exact aV hTO
   .let#[o,q,_]:=h1.get;exact aV q
   .let#[o,q,_]:=h2.get;exact aV q
  rw[L (aX oE)];exact(hf b Zi).1
 done:=by
  intro X hP hw hK hc i pins s σ H E I hf st hg;subst hP hw hK;let#[hz,hTI,#[a,c,hTO],h1,h2]:=st;let#[xs,ys,Lj,EA,hx]:=hg;let#[its,rv,p1,_]:=I.sq Lj;let#[jts,TN,p2,_]:=I.sq EA;let e1:=rv.length;let e2:=TN.length;refine NZ (I.ok.hd hc) D #[hz,hTI,hTO,h1,h2,p1,p2] ?_ λh' hk=>#[Y,I.zr (λb o hb q=>hk b o (λe=>hb (by simp[e])) (λe=>hb (by simp[e])) (λe=>hb (by simp[e])) (λe=>hb (by simp[e])) q) hf];rcases hx with hx|hx
  .left;simp;omega
  .right;simp;omega
 self:=λ_ _ _ _ _ st h=>wpAny_pyIter_zip st.1 h
def zdp(k1 k2:HS)(K:aq)(ta:TA):TI:=λσ H R=>ta σ H λvs H1=>∃a b,vs=[.ref a,.ref b]/\(∃xs,J2 k1 K H1 a xs)/\(∃ys,J2 k2 K H1 b ys)/\R (Itz k1 k2 K a b) H1
theorem boot_zip:bootBuiltins "zip"=some (.type "zip"):=Y
theorem V9{a b:bY}{ta:TA}{p pos: Pos}{kk}(k1 k2:HS)(hg:Gl X "zip")(hm:X.mg "zip"=none)(ha:PA X [a,b] ta)(hs:starEach [a,b] X.env=[(false,eval a X.env),(false,eval b X.env)]:=by rfl)(pZ:starEach [b] X.env=[(false,eval b X.env)]:=by rfl):
  PI X (.Tuple elts kk tp) (.Call (.Name "zip" p) [a,b] [] pos) (zdp k1 k2 X.K ta):=by
 intro pins s σ H R I h;refine Call_ (xD I hg hm boot_zip (jo (gU (ha pos pins s σ H _ I h) λus s1 #[vs,H1,I1,r1,q1]=>?_) (by rw[hs,pZ]) (by rw[pZ];rfl)));let#[l1,l2,e,#[xs,Lj],#[ys,EA],q]:=q1;subst e;let#[u,u2,rfl,rx,rx2]:=vals2 r1;cases rx;cases rx2;let#[its,rv,p1,_]:=I1.sq Lj;let#[jts,TN,p2,_]:=I1.sq EA;let#[o1,e1]:=p1.get;let#[o2,e2]:=p2.get;let lt1:=aV e1;let lt2:=aV e2;refine Li p1 p2 λh' Za hk=>wpAny_pyIter_zip Za.hz ?_;let D:ZipApart (s1.heap.objs.size+4) (s1.heap.objs.size+2) (s1.heap.objs.size+3) s1.heap.objs.size (s1.heap.objs.size+1) l1 l2:=by
  constructor
  .exact aX ()
  .exact aX ()
  .exact aX ()
  .exact aX ()
  .exact aX ()
  .exact gI ()
  .exact gI ()
  .exact gI ()
  .exact gI ()
  .exact aX ()
  .exact aX (bV lt1 ())
  .exact aX (bV lt1 ())
  .exact aX lt1
  .exact aX (bV lt1 ())
  .exact aX (bV lt2 ())
  .exact aX (bV lt2 ())
  .exact aX lt2
  .exact aX (bV lt2 ())
 refine#[_,_,_,_,H1,Y,I1.kept (t':=s1.toks) hk,N1 D,#[Za.hz,Za.hTI,#[_,_,Za.hTO],Za.h1,Za.h2],λb hb=>?_,q];let hle:s1.heap.objs.size<=b:=by
  simp[au,bu,or_false]at hb;rcases hb with rfl|rfl|rfl|rfl|rfl
  .exact r6 _ _
  .exact r6 _ _
  .exact r6 _ _
  .exact aP _
  .exact r6 _ _
 exact I1.zQ hle (I1.hok.fresh hle)
def Aj(ds es:!J):!J:=(ds.zip es).map λp=>.tuple [p.1,p.2]
theorem yq(ds es:!J):(Aj ds es).length=min ds.length es.length:=by simp[Aj]
theorem N2{es: !J}{d:J}(h:(Aj ds es)[i]?>>d):∃x y,ds[i]?>>x/\es[i]?>>y/\d=.tuple [x,y]:=by
 unfold Aj at h;rw[ax]at h;cases e:(ds.zip es)[i]? with
 |none=>rw[e]at h;cases h
 |some p=>rw[e]at h;cases h;rw[Dh]at e;exact#[_,_,e.1,e.2,Y]
def V_(k:HS)(ds:!J):J:=match k with | .lst=>.list ds | .tup=>.tuple ds
theorem Rep.TL{v:V}(r:Rep K H v (V_ k ds)):∃a xs,v=.ref a/\J2 k K H a xs/\b_ K H xs ds:=by
 cases k with
 |lst=>cases(show Rep K H v (.list ds)from r)with|lst h t=>exact#[_,_,rfl,h,t]
 |tup=>cases(show Rep K H v (.tuple ds)from r)with|tup h t=>exact#[_,_,rfl,h,t]
theorem HX{a b:bY}{δ:!Slot}{es: !J}{p pos: Pos}{kk}(k1 k2:HS)(h1:VE X a δ (V_ k1 ds))(h2:VE X b δ (V_ k2 es))(hm:X.mg "zip"=none)(hg:Gl X "zip":=by rfl)(hs:j8 X a [b]:=by rfl)(pZ:j8 X b []:=by rfl)(hn:starEach [] X.env=[]:=by rfl):
  VI X (.Tuple elts kk tp) (.Call (.Name "zip" p) [a,b] [] pos) δ (Aj ds es):=
 #[_,V9 k1 k2 hg hm (cy ck (cy ck dU pZ) hs) (by rw[hs,pZ,hn]) (by rw[pZ,hn]),λB0 B σ H0 H R f q=>h1 B0 B σ H0 H _ f λv H1 c7 g r1=>h2 B0 B σ H1 c7 _ (f.grow g) λu H2 fA g2 r2=>by
  let#[a1,xs,rfl,Lj,Zj]:=r1.TL;let#[a2,ys,rfl,EA,TQ]:=r2.TL;let Zj:=Zj.mono g2.eV;let Lj:=g2.eV.TL Lj;refine#[a1,a2,Y,#[_,g2.sub.TL Lj],#[_,g2.sub.TL EA],q _ H2 fA (g.trans g2) λHa Hb s1 s2 i=>?_];let l1:=Zj.length;let l2:=TQ.length;let XB:=(s1.trans s2).TL Lj;let hS2:=(s1.trans s2).TL EA;refine#[λhi=>?_,λhi=>#[_,_,XB,hS2,by rw[yq]at hi;omega],λx Ez d hd #[t,x1,y1,e1,e2,e3,e4,e5]=>?_]
  .rw[yq]at hi;let#[x,hx,_]:=Zj.get (i:=i) (d:=ds[i]'()) ∅;let#[y,hy,_]:=TQ.get (i:=i) (d:=es[i]'()) ∅;exact#[_,x,_,y,XB,hx,hS2,hy]
  .let#[dx,dy,hx,hy,rfl]:=N2 hd;subst e1;subst e3;refine#[_,.laid s2 e2,.tup (oC.of aM) (.cons ?_ (.cons ?_ .nil))]
   .exact((Zj.mono s1).at hx (e4 _ XB)).mono (cP.laid s2 e2).eV
   .exact((TQ.mono s1).at hy (e5 _ hS2)).mono (cP.laid s2 e2).eV]
end L2
namespace L2
open PySem PySem.Spec PyProof.Rows
open AutoSeq1 (wpAny_loadPart')
theorem Lk(l:U)(items:Array M)(n:Nat)(dd:Option U)(sl:Array (Option M))(x:M)(e:M->Bool)(i j:Nat)(t:Tok)(Bl:i<=j)(hj:j<items.size)(V':(j:Int)<2^63-1)
  (hit:e items[j]=true)(K2:∀m (hm:m<items.size),i<=m->m<j->e items[m]=false):
  Meets (vi.«list.index» #[[.ref l,x,.int i t],[]])
   (λA R s=>s.heap.get? l=some { cls:=.type "list",dict:=dd,data:=.seq items n,slots:=sl }/\(∀y,y∈items->SeqAt.EqAt A.in1 s y x (e y))/\R (.ok (.ret (.int j s.toks))) { s with toks:=s.toks+1 }):=by
 intro prog w A R s h;let#[hp,g,d,tk,os]:=s;let#[hl,he,h]:=h
 wp_walk using eQ hl
 let a1:((λi:Int=>if i<0 then max 0 (i+(items.size:Int))else i) ((some (i:Int)).getD 0))=((i:Nat):Int):=by show(if(i:Int)<0 then max 0 ((i:Int)+(items.size:Int)) else(i:Int))=_;rw[qQ2 ()]
 let a2:((λi:Int=>if i<0 then max 0 (i+(items.size:Int))else i) ((none:Option Int).getD (2^63-1)))=2^63-1:=∅
 rw[a1,a2];exact#[zk sA _,mI PySem.MeetsSeq.entry_index_loop (by rw[jm.under_plainId sA _];exact SeqAt.index_loopAt l items n dd sl x e (2^63-1) j hj V' hit _ i Y Bl K2 prog w A R _ #[hl,he,h])]
section
variable{a b c:bY}{ds:!J}
def Rc(K:aq)(n:Nat):V->!V->Hp->VK->Prop:=λx vs H Q=>∃p ds y d i j,x=.ref p/\vs=[y,.int ((i:Nat):Int)]/\Rep K H (.ref p) (.list ds)/\Rep K H y d/\Lay n (.list ds)/\Lay n d/\i<=j/\(∃h:j<ds.length,cV ds[j] d=true)/\
 (∀m (h:m<ds.length),i<=m->m<j->cV ds[m] d=false)/\Q (.int j) H
theorem Ln(hu:X.A.units+n+2<cLine):Tq X "list.index" (Rc X.K n):=by
 intro pins s σ H x vs v us Q I rx rv h;let#[p,ds,y,d,i,j,rfl,rfl,r1,r2,l1,l2,Bl,#[hj,hit],K2,q]:=h;cases rx;let#[u,u2,rfl,ru,Zh]:=vals2 rv;let#[t2,rfl]:=Zh;let#[bs,rb]:=kR I d l2.1 r2 ru;cases r1 with
 |lst hq rs=>
  let#[its,rvs,#[#[cls,dd,data,sl],m,eo,ec,_,ed],hz]:=I.list hq;simp only at ec ed;subst ec ed;let#[as,ra]:=pH I ds l1.1 rs rvs;let hl:=rvs.length;let MB:=rs.length;let rd:∀i (h1:i<its.length) (h2:i<ds.length),xA s.heap its[i]=ds[i]:=λi h1 h2=>by
   let e1:(its.map (xA s.heap))[i]?>>(xA s.heap its[i]):=by simp[h1]
   rw[SeqAt.readsAll_map ds its as l1.1 ra]at e1;rw[ao h2]at e1;exact(cv e1).symm
  let h1:=l2.2;let hn:=vp;let ziU:=dD;refine jq F.slot_list_index #[_,eo,Y] F.entry_list_index (F.args_list_index_3 _ _ _) (Lk p its.toArray m dd sl u (λy=>cV (xA s.heap y) d) i j t2 Bl (by simp;omega) () ?_ ?_) #[eo,?_,?_]
  .let:=rd j () hj;simp;rwa[this]
  .intro i' hi zdr zds;let:=rd i' hi ();simp;rw[this];exact K2 i' () zdr zds
  .exact SeqAt.items_eqAt ↑ra rb l1.1 l2.1 ()
  .exact#[.int j,H,I.tok _,#[_,Y],q]
theorem Lp{X:Cx}{δ:!Slot}{d:J}{pos:Pos}{k:Nat}{i j:Nat}{ap:Pos}(hr:dB k X.A)(h1:VE X a δ (.list ds))(h2:VE X b δ d)(h3:VE X c δ (.int (i:Nat)))(l1:Lay 20 (.list ds))(l2:Lay 20 d)(Bl:i<=j)(hj:∃h:j<ds.length,cV ds[j] d=true)(K2:∀m (h:m<ds.length),i<=m->m<j->cV ds[m] d=false)
  (hs:j8 X b [c]:=by rfl)(pZ:j8 X c []:=by rfl)(gC:vn X a "index":=by rfl)
  (lN:GV X pos [b,c]:=by rfl)
  (hline:(ap.endLine==pos.line)=true:=by rfl)(fQ:qg X pos [c]:=by rfl):VE X (.Call (.Attribute a "index" ap) [b,c] [] pos) δ (.int j):=
 .of (pF cK PySem.F.slot_list_index PySem.F.type_list_index (Ln (E_ hr)) ck (cy ck (cy ck dU pZ) hs) gC lN hline hs fQ) λB0 B σ H0 H Q f q=>h1 B0 B σ H0 H _ f λv H1 c7 g r1=>by
  cases r1 with
  |lst hq rs=>refine#[.inl #[Y,_,g.sub.seq hq],h2 B0 B σ H1 c7 _ (f.grow g) λu H2 fA g2 r2=>h3 B0 B σ H2 fA _ ((f.grow g).grow g2) λu3 H3 uD g3 r3=>?_];cases r3;let gg:=g2.trans g3;exact#[_,ds,u,d,i,j,Y,Y,.lst (gg.sub.seq (gg.eV.seq hq)) (rs.mono (gg.eV.trans gg.sub)),(r2.mono g3.eV).mono g3.sub,l1,l2,Bl,hj,K2,q _ H3 uD (g.trans gg) (.int _)]
theorem zx(h1:VE X a δ (.tuple d1))(h2:VE X b δ (.tuple d2))(hn:d1≠[])(hz:d1.length+d2.length<=sizeLine):VE X (.BinOp a .Add b pos) δ (.tuple (d1++d2)):=by
 refine .of (JB QH ck ck) λB0 B σ H0 H Q f q=>h1 B0 B σ H0 H _ f λv H1 c7 g1 r1=>h2 B0 B σ H1 c7 _ (f.grow g1) λu H2 fA g2 r2=>?_;cases r1 with
 |tup hq r1=>
  cases r2 with
  |tup EA r2=>
   let gg:=g1.trans g2;let e1:=r1.length;let hx:∀xs:!V,xs.length=d1.length->xs≠[]:=λxs h z=>by rw[z]at h;exact hn (nU h.symm)
   refine#[_,_,_,_,Y,Y,g2.sub.oM (g2.eV.oM hq),g2.sub.oM EA,hx _ e1,[e1,r2.length]▸hz,λhy=>?_,λ_ p hp=>q _ _ _ (gg.trans (.laid g2.sub hp)) (.tup (oC.of aM) (((r1.mono g2.eV).append r2).mono (cP.laid g2.sub hp).eV))];subst hy;cases r2;rw[cA]at q;exact q _ H2 fA gg (.tup (g2.eV.oM hq) (r1.mono g2.eV))
end
end L2
namespace L2
open PySem PySem.Spec PyProof.Rows
variable{a p:U}{H:Hp}{kvs:!(Key×V)}{as:!U}{xs:!V}{i j:Nat}{pt:Pos}{P:bU}{d:J}{K:aq}{Q:M->aU->Prop}{w:c0}
def N3(K:aq)(b:U)(ws:!O):Prop:=∃(o:Obj)(its:Array M)(n:Nat),K.lookup b>>o/\o.cls=.type "tuple"/\o.data=.seq its n/\its.size<=sizeLine/\dJ (ws.map V.str) its.toList
inductive GE(pr:GP)(K:aq):!Dd->!(O×!O)->Prop
 |nil:GE pr K [] []
 |cons {h:Int} {k:O} {t:Tok} {b:U} {ws:!O} {es:!Dd} {kvs:!(O×!O)}:h=J.keyHash pr k->N3 K b ws->GE pr K es kvs->GE pr K (⟨h,.str k t,.ref b⟩::es) ((k,ws)::kvs)
structure GD(pr:GP)(K:aq)(a:U)(kvs:!(O×!O)):Prop where
 nm:(a==sysModules)=false
 nd:(kvs.map (·.1)).Nodup
 ob:∃o es ep,K.lookup a>>o/\o.ExactDict/\o.data=.dict es ep/\GE pr K es.toList kvs
def kF(kvs:!(O×!O))(k:O):Option (!O):=(kvs.find? λp=>decide (p.1=k)).map (·.2)
theorem GE.pairs:∀{es:!Dd}{kvs:!(O×!O)},GE w.params K es kvs->∃vs:!(Key×M),Pairs (eU P w) es vs/\vs.map (·.1)=kvs.map (λp=>(aL p.1:Key))/\
  (∀e∈es,∃k,(eU P w).is k e.key=true/\e.hash=(eU P w).hash k)/\∀k,match kF kvs k with|none=>valueAt vs (aL k)=none|some ws=>∃b,valueAt vs (aL k)>>(.ref b)/\N3 K b ws
 |_,_,.nil=>#[[],.nil,Y,λe h=>by(cases h),λk=>rfl]
 |_,_,@GE.cons _ _ hh k t b ws es kvs e kt r=>by
  let#[vs,h1,h2,h3,h4]:=GE.pairs r;refine#[(.inr k,.ref b)::vs,.cons (sF P w k t) Y h1,by rw[av,av,h2],λx hx=>?_,λj=>?_]
  .rcases au.mp hx with rfl|hx
   .exact#[.inr k,sF P w k t,by rw[e];rfl]
   .exact h3 x hx
  .by_cases hj:k=j
   .subst hj;let:kF ((k,ws)::kvs) k>>ws:=by simp[kF,c9]
    rw[this];exact#[b,by simp[valueAt,c9],kt]
   .let:kF ((k,ws)::kvs) j=kF kvs j:=by simp[kF,c9,hj]
    rw[this];let e2:valueAt ((aL k,dY b)::vs) (aL j)=valueAt vs (aL j):=by let:¬(aL k:Key)=aL j:=λz=>hj (by injection z);simp[valueAt,c9,this]
    rw[e2];exact h4 j
theorem GD.dict{h:dF}{kvs:!(O×!O)}(g:GD w.params K a kvs)(U3:K.In h):∃vs:!(Key×M),h.DictOf (eU P w) a vs/\∀k,match kF kvs k with|none=>valueAt vs (aL k)=none|some ws=>∃b,valueAt vs (aL k)>>(.ref b)/\N3 K b ws:=by
 let#[o,es,ep,h1,h2,h3,h4]:=g.ob;let#[vs,p1,p2,p3,p4]:=h4.pairs;refine#[vs,#[o,es,ep,U3 a o h1,h2,h3,λe he=>p3 e ↑he,p1,?_],p4];rw[p2];let nd:=g.nd;induction kvs with
 |nil=>exact gL
 |cons p l ih=>
  rw[av,aO]at nd ⊢;refine#[λz=>nd.1 ?_,?_]
  .let#[q,hq,e]:=ai.mp z;injection e with e
   exact ai.mpr #[q,hq,e]
  .let go:∀l:!(O×!O),(l.map (·.1)).Nodup->(l.map λp=>(aL p.1:Key)).Nodup:=by
    intro l;induction l with
    |nil=>intro _;exact gL
    |cons p l ih=>
     intro nd;rw[av,aO]at nd ⊢;refine#[λz=>nd.1 ?_,ih nd.2];let#[q,hq,e]:=ai.mp z;injection e with e
     exact ai.mpr #[q,hq,e]
   exact go l nd.2
section
variable{X:Cx}{b:bY}{δ:!Slot}{pos p:Pos}{x y:O}{kvs:!(O×!O)}{ws:!O}{g:U}
theorem oF:∀l:!O,b_ K H (l.map V.str) (l.map aN)
 | []=>.nil
 |z::l=>.cons (.str z) (oF l)
theorem J3(hm:X.mg x>>(.ref g))(G:GD X.w.params X.K g kvs)(h:VE X b δ (.str y))(hk:kF kvs y>>ws)(hg:Gl X x:=by rfl)(hs:yV b:=by intro _ _;rfl)(hd:xr x:=by decide):VE X (.Subscript (.Name x p) b pos) δ (.tuple (ws.map .str)):=by
 let pe:PE X (.Subscript (.Name x p) b pos) (λσ H Q=>cE X b σ H λv H1=>v=.str y/\∀q,N3 X.K q ws->Q (.ref q) H1):=by intro pins s σ H Q I hw;refine JM Bh.lookup hs (gU (zp hg hm (v:=.ref g) Y hd pins s σ H (λv H'=>v=.ref g/\H'=H) I #[Y,Y]) λu s1 #[vx,H1,I1,rx,ex,eH]=>?_);subst ex eH;obtain rfl:u=dY g:=rx;refine gU (hw pins s1 I1) λiv s2 #[v,H2,I2,rv,ev,q]=>?_;subst ev;let#[vs,dd,hv]:=G.dict I2.zO;let hv:=hv y;rw[hk]at hv;let#[bb,hb,kt]:=hv;exact#[dd.typeIs,wpAny_getItem_of (sL (k:=.inr y) rv) dd.mapOf hb (#[.ref bb,H2,I2.tok _,Y,q bb kt])]
 exact .of pe λB0 B σ H0 H Q f q=>h B0 B σ H0 H _ f λv H1 c7 g1 r=>by cases r;exact#[Y,λb' hb=>q _ H1 c7 g1 (.tup (.inr hb) (oF ws))]
theorem Cp(hm:X.mg x>>(.ref g))(G:GD X.w.params X.K g kvs)(h:VE X b δ (.str y))(hg:Gl X x:=by rfl)(hd:xr x:=by decide)(hmk:behindInMarks .NotIn (.Name x p)=false:=by with_unfolding_all rfl):VT X (.Compare b [.NotIn] [.Name x p] pos) δ (not (kF kvs y).isSome):=by
 let pc:PC X .NotIn b (.Name x p) (λσ H Q=>cE X b σ H λv H1=>v=.str y/\Q (.bl (not (kF kvs y).isSome)) H1):=by
  intro pins s σ H Q I hw;refine gU (hw pins s I) λiv s1 #[v,H1,I1,rv,ev,q]=>?_;subst ev;refine gU (zp hg hm (v:=.ref g) Y hd pins s1 σ H1 (λv H'=>v=.ref g/\H'=H1) I1 #[Y,Y]) λu s2 #[vx,H2,I2,rx,ex,eH]=>?_;subst ex eH;obtain rfl:u=dY g:=rx;let#[vs,dd,hv]:=G.dict I2.zO;let hv:=hv y;refine wpAny_notIn_of (sL (k:=.inr y) rv) G.nm dd.mapOf ?_;let e:(valueAt vs (aL y)).isSome=(kF kvs y).isSome:=by
   cases el:kF kvs y with
   |none=>rw[el]at hv;rw[hv];rfl
   |some ws=>rw[el]at hv;let#[bb,hb,_]:=hv;rw[hb];rfl
  rw[e];exact#[.bl _,H2,I2.tok _,Y,q]
 exact .of (GW pc hmk) λB0 B σ H0 H Q f q=>h B0 B σ H0 H _ f λv H1 c7 g1 r=>by cases r;exact#[Y,_,Y,q H1 c7 g1]
end
section
variable{X:Cx}{a c e:bY}{δ:!Slot}{d:J}{pos p:Pos}{x:O}{k:Nat}{kvs:!(O×J)}
theorem Wb:SlR X (λx lo hi H Q=>∃z,x=.str z/\z.length<=sizeLine/\Q (.str (nR z lo hi)) H):=by
 intro pins s σ H x v vl vu lo hi sl Q I rx hs pl pu h;let#[z,rfl,hz,q]:=h;let#[t,rfl]:=rx;refine#["str",_,PySem.F.slot_str_getitem.lookup,vh _ _ _,?_];let fin:∀(l u:Option (Int×Tok)),l.map (·.1)=lo->u.map (·.1)=hi->s.heap.IsSlice sl l u none->wpAny (model X.prog X.w) X.A (getItem (.str z t) (.ref sl)) (EP X pins σ Q) X.xe s:=by intro l u e1 e2 hl;subst e1 e2;exact wpAny_getItem_str_slice hl Y (post_val_or_str #[bA (GR z _ _) hz,λt' k=>(#[.str (nR z _ _),H,I.tok _,#[t',Y],q])])
 let#[os,h1,h2,h3]:=hs;cases pl with
 |none=>cases pu with
  |none=>exact fin none none Y Y #[os,h1,h2,h3]
  |int j t2=>exact fin none (some (j,t2)) Y Y #[os,h1,h2,h3]
 |int i t1=>cases pu with
  |none=>exact fin (some (i,t1)) none Y Y #[os,h1,h2,h3]
  |int j t2=>exact fin (some (i,t1)) (some (j,t2)) Y Y #[os,h1,h2,h3]
theorem Cq{lo hi:Option bY}{l u:Option Int}{p2:Pos}(h:VE X a δ (.str x))(hz:x.length<=sizeLine)(hl:uP X δ lo l)(hh:uP X δ hi u):VE X (.Subscript a (.Slice lo hi none p2) pos) δ (.str (nR x l u)):=by let#[tl,pl,ql]:=hl.ok;let#[th,ph,qh]:=hh.ok;refine .of (zW Wb ck pl ph) λB0 B σ H0 H Q f q=>h B0 B σ H0 H _ f λv H1 c7 g r=>ql B0 B σ H1 c7 _ (f.grow g) λH2 fA g2=>qh B0 B σ H2 fA _ ((f.grow g).grow g2) λH3 uD g3=>?_;cases r;exact#[x,Y,hz,q _ _ _ ((g.trans g2).trans g3) (.str _)]
inductive VP(X:Cx)(δ:!Slot):!(Option bY)->!bY->!(O×J)->Prop
 |nil:VP X δ [] [] []
 |cons {k v:bY} {ks vs} {x:O} {d:J} {r}:VE X k δ (.str x)->VE X v δ d->VP X δ ks vs r->VP X δ (some k::ks) (v::vs) ((x,d)::r)
theorem VP.ok{keys vals}(h:VP X δ keys vals kvs):keys.all (·.isSome)=true/\keys.length=vals.length/\keys.length=kvs.length/\∃MD,YT X pos keys vals MD/\∀B0 B σ H0 H Q,fM X.K B0 B H0 H σ δ->
  (∀cY H' (ws:!(Key×V)),cP H0 H cY H'->ws.map (·.1)=kvs.map (λp=>(aL p.1:Key))->b_ X.K cY (ws.map (·.2)) (kvs.map (·.2))->Q (ws.map λkv=>(kV kv.1,kv.2)) H')->DB MD σ H Q:=by
 induction h with
 |nil=>exact#[Y,Y,Y,[],JN,λB0 B σ H0 H Q f q=>q _ _ [] (.refl f.sub) Y .nil]
 | @cons k v ks vs x d r hk hv _ ih=>let#[a1,a2,a3,MD,pp,ht]:=ih;refine#[by simpa using a1,by simp[a2],by simp[a3],_,sN ck ck pp,λB0 B σ H0 H Q f q=>?_];refine hk B0 B σ H0 H _ f λu H1 c7 g1 r1=>hv B0 B σ H1 c7 _ (f.grow g1) λw H2 fA g2 r2=>?_;cases r1;exact ht B0 B σ H2 fA _ ((f.grow g1).grow g2) λH3 uD ws g3 e1 rs=>(q H3 uD ((aL x,w)::ws) ((g1.trans g2).trans g3) (by simp[e1]) (.cons (r2.mono g3.eV) rs))
theorem Rf:∀{kvs:!(Key×V)}{k:Key}{v:V},k∉kvs.map (·.1)->putK kvs k v=kvs ++ [(k,v)]:=by
 intro kvs k v h;unfold putK
 first
  |(rw[qQ2];simpa using h)
  |(simp at h;simp[h])
theorem xO:∀{more kvs:!(Key×V)},((kvs++more).map (·.1)).Nodup->sO kvs more=kvs++more
 | [],kvs,_=>by simp[sO]
 |p::more,kvs,h=>by
  show sO (putK kvs p.1 p.2) more=_;let hp:=λz=>by rw[aI,av]at h;exact(bD.mp h).2.2 _ z _ (aJ) Y
  rw[Rf hp,xO ↑h];simp
theorem J4{keys vals}(h:VP X δ keys vals kvs)(hn:(kvs.map (·.1)).Nodup)(h0:kvs≠[])(h15:kvs.length<=15):VE X (.Dict keys vals pos) δ (iO kvs):=by
 let#[a1,a2,a3,MD,pp,ht]:=h.ok;refine .of (JQ pp a1 a2 (λz=>h0 (List.length_eq_zero_iff.mp (by rw[<-a3,z];rfl))) ()) λB0 B σ H0 H Q f q=>λp hp=>?_;refine ht B0 B σ H0 _ _ (f.grow (.loose f.sub hp)) λH1 c7 ws g e1 rs=>?_;let wl:ws.length=kvs.length:=by let:=qQ6 dX e1;simpa using this
 refine#[(g.big _ _ (aM)),ws,Y,(),?_];rw[xO (by
  rw[e9,e1];let:(kvs.map λp=>(aL p.1:Key))=(kvs.map (·.1)).map aL:=by rw[aj];rfl
  rw[this];exact kN _ (λa b Zk z=>Zk (jh z)) hn),e9];refine q _ (upd H1 p (.dK ws)) _ #[λb u eb=>?_,λb u eb=>?_,λb u eb=>?_,λb eb=>?_] ?_
 .let hb:=bq eb hp;rw[L hb];exact g.big _ _ ((L hb).trans eb)
 .let hb:=bq eb (f.sub.free hp);rw[L hb];exact g.eV _ _ eb
 .by_cases hb:b=p
  .subst hb;rw[aM]at eb ⊢;exact eb
  .rw[L hb]at eb ⊢;exact g.sub _ _ eb
 .by_cases hb:b=p
  .subst hb;exact .inr hp
  .rw[L hb]at eb;rcases g.new b eb with z|z
   .exact .inl z
   .rw[L hb]at z;exact .inr z
 .refine .dct aM ?_ ?_
  .rw[aj];let:ws.map (λp=>k6 p.1)=(ws.map (·.1)).map k6:=by rw[aj];rfl
   rw[this,e1,aj];rfl
  .rw[aj];refine(rs.mono λb u eb=>?_);rwa[L (bq eb (g.still (f.sub.free hp) aM))]
theorem N4{ap:Pos}(hr:dB k X.A)(h3:VE X c δ (iO kvs))(h1:VE X a δ (.str x))(h4:VE X e δ d)(m:M2 X c "get" ap a e pos:=by exact#[rfl,rfl,rfl,rfl]):VE X (.Call (.Attribute c "get" ap) [a,e] [] pos) δ ((gJ kvs x).getD d):=
 .of (E5 (yZ hr) ck ck ck m) λB0 B σ H0 H Q fr q=>h3 B0 B σ H0 H _ fr λv H1 c7 g r=>by let#[p,ws,rfl,hp,ke,rs]:=r.nH;refine#[p,Y,.inl #[ws,.inl (g.sub _ _ hp)],?_];refine h1 B0 B σ H1 c7 _ (fr.grow g) λv H2 fA g2 r1=>h4 B0 B σ H2 fA _ ((fr.grow g).grow g2) λu H3 uD g3 r2=>?_;cases r1;let gg:=g2.trans g3;exact#[_,.inl #[ws,aL x,.inl (gg.big _ _ (g.sub _ _ hp)),Y,Y],q _ H3 uD (g.trans gg) ((vA ke (rs.mono gg.eV) x).getD r2)]
theorem Wc(i j:Int):pI K (λxs H Q=>∃i j,xs=[.int i,.int j]/\Q (.int (if j<i then j else i)) H) [.int i,.int j] (.int (if j<i then j else i)):=λvs H0 H Q s r q=>by let#[v,u,rfl,r1,r2]:=r.two;cases r1;cases r2;exact#[i,j,Y,q _ _ _ (.refl s) (.int _)]
end
section
variable{δ:!Slot}{Xy ds2:!J}{px py:Pos}{x y:O}
theorem Rg{a b:bY}{X:Cx}{pos:Pos}(i j:Nat){GY: Pos}{kt k2}(h1:VO X a δ Xy)(h2:VO X b δ ds2)(hc:X.calm=true)(hN:X.N.Nodup)(Bl:i≠j)(hi:X.N[i]?>>x:=by rfl)(hj:X.N[j]?>>y:=by rfl)(hx:X.env.scope.names.lookup x>>.local:=by rfl)(hy:X.env.scope.names.lookup y>>.local:=by rfl)
  (hw:swappedStores [.Tuple [.Name x px,.Name y py] kt pt] (.Tuple [a,b] k2 GY) X.env=pure (some [x,y]):=by rfl)(hs:swapsWithSole [.Tuple [.Name x px,.Name y py] kt pt] (.Tuple [a,b] k2 GY) pos.line X.env=pure false:=by rfl)
  (Qg:j8 X a [b]:=by rfl)(pZ:j8 X b []:=by rfl):
  VS X (.Assign [.Tuple [.Name x px,.Name y py] kt pt] (.Tuple [a,b] k2 GY) pos) δ (.nx ((δ.set i (.own Xy)).set j (.own ds2))):=λB0 B σ H0 H D f ok pins s I=>by
 refine MY hc hN hi hj Bl hx hy (cy ck (cy ck dU pZ) Qg) hw hs pins s σ H D I ?_;refine h1 B0 B σ H0 H _ f λp xs H1 c7 g a1 a2 a3 a4=>h2 B0 B σ H1 c7 _ (f.grow g) λq ys H2 fA g2 b1 b2 b3 b4=>?_;let gg:=g.trans g2;let npq:p≠q:=λz=>by rw[z,b1]at a3;cases a3
 let f1:=(f.grow gg).DF (i:=i) (g2.big _ _ a3) (g2.still a2 a3) (f.ent.big.free a1) (a4.mono g2.eV) λj es e2 e3=>by let#[p',xs',g1,g2,_]:=f.slot j _ e2;rw[e3]at g1;cases g1;rw[a1]at g2;cases g2
 refine#[_,_,Y,ok _ H2 fA gg.eV (f1.DF b3 b2 ((f.grow g).ent.big.free b1) b4 λj es e2 e3=>?_)];by_cases hji:j=i
 .subst hji;let hl:j < σ.length:=by let:=(aF.mp e3).1;simpa using this
  rw[a7 hl]at e3;cases e3;exact npq Y
 .rw[aY (bF hji)]at e2 e3;let#[p',xs',z1,z2,_]:=(f.grow g).slot j _ e2;rw[e3]at z1;cases z1;rw[b1]at z2;cases z2
end
section
def tj{α:Type}(l:!α)(i:Nat)(y:α):!α:=l.take i++y::l.drop i
def Rh:V->!V->Hp->VK->Prop:=λx vs H Q=>∃(l:U)(xs:!V)(j:Int)(y:V),x=.ref l/\vs=[.int j,y]/\H l>>(.lst xs)/\0<=j/\j<=xs.length/\xs.length<sizeLine/\Q .non (upd H l (.lst (tj xs j.toNat y)))
theorem dJ.ins(r:dJ xs us)(ru:RelV y u)(i:Nat):dJ (tj xs i y) (tj us i u):=(r.take i).append (.cons ru (r.drop i))
theorem Lq:Tq X "list.insert" Rh:=by
 intro pins s σ H x vs v us Q I rx rv h;let#[l,xs,j,y,rfl,rfl,hH,h0,hi,hz,q]:=h;cases rx;let#[u1,u2,rfl,ru1,Zh]:=rv.two;let#[t,rfl]:=ru1;let#[z,its,n,r,hl,e]:=I.K4 hH;let Wf:xq j=true:=by let:=dD;unfold xq;simp;omega
 refine jq F.slot_list_insert #[_,e,Y] F.entry_list_insert (F.args_list_insert_3 _ _ _) (PySem.AutoSeq1.list_insert_list_int_val_1 l its.toArray n j t u2 (by rw[Wf];decide) (by rw[bC];omega)) #[e,?_];refine#[.non,_,I.Nf hH e ?_ (r.ins Zh j.toNat) ?_,Y,q]
 .show(its.toArray.extract 0 (if j<0 then(j+its.toArray.size).toNat else min j.toNat its.toArray.size)).push u2++its.toArray.extract (if j<0 then(j+its.toArray.size).toNat else min j.toNat its.toArray.size)=_;rw[qQ2 (),bC,iL ()];unfold tj;apply yQ.mp;simp;rw[da ∅]
 .unfold tj;rw[aR,a8,a9,cX];omega
theorem b_.ins(r:b_ K H xs ds)(rv:Rep K H v d)(i:Nat):b_ K H (tj xs i v) (tj ds i d):=(r.take i).append (.cons rv (r.drop i))
end
section
variable{X:Cx}{a b c:bY}{δ:!Slot}{d1 d2 d3:J}{pos px py pz:Pos}{x y z:O}
theorem b_.three(r:b_ K H vs [d1,d2,d3]):∃v w u,vs=[v,w,u]/\Rep K H v d1/\Rep K H w d2/\Rep K H u d3:=by cases r with|cons a t=>cases t with|cons b t=>cases t with|cons c t=>cases t;exact#[_,_,_,Y,a,b,c]
theorem Ri(i j k:Nat){GY: Pos}{kt k2}(h1:VE X a δ d1)(h2:VE X b δ d2)(h3:VE X c δ d3)(hc:X.calm=true)(hN:X.N.Nodup)(Bl:i≠j)(hik:i≠k)(JT:j≠k)(hi:X.N[i]?>>x:=by rfl)(hj:X.N[j]?>>y:=by rfl)(hk:X.N[k]?>>z:=by rfl)(hx:X.env.scope.names.lookup x>>.local:=by rfl)(hy:X.env.scope.names.lookup y>>.local:=by rfl)(hz:X.env.scope.names.lookup z>>.local:=by rfl)
  (hw:swappedStores [.Tuple [.Name x px,.Name y py,.Name z pz] kt pt] (.Tuple [a,b,c] k2 GY) X.env=pure (some [x,y,z]):=by rfl)(hs:swapsWithSole [.Tuple [.Name x px,.Name y py,.Name z pz] kt pt] (.Tuple [a,b,c] k2 GY) pos.line X.env=pure false:=by rfl)
  (Qg:j8 X a [b,c]:=by rfl)(pZ:j8 X b [c]:=by rfl)(Y0:j8 X c []:=by rfl):
  VS X (.Assign [.Tuple [.Name x px,.Name y py,.Name z pz] kt pt] (.Tuple [a,b,c] k2 GY) pos) δ (.nx (((δ.set i (.val d1)).set j (.val d2)).set k (.val d3))):=λB0 B σ H0 H D f ok pins s I=>by
 let#[t,ha,qa]:=cR h1 (cR h2 (cR h3 cO Y0) pZ) Qg;let h:=qa B0 B σ H0 H (λvs H1=>∃v w u,vs=[v,w,u]/\D.nx (((σ.set i (some v)).set j (some w)).set k (some u)) H1) f λvs H1 c7 g rs=>by let#[v,w,u,rfl,r1,r2,r3]:=rs.three;exact#[v,w,u,Y,ok _ H1 c7 g.eV ((((f.grow g).set r1).set r2).set r3)]
 refine aA (zj ?_);rw[hs];refine aA (bf ?_);refine aA (Tuple_ (gU (ha _ pins s σ H _ I h) λus s1 #[vs,H1,I1,r1,q1]=>?_));let#[v,w,u,e1,q1]:=q1;subst e1;obtain⟨u1,u2,u3,rfl,rv,vY,ru⟩:∃u1 u2 u3,us=[u1,u2,u3]/\RelV v u1/\RelV w u2/\RelV u u3:=by
  cases r1 with
  |cons p q=>
   cases q with
   |cons p' q'=>
    cases q' with
    |cons p2 q2=>cases q2;exact#[_,_,_,Y,p,p',p2]
 refine gv ?_ (by show 3<=sizeLine;decide);let I2:Inv X pins σ H1 { s1 with heap:=s1.heap.push { cls:=.type "tuple",data:=.seq [u1,u2,u3].toArray } }:=I1.kept λb o e=>aE _ e;rw[hw];refine aA (bf ?_);refine aA (vf (aA (unpackItems_tuple (items:=(bQ [u1,u2,u3])) (I.ok.hd hc) (uJ s1.heap _) λh' hx'=>?_)));refine aA (jY (qX (oK (I2.kept (t':=s1.toks) λb o e=>hx' b o (aX (aV e)) e) hN hk (.inl hz) ru (λs2 I4=>?_) (.inr hz))));refine jY (qX (oK I4 hN hj (.inl hy) vY (λs3 I5=>?_) (.inr hy)));refine jY (qX (oK I5 hN hi (.inl hx) rv (λs4 I6=>Bq (bf ?_)) (.inr hx)));let e:((σ.set k (some u)).set j (some w)).set i (some v)=((σ.set i (some v)).set j (some w)).set k (some u):=by rw[vZ _ _ (bF JT),vZ _ _ (bF hik),vZ _ _ (bF Bl)]
 rw[e]at I6;exact#[_,H1,I6,q1]
theorem wD{k:Bool}(h:VE X a δ (.bool k)):VE X (.UnaryOp .Not a pos) δ (.bool (not k)):=.of (Vc ck) λB0 B σ H0 H Q f q=>h B0 B σ H0 H _ f λv H1 c7 g r=>by cases r;exact#[k,Y,q _ H1 c7 g (.bl _)]
theorem qC{st:!jT}{o:Out}(h:∀B0 B σ H0 H D,fM X.K B0 B H0 H σ δ->sV X.K B0 B H0 D o->zt X st D σ H):vz X st δ o:=h
end
section
variable{p:Pos}{x:O}
theorem BI:iY X (.type "str") (λxs H Q=>∃x,xs=[.str x]/\Q (.str x) H):=by intro pins s σ H xs us Q I r h;let#[x,rfl,q]:=h;let#[u,rfl,t,rfl]:=vals1 r;exact PySem.P.str_of_str #[.str x,H,I,#[t,Y],q]
theorem Wh:pI K (λxs H Q=>∃x,xs=[.str x]/\Q (.str x) H) [.str x] (.str x):=λvs H0 H Q s r k=>by let#[v,rfl,r1]:=r.one;cases r1;exact#[x,Y,k _ _ _ (.refl s) (.str _)]
theorem Rj{a:bY}{X:Cx}{δ:!Slot}{pos:Pos}(h:VE X a δ (.str x))(hm:X.mg "str"=none)(hg:Gl X "str":=by rfl)(hs:j8 X a []:=by rfl):VE X (.Call (.Name "str" p) [a] [] pos) δ (.str x):=kz BI Wh (cR h cO hs) hm Y hg (he:=hs)
theorem DK:ym K (λxs H Q=>∃p ys,xs=[.ref p]/\(jW K H p ys\/oC K H p ys)/\∀l,H l=none->Q (.ref l) (upd H l (.lst ys))) [.tuple ds] ds:=λvs H0 H Q s r q=>by
 let#[v,rfl,r1]:=r.one;cases r1 with
 |tup hq rs=>exact#[_,_,Y,.inr (s.oM hq),λl hl=>(q l _ H0 _ (.loose s hl) hl (s.free hl) aM rs)]
end
section
variable{prog:bU}{w:c0}{E:M->aU->Prop}{s:aU}
theorem uU{A:jm}{l:U}{items:Array M}(hh:A.handled=none)(hl:s.heap.IsTuple l items)(T:Nat->dF->Prop)
  (t0:∀led h',h'.get? s.heap.objs.size>>(j9 led)->(∀b o,s.heap.get? b>>o->h'.get? b>>o)->T 0 h')
  (keep:∀i h h',T i h->(∀b o,b≠s.heap.objs.size+1->h.get? b>>o->h'.get? b>>o)->T i h')
  (add:∀i v (s':aU) (Q:Bool->aU->Prop) (E:M->aU->Prop),i<items.size->items[i]?>>v->T i s'.heap->(∀h' tk b,s'.toks<=tk->iJ s.heap.objs.size s'.heap h'->T (i+1) h'->Q b { s' with heap:=h',toks:=tk })->wpAny (model prog w) A.in1.in1.in1 (setAdd s.heap.objs.size v) Q E s')
  (h:∀(h':dF)(tk:Nat),T items.size h'->(∀b o,b<s.heap.objs.size->s.heap.get? b>>o->h'.get? b>>o)->Q (.ref s.heap.objs.size) { s with heap:=h',toks:=tk }):
  wpAny (model prog w) A (call (.type "set") [.ref l]) Q E s:=by
 let#[c,tl,ziY]:=k5.mro;let zgw:=k5.made;let z_:=k5.sub;refine wpAny_call (codeAny_of_tree ?_);show wpAny _ _ (callAny (.type "set") _) _ _ _;refine bf #[Code.quiet_builtin _ ∎,mI F.entry_type_call ?_];rw[jm.under_plain (weight_type_call_type "set" [.ref l] []) Y];let h1:=k5.notType;let h2:=k5.canCreate;let hct:=F.typeCall_set_1 (.ref l)
 repeat (any_goals (first|assumption|wp_step))
 refine qm (code_set_new_1 (.ref l) (E:=E) (Q₁:=λobj s₁=>∃led:Bool,obj=.ref s.heap.objs.size/\s₁={ s with heap:=s.heap.push (j9 led) }) λled=>#[led,Y,Y]) λr s₁ hr=>?_;cases r with
 |error e=>exact hr
 |ok fl=>
  cases fl with
  |ret obj=>
   let#[led,rfl,rfl]:=hr;let hS:(s.heap.push (j9 led)).get? s.heap.objs.size>>(j9 led):=bx _ Y;let hT:aU.TypeIs { s with heap:=s.heap.push (j9 led) } (.ref s.heap.objs.size) "set":=#[_,hS,Y];let hli:=k5.init.lookup;let hbi:=k5.init.bind (.ref s.heap.objs.size)
   repeat (any_goals (first|assumption|wp_step))
   refine qm (codeAny_call_builtin (R:=wants (λr s₂=>r=.none/\∃h' tk,s₂={ s with heap:=h',toks:=tk }/\T items.size h'/\(∀b o,b<s.heap.objs.size->s.heap.get? b>>o->h'.get? b>>o)) E) k5.init.plain F.entry_set_init (check_set_init_1 hT ?_)) λr₂ s₂ hr₂=>?_
   .let#[ol,Qh,HR,nl,NX]:=hl;let#[zdv,TR,Zm,N5]:=ol;simp only at HR NX;subst HR;subst NX;let zdw:(s.heap.push (j9 led)).get? l=some { cls:=.type "tuple",dict:=TR,data:=.seq items nl,slots:=N5 }:=aE _ Qh;let ziZ:=F.sub_tuple_set;let zi0:=F.sub_tuple_frozenset;let sj:(rY "tuple"==rY "dict")=false:=⋯;let MG:(s.heap.push (j9 led)).IsTuple l items:=#[_,zdw,Y,nl,Y];unfold vi.«set.__init__» noKeywords vi.Frozenset.updateFrom;generalize hPI:pyIter=PI
    wp_walk
    subst hPI;refine zJ MG ?_;refine aA (wpAny_runValue ?_);let Zn:l<s.heap.objs.size:=aV Qh;let hh3:A.in1.in1.in1.handled=none:=by simp[hh]
    let Dv:(s.heap.push (j9 led)).objs.size=s.heap.objs.size+1:=ic _ _;let zdx:l≠(s.heap.push (j9 led)).objs.size:=[Dv]▸aX (ku Zn);let VB:s.heap.objs.size∉[(s.heap.push (j9 led)).objs.size,l]:=by rw[Dv];simp only[au,aK,bu,or_false,not_or];exact#[aX (Nat.lt_succ_self _),gI Zn]
    refine Nr ((Walks.tuple hh3 _ l zdx items).toS) s.heap.objs.size VB T (λi h h' t k=>keep i h h' t λb o hb e=>k b o ?_ e) (λi v s' Q E hi hv t q=>add i v s' Q E hi hv t q) (items.size-0) 0 _ () (bj _)
     #[#[_,bx _ Y,Y,Y],(MG.push _)] ?hS0 ?hR
    .rw[Dv];intro z;rw[aK]at z;exact hb z
    case hS0=>exact t0 led _ (aE _ hS) λb o e=>aE _ (aE _ e)
    case hR=>intro s' hm Zo;let#[h',g',d',Cj,Xw]:=s';let eg:g'=s.gens:=hm.gens;let ed:d'=s.drawn:=hm.drawn;let eo:Xw=s.os:=hm.os;subst eg;subst ed;subst eo;show wpAny _ _ _ _ _ _;refine bf ?_;show wpAny _ _ (ret rX) _ _ _;refine bf #[Y,h',Cj,Y,Zo,λb o hb e=>?_];let hb1:b≠s.heap.objs.size:=aX hb;let Zq:b≠(s.heap.push (j9 led)).objs.size:=[Dv]▸aX (ku hb);exact hm.heap b o (by simp only[au,aK,bu,or_false,not_or];exact#[hb1,Zq]) (aE _ (aE _ e))
   .cases r₂ with
    |error e=>exact hr₂
    |ok fl₂=>
     cases fl₂ with
     |ret r=>
      let#[rfl,h',tk,rfl,Zo,hk']:=hr₂
      repeat (any_goals (first|assumption|wp_step))
      exact h _ _ Zo hk'
     |_=>exact hr₂.elim
  |_=>exact hr.elim
end
section
variable{X:Cx}{a b:bY}{δ:!Slot}{ds:!J}{pos p p2 DM:Pos}
def Wi(K:aq):!V->Hp->VK->Prop:=λxs H Q=>∃(a:U)(ss:!O),xs=[.ref a]/\oC K H a (ss.map V.str)/\ss.length<4000/\∀l,H l=none->Q (.ref l) (upd H l (.ext (Ff l (dd [] ss).length)))
theorem Ak(hc:X.calm=true):iY X (.type "set") (Wi X.K):=by
 intro pins s σ H xs us Q I r h;let#[a,ss,rfl,hq,h4,q]:=h;let#[u,rfl,rx]:=vals1 r;cases rx;let#[its,rv,pl,hz]:=I.tuple hq;let Wj:=rv.length;simp only[ae]at Wj;let yT:its.toArray.size=ss.length:=by simp;omega
 refine uU (I.ok.hd hc) pl (λi h=>(∀b o,s.heap.get? b>>o->h.get? b>>o)/\h.SetOf (strKind X.prog X.w) s.heap.objs.size (λk=>decide (k∈dd [] (ss.take i))) (dd [] (ss.take i)).length) (λled h' e k=>?_) (λi h h' #[k1,T] k=>?_) (λi v s' Q' E' hi hv #[k1,T] q'=>?_) (λh' tk #[k1,T] _=>?_)
 .let n0:dd [] (ss.take 0)=[]:=by rw[List.take_zero];rfl
  refine#[k,?_];rw[n0];refine#[_,#[],0,_,e,#[Y,Y,Y],Y,(λe he=>by cases he),(λk=>#[λz=>by simp at z,λ#[e,he,_]=>by cases he]),(by show 0<scanBound;unfold scanBound;omega),Y,Y]
 .refine#[λb o e=>k b o ?_ (k1 b o e),?_]
  .let:=aV e;exact aX (ku this)
  .let#[o,es,ep,t,ho,rest]:=T;exact#[o,es,ep,t,k _ _ () ho,rest]
 .rw[yT]at hi;let#[x,t,hx,rfl]:=Ci rv i v ↑hv;let Zr:(strKind X.prog X.w).is x (.str x t)=true:=by show vW x (.str x t)=true;simp[vW]
  let hle:=xM (ss.take i) [];simp[dP,mQ,a9]at hle;let TV:ss.take (i+1)=ss.take i ++ [x]:=by rw[bO,hx];rfl
  refine mF (aA ((strKind X.prog X.w).pyHash Zr ?_));refine wpAny_setAddHashed_of Zr Y T (by unfold scanBound;omega) λh' sb T'=>q' h' _ _ (Bi _) sb #[λb o e=>?_,?_]
  .let hb:=aV e;rw[sb.2 b (aX hb)];exact k1 b o e
  .let ed:dd [] (ss.take (i+1))=if decide (x∈dd [] (ss.take i))=true then dd [] (ss.take i)else dd [] (ss.take i) ++ [x]:=by rw[TV,Cg];rfl
   rw[ed];by_cases hm:decide (x∈dd [] (ss.take i))=true
   .rw[qQ3 hm]at T' ⊢;refine SetOf_congr T' (λk=>?_) Y;by_cases hk:k=x
    .subst hk;rw[hm];rfl
    .simp[hk]
   .rw[qQ2 hm]at T' ⊢;refine SetOf_congr T' (λk=>?_) ∅;rw[e8];simp
 .rw[yT,cq]at T;exact#[.ref s.heap.objs.size,_,I.laid k1 () (SetOf.zdh T).ok,Y,q _ (I.hok.fresh ())]
theorem Fn{ss:!O}(h:VE X a δ (.tuple (ss.map .str)))(hl:ss.length<4000)(hc:X.calm=true)(m1:X.mg "len"=none)(m2:X.mg "set"=none)(hg:Gl X "len":=by rfl)(Q5:Gl X "set":=by rfl)
  (hs:j8 X a []:=by rfl)(pZ:starEach [.Call (.Name "set" p2) [a] [] DM] X.env=(false,eval (.Call (.Name "set" p2) [a] [] DM) X.env)::starEach [] X.env:=by rfl)(jX:qg X DM []:=by rfl)(Wk:qg X pos []:=by rfl):
  VE X (.Call (.Name "len" p) [.Call (.Name "set" p2) [a] [] DM] [] pos) δ (.int (dd [] ss).length):=
 .of (qv uS hg m1 o8 (cy (mV (Ak hc) Q5 m2 (by rfl) (cy ck dU hs) ⋯ ⋯ hs jX) dU pZ) ⋯ ⋯ pZ Wk) λB0 B σ H0 H Q f q=>h B0 B σ H0 H _ f λv H1 c7 g r=>by
  cases r with
  |tup hq rs=>let e:=rs.strs;subst e;let:=xM ss [];exact#[_,ss,Y,g.sub.oM hq,hl,λl hl'=>#[l,_,Y,aM,by simp at this;omega,q _ H1 _ (g.trans (.loose g.sub hl')) (.int _)]]
def Cr:!Bool->Bool:=λl=>l.any id
theorem N6(hc:X.calm=true):iY X (.builtin "any") (λxs H Q=>∃p bs,xs=[.ref p]/\jW X.K H p (bs.map V.bl)/\Q (.bl (Cr bs)) H):=by
 intro pins s σ H xs us Q I r h;let#[p,bs,rfl,hq,q]:=h;let#[u,rfl,rx]:=vals1 r;cases rx;let#[its,rv,pl,hz]:=I.list hq;let hl:=rv.length;simp only[ae]at hl;refine call_any_walkS (nQ pl.isList ?_);let VZ:∀(i:Nat)v,its.toArray[i]?>>v->v=.bool _:=λi v hv=>by
  let M3:its[i]?>>v:=by simpa using hv
  let e:=rv.getD i;let e2:its.getD i rX=v:=by rw[aG,M3];rfl
  let hi:i<bs.length:=by let:=(aF.mp M3).1;omega
  let e3:(bs.map V.bl).getD i .non=.bl (bs.getD i false):=by rw[aG,ax,aG,ao hi];rfl
  rwa[e2,e3]at e
 refine#[_,_,_,_,_,_,_,λi=>bs.getD i false,Y,(Walks.list (by simp[I.ok.hd hc]) _ p (aX (aV pl.isList.choose_spec.1)) its.toArray).toS,#[#[_,bx _ Y,Y,Y],pl.isList.push _],?_,λs' hm=>?_]
 .intro i v Q' E' s' hv q';rw[VZ i v hv];exact gu q'
 .let ea:(cF its.toArray.size).any (λi=>bs.getD i false)=Cr bs:=by
   rw[bC,<-hl];unfold Cr;rw[e8,kJ,kJ];constructor
   .rintro⟨i,hi,h⟩;let hi:=cG.mp hi;rw[aG,ao hi]at h;exact#[_,cN hi,h]
   .rintro⟨x,hx,h⟩;let#[i,hi]:=ub.mp hx;refine#[i,cG.mpr (aF.mp hi).1,?_];rwa[aG,hi]
  rw[ea];let#[h',g',d',Cj,Xw]:=s';let eg:=hm.gens;let ed:=hm.drawn;let eo:=hm.os;subst eg;subst ed;subst eo;refine#[.bl _,H,I.kept λb o e=>hm.heap b o ?_ (aE _ e),Y,q];let:=aV e;simp;exact aX this
theorem Zt:pI K (λxs H Q=>∃p bs,xs=[.ref p]/\jW K H p (bs.map V.bl)/\Q (.bl (Cr bs)) H) [.list (bs.map .bool)] (.bool (Cr bs)):=λvs H0 H Q s r q=>by
 let#[v,rfl,r1]:=r.one;cases r1 with
 |lst hq rs=>let e:=rs.bls;subst e;exact#[_,bs,Y,s.seq hq,q _ _ _ (.refl s) (.bl _)]
theorem xP:fillsNumberSlot (.type "tuple") "mul"=pure false:=
 PySem.fillsNumberSlot_seq Bw.lookup ∎ F.slot_tuple_rmul.lookup ∎
theorem DN:seqRepeat? (.type "tuple")=pure (some (.builtin "tuple.__mul__")):=by unfold seqRepeat?;rfl
theorem Al(i:Int)(t:Tok)(l:U)(items:Array M)(n:Nat)(dd:Option U)(sl:Array (Option M)):
  Meets (vi.«int.__rmul__» #[[.int i t,.ref l],[]]) (λ_ R s=>s.heap.get? l=some { cls:=.type "tuple",dict:=dd,data:=.seq items n,slots:=sl }/\R (.ok (.ret M.notImplemented)) s):=
 .of_wp λprog w A R s h=>by let#[hp,g,d,tk,os]:=s;let#[hl,h]:=h;wp_walk;exact#[_,Y,h]
theorem BJ(l:U)(items:Array M)(n:Nat)(dd:Option U)(sl:Array (Option M))(t:Tok):
  Meets (vi.«tuple.__mul__» #[[.ref l,.int 1 t],[]]) (λ_ R s=>s.heap.get? l=some { cls:=.type "tuple",dict:=dd,data:=.seq items n,slots:=sl }/\R (.ok (.ret (.ref l))) s):=
 .of_wp λprog w A R s h=>by
  let#[hp,g,d,tk,os]:=s;let#[hl,h]:=h;let f1:=Js;let f2:=Bk;let c1:(items.isEmpty||(1:Int)==1)=true:=∅
  wp_walk using eQ hl
  exact#[_,Y,h]
theorem Am(l:U)(its:!M)(n:Nat)(dd:Option U)(sl:Array (Option M))(k:Int)(t:Tok)(hk:2<=k)(hk2:k<2^63)(sj:its≠[])(yT:its.length*k.toNat<=sizeLine):
  Meets (vi.«tuple.__mul__» #[[.ref l,.int k t],[]]) (λ_ R s=>s.heap.get? l=some { cls:=.type "tuple",dict:=dd,data:=.seq its.toArray n,slots:=sl }/\R (.ok (.ret (.ref s.heap.objs.size))) { s with heap:=s.heap.push { cls:=rY "tuple",data:=Data.seq (aW k.toNat its).flatten.toArray } }):=
 .of_wp λprog w A R s h=>by
  let#[hp,g,d,tk,os]:=s;let#[hl,h]:=h;let f1:=Js;let f2:=Bk;let Zu:its.toArray.isEmpty=false:=by cases its with|nil=>exact qQ7 rfl sj|cons _ _=>rfl
  let zi4:its.toArray.size*k.toNat<=sizeLine:=[bC]▸yT;let Zv:List.foldl (λx1 x2=>x1++x2) #[] (aW k.toNat its.toArray)=(aW k.toNat its).flatten.toArray:=by let:=foldl_rep its k.toNat [];rw[e9]at this;exact this
  generalize hI:its.toArray=items at *;let hc1:¬(items.isEmpty||k==1)=true:=by rw[Zu];simp;omega
  let Tn:¬(decide (k<=0)||items.isEmpty)=true:=by rw[Zu];simp;omega
  let hmul:(items.size:Int)*k=((items.size*k.toNat:Nat):Int):=by rw[Int.natCast_mul,v8 ()]
  let hsl:(sizeLine:Int)<=(2^63-1)/8:=⋯;let hc3:¬((items.size:Int)*k>(2^63-1)/8):=by rw[hmul];omega
  wp_walk using eQ hl
  refine mK (qQ0 (by simp;omega)) ?_
  wp_walk using eQ hl
  refine mK (qQ0 hc1) ?_
  wp_walk using eQ hl
  refine mK (qQ0 Tn) ?_
  wp_walk using eQ hl
  refine mK (qQ0 hc3) ?_
  wp_walk using eQ hl
  refine mK (qQ0 (by unfold vi.Tuple.tupleTooMany;rw[hmul];simp only[gt_iff_lt,decide_eq_true_eq];omega)) ?_
  wp_walk using eQ hl
  rw[Zv];refine mK (qQ0 ?_) ?_
  .rw[bC,len_rep];let:items.size=its.length:=by rw[<-hI,bC]
   rw[Nat.mul_comm];omega
  wp_walk
  exact#[_,Y,h]
def Zw(K:aq):R2:=λx y H Q=>∃a k xs,x=.ref a/\y=.int k/\oC K H a xs/\1<=k/\k<2^63/\xs≠[]/\xs.length*k.toNat<=sizeLine/\(k=1->Q (.ref a) H)/\(k≠1->∀p,H p=none->Q (.ref p) (upd H p (.tup (aW k.toNat xs).flatten)))
theorem Rk:uf X (binaryOp .Mult) (Zw X.K):=by
 intro pins s σ H x y v u Q I rx ry h;let#[a,k,xs,rfl,rfl,ha,h1,h2,hx,hz,q1,q2]:=h;cases rx;let#[t,rfl]:=ry;let#[its,r1,p1,_]:=I.tuple ha;let#[#[cls,dd,data,sl],ho,hc,n,hd]:=id p1;subst hc hd;refine wpAny_binaryOp_repeat_ref ⋯ #[_,ho,Y] (λs'=>typeIs_int s' k t) xP F.fills_int_mul F.slot_int_rmul DN F.slot_int_index.lookup
  (jq F.slot_int_rmul (typeIs_int s k t) F.entry_int_rmul (F.args_int_rmul_2 _ _) (Al k t a its.toArray n dd sl) #[ho,Y,#[_,ho,Y],?_]);by_cases hk:k=1
 .subst hk;exact jq Bw #[_,ho,Y] F.entry_tuple_mul (F.args_tuple_mul_2 _ _) (BJ a its.toArray n dd sl t) #[ho,.ref a,H,I,Y,q1 Y]
 .refine jq Bw #[_,ho,Y] F.entry_tuple_mul (F.args_tuple_mul_2 _ _) (Am a its n dd sl k t () h2 (λz=>hx (r1.zq.mp z)) ([<-r1.length]▸hz)) #[ho,?_];refine#[.ref s.heap.objs.size,_,I.laid (λb ob q=>aE _ q) () ?_,Y,q2 hk _ (I.hok.fresh ())];exact#[[len_rep,Nat.mul_comm]▸hz,_,r1.rep k.toNat,uJ _ _]
theorem Rm{n:Int}(h1:VE X a δ (.tuple ds))(h2:VE X b δ (.int n))(hn:1<=n)(hn2:n<=1000)(hz:ds.length<=100)(sj:ds≠[]):VE X (.BinOp a .Mult b pos) δ (.tuple (aW n.toNat ds).flatten):=by
 refine .of (JB Rk ck ck) λB0 B σ H0 H Q f q=>h1 B0 B σ H0 H _ f λv H1 c7 g1 r1=>h2 B0 B σ H1 c7 _ (f.grow g1) λu H2 fA g2 r2=>?_;cases r2;cases r1 with
 |tup hq rs=>
  rename_i ad xs
  let gg:=g1.trans g2;let hl:=rs.length;let TQ:=rs.mono g2.eV;let go:∀m,b_ X.K H2 (aW m xs).flatten (aW m ds).flatten:=by
   intro m;induction m with
   |zero=>exact .nil
   |succ m ih=>rw[fu,fx,fu,fx];exact TQ.append ih
  refine#[_,n,_,Y,Y,g2.sub.oM (g2.eV.oM hq),hn,(),λz=>?_,?_,λe=>?_,λ_ p hp=>?_]
  .rw[z]at hl;exact sj (nU hl.symm)
  .rw[dD,hl];let:n.toNat<=1000:=();let:=kG hz this;omega
  .refine q _ H2 fA gg ?_;let e2:(aW n.toNat ds).flatten=ds:=by rw[e];simp
   rw[e2];exact .tup (g2.eV.oM hq) TQ
  .exact q _ _ _ (gg.trans (.laid g2.sub hp)) (.tup (oC.of aM) ((go _).mono (cP.laid g2.sub hp).eV))
end
def gK(as:!U)(H H0:Hp):Hp:=λq=>if q∈as then H q else H0 q
theorem f7(h:q∈as):gK as H H0 q=H q:=qQ3 h
theorem gf(h:q∉as):gK as H H0 q=H0 q:=qQ2 h
abbrev OR:=Hp->Hp->!U->Prop
def fq(R:OR):Prop:=∀H0 H Ha Hb as,R H0 H as->cz H0 Ha->(∀a∈as,Hb a=H a)->R Ha Hb as
structure OF(K:aq)(B0 B:Hp)(R:OR)(H0 H:Hp)(σ:St)(δ:!Slot):Prop where
 fr:fM K B0 B H0 H σ δ
 no:noOwn δ=true
 ex:∃as:!U,(∀a∈as,H0 a=none/\B a=none/\H a≠none)/\R H0 H as
section
theorem cz.eq(s:cz H H')(h:H a≠none):H' a=H a:=by
 cases e:H a with
 |none=>exact qQ7 e h
 |some o=>exact s a o e
theorem OF.go(m:fq R)(G:OF K B0 B R H0 H σ δ)(f':fM K H0 H Ha Hb σ' δ')(hn:noOwn δ'=true):OF K B0 B R Ha Hb σ' δ':=by
 let#[as,h1,h2]:=G.ex;refine#[f'.re hn (G.fr.ent.trans f'.ent),hn,as,λa ha=>?_,m _ _ _ _ _ h2 f'.ent.eV λa ha=>f'.ent.big.eq (h1 a ha).2.2];let#[z1,z2,z3]:=h1 a ha;cases e:H a with
 |none=>exact qQ7 e z3
 |some o=>exact#[f'.ent.still z1 e,z2,f'.ent.big.ne z3]
theorem OF.from(G:OF K B0 B R H0 H σ δ)(g:cP C0 B H0 H):OF K C0 B R H0 H σ δ:=#[G.fr.re G.no g,G.no,G.ex]
theorem OF.own(G:OF K B0 B R H0 H σ δ):fM K H0 H H0 H σ δ:=G.fr.re G.no (.refl G.fr.sub)
theorem OF.forget(m:fq R)(G:OF K B0 B R H0 H σ δ)(hf:MF δ δ')(hn:noOwn δ'=true):OF K B0 B R H0 H σ δ':=G.go m (G.own.forget hf.len hf.at) hn
theorem OF.imp(G:OF K B0 B R H0 H σ δ)(h:∀as,R H0 H as->R' H0 H as):OF K B0 B R' H0 H σ δ:=by let#[as,h1,h2]:=G.ex;exact#[G.fr,G.no,as,h1,h as h2]
theorem kS(sb:cz H0 H):cz H0 (gK as H H0):=λb u e=>by
 by_cases hb:b∈as
 .rw[f7 hb];exact sb b u e
 .rwa[gf hb]
theorem zy(sb:cz H0 H):cz (gK as H H0) H:=λb u e=>by
 by_cases hb:b∈as
 .rwa[f7 hb]at e
 .rw[gf hb]at e;exact sb b u e
theorem OF.TX(G:OF K B0 B R H0 H σ δ)(hi:δ[i]?>>(.ref p))(hR:∀Ha Hb as,cz Ha Hb->R Ha Hb as->Rep K (gK as Hb Ha) (.ref p) d):∃as,(∀a∈as,H0 a=none/\B a=none/\H a≠none)/\R H0 H as/\fM K (gK as H H0) H (gK as H H0) H σ (δ.set i (.val d)):=by
 let#[as,h1,h2]:=G.ex;let sm:=kS (as:=as) G.fr.sub;let hs:=G.fr.slot i _ hi;let f0:fM K (gK as H H0) H (gK as H H0) H σ δ:=by
  refine#[.refl (zy G.fr.sub),G.fr.len,λi sl e=>?_,G.fr.apart];let q:=G.fr.slot i sl e;cases sl with
  |un=>trivial
  |ref _=>exact q
  |val d=>let#[v,g1,g2]:=q;exact#[v,g1,g2.mono sm]
  |own ds=>exact qQ7 e (fK G.no i ds)
 let f1:=f0.xK (i:=i) (sl:=.val d) #[_,Y,hR H0 H as G.fr.sub h2] Y;let e:σ.set i (some (.ref p))=σ:=by
  apply gP;intro j;by_cases h:j=i
  .subst h;rw[a7 (aF.mp hs).1,hs]
  .rw[aY (bF h)]
 rw[e]at f1;exact#[as,h1,h2,f1]
theorem OF.look(G:OF K B0 B R H0 H σ δ)(hi:δ[i]?>>(.ref p))(hR:∀Ha Hb as,cz Ha Hb->R Ha Hb as->Rep K (gK as Hb Ha) (.ref p) d):∃C0,fM K C0 H C0 H σ (δ.set i (.val d)):=
 let#[_,_,_,f]:=G.TX hi hR;#[_,f]
theorem OF.rep(G:OF K B0 B R H0 H σ δ)(hR:∀Ha Hb as,cz Ha Hb->R Ha Hb as->Rep K (gK as Hb Ha) (.ref p) d):∃Ha,cP B0 B Ha H/\Rep K Ha (.ref p) d:=by
 let#[as,h1,h2]:=G.ex;refine#[_,#[G.fr.ent.big,G.fr.ent.eV.trans (kS G.fr.sub),zy G.fr.sub,λb e=>?_],hR H0 H as G.fr.sub h2];by_cases hb:b∈as
 .exact .inr (h1 b hb).2.1
 .rw[gf hb]at e;exact G.fr.ent.new b e
end
section
variable{X:Cx}{B0 B H0 H cY H' Ha Hb:Hp}{σ σ':St}{D:Ends}{δ δ':!Slot}{p:U}{e:bY}{d dp:J}{pos px:Pos}{x y:O}{R:OR}
theorem mX{st:jT}(m:fq R)(G:OF X.K B0 B R H0 H σ δ)(h:VS X st δ (.nx δ'))(hn:noOwn δ'=true)(q:∀σ' cY H',OF X.K B0 B R cY H' σ' δ'->D.nx σ' H'):cS X st D σ H:=
 h H0 H σ H0 H D G.own λσ' Ha Hb sm f'=>q σ' Ha Hb (G.go m f' hn)
theorem N7(m:fq R)(G:OF X.K B0 B R H0 H σ δ)(i j:Nat)(hi:δ[i]?>>(.ref p))(hR:∀Ha Hb as,cz Ha Hb->R Ha Hb as->Rep X.K (gK as Hb Ha) (.ref p) dp)(h:VE X e (δ.set i (.val dp)) d)(hs:yo d=true)(hn:noOwn (δ.set j (.val d))=true)(q:∀σ' cY H',OF X.K B0 B R cY H' σ' (δ.set j (.val d))->D.nx σ' H')(hN:X.N.Nodup)
  (hj:X.N[j]?>>y:=by rfl)(hx:Loc X.env.scope y:=by left)(qB:zN X pos e (.Name y px):=by rfl)(hf:Dl X y:=by left):
  cS X (.Assign [.Name y px] e pos) D σ H:=λpins s I=>by refine pY hN hj hx ck qB hf pins s σ H D I ?_;let#[C0,f1]:=G.look hi hR;refine h C0 H σ C0 H _ f1 λv C1 H1 g1 r=>?_;let G1:=G.go m (G.own.grow (.far G.fr.sub g1.big)) G.no;exact q _ H0 H1 (G1.go m (G1.own.xK #[_,Y,r.HK hs] Y) hn)
section
theorem N8(Rs:Nat->OR)(δs:Nat->!Slot)(m:∀k,fq (Rs k))(G:OF X.K B0 B (Rs 0) H0 H σ (δs 0))(hp:C7 (model X.prog X.w) X.A X.env X.xe)(hc:X.calm=true)(hi:VI X tg iter (δs 0) ds)(hg:PG X tg (Ld X.K tgt))
  (step:∀k d,ds[k]?>>d->∃δ',yX tgt d (δs k)>>δ'/\noOwn δ'=true/\∀(D:Ends)C0 σ' cY H',OF X.K C0 B (Rs k) cY H' σ' δ'->(∀σ2 Ha Hb,OF X.K C0 B (Rs (k+1)) Ha Hb σ2 (δs (k+1))->D.nx σ2 Hb)->zt X body D σ' H')
  (q:∀σ2 Ha Hb,OF X.K B0 B (Rs ds.length) Ha Hb σ2 (δs ds.length)->D.nx σ2 Hb)
  (hs:My X iter:=by intro _;rfl):cS X (.For tg iter body [] pos) D σ H:=λpins s I=>by
 let#[wi,pi,qi]:=hi;refine G' hp hc pi hg ly hs pins s σ H D I ?_;refine qi H0 H σ H0 H _ G.own λJa H1 c7 g it=>?_;let G1:=G.go (m 0) (G.own.grow g) G.no;refine#[λi mm σ' H'=>i<=ds.length/\mm=ds.length-i/\∃Ha,OF X.K H1 B (Rs i) Ha H' σ' (δs i),#[_,bj _,Y,H1,G1.from #[G1.fr.ent.big,cz.refl _,G1.fr.sub,λ_ z=>.inl z]],?_];rintro i mm σ' H' ⟨hi,rfl,Ha,Ga⟩;let#[i1,i2,i3]:=it Ha H' Ga.fr.ent.eV Ga.fr.sub i;by_cases oE:i<ds.length
 .let hd:ds[i]?>>ds[i]:=by simp[oE]
  let#[δ',e1,e2,e3]:=step i _ hd;refine .inr #[i1 oE,λσ'' Ez=>∃Hb,_,λσ'' Ez #[Hb,z]=>#[_,(),oE,Y,Hb,z],λv H2 y=>?_];let#[Hb,g2,rx]:=i3 v H2 _ hd y;exact sU (Ga.own.grow g2) rx e1 λσ3 f3=>(e3 _ H1 σ3 Hb H2 (Ga.go (m i) f3 e2) λσ2 Hc Hd z=>#[Hc,z])
 .let e:i=ds.length:=();subst e;refine .inl #[i2 (),q σ' Ha H' (Ga.from #[Ga.fr.ent.big,G1.fr.ent.eV.trans Ga.fr.ent.eV,Ga.fr.sub,λb z=>?_])];rcases Ga.fr.ent.new b z with z|z
  .exact G1.fr.ent.new b z
  .exact .inr z
end
theorem yr(Rs:Nat->OR)(m:∀k,fq (Rs k))(G:OF X.K B0 B (Rs 0) H0 H σ δ)(hp:C7 (model X.prog X.w) X.A X.env X.xe)(hc:X.calm=true)(hi:VI X tg iter δ ds)(hg:PG X tg (Ld X.K tgt))
  (step:∀k d,ds[k]?>>d->∃δ',yX tgt d δ>>δ'/\noOwn δ'=true/\∀(D:Ends)C0 σ' cY H',OF X.K C0 B (Rs k) cY H' σ' δ'->(∀σ2 Ha Hb,OF X.K C0 B (Rs (k+1)) Ha Hb σ2 δ->D.nx σ2 Hb)->zt X body D σ' H')
  (q:∀σ2 Ha Hb,OF X.K B0 B (Rs ds.length) Ha Hb σ2 δ->D.nx σ2 Hb)
  (hs:My X iter:=by intro _;rfl):cS X (.For tg iter body [] pos) D σ H:=N8 Rs (λ_=>δ) m G hp hc hi hg step q hs
theorem TY(G:OF X.K B0 B R H0 H σ δ)(i:Nat)(hi:δ[i]?>>(.ref p))(hR:∀Ha Hb as,cz Ha Hb->R Ha Hb as->Rep X.K (gK as Hb Ha) (.ref p) d)(q:∀v cY H',cP B0 B cY H'->Rep X.K cY v d->D.rt v H')
  (hN:rT X i x:=by ac_rfl):
  cS X (.Return (some (.Name x px)) pos) D σ H:=λpins s I=>xE (ud hN) pins s σ H D I (by let#[Ha,g,r]:=G.rep hR;exact#[_,G.fr.slot i _ hi,q _ Ha H g r])
def N9(K:aq)(S:Type)(PR:U->S->OR)(ok:S->J->S->Prop):Sp:=λvs H Q _=>∃(H0:Hp)(p:U)(v:V)(as:!U)(s s':S)(d:J),vs=[.ref p,v]/\cz H0 H/\Rep K H0 v d/\(∀a∈as,H0 a=none/\H a≠none)/\PR p s H0 H as/\ok s d s'/\
 ∀(cY H':Hp)(as':!U),cz H0 cY->cz cY H'->(∀a,cY a≠none->H0 a≠none\/H a=none)->(∀a∈as',cY a=none/\H' a≠none/\(a∈as\/H a=none))->(∀b o,H b>>o->b∉as->H' b>>o)->PR p s' cY H' as'->Q .non H'
theorem Zx{S:Type}{PR:U->S->OR}{ok:S->J->S->Prop}{k:Nat}{f:O}{ps:!O}{p0 p1 pc:Pos}{s s':S}(C:bw X.prog X.w X.K X.mg X.base k f ps (N9 X.K S PR ok))(hr:dB k X.A)(G:OF X.K B0 B (PR p s) H0 H σ δ)(m:fq (PR p s))(i:Nat)(hi:δ[i]?>>(.ref p))(h:VE X e δ d)(hok:ok s d s')
  (q:∀cY H',OF X.K B0 B (PR p s') cY H' σ δ->D.nx σ H')
  (hN:rT X i x:=by ac_rfl)
  (hg:Gl X f:=by rfl)(sJ:xr f:=by decide)(he:starEach [.Name x p0,e] X.env=(false,eval (.Name x p0) X.env)::starEach [e] X.env:=by rfl)(HC:j8 X e []:=by rfl)(jX:qg X pc [e]:=by rfl)
  (qB:S8 X pos (.Call (.Name f p1) [.Name x p0,e] [] pc):=by rfl):
  cS X (.Expr (.Call (.Name f p1) [.Name x p0,e] [] pc) pos) D σ H:=λpins s0 I=>by
 let#[fa,fd,F,hm,hk,hb]:=C;refine iR (wd F hr hg hm hk hb .nil wm (cy (ud hN) (cy ck dU HC) he) sJ he jX) qB pins s0 σ H D I ?_;refine#[_,G.fr.slot i _ hi,?_];refine h H0 H σ H0 H _ G.own λv H1 c7 g r=>?_;let G1:=G.go m (G.own.grow g) G.no;let#[as,h1,h2]:=G1.ex;refine#[H1,p,v,as,s,s',d,Y,G1.fr.sub,r,λa ha=>#[(h1 a ha).1,(h1 a ha).2.2],h2,hok,λcY H' as' a1 a2 a3 a4 a5 a6=>?_];let hB:∀b,B b≠none->b∉as:=λb hb z=>hb (h1 b z).2.1;refine q cY H' #[#[#[λb u e=>a5 b u (G1.fr.ent.big b u e) (hB b (by rw[e];simp)),G1.fr.ent.eV.trans a1,a2,λb z=>?_],G1.fr.len,λj sl e=>?_,G1.fr.apart],G.no,as',λa ha=>?_,a6]
 .rcases a3 b z with z|z
  .exact G1.fr.ent.new b z
  .exact .inr (G1.fr.ent.big.free z)
 .let qq:=G1.fr.slot j sl e;cases sl with
  |un=>trivial
  |ref _=>exact qq
  |val d=>let#[v,g1,g2]:=qq;exact#[v,g1,g2.mono a1]
  |own ds=>exact qQ7 e (fK G.no j ds)
 .let#[z1,z2,z3]:=a4 a ha;refine#[z1,?_,z2];rcases z3 with z3|z3
  .exact(h1 a z3).2.1
  .exact G1.fr.ent.big.free z3
end
theorem xQ{α:Type}{g:α->J}:∀{l:!α}{cs:!U},cs.length=l.length->(∀(i:Nat)c q,cs[i]?>>c->l[i]?>>q->Rep K H (.ref c) (g q))->b_ K H (cs.map V.ref) (l.map g)
 | [],[],_,_=>.nil
 | [],_::_,h,_=>by cases h
 |_::_,[],h,_=>by cases h
 |q::l,c::cs,h,k=>.cons (k 0 c q Y Y) (xQ ↑h λi c' q' e1 e2=>k (i+1) c' q' ↑e1 ↑e2)
section
theorem OF.put(G:OF K B0 B R H0 H σ δ)(m:fq R)(g:cP H0 H Ha Hb)(hR:∀as,R Ha Hb as->x∈as/\∃as',(∀a∈as',a∈as)/\R' Ha (upd Hb x o) as'):OF K B0 B R' Ha (upd Hb x o) σ δ:=by
 let G1:=G.go m (G.own.grow g) G.no;let#[as,h1,h2]:=G1.ex;let#[hx,as',hs,r']:=hR as h2;let#[z1,z2,z3]:=h1 x hx;refine#[G1.fr.touch z1 z2 (fK G1.no),G1.no,as',λb hb=>?_,r'];let#[w1,w2,w3]:=h1 b (hs b hb);refine#[w1,w2,?_];by_cases e:b=x
 .subst e;rw[aM];exact nofun
 .rwa[L e]
end
section
theorem OF.done(G:OF K B0 B R H0 H σ δ)(hi:δ[i]?>>(.ref p))(hR:∀Ha Hb as,cz Ha Hb->R Ha Hb as->Rep K (gK as Hb Ha) (.ref p) d):∃Ha,cz H0 Ha/\fM K B0 B Ha H σ (δ.set i (.val d)):=by
 let#[as,h1,h2]:=G.ex;let sm:=kS (as:=as) G.fr.sub;let hs:=G.fr.slot i _ hi;let f0:fM K B0 B (gK as H H0) H σ δ:=by
  refine#[#[G.fr.ent.big,G.fr.ent.eV.trans sm,zy G.fr.sub,λb e=>?_],G.fr.len,λi sl e=>?_,G.fr.apart]
  .by_cases hb:b∈as
   .exact .inr (h1 b hb).2.1
   .rw[gf hb]at e;exact G.fr.ent.new b e
  let q:=G.fr.slot i sl e;cases sl with
  |un=>trivial
  |ref _=>exact q
  |val d=>let#[v,g1,g2]:=q;exact#[v,g1,g2.mono sm]
  |own ds=>exact qQ7 e (fK G.no i ds)
 let f1:=f0.xK (i:=i) (sl:=.val d) #[_,Y,hR H0 H as G.fr.sub h2] Y;let e:σ.set i (some (.ref p))=σ:=by
  apply gP;intro j;by_cases h:j=i
  .subst h;rw[a7 (aF.mp hs).1,hs]
  .rw[aY (bF h)]
 rw[e]at f1;exact#[_,sm,f1]
end
def LL(K:aq)(a:U)(ps:!U)(gs:!(!J)):OR:=λH0 H as=>as=a::ps/\(a::ps).Nodup/\H a>>(.lst (ps.map V.ref))/\ps.length=gs.length/\∀(i:Nat)p ds,ps[i]?>>p->gs[i]?>>ds->∃xs,H p>>(.lst xs)/\b_ K H0 xs ds
section
theorem LL.mono:fq (LL K a ps gs):=by rintro H0 H Ha Hb as ⟨rfl,nd,h1,h2,h3⟩ sm hb;refine#[Y,nd,[hb a ∅]▸h1,h2,λi p ds e1 e2=>?_];let#[xs,y1,y2]:=h3 i p ds e1 e2;exact#[xs,[hb p (by simp[aH e1])]▸y1,y2.mono sm]
theorem LL.rep(Ha Hb:Hp)(as:!U)(s:cz Ha Hb)(h:LL K a ps gs Ha Hb as):Rep K (gK as Hb Ha) (.ref a) (.list (gs.map .list)):=by let#[rfl,nd,h1,h2,h3]:=h;refine .lst (jW.of ((f7 ∅).trans h1)) (xQ h2 λi c q e1 e2=>?_);let#[xs,y1,y2]:=h3 i c q e1 e2;exact .lst (jW.of ([f7 (by simp[aH e1])]▸y1)) (y2.mono (kS s))
theorem LL.row(h:LL K a ps gs Ha Hb as)(hp:ps[j]?>>p)(sm:cz Ha Hc)(hk:∀x∈a::ps,x≠p->Hd x=Hb x)(hx:Hd p>>(.lst xs))(r:b_ K Hc xs l'):LL K a ps (gs.set j l') Hc Hd (a::ps):=by
 let#[e,nd,h1,h2,h3]:=h;let n:=aO.mp nd;let hap:a≠p:=λz=>n.1 ([z]▸aH hp);refine#[Y,nd,[hk a ∅ hap]▸h1,[oB]▸h2,λi q ds e1 e2=>?_];by_cases hi:i=j
 .subst hi;rw[hp]at e1;cases e1;let hl:i<gs.length:=[<-h2]▸(aF.mp hp).1;rw[a7 hl]at e2;cases e2;exact#[xs,hx,r]
 .rw[aY (bF hi)]at e2;let hq:q≠p:=λz=>hi ((j7 (aF.mp e1).1 n.2).mp (by rw[e1,hp,z]));let#[ys,y1,y2]:=h3 i q ds e1 e2;exact#[ys,[hk q (by simp[aH e1]) hq]▸y1,y2.mono sm]
end
section
variable{X:Cx}{sc:o6}{own N:!O}{cap:!Nat}{cl:!(O×U)}{δ:!Slot}{ds:!J}{px E7 lp:Pos}{tgt:Qf}{x:O}
theorem Rn{H B0 B H0:Hp}{tg iter:bY}{pos:Pos}{σ:St}{D:Ends}(i:Nat)(f:fM X.K B0 B H0 H σ δ)(K2:noOwn δ=true)(hc:X.calm=true)(CS:ky X sc own cap N cl)(hi:VI X tg iter δ ds)(hg:∀f s3 H3,PG (fS X sc N cl f s3 H3) tg (Ld X.K tgt))(ht:uR own.length tgt=true)(hz:ds.length<=sizeLine)
  (step:∀d∈ds,∃δ',yX tgt d (nG own cap δ)>>δ')(hN:X.N.Nodup)(q:∀σ' a ps cY H',OF X.K B0 B (LL X.K a ps (aW ds.length [])) cY H' σ' (δ.set i (.ref a))->D.nx σ' H')(hn:∀a,noOwn (δ.set i (.ref a))=true)(Y1:X.N[i]?>>x:=by rfl)(hx:Loc X.env.scope x:=by left)
  (qB:swapsWith (.ListComp (.List [] lp) [#[tg,iter,[],0]] sc pos) (some (.Name x px)) E7.line X.env=pure true:=by rfl)(hs:My X iter:=by intro _;rfl)(hf:Dl X x:=by left):
  cS X (.Assign [.Name x px] (.ListComp (.List [] lp) [#[tg,iter,[],0]] sc pos) E7) D σ H:=λpins s I=>by
 let#[wi,pi,qi]:=hi;refine Aa (tc:=Tw X sc N cl []) (te:=teC X sc N cl _) hN Y1 hx hc CS pi hg (λf s3 H3 pins s σ H Q I h=>h f s3 H3 pins s I) (λf s3 H3 pins s σ H Q I h=>h f s3 H3 pins s I) qB hs hf pins s σ H D I ?_;refine qi B0 B σ H0 H _ f λJa H1 c7 g it=>?_;let f1:=f.grow g;intro La hL;let hBL:=f1.ent.big.free hL;refine#[λi m ys σ' H'=>i<=ds.length/\m=ds.length-i/\∃Ha ps,cP H1 c7 Ha H'/\fM X.K B0 B Ha H' σ' _/\Ha La=none/\ys=ps.map V.ref/\H' La>>(.lst ys)/\La∉ps/\ps.Nodup/\ps.length=i/\∀p∈ps,B p=none/\Ha p=none/\H' p>>(.lst []),
  #[_,bj _,Y,H1,[],.loose f1.sub hL,(f1.comp own cap).touch (f1.sub.free hL) hBL ji,f1.sub.free hL,Y,aM,∅,∅,Y,λp hp=>by cases hp],?_];rintro n m ys σ' H' ⟨hn1,rfl,Ha,ps,g1,fa,hLa,rfl,Zy,hLp,MH,jX,Wm⟩;let#[i1,i2,i3]:=it Ha H' g1.eV g1.sub n;by_cases oE:n<ds.length
 .refine .inr #[i1 oE,λv H2 y=>?_];let#[Hb,g2,rx]:=i3 v H2 ds[n] (by simp[oE]) y;let#[δ',e1]:=step ds[n] (cN oE);let#[k1,k2]:=comp_back ht e1;refine sU (fa.grow g2) rx e1 λσ3 f3=>?_;intro fp s3 H3;refine lP B0 B σ3 Hb H2 _ f3 λHc H4 g4=>?_;intro Xz s3' uD;refine (dQ cO) B0 B σ3 Hc H4 _ (f3.grow g4) λp xs Hd H5 g5 a1 a2 a3 a4=>?_;cases a4;let Ce:=(g2.trans g4).trans g5;let hL5:=Ce.still hLa Zy;let nLp:La≠p:=λz=>by let:=(g2.trans g4).big _ _ Zy;rw[z,a1]at this;cases this
  refine#[Ce.big _ _ Zy,by rw[ae,jX];omega,_,(),oE,Y,Hd,ps ++ [p],?_,((f3.grow g4).grow g5 |>.forget k1.symm k2).touch hL5 hBL ji,hL5,∅,aM,by simp[hLp,nLp],?_,by simp[jX],λp' Qi=>?_]
  .let gg:=g1.trans Ce;exact#[λb u e=>[L (bq e hL)]▸gg.big b u e,gg.eV,λb u e=>[L (bq e hL5)]▸gg.sub b u e,gg.new]
  .rw[bD];refine#[MH,∅,λb hb c hc=>?_];simp only[aK]at hc;subst hc;intro z;subst z;let:=(g2.trans g4).big _ _ (Wm b hb).2.2;rw[a1]at this;cases this
  .rcases aT.mp Qi with h|h
   .let#[h1,h2,h3]:=Wm p' h;exact#[h1,Ce.still h2 h3,by rw[L (λz=>hLp ([<-z]▸h))];exact Ce.big _ _ h3]
   .simp only[aK]at h;subst h;exact#[((f3.grow g4).ent.big.free a1),a2,[L (bF nLp)]▸a3]
 .let e:n=ds.length:=();subst e;refine .inl #[i2 (),q _ La ps Ha H' ?_];refine#[(f.grow (g.trans g1)).xK Y Y,hn La,_,λz hz=>?_,Y,aO.mpr #[hLp,MH],Zy,by simp[jX],λj p es e1 e2=>?_]
  .rcases au.mp hz with rfl|hz
   .exact#[hLa,hBL,[Zy]▸nofun]
   .let#[h1,h2,h3]:=Wm z hz;exact#[h2,h1,[h3]▸nofun]
  .let#[h1,h2,h3]:=Wm p (aH e1);rw[dZ]at e2;split at e2<;>cases e2;exact#[[],h3,.nil]
end
section
variable{X:Cx}{δ:!Slot}{a:U}{ps:!U}{gs:!(!J)}{d:J}{ds:!J}{x:O}
theorem Lr{H B0 B H0:Hp}{σ:St}{D:Ends}{e1 e2 ea:bY}{pos px:Pos}(G:OF X.K B0 B (LL X.K a ps gs) H0 H σ δ)(ig:Nat){m: Nat}{p0 p4 ap:Pos}(hga:δ[ig]?>>(.ref a))(ha:VE X ea δ (.int j))(hp:ps[j]?>>p)(hg:gs[j]?>>ds)(h1:VE X e1 (δ.set ig (.val (.list (gs.map .list)))) (.int m))(hm:m<=ds.length)(h2:VE X e2 δ d)(hz:ds.length<sizeLine)
  (q:∀σ' cY H',OF X.K B0 B (LL X.K a ps (gs.set j (tj ds m d))) cY H' σ' δ->D.nx σ' H')(hig:rT X ig x:=by ac_rfl)(jX:n_ ea:=by intro _ _;rfl)
  (hs:j8 X e1 [e2]:=by rfl)(pZ:j8 X e2 []:=by rfl)(gC:vn X (.Subscript (.Name x p0) ea p4) "insert":=by rfl)
  (lN:GV X px [e1,e2]:=by rfl)
  (hline:(ap.endLine==px.line)=true:=by rfl)(fQ:qg X px [e2]:=by rfl)(qB:swapsWith (.Call (.Attribute (.Subscript (.Name x p0) ea p4) "insert" ap) [e1,e2] [] px) none pos.line X.env=pure false:=by rfl):
  cS X (.Expr (.Call (.Attribute (.Subscript (.Name x p0) ea p4) "insert" ap) [e1,e2] [] px) pos) D σ H:=λpins s I=>by refine iR (pF cK PySem.F.slot_list_insert PySem.F.type_list_insert Lq (JH xH (ud hig) ck jX) (cy ck (cy ck dU pZ) hs) gC lN hline hs fQ) qB pins s σ H D I ?_;refine#[_,G.fr.slot ig _ hga,?_];refine ha H0 H σ H0 H _ G.own λv H1 c7 g r=>?_;cases r;let G1:=G.go LL.mono (G.own.grow g) G.no;let#[_,_,_,_,c1,c2,c3]:=G1.ex;let#[xs,y1,y2]:=c3 j p ds hp hg;refine .inl #[a,_,_,.ref p,Y,Y,jW.of c1,cB (by rw[ax,hp];rfl),.inl #[Y,_,jW.of y1],?_];let#[C0,ff]:=G1.look hga LL.rep;refine h1 C0 c7 σ C0 c7 _ ff λv Hb H2 g2 r2=>?_;cases r2;let G2:=G1.go LL.mono (G1.own.grow (.far G1.fr.sub g2.big)) G1.no;refine h2 H1 H2 σ H1 H2 _ G2.own λv H3 uD g3 r3=>?_;refine#[p,xs,m,v,Y,Y,g3.big _ _ (g2.big _ _ y1),(),by rw[y2.length];omega,[y2.length]▸hz,q σ H3 _ (G2.put LL.mono g3 λas' hL=>?_)];let e:=hL.1;subst e;exact#[ay _ (aH hp),_,λ_ z=>z,LL.row hL hp (cz.refl _) (λz _ hz=>L hz) aM ((y2.mono g3.eV).ins r3 m)]
theorem Wn(G:OF X.K B0 B R H0 H σ δ)(hga:δ[ig]?>>(.ref a))(hR:∀Ha Hb as,cz Ha Hb->R Ha Hb as->Rep X.K (gK as Hb Ha) (.ref a) d)(h:vz X rest (δ.set ig (.val d)) o)(q:∀Ha,cz H0 Ha->sV X.K B0 B Ha D o):zt X rest D σ H:=by let#[Ha,sm,ff]:=G.done hga hR;exact h B0 B σ Ha H D ff (q Ha sm)
end
section
variable{X:Cx}{H:Hp}{a:U}{kvs:!(Key×V)}{k:Key}{d:V}
theorem N_{pins:!(U×Obj)}{σ:St}{s:aU}{u r:M}{A:jm}{E:M->aU->Prop}(I:Inv X pins σ H s)(e:H a>>(.dK kvs))(ry:RelV (kV k) u)(rd:RelV d r)(hl:kvs.length<sizeLine)(h1:∀v w' s',gD kvs k>>v->Inv X pins σ H s'->RelV v w'->Q w' s')
  (h2:∀s',gD kvs k=none->Inv X pins σ (upd H a (.dK (putK kvs k d))) s'->Q r s'):wpAny (model X.prog X.w) A (call (.builtin "dict.setdefault") [.ref a,u,r]) Q E s:=by
 let#[z,hd,vs,rel,dd]:=B7 I.hok e;let rv:=rel.val k;refine Bt yR dd.typeIs PySem.F.entry_dict_setdefault (PySem.F.args_dict_setdefault_3 _ _ _) (kt_meets_setdefault _ a (sL ry) hd r) #[vs,dd,[<-rel.length]▸z,λv hv=>?_,λhn h' HB hs=>?_]
 .rw[hv]at rv;cases ev:gD kvs k with
  |none=>rw[ev]at rv;exact rv.elim
  |some w=>rw[ev]at rv;exact h1 w v _ ev (I.tok _) rv
 .let MB:(putK kvs k d).length<=sizeLine:=by let:=nF kvs k d;omega
  let he:∃q,h'.get? a>>q:=let#[q,_,_,hq,_]:=HB;#[q,hq];rw[hn]at rv;refine h2 _ ?_ (wt I ([e]▸fY) hs he (zZ MB hd (rel.put k rd) HB));cases ev:gD kvs k with
  |none=>rfl
  |some w=>rw[ev]at rv;exact rv.elim
end
def Zz(td ty tx:TE):TE:=λσ H Q=>td σ H λx H1=>∃a,x=.ref a/\IsD H1 a/\ty σ H1 λy H2=>tx σ H2 λz H3=>∃kvs k,H3 a>>(.dK kvs)/\y=kV k/\kvs.length<sizeLine/\
 (∀v,gD kvs k>>v->Q v H3)/\(gD kvs k=none->Q z (upd H3 a (.dK (putK kvs k z))))
section
theorem Ro(ho:PE X o td)(he:PE X e ty)(hf:PE X f tx)(m:M2 X o "setdefault" apos e f sf):PE X (.Call (.Attribute o "setdefault" apos) [e,f] [] sf) (Zz td ty tx):=by
 intro pins s σ H Q I h;refine wpAny_Call_method m.base m.few m.line qp yR PySem.F.type_dict_setdefault (gU (ho pins s σ H _ I h) λu s1 #[x,H1,I1,rx,a,ex,d,q1]=>?_);subst ex;obtain rfl:u=dY a:=rx;let#[t1,t2,_]:=Nq I1 d;refine#[t1,t2,?_];rw[m.trees];refine mG Y (uB (lC (gU (he pins s1 σ H1 _ I1 q1) λiv s2 #[y,H2,I2,ry,q2]=>lC (gU (hf pins s2 σ H2 _ I2 q2) λfv s3 #[z,H3,I3,rz,kvs,k,ea,ey,hl,q3,q4]=>xt ?_))));subst ey;exact N_ I3 ea ry rz hl (λv w' s' ev I4 vY=>#[v,H3,I4,vY,q3 v ev]) λs' ev I4=>#[z,_,I4,rz,q4 ev]
end
section
variable{X:Cx}{B0 B H0 H:Hp}{σ:St}{D:Ends}{δ δ':!Slot}{a p C dx:U}{e c ek ev:bY}{d:J}{pos px po ps pa pc:Pos}{x y fl:O}{fs:!(O×V)}{k:Nat}
theorem ZC{st:jT}(f:fM X.K B0 B H0 H σ δ)(h:VS X st δ (.nx δ'))(q:∀σ' Ha Hb,cz H0 Ha->fM X.K B0 B Ha Hb σ' δ'->D.nx σ' Hb):cS X st D σ H:=h B0 B σ H0 H D f q
theorem Ob(f:fM X.K B0 B H0 H σ δ)(h:VT X c δ true)(q:∀Ha Hb,cP H0 H Ha Hb->zt X body D σ Hb):cS X (.If c body orelse pos) D σ H:=λpins s I=>BX p7 ly mS pins s σ H D I (h B0 B σ H0 H _ f λH1 c7 g=>Vv (q H1 c7 g))
theorem Oc(f:fM X.K B0 B H0 H σ δ)(h:VT X c δ false)(q:∀Ha Hb,cP H0 H Ha Hb->zt X orelse D σ Hb):cS X (.If c body orelse pos) D σ H:=λpins s I=>BX p7 mS ly pins s σ H D I (h B0 B σ H0 H _ f λH1 c7 g=>Vu (q H1 c7 g))
theorem Wo(i:Nat){fi:U}{fd:fW}{ZD:!O}{sp:Sp}{p0 pk:Pos}(Ma:Mk X.K C fi)(F:dR X.prog X.w X.K X.mg X.base ju j fi fd ZD sp)(hr:dB (j+1) X.A)(hm:X.mg x>>(.ref C))(hb:Binds X.K fd ZD [])
  (q:∀p dx E,H p=none->H dx=none->dx≠p->sp [.ref p] (upd (upd H dx (.own p)) p (.ins C dx [])) (λv H2=>v=.non/\D.nx (σ.set i (some (.ref p))) H2) E)
  (hN:X.N.Nodup)(hi:X.N[i]?>>y:=by rfl)(hx:Loc X.env.scope y:=by left)(hs:zN X pos (.Call (.Name x p0) [] [] pk) (.Name y px):=by rfl)(hf:Dl X y:=by left)
  (hg:Gl X x:=by rfl)(sJ:xr x:=by decide):cS X (.Assign [.Name y px] (.Call (.Name x p0) [] [] pk) pos) D σ H:=λpins s I=>by exact pY hN hi hx (M8 Ma F hr hg hm hb .nil wm sJ) hs hf pins s σ H D I (λp dx h1 h2 h3=>q p dx _ h1 h2 h3)
theorem T1(f:fM X.K B0 B H0 H σ δ)(hr:dB k X.A)(i:Nat)(hi:δ[i]?>>(.ref p))(ins:H p>>(.ins C dx fs))(cl:uM X.K C)(na:gw X.K C fl)(lk:fs.lookup fl>>(.ref a))(hd:H a>>(.dK kvs))(hk:VE X ek δ (.str y))(hv:VE X ev δ d)(hl:kvs.length<sizeLine)
  (q:∀v Ha Hb,cP H0 H Ha Hb->Rep X.K Ha v d->D.nx σ (upd Hb a (.dK (putK kvs (aL y) v))))
  (hN:rT X i x:=by ac_rfl)
  (hb:vn X (.Name x px) fl:=by rfl)(hs:zN X pos ev (.Subscript (.Attribute (.Name x px) fl po) ek ps):=by rfl):
  cS X (.Assign [.Subscript (.Attribute (.Name x px) fl po) ek ps] ev pos) D σ H:=λpins s I=>by refine pG (yZ hr) (mU (ud hN) hb) ck ck hs pins s σ H D I ?_;refine hv B0 B σ H0 H _ f λv H1 c7 g1 r1=>?_;refine#[_,f.slot i _ hi,p,C,dx,fs,_,Y,g1.big _ _ ins,cl,na,lk,?_];refine hk B0 B σ H1 c7 _ (f.grow g1) λu H2 fA g2 r2=>?_;cases r2;exact#[a,_,Y,wq.k (k:=aL y) (g2.big _ _ (g1.big _ _ hd)) hl,q v H2 fA (g1.trans g2) (r1.mono g2.eV)]
theorem Wp(f:fM X.K B0 B H0 H σ δ)(hr:dB k X.A)(i:Nat){kvs:!(!Key×V)}{e1 e2:bY}{z1 z2:O}{x1}(hi:δ[i]?>>(.ref p))(ins:H p>>(.ins C dx fs))(cl:uM X.K C)(na:gw X.K C fl)(lk:fs.lookup fl>>(.ref a))(hd:H a>>(.dT kvs))(hk1:VE X e1 δ (.str z1))(hk2:VE X e2 δ (.str z2))(hv:VE X ev δ d)(hl:kvs.length<sizeLine)
  (q:∀v t Ha Hb,cP H0 H Ha Hb->Hb t=none->Rep X.K Ha v d->D.nx σ (upd (upd Hb t (.tup [.str z1,.str z2])) a (.dT (putK kvs (vB (z1,z2)) v))))
  (hN:rT X i x:=by ac_rfl)
  (hb:vn X (.Name x px) fl:=by rfl)(hs:zN X pos ev (.Subscript (.Attribute (.Name x px) fl po) (.Tuple [e1,e2] x1 pt) ps):=by rfl)
  (Qg:j8 X e1 [e2]:=by rfl)(pZ:j8 X e2 []:=by rfl):
  cS X (.Assign [.Subscript (.Attribute (.Name x px) fl po) (.Tuple [e1,e2] x1 pt) ps] ev pos) D σ H:=λpins s I=>by refine pG (yZ hr) (mU (ud hN) hb) (sI (cy ck (cy ck dU pZ) Qg)) ck hs pins s σ H D I ?_;refine hv B0 B σ H0 H _ f λv H1 c7 g1 r1=>?_;refine#[_,f.slot i _ hi,p,C,dx,fs,_,Y,g1.big _ _ ins,cl,na,lk,?_];refine hk1 B0 B σ H1 c7 _ (f.grow g1) λu H2 fA g2 r2=>?_;cases r2;refine hk2 B0 B σ H2 fA _ ((f.grow g1).grow g2) λu H3 uD g3 r3=>?_;cases r3;let gg:=(g1.trans g2).trans g3;refine#[by show 2<=sizeLine;rw[dD];decide,λt ht=>?_];exact#[a,_,Y,wq.t ((L (bq (gg.big _ _ hd) ht)).trans (gg.big _ _ hd)) aM hl,q v t H3 uD gg ht ((r1.mono g2.eV).mono g3.eV)]
theorem Fo(f:fM X.K B0 B H0 H σ δ)(i:Nat)(hi:δ[i]?>>(.ref p))(ins:H p>>(.ins C dx fs))(cl:uM X.K C)(na:gw X.K C fl)(lk:fs.lookup fl>>(.ref a))(hd:H a>>(.lst xs))(hv:VE X e δ d)(hl:xs.length<sizeLine)
  (q:∀v Ha Hb,cP H0 H Ha Hb->Rep X.K Ha v d->D.nx σ (upd Hb a (.lst (xs ++ [v]))))
  (hN:rT X i x:=by ac_rfl)
  (hb:vn X (.Name x px) fl:=by rfl)(gC:vn X (.Attribute (.Name x px) fl po) "append":=by rfl)
  (hs:j8 X e []:=by rfl)
  (lN:GV X pc [e]:=by rfl)
  (hline:(pa.endLine==pc.line)=true:=by rfl)(fQ:qg X pc []:=by rfl)(qB:swapsWith (.Call (.Attribute (.Attribute (.Name x px) fl po) "append" pa) [e] [] pc) none pos.line X.env=pure false:=by rfl):
  cS X (.Expr (.Call (.Attribute (.Attribute (.Name x px) fl po) "append" pa) [e] [] pc) pos) D σ H:=λpins s I=>by refine iR (pF cK fy fz lu (mU (ud hN) hb) (cy ck dU hs) gC lN hline hs fQ) qB pins s σ H D I ?_;exact#[_,f.slot i _ hi,p,C,dx,fs,_,Y,ins,cl,na,lk,.inl #[Y,_,jW.of hd],(hv B0 B σ H0 H _ f λv H1 c7 g1 r1=>(#[a,xs,v,Y,Y,g1.big _ _ hd,hl,q v H1 c7 g1 r1]))]
theorem Od(f:fM X.K B0 B H0 H σ δ)(i:Nat){pl XC XD:Pos}(hi:δ[i]?>>(.ref p))(ins:H p>>(.ins C dx fs))(cl:uM X.K C)(na:gw X.K C fl)(lk:fs.lookup fl>>(.ref a))(hd:H a>>(.dK kvs))(hk:VE X ek δ (.str y))(hv:VE X e δ d)(hl:kvs.length<sizeLine)(K2:noOwn δ=true)(ha0:H0 a=none)
  (hc:∀v,gD kvs (aL y)>>v->∃c xs,v=.ref c/\H c>>(.lst xs)/\xs.length<sizeLine)
  (q1:∀c xs v t Ha Hb,gD kvs (aL y)>>(.ref c)->H c>>(.lst xs)->H t=none->cP H0 H Ha Hb->Ha t=none->Rep X.K Ha v d->D.nx σ (upd Hb c (.lst (xs ++ [v]))))
  (q2:∀v c Ha Hb,gD kvs (aL y)=none->H c=none->cz H0 Ha->cz Ha Hb->(∀b,Ha b≠none->H0 b≠none\/H b=none)->(∀b o,H b>>o->b≠a->Hb b>>o)->Hb a>>(.dK (putK kvs (aL y) (.ref c)))->Hb c>>(.lst [])->Ha c=none->Ha a=none->Rep X.K Ha v d->D.nx σ (upd Hb c (.lst [v])))
  (hN:rT X i x:=by ac_rfl)
  (hb:vn X (.Name x px) fl:=by rfl)(m:M2 X (.Attribute (.Name x px) fl po) "setdefault" XC ek (.List [] pl) XD:=by exact#[rfl,rfl,rfl,rfl])
  (gC:attributeBase (.Call (.Attribute (.Attribute (.Name x px) fl po) "setdefault" XC) [ek,.List [] pl] [] XD) "append" X.env (eval (.Call (.Attribute (.Attribute (.Name x px) fl po) "setdefault" XC) [ek,.List [] pl] [] XD) X.env)=eval (.Call (.Attribute (.Attribute (.Name x px) fl po) "setdefault" XC) [ek,.List [] pl] [] XD) X.env:=by rfl)
  (hs:j8 X e []:=by rfl)
  (lN:GV X pc [e]:=by rfl)
  (hline:(pa.endLine==pc.line)=true:=by rfl)(fQ:qg X pc []:=by rfl)(qB:swapsWith (.Call (.Attribute (.Call (.Attribute (.Attribute (.Name x px) fl po) "setdefault" XC) [ek,.List [] pl] [] XD) "append" pa) [e] [] pc) none pos.line X.env=pure false:=by rfl):
  cS X (.Expr (.Call (.Attribute (.Call (.Attribute (.Attribute (.Name x px) fl po) "setdefault" XC) [ek,.List [] pl] [] XD) "append" pa) [e] [] pc) pos) D σ H:=λpins s I=>by
 refine iR (pF cK fy fz lu (Ro (mU (ud hN) hb) ck (zU dU) m) (cy ck dU hs) gC lN hline hs fQ) qB pins s σ H D I ?_;refine#[_,f.slot i _ hi,p,C,dx,fs,_,Y,ins,cl,na,lk,a,Y,.inl #[kvs,.inl hd],?_];refine hk B0 B σ H0 H _ f λu H1 c7 g1 r1=>?_;cases r1;refine#[by exact bj _,λt ht=>?_];let hta:=bq (g1.big _ _ hd) ht;let gl:cP H0 H H1 (upd c7 t (.lst [])):=g1.trans (.loose g1.sub ht);refine#[kvs,aL y,[L hta]▸g1.big _ _ hd,Y,hl,λv HY=>?_,λhn=>?_]
 .let#[c,xs,rfl,HR,Qj]:=hc v HY;refine#[.inl #[Y,_,jW.of ((L (bq (g1.big _ _ HR) ht)).trans (g1.big _ _ HR))],?_];refine hv B0 B σ H1 _ _ (f.grow gl) λv H2 fA g2 r2=>?_;let gg:=gl.trans g2;exact#[c,xs,v,Y,Y,gg.big _ _ HR,Qj,q1 c xs v t H2 fA HY HR (g1.big.free ht) gg (g2.still (g1.sub.free ht) aM) r2]
 .let hca:=bF hta;refine#[.inl #[Y,_,jW.of ((L hca).trans aM)],?_];let h1a:=g1.still ha0 hd;let h1t:=g1.sub.free ht;generalize hM:upd _ a _=Hm;let m0:∀b o,H b>>o->b≠a->Hm b>>o:=λb o e hb=>by rw[<-hM,L hb,L (bq (g1.big _ _ e) ht)];exact g1.big _ _ e
  let m1:Hm a>>(.dK (putK kvs (aL y) (.ref t))):=[<-hM]▸aM;let m2:Hm t>>(.lst []):=[<-hM,L hca]▸aM;let sm:cz H1 Hm:=λb u e=>by rw[<-hM,L (bq e h1a),L (bq e h1t)];exact g1.sub b u e
  let fm:fM X.K H1 Hm H1 Hm σ δ:=by
   let f1:=f.grow g1;refine#[.refl sm,f1.len,λj sl e=>?_,f1.apart];let qq:=f1.slot j sl e;cases sl with
   |un=>trivial
   |ref _=>exact qq
   |val d=>exact qq
   |own ds=>exact qQ7 e (fK K2 j ds)
  refine hv H1 Hm σ H1 Hm _ fm λv H2 fA g2 r2=>?_;refine#[t,[],v,Y,Y,g2.big _ _ m2,by rw[dD];decide,?_];refine q2 v t H2 fA hn (g1.big.free ht) (g1.eV.trans g2.eV) g2.sub (λb z=>?_) (λb o e hb=>g2.big _ _ (m0 b o e hb)) (g2.big _ _ m1) (g2.big _ _ m2) (g2.still h1t m2) (g2.still h1a m1) r2;rcases g2.new b z with z|z
  .exact g1.new b z
  .refine .inr ?_;cases e:H b with
   |none=>rfl
   |some o=>
    exfalso;by_cases hb:b=a
    .subst hb;rw[m1]at z;cases z
    .rw[m0 b o e hb]at z;cases z
end
section
theorem DP(h:(eU P w).is k v=true):RelV (kV k) v:=by
 rcases gY h with⟨i,t,rfl,rfl⟩|⟨x,t,rfl,rfl⟩
 .exact#[t,Y]
 .exact#[t,Y]
theorem j_(hc:X.calm=true):iY X (.type "list") (λxs H Q=>∃p kvs,xs=[.ref p]/\H p>>(.dK kvs)/\∀l,H l=none->Q (.ref l) (upd H l (.lst (kvs.map λq=>kV q.1)))):=by
 intro pins s σ H xs us Q I r h;let#[p,kvs,rfl,hp,q]:=h;let#[u,rfl,rx]:=vals1 r;cases rx;let#[z,hd,vs,rel,dd]:=B7 I.hok hp;let#[ep,Ls]:=dd.dictAt;refine PySem.W.kdl_call (xB hd) (I.ok.hd hc) Ls ([<-rel.length]▸z) λh' tk Wq c' hk hD Fp=>?_;let go:∀(kvs:!(Key×V))(vs:!(Key×M))(l:!M),KV kvs vs->l.length=vs.length->(∀(j:Nat)v,l[j]?>>v->∃k x,vs[j]?>>(k,x)/\(eU X.prog X.w).is k v=true)->dJ (kvs.map λq=>kV q.1) l:=by
  intro kvs;induction kvs with
  |nil=>
   intro vs l r hl _;cases r;cases l with
   |nil=>exact .nil
   |cons _ _=>cases hl
  |cons q kvs ih=>
   intro vs l r hl hx;cases r with
   |cons h1 h2=>
    cases l with
    |nil=>cases hl
    |cons v l=>let#[k,x,e1,e2]:=hx 0 v Y;cases e1;refine .cons ?_ (ih _ l h2 ↑hl λj v hj=>by simpa using hx (j+1) v ↑hj);let:q.1=k:=h1.1;show RelV (kV q.1) v;rw[this];exact DP e2
 let rv:=go kvs vs Wq.toList rel (cW.trans Fp.1) λj v hj=>Fp.2 j v (nh.symm.trans hj);exact#[.ref _,_,I.laid hk () (show iX X.prog X.w _ h' _ (.lst _) from#[[ae]▸z,_,c',rv,by simpa using hD]),Y,q _ (I.hok.fresh ())]
theorem wF{kvs:!(O×J)}:ym K (λxs H Q=>∃p kvs,xs=[.ref p]/\H p>>(.dK kvs)/\∀l,H l=none->Q (.ref l) (upd H l (.lst (kvs.map λq=>kV q.1)))) [iO kvs] (kvs.map λq=>.str q.1):=λvs H0 H Q s r q=>by
 let#[v,rfl,r1]:=r.one;let#[a,ws,rfl,ha,hk,_]:=r1.nH;refine#[a,ws,Y,s _ _ ha,λl hl=>q l _ H0 _ (.loose s hl) hl (s.free hl) aM ?_];let e:(ws.map λq=>kV q.1)=(ws.map (·.1)).map kV:=by rw[aj];rfl
 rw[e,hk,aj];let go:∀l:!(O×J),b_ K H0 (l.map (kV∘λp=>(aL p.1))) (l.map λq=>.str q.1):=by
  intro l;induction l with
  |nil=>exact .nil
  |cons p l ih=>exact .cons (.str p.1) ih
 exact go kvs
end
end L2
namespace PySem
variable{tk:Tok}
theorem DQ:typeLookup (.type "list") "keys"=pure none:=by rw[typeLookup_type,builtinLookup_eq_fast];kernel_rfl
theorem y0:typeLookup (.type "list") "__getattr__"=pure none:=by rw[typeLookup_type,builtinLookup_eq_fast];kernel_rfl
section
variable{prog:bU}{w:c0}{A:jm}{E:M->aU->Prop}{h:dF}{g:Array Bn}{d:Drawn}{t:Nat}{os:OsState}{a:U}{items:Array M}{n:Nat}{sl}
theorem y_{Q:Fin->aU->Prop}(hx:h.get? a=some { cls:=.type "list",dict:=none,data:=.seq items n,slots:=sl })(hh:A.handled=none)
  (hq:∀h' Cj e,sC h h' e (.ref a) "keys"->E (.ref e) #[h',g,d,Cj,os]):
  wpAny (model prog w) A (vi.«object.__getattribute__» #[[.ref a,.str "keys" tk],[]]) Q E #[h,g,d,t,os]:=by
 let hT:(#[h,g,d,t,os]:aU).TypeIs (.ref a) "list":=#[_,hx,Y];let f4:=DQ
 repeat (any_goals (first|assumption|with_reducible refine wpAny_raiseAttrError hh (λh' Cj e k=>hq h' Cj e k) ∎|wp_step))
theorem An{R:GN->aU->Prop}(hx:h.get? a=some { cls:=.type "list",dict:=none,data:=.seq items n,slots:=sl })(hh:A.handled=none)
  (hq:∀h' Cj e,sC h h' e (.ref a) "keys"->R (.error (.ref e)) #[h',g,d,Cj,os]):
  codeAny (model prog w) A (.call (.builtin "list.__getattribute__") #[[.ref a,.str "keys" tk],[]]) R #[h,g,d,t,os]:=
 codeAny_call_builtin lK.plain F.entry_list_ga (lK.check _ _ _ _ _ _ _ _ (show(#[h,g,d,t,os]:aU).TypeIs _ "list" from#[_,hx,Y]) (F.args_list_getattribute_2 _ _) (y_ hx hh hq))
theorem DR{Q:M->aU->Prop}(hx:h.get? a=some { cls:=.type "list",dict:=none,data:=.seq items n,slots:=sl })(hh:A.handled=none)
  (hq:∀h' Cj e,sC h h' e (.ref a) "keys"->E (.ref e) #[h',g,d,Cj,os]):
  wpAny (model prog w) A (getAttrBy (.ref a) (.str "keys" tk) false) Q E #[h,g,d,t,os]:=by
 let hT:(#[h,g,d,t,os]:aU).TypeIs (.ref a) "list":=#[_,hx,Y];let f2:=lK.lookup;let f3:=lK.bind (.ref a);let f4:=y0;let f5:=sub_AttributeError
 repeat (any_goals (first|assumption|wp_step))
 refine An hx hh (λh' Cj e k=>?_);let hTe:(#[h',g,d,Cj,os]:aU).TypeIs (.ref e) "AttributeError":=by let#[_,_,he]:=k.there;exact#[_,he,Y]
 repeat (any_goals (first|assumption|wp_step))
 exact hq _ _ _ k
theorem Ao{Q:Option M->aU->Prop}(hx:h.get? a=some { cls:=.type "list",dict:=none,data:=.seq items n,slots:=sl })(hh:A.handled=none)
  (hq:∀h' Cj e,sC h h' e (.ref a) "keys"->Q none #[h',g,d,Cj,os]):
  wpAny (model prog w) A (getAttr? (.ref a) "keys") Q E #[h,g,d,t,os]:=by
 refine aA (wpAny_mkText (aA (wpAny_attempt (DR hx hh (λh' Cj e k=>?_)))));let hTe:(#[h',g,d,Cj,os]:aU).TypeIs (.ref e) "AttributeError":=by let#[_,_,he]:=k.there;exact#[_,he,Y]
 let f5:=sub_AttributeError;let hQ:=hq h' Cj e k
 repeat (any_goals (first|assumption|wp_step))
end
end PySem
namespace PySem.F
theorem lS:entryFor table "dict.update.loop"=some vi.«dict.update.loop»:=entryFor_of_tree (by kernel_rfl)
theorem lU:plainId "dict.update.loop"=true:=∎
end PySem.F
namespace L2
open PySem PySem.Spec PyProof.Rows
variable{l:!((O×O)×J)}{K:aq}
section
variable{prog:bU}{w:c0}
theorem Lv{P:Nat->M->Prop}{A:jm}{R:GN->aU->Prop}{I:U}{fp wr:!U}{G:Array Bn->Array Bn->Prop}{n:Nat}{St:Nat->aU->Prop}(W:WalksS prog w A.in1 I fp wr G n P St)(S:U)(VB:S∉fp)(T:Nat->dF->Prop)(keep:∀i h h',T i h->(∀b o,b∉wr->h.get? b>>o->h'.get? b>>o)->T i h')
  (add:∀i v (s:aU),i<n->P i v->T i s.heap->∃a x y,v=.ref a/\s.heap.IsTuple a (bQ [x,y])/\∀(Q:Unit->aU->Prop)(E:M->aU->Prop),(∀h' tk,s.toks<=tk->iJ S s.heap h'->T (i+1) h'->Q .unit { s with heap:=h',toks:=tk })->wpAny (model prog w) A.in1 (dictSet S x y) Q E s):
  ∀(k i:Nat)(j:Int)(u:Tok)(s:aU),n-i=k->i<=n->St i s->T i s.heap->(∀s',Moved (S::wr) G s s'->T n s'.heap->R (.ok (.ret .none)) s')->
   codeAny (model prog w) A (.builtin "dict.update.loop" #[[.ref S,.ref I,.int j u,.none],[]]) R s:=by
 let z_:∀b∈wr,b∈S::wr:=λb hb=>ay _ hb;intro k;induction k with
 |zero=>intro i j u s hk hi EJ hS hR;let BF:i=n:=();subst BF;refine mI F.lS ?_;exact aA (W.done s _ _ EJ λs' hm=>(aA (bf (bf (hR s' (hm.mono z_) (keep _ _ _ hS λb o hb e=>hm.heap b o hb e))))))
 |succ k ih=>
  intro i j u s hk hi EJ hS hR;let oE:i<n:=();refine mI F.lS ?_;refine aA (W.item i s _ _ oE EJ λv s' hP VC hm=>?_);let#[a,x,y,rfl,#[o,ho,hc,m,hd],q]:=add i v s' oE hP (keep _ _ _ hS λb o hb e=>hm.heap b o hb e);refine aA (mF ?_);refine aA (wpAny_tryCatch ?_);refine aA (wpAny_typeOf #[_,ho,hc] ?_);refine aA (iF ho hd ?_);refine bf ?_;refine mF (q _ _ λh' tk M6 VF hT=>?_);refine bf #[zk F.lU _,ih (i+1) _ _ _ () oE (W.frame _ s' _ _ VC M6 λb hb o e=>?_) hT λTi VG VH=>?_]
  .rwa[VF.2 b (λh:b=S=>VB ([<-h]▸hb))]
  .refine hR Ti (Moved.trans W.gtrans ((hm.mono z_).then_heap M6 λb o hb e=>?_) VG) VH;rwa[VF.2 b (λh:b=S=>hb ([h]▸aJ))]
end
section
variable{prog:bU}{w:c0}{E:M->aU->Prop}{s:aU}
theorem uV{A:jm}{l:U}{items:Array M}{Q:M->aU->Prop}(hh:A.handled=none)(hx:PlainL s.heap l items)(T:Nat->dF->Prop)
  (t0:∀h',h'.get? s.heap.objs.size=some { cls:=.type "dict",data:=.dict #[] }->(∀b o,s.heap.get? b>>o->h'.get? b>>o)->T 0 h')
  (keep:∀i h h' c,s.heap.objs.size<c->T i h->(∀b o,b≠c->h.get? b>>o->h'.get? b>>o)->T i h')
  (add:∀i v (s':aU),i<items.size->items[i]?>>v->T i s'.heap->∃a x y,v=.ref a/\s'.heap.IsTuple a (bQ [x,y])/\∀(Q:Unit->aU->Prop)(E:M->aU->Prop),(∀h' tk,s'.toks<=tk->iJ s.heap.objs.size s'.heap h'->T (i+1) h'->Q .unit { s' with heap:=h',toks:=tk })->wpAny (model prog w) A.in1.in1 (dictSet s.heap.objs.size x y) Q E s')
  (h:∀(h':dF)(tk:Nat),T items.size h'->(∀b o,b<s.heap.objs.size->s.heap.get? b>>o->h'.get? b>>o)->Q (.ref s.heap.objs.size) { s with heap:=h',toks:=tk }):
  wpAny (model prog w) A (call (.type "dict") [.ref l]) Q E s:=by
 refine callType_codes (Q₁:=λobj s₁=>obj=.ref s.heap.objs.size/\s₁={ s with heap:=s.heap.push { cls:=.type "dict",data:=.dict #[] } }) F.kt_called_dict (F.kt_typeCall_dict_1 _) F.entry_dict_init (kt_code_dict_new _ #[Y,Y]) ?_;rintro obj s₁ ⟨rfl,rfl⟩;let#[#[zdv,TR,Zm,N5],m,ho,hc,Fq,hd]:=hx;subst hc Fq hd;let hS:(s.heap.push { cls:=.type "dict",data:=.dict #[] }).get? s.heap.objs.size=some { cls:=.type "dict",data:=.dict #[] }:=bx _ Y;let hT:aU.TypeIs { s with heap:=s.heap.push { cls:=.type "dict",data:=.dict #[] } } (.ref s.heap.objs.size) "dict":=#[_,hS,Y];let Bz:=aE (o:={ cls:=.type "dict",data:=.dict #[] }) ho;refine#[hT,F.args_dict_init_2 _ _,?_];refine aA ?_;refine aA (wpAny_notOrdered_dict hT ?_);refine bf ?_;refine aA (wpAny_typeOf #[_,Bz,Y] ?_);refine aA (Ao Bz (by simp[hh]) λh1 tk1 e ne=>?_);refine aA (vf ?_);let MG:h1.IsList l items:=#[_,ne.keeps _ _ Bz,Y,m,Y];refine aA (nQ MG ?_);let XB:=ne.keeps _ _ hS;let hSl:=aV XB;let Zn:=aV ho;let VB:s.heap.objs.size∉[h1.objs.size,l]:=by simp;exact#[aX hSl,gI Zn]
 refine bf #[zk F.lU _,?_];refine Lv ((Walks.list (by simp[hh]) h1.objs.size l (aX (sy Zn hSl)) items).toS) s.heap.objs.size VB T (λi h h' t k=>keep i h h' h1.objs.size hSl t λb o hb e=>k b o (by rwa [aK]) e) (λi v s' hi hv t=>add i v s' hi hv t) (items.size-0) 0 _ _ _ () ()
  #[#[_,bx _ Y,Y,Y],(MG.push _)] ?hS0 ?hR
 case hS0=>exact t0 _ (aE _ XB) λb o e=>aE _ (ne.keeps _ _ (aE _ e))
 case hR=>intro s' hm Zo;let#[h',g',d',Cj,Xw]:=s';let eg:=hm.gens;let ed:=hm.drawn;let eo:=hm.os;subst eg;subst ed;subst eo;refine#[Y,h h' Cj Zo λb o hb e=>?_];let Zq:=aX (sy hb hSl);exact hm.heap b o (by simp;exact#[(aX hb),Zq]) (aE _ (ne.keeps _ _ (aE _ e)))
end
def putAll(kvs:!(!Key×V))(l:!(!Key×V)):!(!Key×V):=l.foldl (λkvs q=>putK kvs q.1 q.2) kvs
theorem Oe(kvs:!(!Key×V))(k:!Key)(v:V):(putK kvs k v).length<=kvs.length+1:=by
 unfold putK;split
 .simp
 .simp
theorem vC:∀(l kvs:!(!Key×V)),(putAll kvs l).length<=kvs.length+l.length
 | [],kvs=>aP _
 |q::l,kvs=>by let h1:=vC l (putK kvs q.1 q.2);let h2:=Oe kvs q.1 q.2;show(putAll (putK kvs q.1 q.2) l).length<=kvs.length+(l.length+1);omega
theorem putAll_snoc(kvs l:!(!Key×V))(q:!Key×V):putAll kvs (l ++ [q])=putK (putAll kvs l) q.1 q.2:=by unfold putAll;rw[eB];rfl
theorem Ct(x:(tupleKind (eU P w)).is h k a)(m:∀b o,h.get? b>>o->h'.get? b>>o):(tupleKind (eU P w)).is h' k a:=by let#[o,its,n,h1,h2,h3,h4]:=x;exact#[o,its,n,m _ _ h1,h2,h3,h4]
theorem KT.are(ok:vm P w H h0)(m:∀b o,h0.get? b>>o->h.get? b>>o):∀{l:!(!Key×V)}{xs:!(!Key×U×M)},KT H l xs->∀x∈xs,(tupleKind (eU P w)).is h x.1 x.2.1:=by
 intro l xs q;induction q with
 |nil=>intro x hx;exact nomatch hx
 | @cons p q ps qs hq t ih=>
  intro x hx;rcases au.mp hx with e|hx
  .subst e;exact Ct (sM ok ([<-hq.1]▸hq.2.1)) m
  .exact ih x hx
section
def Wr:!V->Hp->VK->Prop:=λxs H Q=>∃(p:U)(qs:!(U×U×!Key×V)),xs=[.ref p]/\H p>>(.lst (qs.map λq=>.ref q.1))/\
 (∀q∈qs,H q.1>>(.tup [.ref q.2.1,q.2.2.2])/\H q.2.1>>(.tup (q.2.2.1.map kV)))/\∀l,H l=none->Q (.ref l) (upd H l (.dT (putAll [] (qs.map (·.2.2)))))
theorem xR(hc:X.calm=true)(hu:X.A.units+2<cLine):iY X (.type "dict") Wr:=by
 intro pins s σ H xs us Q I r h;let#[p,qs,rfl,hp,hqs,q]:=h;let#[u,rfl,rx]:=vals1 r;cases rx;let#[its,rv,pl,hz]:=I.list (jW.of hp);let Wj:=rv.length;simp only[ae]at Wj hz;let yT:its.toArray.size=qs.length:=by simp;omega
 refine uV (I.ok.hd hc) pl (λi h=>(∀b o,s.heap.get? b>>o->h.get? b>>o)/\∃xs o es ep,KT H (putAll [] ((qs.take i).map (·.2.2))) xs/\h.get? s.heap.objs.size>>o/\o.ExactDict/\o.data=.dict es ep/\es.toList=xs.map (entryOfKey (tupleKind (eU X.prog X.w)))/\(xs.map (·.1)).Nodup)
  (λh' e k=>?_) (λi h h' c hc #[k1,xs,o,es,ep,kt,ho,r2] k=>?_) (λi v s' hi hv #[k1,xs,o,es,ep,kt,ho,he,hd,hes,hn]=>?_) (λh' tk #[k1,xs,o,es,ep,kt,ho,he,hd,hes,hn] _=>?_)
 .exact#[k,[],_,#[],0,.nil,e,#[Y,Y,Y],Y,Y,gL]
 .exact#[λb o e=>k b o (aX (sy (aV e) hc)) (k1 b o e),xs,o,es,ep,kt,k _ _ () ho,r2]
 .rw[yT]at hi;let M3:its[i]?>>v:=by simpa using hv
  let Rq:=ao hi;generalize qs[i]=q0 at Rq;let#[u0,ZE,ru0]:=rv.get (by rw[ax,Rq];rfl);rw[M3]at ZE;cases ZE;cases ru0;let#[Lj,EA]:=hqs q0 (aH Rq);let#[_,it2,TN,o2,Tj,Tn,n2,hd2]:=(I.hok _ _ Lj);obtain⟨u1,u2,rfl,r1,r2⟩:∃u1 u2,it2=[u1,u2]/\RelV _ u1/\RelV q0.2.2.2 u2:=by cases TN with|cons a t=>cases t with|cons b t2=>cases t2;exact#[_,_,Y,a,b]
  cases r1;refine#[q0.1,_,u2,Y,#[o2,k1 _ _ Tj,Tn,n2,hd2],λQ' E' q'=>?_];let TV:qs.take (i+1)=qs.take i ++ [q0]:=by rw[bO,Rq];rfl
  let Qj:xs.length<=sizeLine:=by let e1:=kt.length;let e2:=vC ((qs.take i).map (·.2.2)) [];simp only[dP,ae,a9,mQ]at e2;omega
  refine wpAny_dictSet_heap hu (Ct (sM I.hok EA) k1) #[o,es,ep,ho,he,hd,hes,KT.are I.hok k1 kt,hn] (λh' dd sb=>?_) Qj;let#[o',U6,U7,Bz,Wt,X9,zdH,_,MA]:=dd;refine q' h' _ () sb #[λb o e=>?_,storedH xs q0.2.2.1 q0.2.1 u2,o',U6,U7,?_,Bz,Wt,X9,zdH,MA]
  .rw[sb.2 b (aX (aV e))];exact k1 b o e
  .rw[TV,aI,av,iK,putAll_snoc];exact kt.put q0.2.2.1 EA r2
 .rw[yT,cq]at kt;let hlen:=vC (qs.map (·.2.2)) [];refine#[.ref s.heap.objs.size,_,I.laid (o:=.dT _) k1 () #[?_,?_,xs,?_,o,es,ep,ho,he,hd,hes,hn],Y,q _ (I.hok.fresh ())]
  .simp[dP,ae,mQ]at hlen;omega
  .exact beq_eq_false_iff_ne.mpr (bF (aX I.big))
  .exact kt.keeps λb ys e=>[L (bq e (I.hok.fresh ()))]▸e
end
def VR(X:Cx)(e:bY)(δ:!Slot)(R:Hp->V->Prop):Prop:=∀B0 B σ H0 H Q,fM X.K B0 B H0 H σ δ->(∀v cY H',cP H0 H cY H'->R cY v->Q v H')->cE X e σ H Q
def VLR{ε:Type}(X:Cx)(e:bY)(δ:!Slot)(Er:Hp->V->ε->Prop)(rs:!ε):Prop:=∀B0 B σ H0 H Q,fM X.K B0 B H0 H σ δ->
 (∀p xs cY H',cP H0 H cY H'->H p=none->cY p=none->H' p>>(.lst xs)->oH (Er cY) xs rs->Q (.ref p) H')->cE X e σ H Q
theorem VR.of(h:PE X e t)(q:∀B0 B σ H0 H Q,fM X.K B0 B H0 H σ δ->(∀v cY H',cP H0 H cY H'->R cY v->Q v H')->t σ H Q):VR X e δ R:=
 λB0 B σ H0 H Q f k pins s I=>h pins s σ H Q I (q B0 B σ H0 H Q f k)
theorem VLR.of{e:bY}{δ:!Slot}{ε:Type}{X:Cx}{Er:Hp->V->ε->Prop}{rs:!ε}{t:TE}(h:PE X e t)(q:∀B0 B σ H0 H Q,fM X.K B0 B H0 H σ δ->
  (∀p xs cY H',cP H0 H cY H'->H p=none->cY p=none->H' p>>(.lst xs)->oH (Er cY) xs rs->Q (.ref p) H')->t σ H Q):VLR X e δ Er rs:=
 λB0 B σ H0 H Q f k pins s I=>h pins s σ H Q I (q B0 B σ H0 H Q f k)
theorem Og{α β:Type}{F:α->β->Prop}:∀{l:!α}{m:!β}{l':!α}{m':!β},oH F l m->oH F l' m'->oH F (l++l') (m++m')
 |_,_,_,_,.nil,h=>h
 |_,_,_,_,.cons a t,h=>.cons a (Og t h)
section
variable{ε:Type}
def Oh(X:Cx)(sc:o6)(own:!O)(cap:!Nat)(N:!O)(cl:!(O×U))(tgt:Qf)(elt:bY)(ifs:!bY)(δ:!Slot)(Er:Hp->V->ε->Prop)(F:J->Option ε)(d:J):Prop:=
 ∃δ',yX tgt d (nG own cap δ)>>δ'/\(∀f s3 H3,Fd (fS X sc N cl f s3 H3) ifs δ' (F d).isSome)/\∀r,F d>>r->∀f s3 H3,VR (fS X sc N cl f s3 H3) elt δ' (λH v=>Er H v r)
theorem DS(mono:∀H H' v r,cz H H'->Er H v r->Er H' v r)(ht:uR own.length tgt=true)(hz:ds.length<=sizeLine)(step:∀d∈ds,Oh X sc own cap N cl tgt elt ifs δ Er F d)(f:fM X.K B0 B H0 H σ δ)(it:ItD X.K Ja H0 ds)
  (q:∀p xs cY H',cP H0 H cY H'->H p=none->cY p=none->H' p>>(.lst xs)->oH (Er cY) xs (ds.filterMap F)->Q (.ref p) H'):
  qA Ja (Ld X.K tgt) (Tw X sc N cl ifs) (teC X sc N cl elt) (nS own cap σ) H Q:=by
 intro D hD;let Tx:=f.ent.big.free hD;refine#[λi m ys σ' H'=>i<=ds.length/\m=ds.length-i/\ys.length<=i/\∃Ha,cP H0 H Ha H'/\fM X.K B0 B Ha H' σ' _/\Ha D=none/\H' D>>(.lst ys)/\oH (Er Ha) ys ((ds.take i).filterMap F),
  #[_,bj _,Y,aP _,H0,.loose f.sub hD,(f.comp own cap).touch (f.sub.free hD) Tx ji,f.sub.free hD,aM,by simpa using oH.nil],?_];rintro i m ys σ' H' ⟨hi,rfl,hy,Ha,g,fa,Tz,E6,rs⟩;let#[i1,i2,i3]:=it Ha H' g.eV g.sub i;by_cases oE:i<ds.length
 .refine .inr #[i1 oE,λx H2 y=>?_];let hd:ds[i]?>>ds[i]:=by simp[oE]
  let#[Hb,g2,rx]:=i3 x H2 ds[i] hd y;let#[δ',e1,e2,e3]:=step ds[i] (cN oE);let#[k1,k2]:=comp_back ht e1;let TB:∀{Hx Hy:Hp},cP Ha H' Hx Hy->Hx D=none:=λ{Hx Hy}gg=>by
   cases e:Hx D with
   |none=>rfl
   |some o=>
    rcases gg.new D (by rw[e];simp)with z|z
    .exact qQ7 Tz z
    .rw[E6]at z;cases z
  let tk:(ds.take (i+1)).filterMap F=(ds.take i).filterMap F++(F ds[i]).toList:=by rw[bO,hd,jV];cases eF:F ds[i]<;>simp[jf,eF]
  refine sU (fa.grow g2) rx e1 λσ3 f3=>?_;intro fp s3 H3;refine e2 fp s3 H3 B0 B σ3 Hb H2 _ f3 λHc H4 g4=>?_;let Cd:=g2.trans g4;cases eF:F ds[i] with
  |none=>refine#[_,(),oE,Y,(),Hc,g.trans Cd,(f3.grow g4).forget k1.symm k2,TB Cd,Cd.big _ _ E6,?_];rw[tk,eF];simpa using oH.MQ rs λv r e=>mono _ _ v r Cd.eV e
  |some r=>
   intro Xz s3' uD;refine e3 r eF Xz s3' uD B0 B σ3 Hc H4 _ (f3.grow g4) λw Hd H5 g5 r5=>?_;let Ce:=Cd.trans g5;let NF:=TB Ce;refine#[Ce.big _ _ E6,(),_,(),oE,Y,by simp;omega,Hd,?_,((f3.grow g4).grow g5 |>.forget k1.symm k2).touch NF Tx ji,NF,aM,?_]
   .let gg:=g.trans Ce;exact#[λb u e=>[L (bq e hD)]▸gg.big b u e,gg.eV,λb u e=>[L (bq e NF)]▸gg.sub b u e,gg.new]
   .rw[tk,eF];exact Og (oH.MQ rs λv r e=>mono _ _ v r Ce.eV e) (.cons r5 .nil)
 .let e:i=ds.length:=();subst e;refine .inl #[i2 (),q D ys Ha H' g hD Tz E6 ?_];simpa using rs
theorem Rr(mono:∀H H' v r,cz H H'->Er H v r->Er H' v r)(hc:X.calm=true)(CS:ky X sc own cap N cl)(hi:VI X tg iter δ ds)(hg:∀f s3 H3,PG (fS X sc N cl f s3 H3) tg (Ld X.K tgt))(ht:uR own.length tgt=true)(hz:ds.length<=sizeLine)
  (step:∀d∈ds,Oh X sc own cap N cl tgt elt ifs δ Er F d)(hs:My X iter:=by intro _;rfl):VLR X (.ListComp elt [#[tg,iter,ifs,0]] sc pos) δ Er (ds.filterMap F):=by let#[wi,pi,qi]:=hi;exact .of (DE (tc:=Tw X sc N cl ifs) (te:=teC X sc N cl elt) hc CS pi hg (λf s3 H3 pins s σ H Q I h=>h f s3 H3 pins s I) (λf s3 H3 pins s σ H Q I h=>h f s3 H3 pins s I) hs) λB0 B σ H0 H Q f q=>(qi B0 B σ H0 H _ f λJa H1 c7 g it=>(DS mono ht hz step (f.grow g) it λp xs Ha Hb g2 a1 a2 a3 a4=>q p xs Ha Hb (g.trans g2) (g.big.free a1) a2 a3 a4))
end
def Rt(K:aq)(H:Hp)(v:V)(r:(O×O)×J):Prop:=∃t ka x,v=.ref t/\H t>>(.tup [.ref ka,x])/\H ka>>(.tup [.str r.1.1,.str r.1.2])/\Rep K H x r.2
theorem Rt.mono(H H':Hp)(v:V)(r:(O×O)×J)(s:cz H H'):Rt K H v r->Rt K H' v r:=λ#[t,ka,x,e,h1,h2,h3]=>#[t,ka,x,e,s _ _ h1,s _ _ h2,h3.mono s]
theorem Rt.all{H H':Hp}(s:cz H H'){xs:!V}(r:oH (Rt K H) xs l):
  ∃qs:!(U×U×!Key×V),xs=qs.map (λq=>.ref q.1)/\(∀q∈qs,H' q.1>>(.tup [.ref q.2.1,q.2.2.2])/\H' q.2.1>>(.tup (q.2.2.1.map kV)))/\qs.map (·.2.2.1)=l.map (λp=>vB p.1)/\b_ K H (qs.map (·.2.2.2)) (l.map (·.2)):=by
 induction r with
 |nil=>exact#[[],Y,λq hq=>(nomatch hq),Y,.nil]
 | @cons a b xs l h t ih=>
  let#[qs,e1,e2,e3,e4]:=ih;let#[t,ka,x,rfl,h1,h2,h3]:=h;refine#[(t,ka,vB b.1,x)::qs,by rw[e1];rfl,λq hq=>?_,by rw[av,av,e3],.cons h3 e4];rcases au.mp hq with e|hq
  .subst e;exact#[s _ _ h1,s _ _ h2]
  .exact e2 q hq
theorem Ap:∀(l kvs:!(!Key×V)),((kvs++l).map (·.1)).Nodup->putAll kvs l=kvs++l
 | [],kvs,_=>by rw[cA];rfl
 |q::l,kvs,h=>by
  let hq:gD kvs q.1=none:=by
   let e:=wo (kvs:=kvs) (k:=q.1);cases ev:gD kvs q.1 with
   |none=>rfl
   |some y=>exfalso;rw[ev]at e;let#[kv,hkv,hk]:=kJ.mp e;rw[aI,bD]at h;exact h.2.2 _ (ai.mpr #[kv,hkv,Y]) _ (ai.mpr #[q,aJ,Y]) (qQ4 hk)
  show putAll (putK kvs q.1 q.2) l=_;rw[qw q.2 hq,Ap l _ ([cw]▸h),cw];rfl
section
variable{X:Cx}{a b c:bY}{δ:!Slot}{p:Pos}{z1 z2:O}
theorem Oi{d:J}{x1 x2}{p1 p2:Pos}(h1:VE X a δ (.str z1))(h2:VE X b δ (.str z2))(h3:VE X c δ d)
  (Qg:j8 X a [b]:=by rfl)(pZ:j8 X b []:=by rfl)
  (Y0:starEach [.Tuple [a,b] x1 p1,c] X.env=(false,eval (.Tuple [a,b] x1 p1) X.env)::starEach [c] X.env:=by rfl)(hs4:j8 X c []:=by rfl):
  VR X (.Tuple [.Tuple [a,b] x1 p1,c] x2 p2) δ (λH v=>Rt X.K H v ((z1,z2),d)):=
 .of (sI (cy (sI (cy ck (cy ck dU pZ) Qg)) (cy ck dU hs4) Y0)) λB0 B σ H0 H Q f q=>h1 B0 B σ H0 H _ f λv1 H1 c7 g1 r1=>by cases r1;refine h2 B0 B σ H1 c7 _ (f.grow g1) λv2 H2 fA g2 r2=>?_;cases r2;refine#[by show 2<=sizeLine;rw[dD];decide,λt ht=>?_];let g3:=(g1.trans g2).trans (cP.laid g2.sub (o:=.tup [.str z1,.str z2]) ht);refine h3 B0 B σ _ _ _ (f.grow g3) λv4 H4 Ze g4 r4=>?_;refine#[by show 2<=sizeLine;rw[dD];decide,λt' ht'=>?_];let g5:=cP.laid g4.sub (o:=.tup [.ref t,v4]) ht';exact q _ _ _ ((g3.trans g4).trans g5) #[t',t,v4,Y,aM,(g4.eV.trans g5.eV) _ _ aM,r4.mono g5.eV]
theorem Oj{pos:Pos}{k:Nat}(hr:dB k X.A)(h:VLR X a δ (Rt X.K) l)(hn:(l.map (·.1)).Nodup)(hc:X.calm=true)(m2:X.mg "dict"=none)(Q5:Gl X "dict":=by rfl)
  (hs:j8 X a []:=by rfl)(jX:qg X pos []:=by rfl):
  VE X (.Call (.Name "dict" p) [a] [] pos) δ (DJ l):=
 .of (mV (xR hc (by let:=hr.un;omega)) Q5 m2 (by rfl) (cy ck dU hs) ⋯ ⋯ hs jX) λB0 B σ H0 H Q f q=>h B0 B σ H0 H _ f λp xs H1 c7 g e1 e2 e3 r=>by
  let#[qs,rfl,e4,e5,e6]:=Rt.all g.sub r;let en:((qs.map (·.2.2)).map (·.1))=l.map (λp=>vB p.1):=[aj]▸e5;let nd:((([]:!(!Key×V))++qs.map (·.2.2)).map (·.1)).Nodup:=by
   rw[e9,en];let:=kN (S:=λx y:!Key=>x≠y) vB (λx y hxy e=>hxy (Ah e)) hn
   rwa [aj]at this
  let ep:=Ap _ [] nd;rw[e9]at ep;refine#[p,qs,Y,e3,e4,λm hm=>?_];rw[ep];let g2:=cP.laid g.sub (o:=.dT (qs.map (·.2.2))) hm;refine q _ _ _ (g.trans g2) ?_;unfold DJ;refine .Tt aM ?_ ?_
  .rw[aj,show(qs.map (·.2.2)).map (λp=>fH (p.1.map k6))=((qs.map (·.2.2)).map (·.1)).map (λk=>fH _) by rw[aj,aj,aj];rfl,en,aj];rfl
  .let e7:=e6.mono g2.eV;rwa[aj,aj]
end
inductive T3:J->Prop
 |non:T3 .none
 |bl (b:Bool):T3 (.bool b)
 |int (i:Int):T3 (.int i)
 |str (x:O):T3 (.str x)
 |lst {ds:!J}:(∀d∈ds,T3 d)->T3 (.list ds)
 |tup {ds:!J}:(∀d∈ds,T3 d)->T3 (.tuple ds)
section
variable{jk}
end
end L2
namespace L2
open PySem
end L2
namespace L2
open PySem PySem.Spec PyProof.Rows
end L2
namespace L2
open PySem PySem.Spec PyProof.Rows PySem.W
end L2
namespace L2
open PySem PySem.Spec PyProof.Rows
theorem b_.HK{K:aq}{H H':Hp}:∀{xs:!V}{ds:!J},b_ K H xs ds->(∀d∈ds,yo d=true)->b_ K H' xs ds
 |_,_,.nil,_=>.nil
 |_,_,.cons a r,h=>.cons (a.HK (h _ aJ)) (b_.HK r λd hd=>h d (ay _ hd))
end L2
namespace PySem
open Sem (wp)
end PySem
namespace L2
open PySem PySem.Spec PyProof.Rows
variable{H:Hp}{l:!(O×J)}{ps:!O}{P:bU}{K:aq}
def nu(kvs:!(Key×V))(l:!(Key×V)):!(Key×V):=l.foldl (λkvs q=>putK kvs q.1 q.2) kvs
theorem tq:∀(l kvs:!(Key×V)),(nu kvs l).length<=kvs.length+l.length
 | [],kvs=>aP _
 |q::l,kvs=>by let h1:=tq l (putK kvs q.1 q.2);let h2:=nF kvs q.1 q.2;show(nu (putK kvs q.1 q.2) l).length<=kvs.length+(l.length+1);omega
theorem DT(kvs l:!(Key×V))(q:Key×V):nu kvs (l ++ [q])=putK (nu kvs l) q.1 q.2:=by unfold nu;rw[eB];rfl
theorem pL:∀(l kvs:!(Key×V)),((kvs++l).map (·.1)).Nodup->nu kvs l=kvs++l
 | [],kvs,_=>(cA _).symm
 |q::l,kvs,h=>by
  let hn:(kvs.any λz=>decide (z.1=q.1))=false:=by rw[yd];intro z hz e;rw[aI,av,bD]at h;exact h.2.2 z.1 (ai.mpr #[z,hz,Y]) q.1 aJ (qQ4 e)
  let hp:putK kvs q.1 q.2=kvs ++ [q]:=by unfold putK;rw[hn,qQ2 ia]
  show nu (putK kvs q.1 q.2) l=_;rw[hp,pL l _ ([cw]▸h),cw];rfl
section
def Ol(K:aq):!V->Hp->VK->Prop:=λxs H Q=>∃(p:U)(qs:!(U×Key×V)),xs=[.ref p]/\jW K H p (qs.map λq=>.ref q.1)/\
 (∀q∈qs,oC K H q.1 [kV q.2.1,q.2.2])/\∀l,H l=none->Q (.ref l) (upd H l (.dK (nu [] (qs.map (·.2)))))
theorem mY(hc:X.calm=true):iY X (.type "dict") (Ol X.K):=by
 intro pins s σ H xs us Q I r h;let#[p,qs,rfl,hp,hqs,q]:=h;let#[u,rfl,rx]:=vals1 r;cases rx;let#[its,rv,pl,hz]:=I.list hp;let Wj:=rv.length;simp only[ae]at Wj hz;let yT:its.toArray.size=qs.length:=by simp;omega
 refine uV (I.ok.hd hc) pl (λi h=>(∀b o,s.heap.get? b>>o->h.get? b>>o)/\∃vs,KV (nu [] ((qs.take i).map (·.2))) vs/\h.DictOf (eU X.prog X.w) s.heap.objs.size vs)
  (λh' e k=>#[k,[],.nil,?_]) (λi h h' c hc #[k1,vs,kv,dd] k=>?_) (λi v s' hi hv #[k1,vs,kv,dd]=>?_) (λh' tk #[k1,vs,kv,dd] _=>?_)
 .exact#[_,#[],0,e,#[Y,Y,Y],Y,(by intro _ h;exact nomatch h),.nil,gL]
 .let#[o,es,ep,ho,rest]:=dd;exact#[λb o e=>k b o (aX (sy (aV e) hc)) (k1 b o e),vs,kv,o,es,ep,k _ _ () ho,rest]
 .rw[yT]at hi;let M3:its[i]?>>v:=by simpa using hv
  let Rq:=ao hi;generalize qs[i]=q0 at Rq;let#[u0,ZE,ru0]:=rv.get (by rw[ax,Rq];rfl);rw[M3]at ZE;cases ZE;cases ru0;let#[it2,TN,pl2,_]:=I.tuple (hqs q0 (aH Rq));obtain⟨u1,u2,rfl,r1,r2⟩:∃u1 u2,it2=[u1,u2]/\RelV _ u1/\RelV q0.2.2 u2:=by cases TN with|cons a t=>cases t with|cons b t2=>cases t2;exact#[_,_,Y,a,b]
  let#[o2,Tj,ZF]:=pl2;refine#[q0.1,u1,u2,Y,#[o2,k1 _ _ Tj,ZF],λQ' E' q'=>?_];let TV:qs.take (i+1)=qs.take i ++ [q0]:=by rw[bO,Rq];rfl
  let Qj:vs.length<=sizeLine:=by let e1:=kv.length;let e2:=tq ((qs.take i).map (·.2)) [];simp only[dP,ae,a9,mQ]at e2;omega
  refine wpAny_dictSet_pairs (sL r1) dd (λh' HB sb=>q' h' _ () sb #[λb o e=>?_,_,?_,HB]) Qj
  .rw[sb.2 b (aX (aV e))];exact k1 b o e
  .rw[TV,aI,av,iK,DT];exact kv.put q0.2.1 r2
 .rw[yT,cq]at kv;let hlen:=tq (qs.map (·.2)) [];simp[dP,ae,mQ]at hlen;exact#[.ref s.heap.objs.size,_,I.laid k1 () (zZ () (beq_eq_false_iff_ne.mpr (bF (aX I.big))) kv dd),Y,q _ (I.hok.fresh ())]
def pairD(q:O×J):J:=.tuple [.str q.1,q.2]
theorem Aq:∀{l:!(O×J)}{xs:!V},b_ K H xs (l.map pairD)->∃qs:!(U×Key×V),xs=qs.map (λq=>.ref q.1)/\(∀q∈qs,oC K H q.1 [kV q.2.1,q.2.2])/\qs.map (·.2.1)=l.map (λp=>(aL p.1:Key))/\b_ K H (qs.map (·.2.2)) (l.map (·.2))
 | [],_,.nil=>#[[],Y,(by intro _ h;cases h),Y,.nil]
 |q::l,_,.cons a r=>by
  let#[qs,e1,e2,e3,e4]:=Aq r;cases a with
  |tup hq rs=>
   cases rs with
   |cons b rs=>
    cases b;cases rs with
    |cons c rs=>
     cases rs;refine#[(_,.inr q.1,_)::qs,by rw[e1];rfl,λz hz=>?_,by rw[av,av,e3],.cons c e4];rcases au.mp hz with rfl|hz
     .exact hq
     .exact e2 z hz
theorem Ru(hn:(l.map (·.1)).Nodup):pI K (Ol K) [.list (l.map pairD)] (iO l):=λvs H0 H Q s r k=>by
 let#[v,rfl,rv]:=r.one;cases rv with
 |lst hq rs=>
  let#[qs,e1,e2,e3,e4]:=Aq rs;subst e1;let hnn:((qs.map (·.2)).map (·.1)).Nodup:=by rw[aj];show(qs.map (·.2.1)).Nodup;rw[e3,show(l.map λp=>(aL p.1))=(l.map (·.1)).map aL by rw[aj];rfl];exact kN _ (λa b Zk z=>Zk (jh z)) hn
  refine#[_,qs,Y,s.seq hq,λq Ht=>s.oM (e2 q Ht),λp hp=>?_];rw[pL _ [] ([e9]▸hnn),e9];let g:=cP.laid s (o:=.dK (qs.map (·.2))) hp;refine k _ _ _ g (.dct aM ?_ ?_)
  .let e:=qQ6 (pC k6) e3;simp only[aj]at e ⊢;exact e.symm
  .simp;exact e4.mono g.eV
end
section
variable{p:Pos}
theorem Fs{X:Cx}{a:bY}{δ:!Slot}{pos:Pos}(h:VE X a δ (.list (l.map pairD)))(hn:(l.map (·.1)).Nodup)(hc:X.calm=true)(hm:X.mg "dict"=none)(hg:Gl X "dict":=by rfl)(hs:j8 X a []:=by rfl):VE X (.Call (.Name "dict" p) [a] [] pos) δ (iO l):=kz (mY hc) (Ru hn) (cR h cO hs) hm Y hg (he:=hs)
end
def wG(kvs:!(O×J)):J:=.dict ((.none,.int 1)::kvs.map λp=>(.str p.1,p.2))
section
theorem J5:∀{kvs:!(O×J)}{ws:!(Key×V)},(ws.map λp=>k6 p.1)=(kvs.map λp=>aN p.1)->ws.map (·.1)=kvs.map (λp=>(aL p.1:Key))
 | [],ws,e=>by cases ws with|nil=>rfl|cons q l=>simp at e
 |p::kvs,ws,e=>by
  cases ws with
  |nil=>simp at e
  |cons q ws=>
   rw[av,av]at e ⊢;injection e with h1 h2
   rw[J5 h2]
   congr 1
   cases eq:q.1 with
   |inl i=>rw[eq]at h1;cases h1
   |inr x=>rw[eq]at h1;injection h1 with h1;rw[h1]
theorem Rep.wH{H:Hp}{K:aq}{v:V}{kvs:!(O×J)}(r:Rep K H v (wG kvs)):∃a o ws,v=.ref a/\H a>>(.oJ o (.dK ws))/\ws.map (·.1)=kvs.map (λp=>(aL p.1:Key))/\b_ K H (ws.map (·.2)) (kvs.map (·.2)):=by
 unfold wG at r;generalize e:kvs.map (λp=>(aN p.1,p.2))=ds at r;cases r with
 |dct h k t=>
  rename_i a ws
  exfalso;cases ws with
  |nil=>simp at k
  |cons q ws=>
   rw[av,av]at k;injection k with k1 _
   cases eq:q.1 with
   |inl i=>rw[eq]at k1;cases k1
   |inr x=>rw[eq]at k1;cases k1
 |QY h k t=>
  rename_i a o ws
  refine#[a,o,ws,Y,h,J5 ?_,?_]
  .rw[<-k,<-e,aj];rfl
  .rwa[<-e,aj]at t
end
section
variable{X:Cx}{pins:!(U×Obj)}{σ:St}{H:Hp}{s:aU}{a:U}{ws:!(Key×V)}
theorem Inv.freeze(I:Inv X pins σ H s)(h:H a>>(.dK ws)):∃o,Inv X pins σ (upd H a (.oJ o (.dK ws))) s:=by let#[z,hd,vs,rel,dd]:=B7 I.hok h;let#[o,es,ep,ho,rest]:=id dd;refine#[o,?_];let:=I.write (t':=s.toks) (o:=.oJ o (.dK ws)) (by rw[h];trivial) (.inl Y) (λb u _ q=>q) #[o,ho] #[ho,z,hd,vs,rel,dd];exact this
theorem Inv.zdK{o:Obj}(I:Inv X pins σ H s)(h:H a>>(.oJ o (.dK ws)))(hn:∀o u,X.H₀ a≠some (.oJ o u)):Inv X pins σ (upd H a (.dK ws)) s:=by
 let ne:∀{b:U},H b=none->b≠a:=λe z=>by subst z;rw[h]at e;cases e
 let ob:=(Rd.ok (.inr #[o,h]) I.hok);refine#[I.ok,I.os,I.bare,#[I.base.keep,I.base.slot,λb u e n hx=>?_,I.base.there,λb xs e=>?_,λb ob u e=>?_,λb ps e=>?_],I.loc,I.cell,?_,λx c e=>?_,λp hp=>?_,λb u e=>?_,I.len]
 .let q:=I.base.free b u e n hx;rwa[L (ne q)]
 .let q:=I.base.tups b xs e;rwa[L (λz=>by subst z;rw[h]at q;cases q)]
 .let q:=I.base.xC b ob u e;rwa[L (λz=>by subst z;exact hn _ _ e)]
 .let#[more,q]:=I.base.zM b ps e;exact#[more,by rw[L (λz=>by subst z;rw[h]at q;cases q)];exact q]
 .rw[L (ne I.free)];exact I.free
 .rw[L (ne (I.qu x c e))];exact I.qu x c e
 .let#[q1,q2,q3]:=I.pin p hp;exact#[q1,[L (ne q2)]▸q2,q3]
 .let st:∀{b:U}{u:HO},iX X.prog X.w H s.heap b u->iX X.prog X.w (upd H a (.dK ws)) s.heap b u:=λx=>x.stay (λc v _ q=>q) (λc q=>by rw[L (λz=>by subst z;rw[h]at q;cases q)];exact q) λc xs q=>by rw[L (λz=>by subst z;rw[h]at q;cases q)];exact q
  by_cases hb:b=a
  .subst hb;rw[aM]at e;cases e;exact st ob
  .rw[L hb]at e;exact st (I.hok b u e)
end
def Itk(a:U)(o:Obj)(kvs:!(Key×V)):It:=#[λi H=>i<kvs.length/\H a>>(.oJ o (.dK kvs)),λi H x H'=>H'=H/\∃q,kvs[i]?>>q/\x=kV q.1,λi H=>kvs.length<=i/\H a>>(.oJ o (.dK kvs))]
section
variable{X:Cx}{a:U}{kvs:!(Key×V)}{o:Obj}{es:Array Dd}{ep:Nat}
theorem vD{H:Hp}{pins:!(U×Obj)}{σ:St}{s:aU}(I:Inv X pins σ H s)(h:H a>>(.oJ o (.dK kvs))):(a==sysModules)=false/\∃vs es ep,KV kvs vs/\o.data=.dict es ep/\s.heap.DictAt (eU X.prog X.w) a vs ep:=by let#[ho,z,hd,vs,rel,o',es,ep,Bz,c1,c2,c3]:=(I.hok a _ h);rw[ho]at Bz;cases Bz;exact#[hd,vs,es,ep,rel,c2,o,es,ho,c1,c2,c3]
theorem Lw{w:c0}{tg:bY}(a it:U)(he:o.data=.dict es ep):Turn P w K tg (Itk a o kvs) [it] it (λi h=>h.IsKeyIter it a i kvs.length ep) where
 mem:=∅
 obj:=λi h st b hb=>by
  let e:b=it:=by simpa using hb
  subst e;let#[o,e,c,d]:=st;exact#[o,e,λv z=>by rw[d]at z;cases z]
 keep:=λi h h' st k=>let#[o,e,r]:=st;#[o,k it ∅ o e,r]
 item:=by
  intro X hP hw hK hc i pins s σ H E I hf st hg;subst hP hw hK;let#[f0,f1,f2,f3,f4,f5]:=hf it ∅;let#[hi,ha]:=hg;let#[hd,vs,U6,U7,rel,Wt,dd]:=vD I ha;rw[he]at Wt;cases Wt;let hl:=rel.length;obtain⟨q,hq⟩:∃q,kvs[i]?>>q:=#[kvs[i],ao hi];obtain⟨⟨k,x⟩,hx⟩:∃p,vs[i]?>>p:=#[vs[i]'(),ao ()];let hk:q.1=k:=by let e1:=qQ6 (·[i]?) rel.keys;simp only[ax,hq,hx,k0]at e1;exact cv e1
  refine wpAny_pyNext_dict_item ([<-hl]▸st) dd hx λkey h' Vn yg sb=>?_;let#[o,e,c,d]:=id yg;exact#[key,Y,EK e c d ⋯ #[_,H,I.turned (λb o hb e=>(sb.2 b hb).trans e) f0 f1 f3 f4 f5,[hk]▸DP Vn,#[Y,q,hq,Y],[hl]▸yg,λb hb=>(hf b hb).1]]
 done:=by intro X hP hw hK hc i pins s σ H E I hf st hg;subst hP hw hK;let#[f0,f1,f2,f3,f4,f5]:=hf it ∅;let#[hi,ha]:=hg;let#[hd,vs,U6,U7,rel,Wt,dd]:=vD I ha;rw[he]at Wt;cases Wt;let hl:=rel.length;exact wpAny_pyNext_dict_end (I.ok.hd hc) ([<-hl]▸st) dd (eP ()) λh' eb=>#[Y,I.turned (λb o hb e=>eb b o hb e) f0 f1 f3 f4 f5]
 self:=λ_ _ _ _ _ st h=>wpAny_pyIter_keyiter st h
def ZG(tl:TE):TI:=λσ H R=>tl σ H λv H1=>∃a o kvs,v=.ref a/\H1 a>>(.oJ o (.dK kvs))/\R (Itk a o kvs) H1
theorem Rv{tg l:bY}{tl:TE}(hl:PE X l tl):PI X tg l (ZG tl):=by
 intro pins s σ H R I h;refine gU (hl pins s σ H _ I h) λv s1 #[y,H1,I1,r1,q1]=>?_;let#[a,o,kvs,e,ha,q]:=q1;subst e;cases r1;let#[hd,vs,es,ep,rel,he,dd]:=vD I1 ha;refine wpAny_pyIter_dict hd dd ?_;rw[<-rel.length];refine#[s1.heap.objs.size,_,_,_,H1,Y,I1.kept λb o e=>aE _ e,Lw a _ he,#[_,bx _ Y,Y,Y],λb hb=>?_,q];let e:b=s1.heap.objs.size:=by simpa using hb
 subst e;exact I1.zQ () (I1.hok.fresh ())
end
section
theorem Ft(h:VE X a δ (wG kvs)):VI X tg a δ (kvs.map λq=>.str q.1):=#[_,Rv ck,λB0 B σ H0 H R f q=>h B0 B σ H0 H _ f λv H1 c7 g r=>by
 let#[p,o,ws,rfl,hp,ke,rs]:=r.wH;let hl:ws.length=kvs.length:=by let:=qQ6 dX ke;simpa using this
 refine#[p,o,ws,Y,g.sub _ _ hp,q _ H1 c7 g λHa Hb s1 s2 i=>#[λhi=>#[by simpa[hl]using hi,s2 _ _ (s1 _ _ hp)],λhi=>#[by simpa[hl]using hi,s2 _ _ (s1 _ _ hp)],λx Ez d hd #[e,z,hz,ex]=>?_]];subst e;subst ex;let e1:=qQ6 (·[i]?) ke;simp[ax,hz,k0]at e1;rw[ax]at hd;cases hk:kvs[i]? with
 |none=>rw[hk]at hd;cases hd
 |some w=>rw[hk]at hd e1;cases hd;rw[cv e1];exact#[Ha,.refl s2,.str w.1]]
theorem tE(hr:dB k X.A)(h1:VE X a δ (wG kvs))(h2:VE X b δ (.str x))(hx:gJ kvs x>>d)(hs:yV b:=by intro _ _;rfl):VE X (.Subscript a b pos) δ d:=
 .of (og (yZ hr) ck ck hs) λB0 B σ H0 H Q fr q=>h1 B0 B σ H0 H _ fr λv H1 c7 g r=>h2 B0 B σ H1 c7 _ (fr.grow g) λu H2 fA g2 r2=>by let#[p,o,ws,rfl,hp,ke,rs]:=r.wH;cases r2;let ov:=vA ke rs x;rw[hx]at ov;let#[w,hw,vY]:=ov.some_of;refine#[p,w,Y,?_,q w H2 fA (g.trans g2) (vY.mono g2.eV)];rw[<-hw];exact .inl #[ws,.inr x,.inr #[o,g2.sub _ _ (g2.eV _ _ hp)],Y,Y]
end
abbrev UR:=Hp->V->Hp->Hp->Prop
variable{R:!J->UR->Prop}
section
variable{X:Cx}{δ:!Slot}{e:bY}{ds:!J}{pos:Pos}{x:O}{w:O}
def VU(X:Cx)(e:bY)(δ:!Slot)(Ua:UR):Prop:=∀B0 B σ H0 H Q,fM X.K B0 B H0 H σ δ->(∀v cY H',cP H0 H cY H'->Ua H v cY H'->Q v H')->cE X e σ H Q
def Wu(K:aq)(R:!J->UR->Prop):Sp:=λvs H Q _=>∃H0 ds Ua,cz H0 H/\b_ K H0 vs ds/\R ds Ua/\∀v cY H',cP H0 H cY H'->Ua H v cY H'->Q v H'
def T4(Ua:UR):Prop:=∀B H v Ha Hb,cz B H->Ua H v Ha Hb->Ua B v Ha Hb
theorem zz{Ua:UR}{k:Nat}{es:!bY}{p:Pos}(C:bw X.prog X.w X.K X.mg X.base k x ps (Wu X.K R))(hr:dB k X.A)(hm:T4 Ua)(ha:VA X (e::es) δ ds)(hp:R ds Ua)(hg:Gl X x:=by rfl)(sJ:xr x:=by decide)
  (he:j8 X e es:=by rfl)(jX:qg X pos es:=by rfl):VU X (.Call (.Name x p) (e::es) [] pos) δ Ua:=by let#[f,fd,F,MC,hk,hb]:=C;let#[t,pa,qa]:=ha;intro B0 B σ H0 H Q fr q pins s I;refine wd F hr hg MC hk hb .nil wm pa sJ he jX pins s σ H Q I (qa B0 B σ H0 H _ fr λvs H1 c7 g1 rs=>?_);rw[cA];exact#[H1,ds,Ua,g1.sub,rs,hp,λv H2 fA g2 u=>q v H2 fA (g1.trans g2) (hm _ _ _ _ _ g1.big u)]
theorem ZH{w:c0}{mg:O->Option M}{base:dF}{x qual:O}{st:jT}{f:U}{fd:fW}{N: !O}{k:Nat}(F:jO K x qual st f fd)(S:bW N ps (bt st))(hl:∀ds Ua,R ds Ua->ds.length=ps.length)(hb:∀ds Ua,R ds Ua->wA P w K mg base N qual st f k ds (.ru Ua)):dR P w K mg base ju (k+1) f fd ps (Wu K R):=by
 refine F.ok S (λvs H Q E h=>?_) (λgj A outer s H vs Q E hr h=>?_)
 .let#[H0,ds,d,_,r,hp,_]:=h;rw[r.length,hl ds d hp]
 .let#[H0,ds,d,sm,r,hp,q]:=h;exact#[_,ly,hb ds d hp gj A outer s H E hr H0 H _ H0 H _ (.start sm r) q]
def uT(K:aq)(w:O)(ds:!J):UR:=λB v H0 H=>∃t p xs,v=.ref t/\B t=none/\H0 t=none/\B p=none/\H0 p=none/\H t>>(.tup [.str w,.ref p])/\H p>>(.lst xs)/\b_ K H0 xs ds
theorem Rw{a b:bY}{x1}(h1:VE X a δ (.str w))(h2:VO X b δ ds)(hs:j8 X a [b]:=by rfl)(pZ:j8 X b []:=by rfl):VU X (.Tuple [a,b] x1 pos) δ (uT X.K w ds):=λB0 B σ H0 H Q f q pins s I=>
 sI (cy ck (cy ck dU pZ) hs) pins s σ H Q I (h1 B0 B σ H0 H _ f λv H1 c7 g r=>h2 B0 B σ H1 c7 _ (f.grow g) λp xs H2 fA g2 a1 a2 a3 a4=>#[by show 2<=sizeLine;rw[dD];decide,λt ht=>by cases r;let gg:=g.trans g2;exact q _ H2 _ (gg.trans (.loose g2.sub ht)) #[t,p,xs,Y,gg.big.free ht,g2.sub.free ht,g.big.free a1,a2,aM,[L (bq a3 ht)]▸a3,a4]])
end
section
theorem oi{H:Hp}{K:aq}{a:U}{kv:!(O×J)}{kvs:!(Key×V)}(h1:H a>>(.dK kvs))(h2:kvs.map (·.1)=kv.map (λp=>(aL p.1:Key)))(h3:b_ K H (kvs.map (·.2)) (kv.map (·.2))):Rep K H (.ref a) (iO kv):=by
 refine .dct h1 ?_ ?_
 .let e2:=qQ6 (pC k6) h2;rw[aj,aj]at e2;rw[aj];exact e2.symm
 .rwa[aj]
end
section
theorem rj(h:D.nx σ H):zt X [] D σ H:=λpins s I=>Jz pins s σ H D I h
end
theorem oP{κ:Key}{v:V}(r:Rep K H v (k6 κ)):v=kV κ:=by cases κ<;>cases r<;>rfl
section
variable{X:Cx}{B0 B H0 H:Hp}{σ:St}{D:Ends}{δ:!Slot}{a c:U}{e ek ev:bY}{d:J}{pos px po ps pa pc pk py:Pos}{x y z:O}{k:Nat}{kvs Wv:!(Key×V)}{κ:Key}{xs:!V}{j}
theorem Rx(f:fM X.K B0 B H0 H σ δ)(hr:dB k X.A)(i:Nat)(hi:δ[i]?>>(.ref a))(hd:H a>>(.dK kvs))(hk:VE X ek δ (k6 κ))(hv:VE X ev δ d)(hl:kvs.length<sizeLine)
  (q:∀v Ha Hb,cP H0 H Ha Hb->Rep X.K Ha v d->D.nx σ (upd Hb a (.dK (putK kvs κ v))))
  (hN:rT X i x:=by ac_rfl)
  (hs:zN X pos ev (.Subscript (.Name x px) ek ps):=by rfl):
  cS X (.Assign [.Subscript (.Name x px) ek ps] ev pos) D σ H:=λpins s I=>by refine pG (yZ hr) (ud hN) ck ck hs pins s σ H D I ?_;refine hv B0 B σ H0 H _ f λv H1 c7 g1 r1=>#[_,f.slot i _ hi,hk B0 B σ H1 c7 _ (f.grow g1) λu H2 fA g2 r2=>?_];obtain rfl:=oP r2;exact#[a,_,Y,wq.k (g2.big _ _ (g1.big _ _ hd)) hl,q v H2 fA (g1.trans g2) (r1.mono g2.eV)]
theorem DU(f:fM X.K B0 B H0 H σ δ)(hr:dB k X.A)(i:Nat)(hi:δ[i]?>>(.ref a))(hd:H a>>(.dK kvs))(hy:gD kvs (aL y)>>(.ref c))(hc:H c>>(.dK Wv))(hk:VE X ek δ (k6 κ))(hv:VE X ev δ d)(hl:Wv.length<sizeLine)
  (q:∀v Ha Hb,cP H0 H Ha Hb->Rep X.K Ha v d->D.nx σ (upd Hb c (.dK (putK Wv κ v))))
  (hN:rT X i x:=by ac_rfl)
  (hsl:yV (.Constant (.str y) j pk):=by intro _ _;rfl)(hs:swapsWith ev (some (.Subscript (.Subscript (.Name x px) (.Constant (.str y) j pk) po) ek ps)) pos.line X.env=pure false:=by rfl):
  cS X (.Assign [.Subscript (.Subscript (.Name x px) (.Constant (.str y) j pk) po) ek ps] ev pos) D σ H:=λpins s I=>by refine pG (yZ hr) (og (yZ hr) (ud hN) vo hsl) ck ck hs pins s σ H D I ?_;refine hv B0 B σ H0 H _ f λv H1 c7 g1 r1=>#[_,f.slot i _ hi,a,_,Y,[<-hy]▸mH.k (k:=aL y) (g1.big _ _ hd),hk B0 B σ H1 c7 _ (f.grow g1) λu H2 fA g2 r2=>?_];obtain rfl:=oP r2;exact#[c,_,Y,wq.k (g2.big _ _ (g1.big _ _ hc)) hl,q v H2 fA (g1.trans g2) (r1.mono g2.eV)]
theorem Ry(f:fM X.K B0 B H0 H σ δ)(hr:dB k X.A)(i m:Nat)(hi:δ[i]?>>(.ref a))(hd:H a>>(.dK kvs))(hy:gD kvs (aL y)>>(.ref c))(hX:X.N.Nodup)
  (q:fM X.K B0 B H0 H (σ.set m (some (.ref c))) (δ.set m (.ref c))->D.nx (σ.set m (some (.ref c))) H)
  (hN:rT X i x:=by ac_rfl)
  (hm:X.N[m]?>>z:=by rfl)(hx:Loc X.env.scope z:=by left)(hsl:yV (.Constant (.str y) j pk):=by intro _ _;rfl)(hs:zN X pos (.Subscript (.Name x px) (.Constant (.str y) j pk) po) (.Name z py):=by rfl)(hf:Dl X z:=by left):
  cS X (.Assign [.Name z py] (.Subscript (.Name x px) (.Constant (.str y) j pk) po) pos) D σ H:=λpins s I=>by exact pY hX hm hx (og (yZ hr) (ud hN) vo hsl) hs hf pins s σ H D I (#[_,f.slot i _ hi,a,_,Y,[<-hy]▸mH.k (k:=aL y) hd,q (f.xK Y Y)])
theorem Ww(f:fM X.K B0 B H0 H σ δ)(hr:dB k X.A)(i:Nat)(hi:δ[i]?>>(.ref a))(hd:H a>>(.dK kvs))(hk:VE X ek δ (k6 κ))(hy:gD kvs κ>>(.ref c))(hc:H c>>(.lst xs))(hv:VE X e δ d)(hl:xs.length<sizeLine)
  (q:∀v Ha Hb,cP H0 H Ha Hb->Rep X.K Ha v d->D.nx σ (upd Hb c (.lst (xs ++ [v]))))
  (hN:rT X i x:=by ac_rfl)
  (hsl:yV ek:=by intro _ _;rfl)(gC:vn X (.Subscript (.Name x px) ek po) "append":=by rfl)
  (hs:j8 X e []:=by rfl)
  (lN:GV X pc [e]:=by rfl)
  (hline:(pa.endLine==pc.line)=true:=by rfl)(fQ:qg X pc []:=by rfl)(qB:swapsWith (.Call (.Attribute (.Subscript (.Name x px) ek po) "append" pa) [e] [] pc) none pos.line X.env=pure false:=by rfl):
  cS X (.Expr (.Call (.Attribute (.Subscript (.Name x px) ek po) "append" pa) [e] [] pc) pos) D σ H:=λpins s I=>by refine iR (pF cK fy fz lu (og (yZ hr) (ud hN) ck hsl) (cy ck dU hs) gC lN hline hs fQ) qB pins s σ H D I ?_;refine#[_,f.slot i _ hi,hk B0 B σ H0 H _ f λu H1 c7 g1 r1=>?_];obtain rfl:=oP r1;exact#[a,.ref c,Y,[<-hy]▸mH.k (g1.big _ _ hd),.inl #[Y,_,jW.of (g1.big _ _ hc)],(hv B0 B σ H1 c7 _ (f.grow g1) λv H2 fA g2 r2=>(#[c,xs,v,Y,Y,g2.big _ _ (g1.big _ _ hc),hl,q v H2 fA (g1.trans g2) r2]))]
theorem Wx{ds:!J}(f:fM X.K B0 B H0 H σ δ)(hr:dB k X.A)(i:Nat)(hi:δ[i]?>>(.ref a))(hd:H a>>(.dK kvs))(hk:VE X ek δ (k6 κ))(hy:gD kvs κ>>(.ref c))(hc:H c>>(.lst xs))(hv:VO X e δ ds)(hl:xs.length+ds.length<=sizeLine)
  (q:∀zs Ha Hb,cP H0 H Ha Hb->b_ X.K Ha zs ds->D.nx σ (upd Hb c (.lst (xs++zs))))
  (hN:rT X i x:=by ac_rfl)
  (hsl:yV ek:=by intro _ _;rfl)(gC:vn X (.Subscript (.Name x px) ek po) "extend":=by rfl)
  (hs:j8 X e []:=by rfl)
  (lN:GV X pc [e]:=by rfl)
  (hline:(pa.endLine==pc.line)=true:=by rfl)(fQ:qg X pc []:=by rfl)(qB:swapsWith (.Call (.Attribute (.Subscript (.Name x px) ek po) "extend" pa) [e] [] pc) none pos.line X.env=pure false:=by rfl):
  cS X (.Expr (.Call (.Attribute (.Subscript (.Name x px) ek po) "extend" pa) [e] [] pc) pos) D σ H:=λpins s I=>by refine iR (pF cK pW pX K5 (og (yZ hr) (ud hN) ck hsl) (cy ck dU hs) gC lN hline hs fQ) qB pins s σ H D I ?_;refine#[_,f.slot i _ hi,hk B0 B σ H0 H _ f λu H1 c7 g1 r1=>?_];obtain rfl:=oP r1;exact#[a,.ref c,Y,[<-hy]▸mH.k (g1.big _ _ hd),.inl #[Y,_,jW.of (g1.big _ _ hc)],(hv B0 B σ H1 c7 _ (f.grow g1) λp zs H2 fA g2 z1 z2 z3 z4=>(#[c,p,xs,zs,Y,Y,g2.big _ _ (g1.big _ _ hc),z3,[z4.length]▸hl,q zs H2 fA (g1.trans g2) z4]))]
end
section
variable{X:Cx}{B0 B H0 H:Hp}{σ:St}{D:Ends}{δ:!Slot}{body orelse:!jT}{c:bY}{pos:Pos}{R:OR}
theorem wI(m:fq R)(G:OF X.K B0 B R H0 H σ δ)(h:VT X c δ true)(q:∀Ha Hb,OF X.K B0 B R Ha Hb σ δ->zt X body D σ Hb):cS X (.If c body orelse pos) D σ H:=
 Ob G.own h λHa Hb g=>q Ha Hb (G.go m (G.own.grow g) G.no)
theorem nW(m:fq R)(G:OF X.K B0 B R H0 H σ δ)(h:VT X c δ false)(q:∀Ha Hb,OF X.K B0 B R Ha Hb σ δ->zt X orelse D σ Hb):cS X (.If c body orelse pos) D σ H:=
 Oc G.own h λHa Hb g=>q Ha Hb (G.go m (G.own.grow g) G.no)
end
def Rz(B Hs Hb:Hp)(qs:!(U×O×U)):Prop:=(qs.map (·.2.2)).Nodup/\∀q∈qs,B q.2.2=none/\Hs q.2.2=none/\Hb q.1>>(.tup [.str q.2.1,.ref q.2.2])/\Hb q.2.2>>(.lst [])
section
def Om(X:Cx)(sc:o6)(own:!O)(cap:!Nat)(N:!O)(cl:!(O×U))(tgt:Qf)(elt:bY)(ifs:!bY)(δ:!Slot)(F:J->Option O)(d:J):Prop:=
 ∃δ',yX tgt d (nG own cap δ)>>δ'/\(∀f s3 H3,Fd (fS X sc N cl f s3 H3) ifs δ' (F d).isSome)/\∀r,F d>>r->∀f s3 H3,VU (fS X sc N cl f s3 H3) elt δ' (uT X.K r [])
theorem DV(ht:uR own.length tgt=true)(hz:ds.length<=sizeLine)(step:∀d∈ds,Om X sc own cap N cl tgt elt ifs δ F d)(f:fM X.K B0 B H0 H σ δ)(it:ItD X.K Ja H0 ds)
  (q:∀p qs cY H',cP H0 H cY H'->H p=none->cY p=none->H' p>>(.lst (qs.map λz:U×O×U=>.ref z.1))->Rz H cY H' qs->qs.map (·.2.1)=ds.filterMap F->Q (.ref p) H'):
  qA Ja (Ld X.K tgt) (Tw X sc N cl ifs) (teC X sc N cl elt) (nS own cap σ) H Q:=by
 intro D hD;let Tx:=f.ent.big.free hD;refine#[λi m ys σ' H'=>i<=ds.length/\m=ds.length-i/\ys.length<=i/\∃Ha,∃qs:!(U×O×U),cP H0 H Ha H'/\fM X.K B0 B Ha H' σ' _/\Ha D=none/\H' D>>(.lst ys)/\ys=qs.map (λz=>.ref z.1)/\Rz H Ha H' qs/\(∀z∈qs,z.1≠D/\z.2.2≠D)/\qs.map (·.2.1)=(ds.take i).filterMap F,
  #[_,bj _,Y,aP _,H0,[],.loose f.sub hD,(f.comp own cap).touch (f.sub.free hD) Tx ji,f.sub.free hD,aM,Y,#[gL,λz hz=>nomatch hz],(λz hz=>nomatch hz),∅],?_];rintro i m ys σ' H' ⟨hi,rfl,hy,Ha,qs,g,fa,Tz,E6,eys,⟨nd,ow⟩,nD,rs⟩;let#[i1,i2,i3]:=it Ha H' g.eV g.sub i;by_cases oE:i<ds.length
 .refine .inr #[i1 oE,λx H2 y=>?_];let hd:ds[i]?>>ds[i]:=by simp[oE]
  let#[Hb,g2,rx]:=i3 x H2 ds[i] hd y;let#[δ',e1,e2,e3]:=step ds[i] (cN oE);let#[k1,k2]:=comp_back ht e1;let keep:∀{Hx Hy:Hp},cP Ha H' Hx Hy->Rz H Hx Hy qs:=λ{Hx Hy}gg=>#[nd,λz hz=>by
   let#[o1,o2,o3,o4]:=ow z hz;exact#[o1,gg.still o2 o4,gg.big _ _ o3,gg.big _ _ o4]];let TB:∀{Hx Hy:Hp},cP Ha H' Hx Hy->Hx D=none:=λ{Hx Hy}gg=>gg.still Tz E6;let tk:(ds.take (i+1)).filterMap F=(ds.take i).filterMap F++(F ds[i]).toList:=by
   rw[bO,hd,jV];cases eF:F ds[i]<;>simp[jf,eF]
  refine sU (fa.grow g2) rx e1 λσ3 f3=>?_;intro fp s3 H3;refine e2 fp s3 H3 B0 B σ3 Hb H2 _ f3 λHc H4 g4=>?_;let Cd:=g2.trans g4;cases eF:F ds[i] with
  |none=>refine#[_,(),oE,Y,(),Hc,qs,g.trans Cd,(f3.grow g4).forget k1.symm k2,TB Cd,Cd.big _ _ E6,eys,keep Cd,nD,?_];rw[tk,eF];simpa using rs
  |some r=>
   intro Xz s3' uD;refine e3 r eF Xz s3' uD B0 B σ3 Hc H4 _ (f3.grow g4) λw Hd H5 g5 u=>?_;let#[t,c,xs,rfl,u1,u2,u3,u4,u5,u6,u7]:=u;cases u7;let Ce:=Cd.trans g5;let NF:=TB Ce;let hD4:=Cd.big _ _ E6;let tD:t≠D:=λz=>by rw[z,hD4]at u1;cases u1
   let cD:c≠D:=λz=>by rw[z,hD4]at u3;cases u3
   let#[_,kp]:=keep Ce;refine#[Ce.big _ _ E6,(),_,(),oE,Y,by simp;omega,Hd,qs ++ [(t,r,c)],?_,((f3.grow g4).grow g5 |>.forget k1.symm k2).touch NF Tx ji,NF,aM,by rw[eys,aI];rfl,#[?_,λz hz=>?_],λz hz=>?_,?_]
   .let gg:=g.trans Ce;exact#[λb u e=>[L (bq e hD)]▸gg.big b u e,gg.eV,λb u e=>[L (bq e NF)]▸gg.sub b u e,gg.new]
   .rw[aI,bD];refine#[nd,∅,λa ha b hb e=>?_];let#[z,hz,rfl]:=ai.mp ha;rw[fL,aK]at hb;rw[hb]at e;let:=Cd.big _ _ (ow z hz).2.2.2;rw[e,u3]at this;cases this
   .rcases aT.mp hz with hz|hz
    .let#[o1,o2,o3,o4]:=kp z hz;let#[n1,n2]:=nD z hz;exact#[o1,o2,[L n1]▸o3,[L n2]▸o4]
    .rw[aK.mp hz];exact#[(g.trans Cd).big.free u3,u4,[L tD]▸u5,[L cD]▸u6]
   .rcases aT.mp hz with hz|hz
    .exact nD z hz
    .rw[aK.mp hz];exact#[tD,cD]
   .rw[tk,eF,aI,rs];rfl
 .let e:i=ds.length:=();subst e;rw[cq]at rs;exact .inl #[i2 (),q D qs Ha H' g hD Tz ([<-eys]▸E6) #[nd,ow] rs]
def VLU(X:Cx)(e:bY)(δ:!Slot)(rs:!O):Prop:=∀B0 B σ H0 H Q,fM X.K B0 B H0 H σ δ->
 (∀p qs cY H',cP H0 H cY H'->H p=none->cY p=none->H' p>>(.lst (qs.map λz:U×O×U=>.ref z.1))->Rz H cY H' qs->qs.map (·.2.1)=rs->Q (.ref p) H')->cE X e σ H Q
theorem Oo(hc:X.calm=true)(CS:ky X sc own cap N cl)(hi:VI X tg iter δ ds)(hg:∀f s3 H3,PG (fS X sc N cl f s3 H3) tg (Ld X.K tgt))(ht:uR own.length tgt=true)(hz:ds.length<=sizeLine)
  (step:∀d∈ds,Om X sc own cap N cl tgt elt ifs δ F d)(hs:My X iter:=by intro _;rfl):VLU X (.ListComp elt [#[tg,iter,ifs,0]] sc pos) δ (ds.filterMap F):=by let#[wi,pi,qi]:=hi;intro B0 B σ H0 H Q f q pins s I;exact DE (tc:=Tw X sc N cl ifs) (te:=teC X sc N cl elt) hc CS pi hg (λf s3 H3 pins s σ H Q I h=>h f s3 H3 pins s I) (λf s3 H3 pins s σ H Q I h=>h f s3 H3 pins s I) hs pins s σ H Q I (qi B0 B σ H0 H _ f λJa H1 c7 g it=>(DV ht hz step (f.grow g) it λp qs Ha Hb g2 a1 a2 a3 #[b1,b2] a5=>q p qs Ha Hb (g.trans g2) (g.big.free a1) a2 a3 #[b1,λz hz=>#[g.big.free (b2 z hz).1,(b2 z hz).2]] a5))
end
def o_(kl:!(O×!J))(cs:!U):!(Key×V):=(kl.zip cs).map λz=>(aL z.1.1,.ref z.2)
def XE(K:aq)(H0 H:Hp)(kl:!(O×!J))(cs:!U):Prop:=cs.length=kl.length/\∀(i:Nat)c q,cs[i]?>>c->kl[i]?>>q->∃xs,H c>>(.lst xs)/\b_ K H0 xs q.2
section
theorem Fu:∀{kl:!(O×!J)}{cs:!U},cs.length=kl.length->(o_ kl cs).map (·.1)=kl.map λq=>(aL q.1:Key)
 | [],[],_=>rfl
 | [],_::_,e=>by cases e
 |_::_,[],e=>by cases e
 |q::h,c::cs,e=>by let:=Fu ↑e;unfold o_ at this ⊢;rw[cg,av,av,this];rfl
theorem Fv:∀{kl:!(O×!J)}{cs:!U},cs.length=kl.length->(o_ kl cs).map (·.2)=cs.map V.ref
 | [],[],_=>rfl
 | [],_::_,e=>by cases e
 |_::_,[],e=>by cases e
 |q::h,c::cs,e=>by let:=Fv ↑e;unfold o_ at this ⊢;rw[cg,av,av,this];rfl
theorem DW:∀{kl:!(O×!J)}{cs:!U}{j:Nat}{q:O×!J}{c:U},(kl.map (·.1)).Nodup->kl[j]?>>q->cs[j]?>>c->gD (o_ kl cs) (aL q.1)>>(.ref c)
 | [],_,_,_,_,_,h,_=>by simp at h
 |_::_,[],_,_,_,_,_,h=>by simp at h
 |p::kl,b::cs,0,q,c,_,h1,h2=>by cases h1;cases h2;exact kQ Y
 |p::kl,b::cs,j+1,q,c,nd,h1,h2=>by
  rw[av,aO]at nd;let Oq:kl[j]?>>q:=by simpa using h1
  let ne:¬(aL p.1:Key)=aL q.1:=λz=>nd.1 ([jh z]▸ai.mpr #[q,aH Oq,Y]);let e:o_ (p::kl) (b::cs)=(aL p.1,V.ref b)::o_ kl cs:=Y;rw[e,jA ne];exact DW nd.2 Oq ↑h2
theorem Ot:∀(qs:!(U×O×U)),(qs.map λz:U×O×U=>((z.1,aL z.2.1,V.ref z.2.2):U×Key×V)).map (·.2)=o_ ((qs.map (·.2.1)).map λr=>(r,([]:!J))) (qs.map (·.2.2))
 | []=>rfl
 |q::qs=>by let:=Ot qs;unfold o_ at this ⊢;simp[av,cg]at this ⊢;rw[this]
theorem Ar:∀{kl kl':!(O×!J)}{cs:!U},kl'.map (·.1)=kl.map (·.1)->o_ kl' cs=o_ kl cs
 | [],[],_,_=>rfl
 | [],_::_,_,e=>by cases e
 |_::_,[],_,e=>by cases e
 |q::h,q'::h',cs,e=>by
  let#[e1,e2]:=iy e;cases cs with
  |nil=>rfl
  |cons c cs=>show(aL q'.1,V.ref c)::o_ h' cs=(aL q.1,V.ref c)::o_ h cs;rw[show q'.1=q.1 from e1,Ar e2]
end
section
variable{δ:!Slot}{pos:Pos}
variable{c:bY}{dp:J}{p:U}{body orelse:!jT}
theorem ZI{H B0 B H0:Hp}{R:OR}{X:Cx}{σ:St}{D:Ends}{kb:Bool}(m:fq R)(G:OF X.K B0 B R H0 H σ δ)(i:Nat)(hi:δ[i]?>>(.ref p))(hR:∀Ha Hb as,cz Ha Hb->R Ha Hb as->Rep X.K (gK as Hb Ha) (.ref p) dp)(h:VT X c (δ.set i (.val dp)) kb)(qT:kb=true->∀H',OF X.K B0 B R H0 H' σ δ->zt X body D σ H')(qF:kb=false->∀H',OF X.K B0 B R H0 H' σ δ->zt X orelse D σ H'):
  cS X (.If c body orelse pos) D σ H:=λpins s I=>by
 let#[C0,f1]:=G.look hi hR;cases kb with
 |true=>exact BX p7 ly mS pins s σ H D I (h C0 H σ C0 H _ f1 λC1 H1 g1=>Vv (qT Y H1 (G.go m (G.own.grow (.far G.fr.sub g1.big)) G.no)))
 |false=>exact BX p7 mS ly pins s σ H D I (h C0 H σ C0 H _ f1 λC1 H1 g1=>Vu (qF Y H1 (G.go m (G.own.grow (.far G.fr.sub g1.big)) G.no)))
end
section
variable{jk}
end
theorem Fw:∀{xs:!V}{ds:!J},b_ K H xs ds->b_ K H xs.reverse ds.reverse
 |_,_,.nil=>.nil
 |_,_,.cons a t=>by rw[qo,qo];exact(Fw t).append (.cons a .nil)
section
variable{j}
end
end L2
namespace L2
open PySem PySem.Spec PyProof.Rows
open AutoSeq1 (wpAny_loadPart')
end L2
namespace L2
open PySem PySem.Spec PyProof.Rows
variable{a b d:U}{kb:Bool}{H:Hp}{kvs:!(O×J)}{as:!U}{ds:!J}{δ:!Slot}{zs:!O}{i:Nat}{R R':OR}{K:aq}{tn:String}{Q:V->Hp->Prop}
inductive xS:J->Prop
 |non:xS .none
 |bl (b:Bool):xS (.bool b)
 |int (i:Int):xS (.int i)
 |str (x:O):xS (.str x)
 |tup {ds:!J}:(∀d∈ds,xS d)->xS (.tuple ds)
def pj(as:!U)(H:Hp):Hp:=λb=>if b∈as then none else H b
theorem pM(h:b∈as):pj as H b=none:=qQ3 h
theorem j'(h:b∉as):pj as H b=H b:=qQ2 h
def rm(H:Hp)(a:U):Prop:=∀xs,H a≠some (.tup xs)/\∀o,H a≠some (.oJ o (.tup xs))
section
variable{K:aq}{C:Hp}{as:!U}
theorem oC.out(hn:∀a∈as,rm C a){xs:!V}(h:oC K C a xs):oC K (pj as C) a xs:=by
 rcases h with(h|⟨o,h⟩)|h
 .exact .inl (.inl ((j' λz=>(hn a z xs).1 h).trans h))
 .exact .inl (.inr #[o,[j' λz=>(hn a z xs).2 o h]▸h])
 .exact .inr h
theorem b_.outs:∀{ds:!J}{xs:!V},b_ K C xs ds->(∀d∈ds,∀v,Rep K C v d->Rep K (pj as C) v d)->b_ K (pj as C) xs ds
 | [],_,r,_=>by cases r;exact .nil
 |d::ds,_,r,h=>by
  cases r with
  |cons a t=>exact .cons (h d aJ _ a) (b_.outs t λz hz=>h z (ay _ hz))
theorem Rep.out(hn:∀a∈as,rm C a){d:J}(h:xS d):∀v,Rep K C v d->Rep K (pj as C) v d:=by
 induction h with
 |non=>intro v r;cases r;exact .non
 |bl b=>intro v r;cases r;exact .bl b
 |int i=>intro v r;cases r;exact .int i
 |str x=>intro v r;cases r;exact .str x
 |tup _ ih=>
  intro v r;cases r with
  |tup hq rs=>exact .tup (hq.out hn) (rs.outs λd hd v r=>ih d hd v r)
end
section
variable{δ:!Slot}{p:U}{e:bY}{d dp:J}{pos px:Pos}{y:O}
theorem RA{X:Cx}{H B0 B H0:Hp}{R:OR}{σ:St}{D:Ends}(m:fq R)(G:OF X.K B0 B R H0 H σ δ)(i j:Nat)(hi:δ[i]?>>(.ref p))
  (hF:∀(Ha Hb:Hp)(as:!U),cz Ha Hb->R Ha Hb as->(∀x∈as,Ha x=none)->∃b ws,b∈as/\Hb b>>(.dK ws)/\∀o,Rep X.K (gK as (upd Hb b (.oJ o (.dK ws))) Ha) (.ref p) dp)
  (hT:∀Ha Hb as,R Ha Hb as->∀a∈as,rm Hb a)(h:VE X e (δ.set i (.val dp)) d)(hd:xS d)(hn:noOwn (δ.set j (.val d))=true)(q:∀σ' cY H',OF X.K B0 B R cY H' σ' (δ.set j (.val d))->D.nx σ' H')(hN:X.N.Nodup)
  (hj:X.N[j]?>>y:=by rfl)(hx:Loc X.env.scope y:=by left)(qB:zN X pos e (.Name y px):=by rfl)(hf:Dl X y:=by left):
  cS X (.Assign [.Name y px] e pos) D σ H:=λpins s I=>by
 refine pY hN hj hx ck qB hf pins s σ H D I ?_;let#[as,h1,h2]:=G.ex;let#[b,ws,hb,hbH,hR]:=hF H0 H as G.fr.sub h2 λx hx=>(h1 x hx).1;intro pins s I;let#[o,I']:=I.freeze hbH;let hnf:∀o u,X.H₀ b≠some _:=λo u z=>by let:=I.base.xC b o u z;rw[hbH]at this;cases this
 let s0:cz H0 (gK as (upd H b (.oJ o (.dK ws))) H0):=λc u z=>by
  let hc:c∉as:=λy=>by rw[(h1 c y).1]at z;cases z
  rwa[gf hc]
 let s1:cz (gK as _ H0) (upd H b (.oJ o (.dK ws))):=λc u z=>by
  by_cases hc:c∈as
  .rwa[f7 hc]at z
  .rw[gf hc]at z;rw[L (λy:c=b=>hc ([y]▸hb))];exact G.fr.sub c u z
 let hs:=G.fr.slot i _ hi;let f0:fM X.K (gK as (upd H b (.oJ o (.dK ws))) H0) (upd H b (.oJ o (.dK ws))) (gK as (upd H b (.oJ o (.dK ws))) H0) (upd H b (.oJ o (.dK ws))) σ δ:=by
  refine#[.refl s1,G.fr.len,λi sl z=>?_,G.fr.apart];let q:=G.fr.slot i sl z;cases sl with
  |un=>trivial
  |ref _=>exact q
  |val d=>let#[v,g1,g2]:=q;exact#[v,g1,g2.mono s0]
  |own ds=>exact qQ7 z (fK G.no i ds)
 let f1:=f0.xK (i:=i) (sl:=.val dp) #[_,Y,hR o] Y;let es:σ.set i (some (.ref p))=σ:=by
  apply gP;intro j;by_cases h:j=i
  .subst h;rw[a7 (aF.mp hs).1,hs]
  .rw[aY (bF h)]
 rw[es]at f1;refine gU (h _ _ σ _ _ (λv H'=>H' b>>(.oJ o _)/\D.nx (σ.set j _) (upd H' b (.dK ws))) f1 (λv Ha Hb g r=>?_) pins s I') λu s1 #[v,H1,I1,r1,hfz,q1]=>#[v,_,I1.zdK hfz hnf,r1,q1];refine#[(g.big _ _ aM),?_];let hAo:∀a∈as,rm Ha a:=λa ha=>by
  let eq:Ha a=(upd H b (.oJ o (.dK ws))) a:=by
   cases z:(upd H b _) a with
   |none=>
    by_cases y:a=b
    .subst y;rw[aM]at z;cases z
    .rw[L y]at z;exact qQ7 z ((h1 a ha).2.2)
   |some u=>exact g.eV a u ((f7 ha).trans z)
  intro xs;rw[eq];by_cases y:a=b
  .subst y;rw[aM];exact#[nofun,λo2 z=>by cases z]
  .rw[L y];exact hT H0 H as h2 a ha xs
 let gr:cP H0 H (pj as Ha) (upd Hb b (.dK ws)):=by
  refine#[λc u z=>?_,λc u z=>?_,λc u z=>?_,λc z=>?_]
  .by_cases hc:c=b
   .subst hc;rw[aM];rwa[hbH]at z
   .rw[L hc];exact g.big _ _ ((L hc).trans z)
  .let hc:c∉as:=λy=>by rw[(h1 c y).1]at z;cases z
   rw[j' hc];exact g.eV _ _ (s0 c u z)
  .by_cases hc:c∈as
   .rw[pM hc]at z;cases z
   .rw[j' hc]at z;rw[L (λy:c=b=>hc ([y]▸hb))];exact g.sub _ _ z
  .by_cases hc:c∈as
   .rw[pM hc]at z;exact qQ7 Y z
   .rw[j' hc]at z;rcases g.new c z with y|y
    .rw[gf hc]at y;exact .inl y
    .rw[L (λy:c=b=>hc ([y]▸hb))]at y;exact .inr y
 let G1:=G.go m (G.own.grow gr) G.no;exact q _ _ _ (G1.go m (G1.own.xK #[_,Y,Rep.out hAo hd v r] Y) hn)
end
def DX(K:aq)(S:Type)(PR:U->S->OR)(n1:Nat)(ok:S->!J->!J->S->Prop):Sp:=λvs H Q _=>∃(H0:Hp)(p:U)(v1 v2:!V)(as:!U)(s s':S)(d1 d2:!J),vs=v1 ++ .ref p::v2/\d1.length=n1/\cz H0 H/\b_ K H0 v1 d1/\b_ K H0 v2 d2/\(∀a∈as,H0 a=none/\H a≠none)/\PR p s H0 H as/\ok s d1 d2 s'/\
 ∀(cY H':Hp)(as':!U),cz H0 cY->cz cY H'->(∀a,cY a≠none->H0 a≠none\/H a=none)->(∀a∈as',cY a=none/\H' a≠none/\(a∈as\/H a=none))->(∀b o,H b>>o->b∉as->H' b>>o)->PR p s' cY H' as'->Q .non H'
section
variable{X:Cx}{p:U}{x:O}
theorem Ou{H B0 B H0:Hp}{δ:!Slot}{σ:St}{D:Ends}{e1 e2 e3:bY}{d1 d2 d3:J}{pos:Pos}{S:Type}{PR:U->S->OR}{ok:S->!J->!J->S->Prop}{k:Nat}{f:O}{ps:!O}{p0 p1 pc:Pos}{s s':S}(C:bw X.prog X.w X.K X.mg X.base k f ps (DX X.K S PR 2 ok))(hr:dB k X.A)(G:OF X.K B0 B R H0 H σ δ)(m:fq R)(i:Nat)(hi:δ[i]?>>(.ref p))(h1:VE X e1 δ d1)(h2:VE X e2 δ d2)(h3:VE X e3 δ d3)(hok:ok s [d1,d2] [d3] s')
  (cut:∀(Ha Hb:Hp)(as:!U),R Ha Hb as->∃a1 a2:!U,(∀a,a∈as↔a∈a1\/a∈a2)/\(∀a∈a1,a∉a2)/\PR p s Ha Hb a1/\∀(Hc Hd:Hp)(a3:!U),cz Ha Hc->(∀a∈a2,Hd a=Hb a)->(∀a∈a2,a∉a3)->PR p s' Hc Hd a3->∃a4:!U,(∀a∈a4,a∈a3\/a∈a2)/\R' Hc Hd a4)
  (q:∀cY H',OF X.K B0 B R' cY H' σ δ->D.nx σ H')
  (hN:rT X i x:=by ac_rfl)
  (hg:Gl X f:=by rfl)(sJ:xr f:=by decide)(he:starEach [e1,e2,.Name x p0,e3] X.env=(false,eval e1 X.env)::starEach [e2,.Name x p0,e3] X.env:=by rfl)(HC:starEach [e2,.Name x p0,e3] X.env=(false,eval e2 X.env)::starEach [.Name x p0,e3] X.env:=by rfl)(Wy:starEach [.Name x p0,e3] X.env=(false,eval (.Name x p0) X.env)::starEach [e3] X.env:=by rfl)(he4:j8 X e3 []:=by rfl)(jX:qg X pc [e2,.Name x p0,e3]:=by rfl)
  (qB:S8 X pos (.Call (.Name f p1) [e1,e2,.Name x p0,e3] [] pc):=by rfl):
  cS X (.Expr (.Call (.Name f p1) [e1,e2,.Name x p0,e3] [] pc) pos) D σ H:=λpins s0 I=>by
 let#[fa,fd,F,hm,hk,hb]:=C;refine iR (wd F hr hg hm hk hb .nil wm (cy ck (cy ck (cy (ud hN) (cy ck dU he4) Wy) HC) he) sJ he jX) qB pins s0 σ H D I ?_;refine h1 H0 H σ H0 H _ G.own λv1 Ha Ha' ga ra=>?_;let Ga:=G.go m (G.own.grow ga) G.no;refine h2 Ha Ha' σ Ha Ha' _ Ga.own λv2 Hb Hb' gb rb=>?_;let Gb:=Ga.go m (Ga.own.grow gb) Ga.no;refine#[_,Gb.fr.slot i _ hi,?_];refine h3 Hb Hb' σ Hb Hb' _ Gb.own λv3 H1 c7 gc rc=>?_;let G1:=Gb.go m (Gb.own.grow gc) Gb.no;let#[as,o1,o2]:=G1.ex;let#[a1,a2,hs,hdj,hP,back]:=cut H1 c7 as o2;refine#[H1,p,_,[v3],a1,s,s',_,[d3],Y,Y,G1.fr.sub,.cons ((ra.mono gb.eV).mono gc.eV) (.cons (rb.mono gc.eV) .nil),.cons rc .nil,λa ha=>#[(o1 a ((hs a).mpr (.inl ha))).1,(o1 a ((hs a).mpr (.inl ha))).2.2],hP,hok,λcY H' as' z1 z2 z3 z4 z5 z6=>?_];let T5:∀a∈a2,H' a=c7 a:=λa ha=>by
  cases e:c7 a with
  |none=>exact qQ7 e ((o1 a ((hs a).mpr (.inr ha))).2.2)
  |some o=>exact z5 a o e λy=>hdj a y ha
 let#[a4,hs4,hR]:=back cY H' as' z1 T5 (λa ha y=>by
  rcases(z4 a y).2.2 with w|w
  .exact hdj a w ha
  .exact(o1 a ((hs a).mpr (.inr ha))).2.2 w) z6;let hB:∀b,B b≠none->b∉as:=λb hb z=>hb (o1 b z).2.1;refine q cY H' #[#[#[λb u e=>z5 b u (G1.fr.ent.big b u e) λy=>hB b (by rw[e];simp) ((hs b).mpr (.inl y)),G1.fr.ent.eV.trans z1,z2,λb z=>?_],G1.fr.len,λj sl e=>?_,G1.fr.apart],G1.no,a4,λa ha=>?_,hR]
 .rcases z3 b z with z|z
  .exact G1.fr.ent.new b z
  .exact .inr (G1.fr.ent.big.free z)
 .let qq:=G1.fr.slot j sl e;cases sl with
  |un=>trivial
  |ref _=>exact qq
  |val d=>let#[v,g1,g2]:=qq;exact#[v,g1,g2.mono z1]
  |own ds=>exact qQ7 e (fK G1.no j ds)
 .rcases hs4 a ha with y|y
  .let#[y1,y2,y3]:=z4 a y;refine#[y1,?_,y2];rcases y3 with y3|y3
   .exact(o1 a ((hs a).mpr (.inl y3))).2.1
   .exact G1.fr.ent.big.free y3
  .let#[w1,w2,w3]:=o1 a ((hs a).mpr (.inr y));refine#[?_,w2,[T5 a y]▸w3];cases e:cY a with
   |none=>rfl
   |some o=>
    rcases z3 a (by rw[e];simp)with w|w
    .exact qQ7 w1 w
    .exact qQ7 w w3
end
def xT(l:!Int):J:=.dict (l.map λg=>(.int g,.bool true))
theorem J6:∀{l:!Int}{ws:!(Key×V)},(ws.map λp=>k6 p.1)=(l.map λg=>dq g)->ws.map (·.1)=l.map (λg=>(iM g:Key))
 | [],[],_=>rfl
 | [],_::_,e=>by simp at e
 |_::_,[],e=>by simp at e
 |g::l,q::ws,e=>by
  rw[av,av]at e ⊢;injection e with h1 h2
  rw[J6 h2]
  congr 1
  cases eq:q.1 with
  |inl i=>rw[eq]at h1;injection h1 with h1;rw[h1]
  |inr x=>rw[eq]at h1;cases h1
theorem Rep.Fx{v:V}{l:!Int}(r:Rep K H v (xT l)):∃a ws,v=.ref a/\H a>>(.dK ws)/\ws.map (·.1)=l.map (λg=>(iM g:Key)):=by
 unfold xT at r;generalize e:l.map (λg=>(dq g,iC true))=ds at r;cases r with
 |dct h k t=>exact#[_,_,Y,h,J6 (by rw[<-k,<-e,aj];rfl)]
 |Tt h k t=>cases l<;>simp at e
 |obj h c n k t=>cases l<;>simp at e
 |VL h c n k t=>cases l<;>simp at e
 |QY h k t=>cases l<;>simp at e
theorem As:∀{l:!Int}{ws:!(Key×V)}(x:Int),ws.map (·.1)=l.map (λg=>(iM g:Key))->(gD ws (iM x)).isSome=decide (x∈l)
 | [],[],x,_=>by simp[gD]
 | [],_::_,_,e=>by simp at e
 |_::_,[],_,e=>by simp at e
 |g::l,q::ws,x,e=>by
  rw[av,av]at e;injection e with e1 e2
  let ih:=As x e2;unfold gD at ih ⊢;rw[c9,e1];by_cases h:g=x
  .rw[qQ1 (by rw[h]),qQ1 (by simp[h])];rfl
  .rw[qQ0 (λz=>h (EC z))];show(Option.map _ (List.find? _ ws)).isSome=_;rw[ih];rw[e8,decide_eq_true_iff,decide_eq_true_iff,au];exact#[.inr,λz=>z.resolve_left λy=>h y.symm]
section
variable{X:Cx}{b:bY}{δ:!Slot}{pos px:Pos}{x:Int}{l:!Int}{y:O}{ds:!J}
theorem HZ{a:bY}{k:Nat}(hr:dB k X.A)(h2:VE X b δ (.int x))(h1:VE X a δ (xT l))(hm:behindInMarks .NotIn a=false:=by with_unfolding_all rfl):VT X (.Compare b [.NotIn] [a] pos) δ (not (decide (x∈l))):=
 .of (GW (ug (yZ hr) ck ck) hm) λB0 B σ H0 H Q fr q=>h2 B0 B σ H0 H _ fr λu H1 c7 g r2=>h1 B0 B σ H1 c7 _ (fr.grow g) λv H2 fA g2 r=>by let#[p,ws,rfl,hp,ke]:=r.Fx;cases r2;refine#[p,_,Y,mH.k (k:=.inl x) (g2.sub _ _ hp),_,Y,?_];rw[As x ke];exact q H2 fA (g.trans g2)
theorem fM.T6{B0 B H0: Hp}{σ:St}{p:U}{ys:!V}{es:!J}(f:fM K B0 B H0 H σ δ)(hi:δ[i]?>>(.own ds))(hp:σ[i]?>>(some (.ref p)))(r:b_ K H0 ys es):fM K B0 B H0 (upd H p (.lst ys)) σ (δ.set i (.own es)):=by
 let#[p',xs',e1,e2,e3,e4,e5]:=f.slot i _ hi;rw[hp]at e1;obtain rfl:p=p':=by cases e1;rfl
 refine#[#[λb u z=>?_,f.ent.eV,λb u z=>?_,f.ent.new],[oB]▸f.len,λj sl z=>?_,λj l as bs q hjl z1 z2 z3=>?_]
 .rw[L (bq z e4)];exact f.ent.big _ _ z
 .rw[L (bq z e3)];exact f.sub _ _ z
 .by_cases hj:j=i
  .subst hj;rw[a7 (aF.mp hi).1]at z;cases z;exact#[p,ys,hp,aM,e3,e4,r]
  .rw[aY (bF hj)]at z;let q:=f.slot j sl z;cases sl with
   |un=>trivial
   |ref _=>exact q
   |val d=>exact q
   |own as=>let#[p2,Y3,g1,g2,g3,g4,g5]:=q;refine#[p2,Y3,g1,?_,g3,g4,g5];rwa[L (λy=>by subst y;exact f.apart j i as ds p2 hj z hi g1 hp)]
 .let key:∀(n:Nat)(cs:!J),(δ.set i (.own es))[n]?>>(.own cs)->∃MJ,δ[n]?>>(.own MJ):=λn cs y=>by
   by_cases hn:n=i
   .subst hn;exact#[_,hi]
   .rw[aY (bF hn)]at y;exact#[_,y]
  let#[as',y1]:=key j as z1;let#[bs',y2]:=key l bs z2;exact f.apart j l as' bs' q hjl y1 y2 z3
theorem H_(i:Nat){ap p0:Pos}(hi:δ[i]?>>(.own ds))(hN:rT X i y:=by ac_rfl)
  (gC:vn X (.Name y p0) "reverse":=by rfl)(hline:(ap.endLine==px.line)=true:=by rfl)(qB:S8 X pos (.Call (.Attribute (.Name y p0) "reverse" ap) [] [] px):=by rfl):
  VS X (.Expr (.Call (.Attribute (.Name y p0) "reverse" ap) [] [] px) pos) δ (.nx (δ.set i (.own ds.reverse))):=λB0 B σ H0 H D f ok pins s I=>by refine iR (Nc cK PySem.F.slot_list_reverse PySem.F.type_list_reverse Hw (ud hN) gC hline) qB pins s σ H D I ?_;let#[p,xs,h1,h2,h3,h4,h5]:=f.slot i _ hi;exact#[_,h1,.inl #[Y,_,jW.of h2],(#[p,xs,Y,Y,h2,ok σ H0 _ (cz.refl _) (f.T6 hi h1 (Fw h5))])]
end
section
variable{δ:!Slot}{p b:U}{d dp:J}{px ps:Pos}{x:O}{κ:Key}
theorem OF.list(G:OF X.K B0 B R H0 H σ δ)(hi:δ[i]?>>(.ref p))(hR:∀Ha Hb as,cz Ha Hb->R Ha Hb as->Rep X.K (gK as Hb Ha) (.ref p) dp)(h:VO X e (δ.set i (.val dp)) ds)(hs:∀d∈ds,yo d=true)(q:∀v Ha Hb,cP H0 H Ha Hb->Rep X.K Ha v (.list ds)->Q v Hb):cE X e σ H Q:=by
 let#[C0,f1]:=G.look hi hR;refine h C0 H σ C0 H _ f1 λa xs C1 H1 g h1 h2 h3 r=>?_;refine q _ _ H1 #[g.big,(λb u z=>[L (bq z (G.fr.sub.free h1))]▸z),λb u z=>?_,λb z=>?_] (.lst (jW.of aM) (r.HK hs))
 .by_cases hb:b=a
  .subst hb;rw[aM]at z;rwa[<-z]
  .rw[L hb]at z;exact g.big b u (G.fr.sub b u z)
 .by_cases hb:b=a
  .subst hb;exact .inr h1
  .rw[L hb]at z;exact .inl z
theorem Wz(Rs:Nat->OR)(m:∀k,fq (Rs k))(G:OF X.K B0 B (Rs 0) H0 H σ δ)(hp:C7 (model X.prog X.w) X.A X.env X.xe)(hc:X.calm=true)(he:∀Q:V->Hp->Prop,(∀v Ha Hb,cP H0 H Ha Hb->Rep X.K Ha v (.list ds)->Q v Hb)->cE X iter σ H Q)(hg:PG X tg (Ld X.K tgt))
  (step:∀k d,ds[k]?>>d->∃δ',yX tgt d δ>>δ'/\noOwn δ'=true/\∀(D:Ends)C0 σ' cY H',OF X.K C0 B (Rs k) cY H' σ' δ'->(∀σ2 Ha Hb,OF X.K C0 B (Rs (k+1)) Ha Hb σ2 δ->D.nx σ2 Hb)->zt X body D σ' H')
  (q:∀σ2 Ha Hb,OF X.K B0 B (Rs ds.length) Ha Hb σ2 δ->D.nx σ2 Hb)
  (hs:My X iter:=by intro _;rfl):cS X (.For tg iter body [] pos) D σ H:=λpins s I=>by
 refine G' hp hc (JA ck) hg ly hs pins s σ H D I ?_;refine he _ λv H1 c7 g r=>?_;cases r with
 |lst hq r=>
 refine#[_,rfl,#[_,g.sub.seq hq],?_];let G1:=G.go (m 0) (G.own.grow g) G.no;refine#[λi mm σ' H'=>i<=ds.length/\mm=ds.length-i/\∃Ha,OF X.K H1 B (Rs i) Ha H' σ' δ,#[_,bj _,rfl,H1,G1.from #[G1.fr.ent.big,cz.refl _,G1.fr.sub,λ_ z=>.inl z]],?_];rintro i mm σ' H' ⟨hi,rfl,Ha,Ga⟩;let hl:=r.length;let hS:=(Ga.fr.ent.eV.trans Ga.fr.sub).seq hq;by_cases oE:i<ds.length
 .let hd:ds[i]?>>ds[i]:=by simp[oE]
  let#[δ',e1,e2,e3]:=step i _ hd;let#[x,hx,_]:=r.get hd;refine .inr #[#[_,x,hS,hx],λσ'' Ez=>∃Hb,_,λσ'' Ez #[Hb,z]=>#[_,(),oE,rfl,Hb,z],λv H2 #[e,y]=>?_];subst e;exact sU Ga.own ((r.mono Ga.fr.ent.eV).at hd (y _ hS)) e1 λσ3 f3=>(e3 _ H1 σ3 _ _ (Ga.go (m i) f3 e2) λσ2 Hc Hd z=>#[Hc,z])
 .let e:i=ds.length:=();subst e;refine .inl #[#[_,hS,()],q σ' Ha H' (Ga.from #[Ga.fr.ent.big,G1.fr.ent.eV.trans Ga.fr.ent.eV,Ga.fr.sub,λb z=>?_])];rcases Ga.fr.ent.new b z with z|z
  .exact G1.fr.ent.new b z
  .exact .inr z
theorem RB{X:Cx}{H B0 B H0:Hp}{ds:!J}{R R':OR}{σ:St}{D:Ends}{e ek:bY}{pos:Pos}{k:Nat}(m:fq R)(G:OF X.K B0 B R H0 H σ δ)(hr:dB k X.A)(i:Nat)(hi:δ[i]?>>(.ref b))(hR:∀Ha Hb as,cz Ha Hb->R Ha Hb as->Rep X.K (gK as Hb Ha) (.ref b) dp)(h:VO X e (δ.set i (.val dp)) ds)(hsc:∀d∈ds,yo d=true)(hk:VE X ek δ (k6 κ))
  (hb:∀Ha Hb as,R Ha Hb as->∃kvs,b∈as/\Hb b>>(.dK kvs)/\kvs.length<sizeLine/\∀p xs,p∉as->Hb p>>(.lst xs)->b_ X.K Ha xs ds->∃as',(∀a∈as',a=p\/a∈as)/\R' Ha (upd Hb b (.dK (putK kvs κ (.ref p)))) as')
  (q:∀cY H',OF X.K B0 B R' cY H' σ δ->D.nx σ H')
  (hN:rT X i x:=by ac_rfl)
  (hs:zN X pos e (.Subscript (.Name x px) ek ps):=by rfl):
  cS X (.Assign [.Subscript (.Name x px) ek ps] e pos) D σ H:=λpins s I=>by
 refine pG (yZ hr) (ud hN) ck ck hs pins s σ H D I ?_;let#[C0,f1]:=G.look hi hR;refine h C0 H σ C0 H _ f1 λa xs C1 H1 g h1 h2 h3 r=>?_;let G1:=G.go m (G.own.grow (.far G.fr.sub g.big)) G.no;refine#[_,G1.fr.slot i _ hi,hk H0 H1 σ H0 H1 _ G1.own λu H2 fA g2 r2=>?_];obtain rfl:=oP r2;let G2:=G1.go m (G1.own.grow g2) G1.no;let#[as,o0,o00]:=G.ex;let ha:=λz=>(o0 a z).2.2 h1;let o1:∀c∈as,H2 c=none/\B c=none/\fA c≠none:=λc hc=>by
  let#[y1,y2,y3]:=o0 c hc;cases z:H c with
  |none=>exact qQ7 z y3
  |some o=>exact#[g2.still y1 (g.big _ _ z),y2,[g2.big _ _ (g.big _ _ z)]▸nofun]
 let#[kvs,k1,k2,k3,k4]:=hb _ _ _ (m _ _ _ _ _ o00 g2.eV λc hc=>((g.big.trans g2.big).eq (o0 c hc).2.2));let RC:=g2.big _ _ h3;refine#[b,_,Y,wq.k (k:=κ) k2 k3,?_];let ab:a≠b:=λz=>by rw[z,k2]at RC;cases RC
 let#[as',s1,s2]:=k4 a xs ha RC (r.HK hsc);let#[w1,w2,w3]:=o1 b k1;refine q _ _ #[G2.fr.touch w1 w2 (fK G2.no),G2.no,as',λc hc=>?_,s2];rcases s1 c hc with rfl|hc
 .exact#[(g2.still (G.fr.sub.free h1) h3),G.fr.ent.big.free h1,[L ab,RC]▸nofun]
 .let#[w1,w2,w3]:=o1 c hc;refine#[w1,w2,?_];by_cases e:c=b
  .subst e;rw[aM];exact nofun
  .rwa[L e]
end
def yt(a0:!U)(R:OR):OR:=λH0 H as=>(∀a∈a0,a∈as)/\∃oj,(∀a∈oj,a∈as)/\R H0 H oj
theorem yt.mono(m:fq R):fq (yt a0 R):=λ_ _ _ _ _ #[h1,oj,h2,h3] sm hb=>#[h1,oj,h2,m _ _ _ _ _ h3 sm λa ha=>hb a (h2 a ha)]
section
variable{K:aq}{H0 H Ha Hb:Hp}{σ:St}{δ:!Slot}{R R':OR}{as:!U}
theorem Ov:cz (pj as H) H:=λb u e=>by
 by_cases h:b∈as
 .rw[pM h]at e;cases e
 .rwa [j' h]at e
theorem DY(own:∀a∈as,H0 a=none/\H a≠none)(r:R H0 H as)(f:fM K H0 H H0 H σ δ)(hn:noOwn δ=true):OF K H0 (pj as H) (yt as R) H0 H σ δ:=
 #[f.re hn #[Ov,cz.refl _,f.sub,λ_ z=>.inl z],hn,as,λa ha=>#[(own a ha).1,pM ha,(own a ha).2],λ_ z=>z,as,λ_ z=>z,r]
theorem Ow(G:OF K H0 (pj as H) (yt as R) Ha Hb σ δ):cz H0 Ha/\cz Ha Hb/\(∀a,Ha a≠none->H0 a≠none\/H a=none)/\(∀b o,H b>>o->b∉as->Hb b>>o)/\∃as',(∀a∈as',Ha a=none/\Hb a≠none/\(a∈as\/H a=none))/\R Ha Hb as':=by
 let#[bs,h1,h2,oj,h3,h4]:=G.ex;let out:∀a,pj as H a=none->a∈as\/H a=none:=λa z=>by
  by_cases h:a∈as
  .exact .inl h
  .rw[j' h]at z;exact .inr z
 refine#[G.fr.ent.eV,G.fr.sub,λa z=>?_,λb o z hb=>G.fr.ent.big b o ((j' hb).trans z),oj,λa ha=>?_,h4]
 .rcases G.fr.ent.new a z with y|y
  .exact .inl y
  .rcases out a y with y|y
   .exact qQ7 (h1 a (h2 a y)).1 z
   .exact .inr y
 .let#[z1,z2,z3]:=h1 a (h3 a ha);exact#[z1,z3,out a z2]
theorem OF.puts{B0 B:Hp}(G:OF K B0 B R H0 H σ δ)(m:fq R):∃as,R H0 H as/\∀{Ha Hb:Hp}(_:cP H0 H Ha Hb){x:U}{o:HO}{R':OR},x∈as->(∃as',(∀a∈as',a∈as)/\R' Ha (upd Hb x o) as')->OF K B0 B R' Ha (upd Hb x o) σ δ:=by
 let#[as,h1,h2]:=G.ex;refine#[as,h2,λ{Ha Hb}g{x o R'}hx #[as',hs,r']=>?_];let G1:=G.go m (G.own.grow g) G.no;let Oq:∀a∈as,Ha a=none/\B a=none/\Hb a≠none:=λa ha=>by
  let#[y1,y2,y3]:=h1 a ha;cases z:H a with
  |none=>exact qQ7 z y3
  |some o=>exact#[g.still y1 z,y2,[g.big _ _ z]▸nofun]
 let#[z1,z2,z3]:=Oq x hx;refine#[G1.fr.touch z1 z2 (fK G1.no),G1.no,as',λb hb=>?_,r'];let#[w1,w2,w3]:=Oq b (hs b hb);refine#[w1,w2,?_];by_cases e:b=x
 .subst e;rw[aM];exact nofun
 .rwa[L e]
end
def WB(R:U->OR):UR:=λB v H0 H=>∃a as,v=.ref a/\(∀x∈as,B x=none/\H0 x=none/\H x≠none)/\R a H0 H as
theorem wJ{R:U->OR}:T4 (WB R):=λ_ _ _ _ _ s #[a,as,e,h1,h2]=>#[a,as,e,λx hx=>#[s.free (h1 x hx).1,(h1 x hx).2],h2]
def VD(X:Cx)(e:bY)(δ:!Slot)(l:!(O×J)):Prop:=∀B0 B σ H0 H Q,fM X.K B0 B H0 H σ δ->
 (∀p ws cY H',cP H0 H cY H'->H p=none->cY p=none->H' p>>(.dK ws)->ws.map (·.1)=l.map (λq=>(aL q.1:Key))->b_ X.K cY (ws.map (·.2)) (l.map (·.2))->Q (.ref p) H')->cE X e σ H Q
def DL(K:aq)(a:U)(kl:!(O×!J)):OR:=λH0 H as=>∃cs,as=a::cs/\(a::cs).Nodup/\H a>>(.dK (o_ kl cs))/\XE K H0 H kl cs
theorem DL.mono{kl:!(O×!J)}:fq (DL K a kl):=by rintro H0 H Ha Hb as ⟨cs,rfl,nd,h3,h4,h5⟩ sm hb;refine#[cs,Y,nd,[hb a ∅]▸h3,h4,λi c q e1 e2=>?_];let#[ys,y1,y2]:=h5 i c q e1 e2;exact#[ys,[hb c (by simp[aH e1])]▸y1,y2.mono sm]
section
variable{X:Cx}{B0 B H0 H:Hp}{σ:St}{D:Ends}{δ:!Slot}{a p:U}{e:bY}{pos px pc p0:Pos}{x:O}{R:U->OR}{rs:!O}{l:!(O×J)}
theorem Ox(h:VE X e δ (.list (l.map pairD)))(hn:(l.map (·.1)).Nodup)(hc:X.calm=true)(hm:X.mg "dict"=none)(hg:Gl X "dict":=by rfl)(ZJ:j8 X e []:=by rfl)(jX:qg X pc []:=by rfl):VD X (.Call (.Name "dict" p0) [e] [] pc) δ l:=λB0 B σ H0 H Q f q pins s I=>
 mV (mY hc) hg hm Y (cy ck dU ZJ) ⋯ ⋯ ZJ jX pins s σ H Q I (h B0 B σ H0 H _ f λv H1 c7 g rv=>by
  cases rv with
  |lst hq rs=>
   let#[qs,e1,e2,e3,e4]:=Aq rs;subst e1;let e3':(qs.map (·.2)).map (·.1)=l.map (λq=>(aL q.1:Key)):=[aj]▸e3;refine#[_,qs,Y,g.sub.seq hq,λq Ht=>g.sub.oM (e2 q Ht),λp hp=>?_];rw[pL _ [] (by rw[e9,e3',show(l.map λp=>(aL p.1:Key))=(l.map (·.1)).map aL by rw[aj];rfl];exact kN _ (λa b Zk z=>Zk (jh z)) hn),e9];exact q p _ H1 _ (g.trans (.loose g.sub hp)) (g.big.free hp) (g.sub.free hp) aM e3' ([aj]▸e4))
theorem Ia(f:fM X.K B0 B H0 H σ δ)(i:Nat)(h:VU X e δ (WB R))(hN:X.N.Nodup)(hn:∀p,noOwn (δ.set i (.ref p))=true)(q:∀a σ' cY H',OF X.K B0 B (R a) cY H' σ' (δ.set i (.ref a))->D.nx σ' H')
  (hi:X.N[i]?>>x:=by rfl)(hx:Loc X.env.scope x:=by left)(hs:zN X pos e (.Name x px):=by rfl)(hf:Dl X x:=by left):
  cS X (.Assign [.Name x px] e pos) D σ H:=λpins s I=>by refine pY hN hi hx ck hs hf pins s σ H D I (h B0 B σ H0 H _ f λv H1 c7 g u=>?_);let#[a,as,rfl,h1,h2]:=u;exact q a _ H1 _ #[(f.grow g).xK Y Y,hn a,as,λb hb=>#[(h1 b hb).2.1,f.ent.big.free (h1 b hb).1,(h1 b hb).2.2],h2]
theorem RD{d:J}(h:VU X e δ (WB R))(hR:∀a Ha Hb as,cz Ha Hb->R a Ha Hb as->Rep X.K (gK as Hb Ha) (.ref a) d):VE X e δ d:=λB0 B σ H0 H Q f q=>h B0 B σ H0 H _ f λv Ha Hb g u=>by
 let#[a,as,rfl,h1,h2]:=u;refine q _ _ Hb #[g.big,g.eV.trans (kS g.sub),zy g.sub,λb z=>?_] (hR a Ha Hb as g.sub h2);by_cases hb:b∈as
 .exact .inr (h1 b hb).1
 .rw[gf hb]at z;exact g.new b z
theorem Oy(f:fM X.K B0 B H0 H σ δ)(i:Nat)(h:VLU X e δ rs)(MH:rs.Nodup)(hc:X.calm=true)(hm:X.mg "dict"=none)(hN:X.N.Nodup)(hn:∀p,noOwn (δ.set i (.ref p))=true)(q:∀p σ' cY H',OF X.K B0 B (DL X.K p (rs.map λr=>(r,[]))) cY H' σ' (δ.set i (.ref p))->D.nx σ' H')
  (hg:Gl X "dict":=by rfl)(ZJ:j8 X e []:=by rfl)(jX:qg X pc []:=by rfl)
  (hi:X.N[i]?>>x:=by rfl)(hx:Loc X.env.scope x:=by left)(hs:zN X pos (.Call (.Name "dict" p0) [e] [] pc) (.Name x px):=by rfl)(hf:Dl X x:=by left):
  cS X (.Assign [.Name x px] (.Call (.Name "dict" p0) [e] [] pc) pos) D σ H:=λpins s I=>by
 refine pY hN hi hx (mV (mY hc) hg hm Y (cy ck dU ZJ) ⋯ ⋯ ZJ jX) hs hf pins s σ H D I ?_;refine h B0 B σ H0 H _ f λp qs H1 c7 g hp hp1 zdS ow hrs=>?_;let f1:=f.grow g;refine#[p,qs.map λz=>(z.1,aL z.2.1,.ref z.2.2),Y,jW.of (by rw[zdS,aj];rfl),λz hz=>?_,λl hl=>?_]
 .let#[z0,hz0,rfl]:=ai.mp hz;exact oC.of (ow.2 z0 hz0).2.2.1
 .let ZK:((qs.map λz:U×O×U=>((z.1,aL z.2.1,V.ref z.2.2))).map (·.2)).map (·.1)=rs.map λr=>(aL r:Key):=by rw[<-hrs];simp only[aj];rfl
  let zdU:nu [] ((qs.map λz:U×O×U=>((z.1,aL z.2.1,V.ref z.2.2))).map (·.2))=o_ (rs.map λr=>(r,([]))) (qs.map (·.2.2)):=by rw[pL _ _ ([e9,ZK]▸List.pairwise_map.mpr (MH.imp λh z=>h (jh z))),e9,<-hrs];exact Ot qs
  rw[zdU];let JF:∀c∈qs.map (·.2.2),H c=none/\H1 c=none/\c7 c>>_:=λc hc=>by let#[z,hz,rfl]:=ai.mp hc;let#[w1,w2,_,w4]:=ow.2 z hz;exact#[w1,w2,w4]
  let lc:∀c∈qs.map (·.2.2),c≠l:=λc hc z=>by let:=(JF c hc).2.2;rw[z,hl]at this;cases this
  refine q l _ H1 _ #[(f1.grow (.loose f1.sub hl)).xK Y Y,hn l,_,λb hb=>?_,_,Y,?_,aM,?_,λn c z e1 e2=>?_]
  .rcases au.mp hb with rfl|hb
   .exact#[f1.sub.free hl,f1.ent.big.free hl,by rw[aM];simp]
   .let#[w1,w2,w3]:=JF b hb;exact#[w2,f.ent.big.free w1,by rw[L (lc b hb),w3];simp]
  .exact aO.mpr #[λz=>lc l z Y,ow.1]
  .rw[<-hrs];simp
  .refine#[[],[L (lc c (aH e1))]▸(JF c (aH e1)).2.2,?_];rw[ax]at e2;cases e3:rs[n]? with
   |none=>rw[e3]at e2;cases e2
   |some r=>rw[e3]at e2;cases e2;exact .nil
end
def nX(K:aq)(R:OR)(d:U)(ds:!J):OR:=λH0 H as=>∃oj xs,as=d::oj/\d∉oj/\R H0 H oj/\H d>>(.lst xs)/\b_ K H0 xs ds
theorem nX.mono(m:fq R):fq (nX K R d ds):=by rintro H0 H Ha Hb as ⟨oj,xs,rfl,h1,h2,h3,h4⟩ sm hb;exact#[oj,xs,Y,h1,m _ _ _ _ _ h2 sm λa ha=>hb a (by simp[ha]),[hb d ∅]▸h3,h4.mono sm]
theorem nX.rep(Ha Hb:Hp)(as:!U)(s:cz Ha Hb)(h:nX K R d ds Ha Hb as):Rep K (gK as Hb Ha) (.ref d) (.list ds):=by let#[oj,xs,rfl,h1,h2,h3,h4]:=h;exact .lst (jW.of ((f7 ∅).trans h3)) (h4.mono (kS s))
section
variable{X:Cx}{B0 B H0 H:Hp}{σ:St}{D:Ends}{δ:!Slot}{d:U}{ds:!J}{pos px pa pc pd:Pos}{x:O}{R:OR}
theorem RG(m:fq R)(G:OF X.K B0 B R H0 H σ δ)(i:Nat)(hN:X.N.Nodup)(hn:∀p,noOwn (δ.set i (.ref p))=true)(q:∀p σ' H',OF X.K B0 B (nX X.K R p []) H0 H' σ' (δ.set i (.ref p))->D.nx σ' H')
  (hi:X.N[i]?>>x:=by rfl)(hx:Loc X.env.scope x:=by left)(hs:zN X pos (.List [] pd) (.Name x px):=by rfl)(hf:Dl X x:=by left):
  cS X (.Assign [.Name x px] (.List [] pd) pos) D σ H:=λpins s I=>by
 refine pY hN hi hx (zU dU) hs hf pins s σ H D I #[bj _,λp hp=>?_];let#[as,o1,o2]:=G.ex;let ZL:=λz=>(o1 p z).2.2 hp;let ne:∀a∈as,a≠p:=λa ha z=>ZL ([<-z]▸ha);refine q p _ _ #[(G.fr.grow (.loose G.fr.sub hp)).xK Y Y,hn p,_,λb hb=>?_,as,[],Y,ZL,m _ _ _ _ _ o2 (cz.refl _) λa ha=>L (ne a ha),aM,.nil];rcases au.mp hb with rfl|hb
 .exact#[G.fr.sub.free hp,G.fr.ent.big.free hp,by rw[aM];simp]
 .exact#[(o1 b hb).1,(o1 b hb).2.1,[L (ne b hb)]▸(o1 b hb).2.2]
theorem RH{e:bY}{dv:J}(m:fq R)(G:OF X.K B0 B (nX X.K R d ds) H0 H σ δ)(i:Nat)(hi:δ[i]?>>(.ref d))(hv:VE X e δ dv)(hl:ds.length<sizeLine)(q:∀cY H',OF X.K B0 B (nX X.K R d (ds ++ [dv])) cY H' σ δ->D.nx σ H')
  (hN:rT X i x:=by ac_rfl)
  (gC:vn X (.Name x px) "append":=by rfl)
  (hs:j8 X e []:=by rfl)
  (lN:GV X pc [e]:=by rfl)
  (hline:(pa.endLine==pc.line)=true:=by rfl)(fQ:qg X pc []:=by rfl)(qB:S8 X pos (.Call (.Attribute (.Name x px) "append" pa) [e] [] pc):=by rfl):
  cS X (.Expr (.Call (.Attribute (.Name x px) "append" pa) [e] [] pc) pos) D σ H:=λpins s I=>by refine iR (pF cK fy fz lu (ud hN) (cy ck dU hs) gC lN hline hs fQ) qB pins s σ H D I ?_;let#[as,_,oj,xs,_,_,_,h3,h4]:=G.ex;refine#[_,G.fr.slot i _ hi,.inl #[Y,_,jW.of h3],?_];refine hv H0 H σ H0 H _ G.own λv Ha Hb g r=>?_;refine#[d,xs,v,Y,Y,g.big _ _ h3,[h4.length]▸hl,q Ha _ (G.put (nX.mono m) g λas' #[as2,ys,e,k1,k2,k3,k4]=>?_)];subst e;rw[g.big _ _ h3]at k3;cases k3;exact#[∅,_,λ_ z=>z,as2,_,Y,k1,m _ _ _ _ _ k2 (cz.refl _) λa ha=>L λz:a=d=>k1 ([<-z]▸ha),aM,k4.append (.cons r .nil)]
end
theorem RJ(hT:T="tuple"\/T="list")(l:U)(items:Array M)(n:Nat)(b:U)(nE:Array M)(n2:Nat)(dd:Option U)(sl:Array (Option M))(JK:¬(not items.isEmpty&&kr (items.size+nE.size))=true)(hn:items.size<=sizeLine)(hz:items.size+nE.size<=sizeLine+1):
  Meets (vi.«list.extend» #[[.ref l,.ref b],[]]) (λ_ R s=>s.heap.get? l=some { cls:=.type "list",data:=.seq items n }/\s.heap.get? b=some { cls:=.type T,dict:=dd,data:=.seq nE n2,slots:=sl }/\R (.ok (.ret .none)) { s with heap:=s.heap.update l (Dc λx=>x++nE) }):=
 .of_wp λprog w A R s h=>by
  let#[hp,g,d,tk,os]:=s;let#[hl,hb,h]:=h;rcases hT with rfl|rfl<;>(wp_walk using eQ hb,eQ hl)
  all_goals
   let e:(Dc (λx=>x++nE) { cls:=rY "list",data:=Data.seq items n }).data.pastItsLine=none:=by show(if(items++nE).size>sizeLine+1 then _ else _)=none;rw[qQ2 (by rw[Array.size_append];omega)]
   rw[e]
   wp_walk
   exact#[_,Y,h]
def ZM(K:aq):V->!V->Hp->VK->Prop:=λx vs H Q=>∃l b xs zs,x=.ref l/\vs=[.ref b]/\H l>>(.lst xs)/\(oC K H b zs\/jW K H b zs)/\xs.length+zs.length<=sizeLine/\Q .non (upd H l (.lst (xs++zs)))
theorem J7:Tq X "list.extend" (ZM X.K):=by
 intro pins s σ H x vs v us Q I rx rv h;let#[l,b,xs,zs,rfl,rfl,hH,hB,hz,q]:=h;cases rx;let#[u,rfl,ru]:=rv.one;cases ru;let#[z,its,n,r,hl,e]:=I.K4 hH;obtain⟨T,hT,nE,n2,dd,sl,r2,ho⟩:∃(T:String)(_:T="tuple"\/T="list")(nE:!M)(n2:Nat)(dd:Option U)(sl:Array (Option M)),dJ zs nE/\s.heap.get? b=some { cls:=.type T,dict:=dd,data:=.seq nE.toArray n2,slots:=sl }:=by
  rcases hB with hB|hB
  .let#[nE,r2,#[#[oc,dd,od,sl],ho,hc,n2,WC],_]:=I.tuple hB;subst hc;subst WC;exact#[_,.inl Y,nE,n2,dd,sl,r2,ho]
  .let#[nE,r2,#[#[oc,dd,od,sl],n2,ho,hc,_,WC],_]:=I.list hB;subst hc;subst WC;exact#[_,.inr Y,nE,n2,dd,sl,r2,ho]
 let MB:=r2.length;let yT:its.toArray.size+nE.toArray.size<=sizeLine:=by rw[bC,bC];omega
 let JK:¬(not its.toArray.isEmpty&&kr (its.toArray.size+nE.toArray.size))=true:=by rw[EZ yT,uK];exact ia
 refine jq F.slot_list_extend #[_,e,Y] F.entry_list_extend (F.args_list_extend_2 _ _) (RJ hT l its.toArray n b nE.toArray n2 dd sl JK (by rw[bC];omega) ()) #[e,ho,?_];refine#[.non,_,I.Nf hH e ∅ (r.append r2) ?_,Y,q];rw[aR];omega
def Lx(C:U)(fs:!(O×J)):J:=.dict ((.bool true,.int (Int.ofNat C))::fs.map λp=>(.str p.1,p.2))
theorem Cu:∀{ws:!(O×V)}{fs:!(O×J)},ws.map (λp=>aN p.1)=fs.map (λp=>aN p.1)->ws.map (·.1)=fs.map (·.1)
 | [],[],_=>rfl
 | [],_::_,h=>by simp at h
 |_::_,[],h=>by simp at h
 |q::ws,p::fs,h=>by
  rw[av,av]at h ⊢;injection h with h1 h2
  injection h1 with h1
  rw[Cu h2,h1]
theorem Rep.Fy{v:V}{C:U}{fs:!(O×J)}(r:Rep K H v (Lx C fs)):∃a dx ws,v=.ref a/\H a>>(.ins C dx ws)/\uM K C/\(∀f∈ws.map (·.1),gw K C f)/\ws.map (·.1)=fs.map (·.1)/\b_ K H (ws.map (·.2)) (fs.map (·.2)):=by
 unfold Lx at r;generalize e:fs.map (λp=>(aN p.1,p.2))=ds at r;cases r with
 |dct h k t=>
  rename_i a ws
  exfalso;cases ws with
  |nil=>simp at k
  |cons q ws=>
   rw[av,av]at k;injection k with k1 _
   cases eq:q.1 with
   |inl i=>rw[eq]at k1;cases k1
   |inr x=>rw[eq]at k1;cases k1
 |VL h c nn k t=>refine#[_,_,_,Y,h,c,nn,Cu (by rw[<-k,<-e,aj];rfl),?_];rwa[<-e,aj]at t
def qD(P:bU)(w:c0)(K:aq)(mg:O->Option M)(base:dF)(k:Nat)(C:U)(m:O)(ps:!O)(sp:Sp):Prop:=
 ∃f fd,dR P w K mg base ju k f fd ps sp/\uM K C/\Qy K C m f/\Binds K fd ps []
theorem vE{α:Type}:∀{ws:!(O×α)},m∉ws.map (·.1)->ws.lookup m=none
 | [],_=>rfl
 |(x,v)::ws,h=>by rw[av,au,not_or]at h;rw[d_,beq_eq_false_iff_ne.mpr h.1];exact vE h.2
section
variable{X:Cx}{o e:bY}{δ:!Slot}{d:J}{fs:!(O×J)}{C:U}{m:O}{pos apos:Pos}{pl:Sem Bool}
theorem RK{f:O}(h:VE X o δ (Lx C fs))(hf:gJ fs f>>d)(hb:vn X o f:=by rfl):VE X (.Attribute o f pos) δ d:=
 .of (mU ck hb) λB0 B σ H0 H Q fr q=>h B0 B σ H0 H _ fr λv H1 c7 g r=>by let#[p,dx,ws,rfl,hp,cl,nn,ke,rs]:=r.Fy;let#[u,h1,h2,h3]:=HN ke rs f d hf;exact#[p,C,dx,ws,u,Y,g.sub _ _ hp,cl,nn f h2,h1,q u H1 c7 g h3]
theorem rn{ds:!J}{es:!bY}{ps:!O}{k:Nat}{R:!J->J->Prop}(Ma:qD X.prog X.w X.K X.mg X.base k C m ps (gk X.K R))(hr:dB k X.A)(h:VE X o δ (Lx C fs))(hl:m∉fs.map (·.1))(ha:VA X (e::es) δ ds)(hp:R (Lx C fs::ds) d)
  (EJ:j8 X e es:=by rfl)(jX:qg X pos es:=by rfl)
  (ht:eval (.Call (.Attribute o m apos) (e::es) [] pos) X.env=(do
   let ov <-eval o X.env
   standAt apos.atName
   let(f,first) <-holding [ov] (getMethod ov m pl)
   callWith pos f first (backTo pos (starEach (e::es) X.env)) (backToKw pos (keywordEach [] X.env))):=by rfl) :
  VE X (.Call (.Attribute o m apos) (e::es) [] pos) δ d:=by let#[f,fd,F,cl,hm,hb]:=Ma;let#[t,pa,qa]:=ha;refine .of (JC ck cl hm F hr hb .nil wm pa EJ jX ht) λB0 B σ H0 H Q fr q=>h B0 B σ H0 H _ fr λv H1 c7 g r=>?_;let#[p,dx,ws,rfl,Qi,_,nn,ke,rs]:=r.Fy;refine#[p,dx,ws,Y,g.sub _ _ Qi,vE ([ke]▸hl),?_];refine qa B0 B σ H1 c7 _ (fr.grow g) λvs H2 fA g2 TQ=>?_;rw[cA];exact#[H2,_,d,g2.sub,.cons (r.mono g2.eV) TQ,hp,λv H3 uD g3 r3=>q v H3 uD ((g.trans g2).trans g3) r3]
end
section
variable{X:Cx}{B0 B H0 H:Hp}{σ:St}{D:Ends}{δ:!Slot}{p C dx a c:U}{e ek ev:bY}{es:!bY}{d dp:J}{ds:!J}{pos px po ps pa pc p0 apos:Pos}{x fl:O}{fs:!(O×V)}{R:OR}{k:Nat}{κ:Key}{kvs:!(Key×V)}{xs:!V}
theorem OF.ZN(G:OF X.K B0 B R H0 H σ δ)(hi:δ[i]?>>(.ref p))(hR:∀Ha Hb as,cz Ha Hb->R Ha Hb as->Rep X.K (gK as Hb Ha) (.ref p) dp)(hT:∀Ha Hb as,R Ha Hb as->∀a∈as,rm Hb a)(h:VE X e (δ.set i (.val dp)) d)(hd:xS d)(q:∀v Ha Hb,cP H0 H Ha Hb->Rep X.K Ha v d->Q v Hb):cE X e σ H Q:=by
 let#[as,h1,h2,f1]:=G.TX hi hR;refine h _ H σ _ H _ f1 λv C1 H1 g r=>?_;let hC:=λb hb u z=>g.eV b u ((gf hb).trans z);refine q v (pj as C1) H1 #[g.big,λb u z=>?_,λb u z=>?_,λb z=>?_] (Rep.out (λa ha xs=>?_) hd v r)
 .let hb:b∉as:=λy=>by rw[(h1 b y).1]at z;cases z
  rw[j' hb];exact hC b hb u z
 .by_cases hb:b∈as
  .rw[pM hb]at z;cases z
  .rw[j' hb]at z;exact g.sub b u z
 .by_cases hb:b∈as
  .rw[pM hb]at z;exact qQ7 Y z
  .rw[j' hb]at z;rcases g.new b z with w|w
   .rw[gf hb]at w;exact .inl w
   .exact .inr w
 .let e:C1 a=H a:=by
   cases w:H a with
   |none=>exact qQ7 w (h1 a ha).2.2
   |some o=>exact g.eV a o ((f7 ha).trans w)
  rw[e];exact hT _ _ _ h2 a ha xs
def MK(X:Cx)(B0 B:Hp)(R:OR)(σ:St)(δ:!Slot)(e:bY)(d:J):Prop:=∀H0 H,OF X.K B0 B R H0 H σ δ->∀Q:V->Hp->Prop,(∀v Ha Hb,cP H0 H Ha Hb->Rep X.K Ha v d->Q v Hb)->cE X e σ H Q
theorem lA(h:VE X e δ d):MK X B0 B R σ δ e d:=λH0 H G Q q=>h H0 H σ H0 H Q G.own q
theorem DZ(i:Nat)(hi:δ[i]?>>(.ref p))(hR:∀Ha Hb as,cz Ha Hb->R Ha Hb as->Rep X.K (gK as Hb Ha) (.ref p) dp)(hT:∀Ha Hb as,R Ha Hb as->∀a∈as,rm Hb a)(h:VE X e (δ.set i (.val dp)) d)(hd:xS d):MK X B0 B R σ δ e d:=λH0 H G Q q=>G.ZN hi hR hT h hd q
theorem WD(i:Nat)(hi:δ[i]?>>(.ref p))(hR:∀Ha Hb as,cz Ha Hb->R Ha Hb as->Rep X.K (gK as Hb Ha) (.ref p) dp)(h:VO X e (δ.set i (.val dp)) ds)(hs:∀d∈ds,yo d=true):MK X B0 B R σ δ e (.list ds):=λH0 H G Q q=>G.list hi hR h hs q
def LkA(X:Cx)(B0 B:Hp)(R:OR)(σ:St)(δ:!Slot)(es:!bY)(ds:!J):Prop:=∃t,PA X es t/\∀H0 H,OF X.K B0 B R H0 H σ δ->∀Q:!V->Hp->Prop,(∀vs Ha Hb,cP H0 H Ha Hb->b_ X.K Ha vs ds->Q vs Hb)->t σ H Q
theorem D0:LkA X B0 B R σ δ [] []:=#[_,dU,λH0 H G Q q=>q [] H0 H (.refl G.fr.sub) .nil]
theorem rq(m:fq R)(h:MK X B0 B R σ δ e d)(ha:LkA X B0 B R σ δ es ds)(he:j8 X e es:=by rfl):LkA X B0 B R σ δ (e::es) (d::ds):=by let#[t,pt,qt]:=ha;exact#[_,cy ck pt he,λH0 H G Q q=>h H0 H G _ λv H1 c7 g r=>(qt H1 c7 (G.go m (G.own.grow g) G.no) _ λvs H2 fA g2 rs=>q _ H2 fA (g.trans g2) (.cons (r.mono g2.eV) rs))]
def vF(K:aq)(S:Type)(PR:U->S->OR)(ok:S->!J->S->Prop):Sp:=λvs H Q _=>∃(H0:Hp)(p:U)(v2:!V)(as:!U)(s s':S)(d2:!J),vs=.ref p::v2/\cz H0 H/\b_ K H0 v2 d2/\(∀a∈as,H0 a=none/\H a≠none)/\PR p s H0 H as/\ok s d2 s'/\
 ∀(cY H':Hp)(as':!U),cz H0 cY->cz cY H'->(∀a,cY a≠none->H0 a≠none\/H a=none)->(∀a∈as',cY a=none/\H' a≠none/\(a∈as\/H a=none))->(∀b o,H b>>o->b∉as->H' b>>o)->(∀a∈as,rm H' a/\H' a≠none)->PR p s' cY H' as'->Q .non H'
theorem D1{S:Type}{PR:U->S->OR}{ok:S->!J->S->Prop}{s s':S}{m:O}{ns:!O}{pl:Sem Bool}(Ma:qD X.prog X.w X.K X.mg X.base k C m ns (vF X.K S PR ok))(hr:dB k X.A)(G:OF X.K B0 B R H0 H σ δ)(mo:fq R)(hc:∀Ha Hb as,R Ha Hb as->∃dx fs,Hb p>>(.ins C dx fs)/\fs.lookup m=none)(i:Nat)(hi:δ[i]?>>(.ref p))(ha:LkA X B0 B R σ δ (e::es) ds)(hok:ok s ds s')
  (cut:∀Ha Hb as,R Ha Hb as->∃oj,(∀a∈oj,a∈as)/\PR p s Ha Hb oj/\∀Hc Hd a3,cz Ha Hc->(∀a∈as,a∉oj->Hd a=Hb a)->(∀a∈oj,rm Hd a/\Hd a≠none)->(∀a∈a3,Hd a≠none)->PR p s' Hc Hd a3->R' Hc Hd (a3++as))
  (q:∀cY H',OF X.K B0 B R' cY H' σ δ->D.nx σ H')
  (hN:rT X i x:=by ac_rfl)
  (EJ:j8 X e es:=by rfl)(jX:qg X pc es:=by rfl)
  (ht:eval (.Call (.Attribute (.Name x p0) m apos) (e::es) [] pc) X.env=(do
   let ov <-eval (.Name x p0) X.env
   standAt apos.atName
   let(f,first) <-holding [ov] (getMethod ov m pl)
   callWith pc f first (backTo pc (starEach (e::es) X.env)) (backToKw pc (keywordEach [] X.env))):=by rfl)
  (qB:S8 X pos (.Call (.Attribute (.Name x p0) m apos) (e::es) [] pc):=by rfl) :
  cS X (.Expr (.Call (.Attribute (.Name x p0) m apos) (e::es) [] pc) pos) D σ H:=λpins s0 I=>by
 let#[f,fd,F,cl,hm,hb]:=Ma;let#[t,pa,qa]:=ha;refine iR (JC (ud hN) cl hm F hr hb .nil wm pa EJ jX ht) qB pins s0 σ H D I ?_;let#[GJ,_,z0]:=G.ex;let#[dx,fs,ins,lk]:=hc _ _ _ z0;refine#[_,G.fr.slot i _ hi,p,dx,fs,Y,ins,lk,?_];refine qa H0 H G _ λvs H1 c7 g rs=>?_;let G1:=G.go mo (G.own.grow g) G.no;let#[as,h1,h2]:=G1.ex;let#[a1,c1,c2,c3]:=cut _ _ _ h2;rw[cA];refine#[H1,p,vs,a1,s,s',ds,Y,G1.fr.sub,rs,λa ha=>#[(h1 a (c1 a ha)).1,(h1 a (c1 a ha)).2.2],c2,hok,λcY H' as' z1 z2 z3 z4 z5 z6 z7=>?_];let hB:∀b,B b≠none->b∉a1:=λb hb z=>hb (h1 b (c1 b z)).2.1;let keep:∀a∈as,a∉a1->H' a=c7 a:=λa ha hn=>by
  cases e:c7 a with
  |none=>exact qQ7 e (h1 a ha).2.2
  |some o=>exact z5 a o e hn
 refine q cY H' #[#[#[λb u e=>z5 b u (G1.fr.ent.big b u e) (hB b (by rw[e];simp)),G1.fr.ent.eV.trans z1,z2,λb z=>?_],G1.fr.len,λj sl e=>?_,G1.fr.apart],G1.no,_,λa ha=>?_,c3 _ _ _ z1 keep z6 (λa ha=>(z4 a ha).2.1) z7]
 .rcases z3 b z with z|z
  .exact G1.fr.ent.new b z
  .exact .inr (G1.fr.ent.big.free z)
 .let qq:=G1.fr.slot j sl e;cases sl with
  |un=>trivial
  |ref _=>exact qq
  |val d=>let#[v,g1,g2]:=qq;exact#[v,g1,g2.mono z1]
  |own ds=>exact qQ7 e (fK G1.no j ds)
 .rcases aT.mp ha with ha|ha
  .let#[y1,y2,y3]:=z4 a ha;refine#[y1,?_,y2];rcases y3 with y3|y3
   .exact(h1 a (c1 a y3)).2.1
   .exact G1.fr.ent.big.free y3
  .let#[y1,y2,y3]:=h1 a ha;refine#[?_,y2,?_]
   .cases e:cY a with
    |none=>rfl
    |some o=>
     rcases z3 a (by rw[e];simp)with z|z
     .exact qQ7 y1 z
     .exact qQ7 z y3
   .by_cases hn:a∈a1
    .exact(z6 a hn).2
    .rwa[keep a ha hn]
theorem Oz(G:OF X.K B0 B R H0 H σ δ)(i:Nat)(hi:δ[i]?>>(.ref p))(ins:H p>>(.ins C dx fs))(cl:uM X.K C)(na:gw X.K C fl)(hl:fs.length<1000)(hv:MK X B0 B R σ δ ev d)
  (q:∀v Ha Hb,cP H0 H Ha Hb->Rep X.K Ha v d->D.nx σ (upd Hb p (.ins C dx (nB fl v fs))))
  (hN:rT X i x:=by ac_rfl)
  (hs:zN X pos ev (.Attribute (.Name x px) fl po):=by rfl):
  cS X (.Assign [.Attribute (.Name x px) fl po] ev pos) D σ H:=λpins s I=>by refine qZ (ud hN) ck hs pins s σ H D I ?_;exact hv H0 H G _ λv H1 c7 g r=>(#[.ref p,G.fr.slot i _ hi,p,C,dx,fs,Y,g.big _ _ ins,cl,na,hl,q v H1 c7 g r])
theorem Fz(m:fq R)(G:OF X.K B0 B R H0 H σ δ)(hr:dB k X.A)(i:Nat)(hi:δ[i]?>>(.ref p))(ins:H p>>(.ins C dx fs))(cl:uM X.K C)(na:gw X.K C fl)(lk:fs.lookup fl>>(.ref a))(hd:H a>>(.dK kvs))(hk:MK X B0 B R σ δ ek (k6 κ))(hv:MK X B0 B R σ δ ev d)(hl:kvs.length<sizeLine)
  (q:∀v Ha Hb,cP H0 H Ha Hb->Rep X.K Ha v d->D.nx σ (upd Hb a (.dK (putK kvs κ v))))
  (hN:rT X i x:=by ac_rfl)
  (hb:vn X (.Name x px) fl:=by rfl)(hs:zN X pos ev (.Subscript (.Attribute (.Name x px) fl po) ek ps):=by rfl):
  cS X (.Assign [.Subscript (.Attribute (.Name x px) fl po) ek ps] ev pos) D σ H:=λpins s I=>by refine pG (yZ hr) (mU (ud hN) hb) ck ck hs pins s σ H D I ?_;refine hv H0 H G _ λv H1 c7 g1 r1=>?_;refine#[_,G.fr.slot i _ hi,p,C,dx,fs,_,Y,g1.big _ _ ins,cl,na,lk,?_];refine hk H1 c7 (G.go m (G.own.grow g1) G.no) _ λu H2 fA g2 r2=>?_;obtain rfl:=oP r2;exact#[a,_,Y,wq.k (g2.big _ _ (g1.big _ _ hd)) hl,q v H2 fA (g1.trans g2) (r1.mono g2.eV)]
theorem ZO(m:fq R)(G:OF X.K B0 B R H0 H σ δ)(hr:dB k X.A)(i:Nat)(hi:δ[i]?>>(.ref p))(ins:H p>>(.ins C dx fs))(cl:uM X.K C)(na:gw X.K C fl)(lk:fs.lookup fl>>(.ref a))(hd:H a>>(.dK kvs))(hk:MK X B0 B R σ δ ek (k6 κ))(hy:gD kvs κ>>(.ref c))(hc:H c>>(.lst xs))(hv:MK X B0 B R σ δ e d)(hl:xs.length<sizeLine)
  (q:∀v Ha Hb,cP H0 H Ha Hb->Rep X.K Ha v d->D.nx σ (upd Hb c (.lst (xs ++ [v]))))
  (hN:rT X i x:=by ac_rfl)
  (hb:vn X (.Name x px) fl:=by rfl)(hsl:yV ek:=by intro _ _;rfl)(gC:vn X (.Subscript (.Attribute (.Name x px) fl p0) ek po) "append":=by rfl)
  (hs:j8 X e []:=by rfl)
  (lN:GV X pc [e]:=by rfl)
  (hline:(pa.endLine==pc.line)=true:=by rfl)(fQ:qg X pc []:=by rfl)(qB:swapsWith (.Call (.Attribute (.Subscript (.Attribute (.Name x px) fl p0) ek po) "append" pa) [e] [] pc) none pos.line X.env=pure false:=by rfl):
  cS X (.Expr (.Call (.Attribute (.Subscript (.Attribute (.Name x px) fl p0) ek po) "append" pa) [e] [] pc) pos) D σ H:=λpins s I=>by refine iR (pF cK fy fz lu (og (yZ hr) (mU (ud hN) hb) ck hsl) (cy ck dU hs) gC lN hline hs fQ) qB pins s σ H D I ?_;refine#[_,G.fr.slot i _ hi,p,C,dx,fs,_,Y,ins,cl,na,lk,hk H0 H G _ λu H1 c7 g1 r1=>?_];obtain rfl:=oP r1;refine#[a,.ref c,Y,[<-hy]▸mH.k (g1.big _ _ hd),.inl #[Y,_,jW.of (g1.big _ _ hc)],?_];exact hv H1 c7 (G.go m (G.own.grow g1) G.no) _ λv H2 fA g2 r2=>(#[c,xs,v,Y,Y,g2.big _ _ (g1.big _ _ hc),hl,q v H2 fA (g1.trans g2) r2])
theorem ZP(m:fq R)(G:OF X.K B0 B R H0 H σ δ)(hr:dB k X.A)(i:Nat)(hi:δ[i]?>>(.ref p))(ins:H p>>(.ins C dx fs))(cl:uM X.K C)(na:gw X.K C fl)(lk:fs.lookup fl>>(.ref a))(hd:H a>>(.dK kvs))(hk:MK X B0 B R σ δ ek (k6 κ))(hy:gD kvs κ>>(.ref c))(hc:H c>>(.lst xs))(hv:MK X B0 B R σ δ e (.tuple ds))(hl:xs.length+ds.length<=sizeLine)
  (q:∀zs Ha Hb,cP H0 H Ha Hb->b_ X.K Ha zs ds->D.nx σ (upd Hb c (.lst (xs++zs))))
  (hN:rT X i x:=by ac_rfl)
  (hb:vn X (.Name x px) fl:=by rfl)(hsl:yV ek:=by intro _ _;rfl)(gC:vn X (.Subscript (.Attribute (.Name x px) fl p0) ek po) "extend":=by rfl)
  (hs:j8 X e []:=by rfl)
  (lN:GV X pc [e]:=by rfl)
  (hline:(pa.endLine==pc.line)=true:=by rfl)(fQ:qg X pc []:=by rfl)(qB:swapsWith (.Call (.Attribute (.Subscript (.Attribute (.Name x px) fl p0) ek po) "extend" pa) [e] [] pc) none pos.line X.env=pure false:=by rfl):
  cS X (.Expr (.Call (.Attribute (.Subscript (.Attribute (.Name x px) fl p0) ek po) "extend" pa) [e] [] pc) pos) D σ H:=λpins s I=>by
 refine iR (pF cK pW pX J7 (og (yZ hr) (mU (ud hN) hb) ck hsl) (cy ck dU hs) gC lN hline hs fQ) qB pins s σ H D I ?_;refine#[_,G.fr.slot i _ hi,p,C,dx,fs,_,Y,ins,cl,na,lk,hk H0 H G _ λu H1 c7 g1 r1=>?_];obtain rfl:=oP r1;refine#[a,.ref c,Y,[<-hy]▸mH.k (g1.big _ _ hd),.inl #[Y,_,jW.of (g1.big _ _ hc)],?_];refine hv H1 c7 (G.go m (G.own.grow g1) G.no) _ λv H2 fA g2 r2=>?_;cases r2 with
 |tup hq rs=>exact#[c,_,xs,_,Y,Y,g2.big _ _ (g1.big _ _ hc),(.inl (g2.sub.oM hq)),[rs.length]▸hl,q _ H2 fA (g1.trans g2) rs]
theorem WG(m:fq R)(G:OF X.K B0 B R H0 H σ δ)(hr:dB k X.A)(i:Nat)(hi:δ[i]?>>(.ref p))(hR:∀Ha Hb as,cz Ha Hb->R Ha Hb as->Rep X.K (gK as Hb Ha) (.ref p) dp)(ins:H p>>(.ins C dx fs))(cl:uM X.K C)(na:gw X.K C fl)(lk:fs.lookup fl>>(.ref b))(h:VO X e (δ.set i (.val dp)) ds)(hsc:∀d∈ds,yo d=true)(hk:MK X B0 B R σ δ ek (k6 κ))
  (hb:∀Ha Hb as,R Ha Hb as->Hb p>>(.ins C dx fs)->∃kvs,b∈as/\Hb b>>(.dK kvs)/\kvs.length<sizeLine/\∀p xs,p∉as->Hb p>>(.lst xs)->b_ X.K Ha xs ds->∃as',(∀a∈as',a=p\/a∈as)/\R' Ha (upd Hb b (.dK (putK kvs κ (.ref p)))) as')
  (q:∀cY H',OF X.K B0 B R' cY H' σ δ->D.nx σ H')
  (hN:rT X i x:=by ac_rfl)
  (hba:vn X (.Name x px) fl:=by rfl)(hs:zN X pos e (.Subscript (.Attribute (.Name x px) fl po) ek ps):=by rfl):
  cS X (.Assign [.Subscript (.Attribute (.Name x px) fl po) ek ps] e pos) D σ H:=λpins s I=>by
 refine pG (yZ hr) (mU (ud hN) hba) ck ck hs pins s σ H D I ?_;let#[C0,f1]:=G.look hi hR;refine h C0 H σ C0 H _ f1 λa xs C1 H1 g h1 h2 h3 r=>?_;let G1:=G.go m (G.own.grow (.far G.fr.sub g.big)) G.no;refine#[_,G1.fr.slot i _ hi,p,C,dx,fs,_,Y,g.big _ _ ins,cl,na,lk,hk H0 H1 G1 _ λu H2 fA g2 r2=>?_];obtain rfl:=oP r2;let G2:=G1.go m (G1.own.grow g2) G1.no;let#[as,o0,o00]:=G.ex;let ha:=λz=>(o0 a z).2.2 h1;let o1:∀c∈as,H2 c=none/\B c=none/\fA c≠none:=λc hc=>by
  let#[y1,y2,y3]:=o0 c hc;cases z:H c with
  |none=>exact qQ7 z y3
  |some o=>exact#[g2.still y1 (g.big _ _ z),y2,[g2.big _ _ (g.big _ _ z)]▸nofun]
 let#[kvs,k1,k2,k3,k4]:=hb _ _ _ (m _ _ _ _ _ o00 g2.eV λc hc=>((g.big.trans g2.big).eq (o0 c hc).2.2)) (g2.big _ _ (g.big _ _ ins));let a2:H2 a=none:=g2.still (G.fr.sub.free h1) h3;let RC:=g2.big _ _ h3;refine#[b,_,Y,wq.k (k:=κ) k2 k3,?_];let ab:a≠b:=λz=>by rw[z,k2]at RC;cases RC
 let#[as',s1,s2]:=k4 a xs ha RC (r.HK hsc);let#[w1,w2,w3]:=o1 b k1;refine q _ _ #[G2.fr.touch w1 w2 (fK G2.no),G2.no,as',λc hc=>?_,s2];rcases s1 c hc with rfl|hc
 .exact#[a2,G.fr.ent.big.free h1,[L ab,RC]▸nofun]
 .let#[w1,w2,w3]:=o1 c hc;refine#[w1,w2,?_];by_cases e:c=b
  .subst e;rw[aM];exact nofun
  .rwa[L e]
end
section
variable{b:bY}{pos:Pos}{x:Int}{l:!Int}
theorem Ib{a:bY}{X:Cx}{δ:!Slot}{k:Nat}(hr:dB k X.A)(h2:VE X b δ (.int x))(h1:VE X a δ (xT l))(hm:behindInMarks .NotIn a=false:=by with_unfolding_all rfl):VE X (.Compare b [.NotIn] [a] pos) δ (.bool (not (decide (x∈l)))):=
 .of (Dp (ug (yZ hr) ck ck) hm) λB0 B σ H0 H Q fr q=>h2 B0 B σ H0 H _ fr λu H1 c7 g r2=>h1 B0 B σ H1 c7 _ (fr.grow g) λv H2 fA g2 r=>by let#[p,ws,rfl,hp,ke]:=r.Fx;cases r2;refine#[p,_,Y,mH.k (k:=.inl x) (g2.sub _ _ hp),?_];rw[As x ke];exact q _ H2 fA (g.trans g2) (.bl _)
end
section
variable{X:Cx}{δ:!Slot}{ds es:!J}{pos p p2 DM px:Pos}{x:O}
theorem Cv:∀{ns:!Int}{its:!M},dJ (ns.map V.int) its->∀(i:Nat)v,its[i]?>>v->∃x t,ns[i]?>>x/\v=.int x t
 | [],_,r,i,v,h=>by cases r;simp at h
 |n::ns,_,r,i,v,h=>by
  cases r with
  |cons a t=>
   cases i with
   |zero=>let#[t,rfl]:=a;simp at h;exact#[n,t,Y,h.symm]
   |succ i=>simpa using Cv t i v ↑h
theorem SetOf.zdV(x:h.SetOf (intKind P w) l S n):Ff l n h:=by let#[o,es,ep,t,ho,hex,hd,_,_,_,hf,hn]:=x;exact#[o,es,ep,t,ho,hex,hd,hf,hn]
def WH(K:aq):!V->Hp->VK->Prop:=λxs H Q=>∃(a:U)(ns:!Int),xs=[.ref a]/\oC K H a (ns.map V.int)/\ns.Nodup/\ns.length<4000/\∀l,H l=none->Q (.ref l) (upd H l (.ext (Ff l ns.length)))
theorem Au(hc:X.calm=true):iY X (.type "set") (WH X.K):=by
 intro pins s σ H xs us Q I r h;let#[a,ns,rfl,hq,MH,h4,q]:=h;let#[u,rfl,rx]:=vals1 r;cases rx;let#[its,rv,pl,hz]:=I.tuple hq;let Wj:=rv.length;simp only[ae]at Wj;let yT:its.toArray.size=ns.length:=by simp;omega
 refine uU (I.ok.hd hc) pl (λi h=>(∀b o,s.heap.get? b>>o->h.get? b>>o)/\h.SetOf (intKind X.prog X.w) s.heap.objs.size (λk=>decide (k∈ns.take i)) (ns.take i).length) (λled h' e k=>?_) (λi h h' #[k1,T] k=>?_) (λi v s' Q' E' hi hv #[k1,T] q'=>?_) (λh' tk #[k1,T] _=>?_)
 .refine#[k,?_];refine#[_,#[],0,_,e,#[Y,Y,Y],Y,(λe he=>by cases he),(λk=>#[λz=>by simp at z,λ#[e,he,_]=>by cases he]),(by show 0<scanBound;unfold scanBound;omega),Y,Y]
 .refine#[λb o e=>k b o ?_ (k1 b o e),?_]
  .let:=aV e;exact aX (ku this)
  .let#[o,es,ep,t,ho,rest]:=T;exact#[o,es,ep,t,k _ _ () ho,rest]
 .rw[yT]at hi;let#[x,t,hx,rfl]:=Cv rv i v ↑hv;let Zr:(intKind X.prog X.w).is x (.int x t)=true:=intKind_is _ _ _ _;let TV:ns.take (i+1)=ns.take i ++ [x]:=by rw[bO,hx];rfl
  let hm:¬decide (x∈ns.take i)=true:=by rw[decide_eq_true_iff];intro z;let:=MH.sublist (ye (i+1) ns);rw[TV]at this;exact(bD.mp this).2.2 x z x ∅ Y
  refine mF (aA ((intKind X.prog X.w).pyHash Zr ?_));refine wpAny_setAddHashed_of Zr Y T (by rw[a9];unfold scanBound;omega) λh' sb T'=>q' h' _ _ (Bi _) sb #[λb o e=>?_,?_]
  .let hb:=aV e;rw[sb.2 b (aX hb)];exact k1 b o e
  .rw[TV];rw[qQ2 hm]at T';refine SetOf_congr T' (λk=>?_) ∅;simp
 .rw[yT,cq]at T;exact#[.ref s.heap.objs.size,_,I.laid k1 () (SetOf.zdV T).ok,Y,q _ (I.hok.fresh ())]
theorem FC{a:bY}{ns:!Int}(h:VE X a δ (.tuple (ns.map .int)))(MH:ns.Nodup)(hl:ns.length<4000)(hc:X.calm=true)(m1:X.mg "len"=none)(m2:X.mg "set"=none)(hg:Gl X "len":=by rfl)(Q5:Gl X "set":=by rfl)
  (hs:j8 X a []:=by rfl)(pZ:starEach [.Call (.Name "set" p2) [a] [] DM] X.env=(false,eval (.Call (.Name "set" p2) [a] [] DM) X.env)::starEach [] X.env:=by rfl)(jX:qg X DM []:=by rfl)(Wk:qg X pos []:=by rfl):
  VE X (.Call (.Name "len" p) [.Call (.Name "set" p2) [a] [] DM] [] pos) δ (.int ns.length):=
 .of (qv uS hg m1 o8 (cy (mV (Au hc) Q5 m2 (by rfl) (cy ck dU hs) ⋯ ⋯ hs jX) dU pZ) ⋯ ⋯ pZ Wk) λB0 B σ H0 H Q f q=>h B0 B σ H0 H _ f λv H1 c7 g r=>by
  cases r with
  |tup hq rs=>let e:=rs.ints;subst e;exact#[_,ns,Y,g.sub.oM hq,MH,hl,λl hl'=>#[l,_,Y,aM,(),q _ H1 _ (g.trans (.loose g.sub hl')) (.int _)]]
theorem Ie{e:bY}(i:Nat){ap p0:Pos}(hi:δ[i]?>>(.own ds))(h:VE X e δ (.list es))(hz:ds.length+es.length<=sizeLine)(hN:rT X i x:=by ac_rfl)
  (hs:j8 X e []:=by rfl)(gC:vn X (.Name x p0) "extend":=by rfl)
  (lN:GV X px [e]:=by rfl)
  (hline:(ap.endLine==px.line)=true:=by rfl)(fQ:qg X px []:=by rfl)(qB:S8 X pos (.Call (.Attribute (.Name x p0) "extend" ap) [e] [] px):=by rfl):
  VS X (.Expr (.Call (.Attribute (.Name x p0) "extend" ap) [e] [] px) pos) δ (.nx (δ.set i (.own (ds++es)))):=λB0 B σ H0 H D f ok pins s I=>by
 refine iR (pF cK pW pX J7 (ud hN) (cy ck dU hs) gC lN hline hs fQ) qB pins s σ H D I ?_;let#[p,xs,h1,h2,h3,h4,h5]:=f.slot i _ hi;refine#[_,h1,.inl #[Y,_,jW.of h2],?_];refine h B0 B σ H0 H _ f λv H1 c7 g r=>?_;cases r with
 |lst hq rs=>exact#[p,_,xs,_,Y,Y,g.big _ _ h2,.inr (g.sub.seq hq),[h5.length,rs.length]▸hz,ok σ H1 _ g.eV ((f.grow g).T6 hi h1 ((h5.mono g.eV).append rs))]
end
theorem OF.T7{B0 B H0: Hp}{σ:St}(G:OF K B0 B R H0 H σ δ)(m:fq R):∃as,R H0 H as/\∀{Ha Hb:Hp}(_:cP H0 H Ha Hb){l x:U}{o o':HO}{R':OR},H l=none->Ha l=none->Hb l>>o->x∈as->(l∉as->R Ha Hb as->∃as',(∀a∈as',a=l\/a∈as)/\R' Ha (upd Hb x o') as')->OF K B0 B R' Ha (upd Hb x o') σ δ:=by
 let#[as,h1,h2]:=G.ex;refine#[as,h2,λ{Ha Hb}g{l x o o' R'}hl MB hl3 hx k=>?_];let G1:=G.go m (G.own.grow g) G.no;let hla:=λz=>(h1 l z).2.2 hl;let Oq:∀a∈as,Ha a=none/\B a=none/\Hb a≠none:=λa ha=>by
  let#[y1,y2,y3]:=h1 a ha;cases z:H a with
  |none=>exact qQ7 z y3
  |some o=>exact#[g.still y1 z,y2,[g.big _ _ z]▸nofun]
 let#[as',hs,r']:=k hla (m _ _ _ _ _ h2 g.eV λa ha=>g.big.eq (h1 a ha).2.2);let#[z1,z2,z3]:=Oq x hx;refine#[G1.fr.touch z1 z2 (fK G1.no),G1.no,as',λb hb=>?_,r'];rcases hs b hb with rfl|hb
 .exact#[MB,G.fr.ent.big.free hl,by rw[L λz:b=x=>hla ([z]▸hx),hl3];exact nofun]
 .let#[w1,w2,w3]:=Oq b hb;refine#[w1,w2,?_];by_cases e:b=x
  .subst e;rw[aM];exact nofun
  .rwa[L e]
section
variable{X:Cx}{B0 B H0 H:Hp}{σ:St}{D:Ends}{δ:!Slot}{p C dx a:U}{e ek ev:bY}{pos px po ps pk p0:Pos}{x y fl:O}{fs:!(O×V)}{R:OR}{κ:Key}{kvs:!(Key×V)}{P:Hp->HO->Prop}
def NwE(X:Cx)(σ:St)(H0 H:Hp)(e:bY)(P:Hp->HO->Prop):Prop:=∀Q:V->Hp->Prop,(∀l o Ha Hb,cP H0 H Ha Hb->H l=none->Ha l=none->Hb l>>o->P Ha o->Q (.ref l) Hb)->cE X e σ H Q
theorem zA(sm:cz H0 H):NwE X σ H0 H (.Dict [] [] pos) (λ_ o=>o=.dK []):=λQ q pins s I=>qy pins s σ H Q I λl hl=>q l _ H0 _ (.loose sm hl) hl (sm.free hl) aM Y
theorem J8(f:fM X.K B0 B H0 H σ δ)(h:VO X e δ ds):NwE X σ H0 H e (λHa o=>∃xs,o=.lst xs/\b_ X.K Ha xs ds):=λQ q=>h B0 B σ H0 H Q f λa xs H1 c7 g h1 h2 h3 r=>q a _ H1 c7 g h1 h2 h3 #[xs,Y,r]
theorem Av(G:OF X.K B0 B R H0 H σ δ)(i:Nat)(hi:δ[i]?>>(.ref p))(ins:H p>>(.ins C dx fs))(cl:uM X.K C)(na:gw X.K C fl)(hl:fs.length<1000)(hv:NwE X σ H0 H ev P)
  (q:∀l o Ha Hb,cP H0 H Ha Hb->H l=none->Ha l=none->Hb l>>o->P Ha o->D.nx σ (upd Hb p (.ins C dx (nB fl (.ref l) fs))))
  (hN:rT X i x:=by ac_rfl)
  (hs:zN X pos ev (.Attribute (.Name x px) fl po):=by rfl):
  cS X (.Assign [.Attribute (.Name x px) fl po] ev pos) D σ H:=λpins s I=>by refine qZ (ud hN) ck hs pins s σ H D I ?_;exact hv _ λl o H1 c7 g z1 z2 z3 z4=>(#[.ref p,G.fr.slot i _ hi,p,C,dx,fs,Y,g.big _ _ ins,cl,na,hl,q l o H1 c7 g z1 z2 z3 z4])
theorem WK{k:Nat}(m:fq R)(G:OF X.K B0 B R H0 H σ δ)(hr:dB k X.A)(i:Nat)(hi:δ[i]?>>(.ref p))(ins:H p>>(.ins C dx fs))(cl:uM X.K C)(na:gw X.K C fl)(lk:fs.lookup fl>>(.ref a))(hd:H a>>(.dK kvs))(hk:VE X ek δ (k6 κ))(hv:NwE X σ H0 H ev P)(hl:kvs.length<sizeLine)
  (q:∀l o Ha Hb,cP H0 H Ha Hb->H l=none->Ha l=none->Hb l>>o->P Ha o->D.nx σ (upd Hb a (.dK (putK kvs κ (.ref l)))))(hmP:∀Ha Hb o,cz Ha Hb->P Ha o->P Hb o)
  (hN:rT X i x:=by ac_rfl)
  (hb:vn X (.Name x px) fl:=by rfl)(hs:zN X pos ev (.Subscript (.Attribute (.Name x px) fl po) ek ps):=by rfl):
  cS X (.Assign [.Subscript (.Attribute (.Name x px) fl po) ek ps] ev pos) D σ H:=λpins s I=>by refine pG (yZ hr) (mU (ud hN) hb) ck ck hs pins s σ H D I ?_;refine hv _ λl o H1 c7 g z1 z2 z3 z4=>?_;refine#[.ref p,G.fr.slot i _ hi,p,C,dx,fs,.ref a,Y,g.big _ _ ins,cl,na,lk,?_];refine hk H1 c7 σ H1 c7 _ (G.go m (G.own.grow g) G.no).own λu H2 fA g2 r2=>?_;obtain rfl:=oP r2;exact#[a,_,Y,wq.k (g2.big _ _ (g.big _ _ hd)) hl,q l o H2 fA (g.trans g2) z1 (g2.still z2 z3) (g2.big _ _ z3) (hmP _ _ _ g2.eV z4)]
theorem RL{ds:!J}{es:!bY}(i:Nat){fi:U}{fd:fW}{ZD:!O}{sp:Sp}{j:Nat}(Ma:Mk X.K C fi)(F:dR X.prog X.w X.K X.mg X.base ju j fi fd ZD sp)(hr:dB (j+1) X.A)(hm:X.mg x>>(.ref C))(hb:Binds X.K fd ZD [])(f:fM X.K B0 B H0 H σ δ)(ha:VA X (e::es) δ ds)
  (q:∀p dx vs Ha Hb E,cP H0 H Ha Hb->b_ X.K Ha vs ds->Hb p=none->Hb dx=none->dx≠p->sp (.ref p::vs) (upd (upd Hb dx (.own p)) p (.ins C dx [])) (λv H2=>v=.non/\D.nx (σ.set i (some (.ref p))) H2) E)
  (hN:X.N.Nodup)(hi:X.N[i]?>>y:=by rfl)(hx:Loc X.env.scope y:=by left)(hs:zN X pos (.Call (.Name x p0) (e::es) [] pk) (.Name y px):=by rfl)(hf:Dl X y:=by left)
  (hg:Gl X x:=by rfl)(sJ:xr x:=by decide)(he:j8 X e es:=by rfl)(jX:qg X pk es:=by rfl):cS X (.Assign [.Name y px] (.Call (.Name x p0) (e::es) [] pk) pos) D σ H:=λpins s I=>by let#[t,pa,qa]:=ha;refine pY hN hi hx (QB Ma F hr hg hm hb .nil wm pa sJ he jX) hs hf pins s σ H D I ?_;refine qa B0 B σ H0 H _ f λvs H1 c7 g rs=>λp dx h1 h2 h3=>?_;rw[cA];exact q p dx vs H1 c7 _ g rs h1 h2 h3
end
def Aw:!V->Hp->VK->Prop:=λxs H Q=>∃(p:U)(kvs:!(Key×V))(ss:!O),xs=[.ref p]/\Rd H p (.dK kvs)/\kvs.map (·.1)=ss.map (λx=>(aL x:Key))/\ss.length<64/\∀(ss':!O)l,ss'.Perm ss->sortedS ss'=true->H l=none->Q (.ref l) (upd H l (.lst (ss'.map V.str)))
theorem wK:∀{vs:!M}{ss:!O},StrsAre vs ss->dJ (ss.map V.str) vs
 |_,_,.nil=>.nil
 |_,_,.cons y t r=>.cons #[t,Y] (wK r)
theorem J9:∀{ss:!O}{l:!M},dJ (ss.map V.str) l->StrsAre l ss
 | [],_,r=>by cases r;exact .nil
 |x::ss,_,r=>by
  cases r with
  |cons a t=>let#[t',rfl]:=a;exact .cons x t' (J9 t)
theorem J_:∀(kvs:!(Key×V))(vs:!(Key×M))(l:!M),KV kvs vs->l.length=vs.length->(∀(j:Nat)v,l[j]?>>v->∃k x,vs[j]?>>(k,x)/\(eU P w).is k v=true)->dJ (kvs.map λq=>kV q.1) l:=by
 intro kvs;induction kvs with
 |nil=>
  intro vs l r hl _;cases r;cases l with
  |nil=>exact .nil
  |cons _ _=>cases hl
 |cons q kvs ih=>
  intro vs l r hl hx;cases r with
  |cons h1 h2=>
   cases l with
   |nil=>cases hl
   |cons v l=>let#[k,x,e1,e2]:=hx 0 v Y;cases e1;refine .cons ?_ (ih _ l h2 ↑hl λj v hj=>by simpa using hx (j+1) v ↑hj);let:q.1=k:=h1.1;show RelV (kV q.1) v;rw[this];exact DP e2
theorem qE(hc:X.calm=true):iY X (.builtin "sorted") Aw:=by
 intro pins s σ H xs us Q I r h;let#[p,kvs,ss,rfl,hp,hk,h64,q]:=h;let#[u,rfl,rx]:=vals1 r;cases rx;let#[z,hd,vs,rel,dd]:=hp.ok I.hok;let#[ep,Ls]:=dd.dictAt;let hlen:=rel.length;let sl:sizeLine=16777216:=dD;refine Calls.call_function_entry kind_sorted plain_sorted entry_sorted (args_sorted1 _) ?_;refine aA (bf (aA (PySem.W.kdu_collect (xB hd) ?_ Ls ([<-hlen]▸z) λh' tk acc hk' Fp=>?_)))
 .exact I.ok.hd hc
 let rv:=J_ kvs vs acc.toList rel (cW.trans Fp.1) λj v hj=>Fp.2 j v (nh.symm.trans hj);let e1:(kvs.map λq=>kV q.1)=ss.map V.str:=by let:=qQ6 (pC kV) hk;rwa[aj,aj]at this
 rw[e1]at rv;let st:=J9 rv;let hal:acc.toList.length=ss.length:=by rw[<-rv.length,ae]
 refine aA (wpAny_newList ?_ ());let Yd:(h'.push (seqObj "list" acc.toList.toArray 0)).get? h'.objs.size>>(seqObj "list" acc.toList.toArray 0):=bx _ Y;refine aA (mF (lE slot_list_sort #[_,Yd,Y] entry_list_sort (list_sort_treeK strKind_oneLt Yd st.keysOf (λv1 v2 rest e=>keyKind_strs (ss:=ss) ([<-e]▸st)) () λyg h1 h2=>#[_,Y,bf #[_,Y,?_]]) (args_list_sort _)));let#[ss',s1,s2,s3]:=sorted_out_str st h1 h2;let#[e,he]:=sortedHeap_at (out:=Array.map (λx=>x.snd) (arrOf yg)) Yd;let I1:Inv X pins σ H { s with heap:=h',toks:=tk }:=I.un (Un.kept hk') (I.hok.kept hk');let hD:H h'.objs.size=none:=I1.hok.fresh (aP _);refine#[.ref h'.objs.size,_,I1.laid (t':=tk) (o:=.lst (ss'.map V.str)) (λb o hb=>?_) (aP _) #[by rw[ae,s2.length_eq];omega,_,e,wK s1,[Array.toArray_toList]▸he],Y,q ss' _ s2 s3 hD];let lt:=aV hb;rw[sortedHeap_old (aX lt) ([size_push' _ _]▸ku lt)];exact aE _ hb
theorem Ly(hz:∀ss:!O,ss.Perm (kvs.map (·.1))->sortedS ss=true->ss=zs)(h64:kvs.length<64):ym K Aw [iO kvs] (zs.map .str):=λvs H0 H Q s r k=>by let#[v,rfl,r1]:=r.one;let#[a,ws,rfl,ha,hk,_]:=r1.nH;refine#[a,ws,_,Y,.inl (s _ _ ha),by rw[hk,aj];rfl,[ae]▸h64,λss' l h1 h2 hl=>?_];rw[hz ss' h1 h2];exact k _ _ _ _ (.loose s hl) hl (s.free hl) aM (oF zs)
theorem Lz(hz:∀ss:!O,ss.Perm (kvs.map (·.1))->sortedS ss=true->ss=zs)(h64:kvs.length<64):ym K Aw [wG kvs] (zs.map .str):=λvs H0 H Q s r k=>by let#[v,rfl,r1]:=r.one;let#[a,o,ws,rfl,ha,hk,_]:=r1.wH;refine#[a,ws,_,Y,.inr #[o,s _ _ ha],by rw[hk,aj];rfl,[ae]▸h64,λss' l h1 h2 hl=>?_];rw[hz ss' h1 h2];exact k _ _ _ _ (.loose s hl) hl (s.free hl) aM (oF zs)
theorem za(hc:X.calm=true):iY X (.type "list") (λxs H Q=>∃p kvs,xs=[.ref p]/\Rd H p (.dK kvs)/\∀l,H l=none->Q (.ref l) (upd H l (.lst (kvs.map λq=>kV q.1)))):=by intro pins s σ H xs us Q I r h;let#[p,kvs,rfl,hp,q]:=h;let#[u,rfl,rx]:=vals1 r;cases rx;let#[z,hd,vs,rel,dd]:=hp.ok I.hok;let#[ep,Ls]:=dd.dictAt;let hlen:=rel.length;refine PySem.W.kdl_call (xB hd) (I.ok.hd hc) Ls ([<-hlen]▸z) λh' tk Wq c' hk hD Fp=>?_;let rv:=J_ kvs vs Wq.toList rel (cW.trans Fp.1) λj v hj=>Fp.2 j v (nh.symm.trans hj);exact#[.ref _,_,I.laid hk () (show iX X.prog X.w _ h' _ (.lst _) from#[[ae]▸z,_,c',rv,by simpa using hD]),Y,q _ (I.hok.fresh ())]
theorem RM:ym K (λxs H Q=>∃p kvs,xs=[.ref p]/\Rd H p (.dK kvs)/\∀l,H l=none->Q (.ref l) (upd H l (.lst (kvs.map λq=>kV q.1)))) [wG kvs] (kvs.map λq=>.str q.1):=λvs H0 H Q s r q=>by
 let#[v,rfl,r1]:=r.one;let#[a,o,ws,rfl,ha,hk,_]:=r1.wH;refine#[a,ws,Y,.inr #[o,s _ _ ha],λl hl=>q _ _ _ _ (.loose s hl) hl (s.free hl) aM ?_];let e:(ws.map λq=>kV q.1)=(kvs.map (·.1)).map V.str:=by let:=qQ6 (pC kV) hk;rw[aj,aj]at this;rwa[aj]
 let e2:(kvs.map λq=>aN q.1)=(kvs.map (·.1)).map aN:=by rw[aj];rfl
 rw[e,e2];exact oF _
theorem Cw:∀(l:!O)(x:O),risingS x l=true->(x::l).Pairwise (λa b=>a.cps.toList<=b.cps.toList)
 | [],x,_=>∅
 |y::l,x,h=>by
  let h':(not (Spec.ltCps y.cps.toList x.cps.toList)&&risingS y l)=true:=h;rw[nO,Bool.not_eq_true',ltCps_eq,decide_eq_false_iff_not,List.not_lt]at h';let ih:=Cw l y h'.2;refine List.pairwise_cons.mpr #[λz hz=>?_,ih];rcases au.mp hz with rfl|hz
  .exact h'.1
  .exact List.le_trans h'.1 ((List.pairwise_cons.mp ih).1 z hz)
theorem Ig{a b:!O}(h:a.Perm b)(ha:sortedS a=true)(hb:sortedS b=true):a=b:=by
 let pw:∀{l:!O},sortedS l=true->l.Pairwise (λa b=>a.cps.toList<=b.cps.toList):=λ{l}h=>by
  cases l with
  |nil=>exact .nil
  |cons x l=>exact Cw l x h
 refine List.Perm.eq_of_pairwise (λx y _ _ h1 h2=>?_) (pw ha) (pw hb) h;cases x;cases y
 congr 1
 exact yQ.mp (List.le_antisymm h1 h2)
theorem OB(hk:dz X.K (.type "dict") (.type tn)>>kb):iY X (.builtin "isinstance") (λxs H Q=>∃a ws,xs=[.ref a,.ty tn]/\Rd H a (.dK ws)/\Q (.bl kb) H):=by intro pins s σ H xs us Q I r h;let#[a,ws,rfl,rx,q]:=h;let#[u,w',rfl,r1,r2]:=vals2 r;cases r2;cases r1;let#[_,_,vs,_,o,es,ep,e,ex,_]:=rx.ok I.hok;exact jz PySem.W.kitx_dict I.zO #[o,e,ex.1] hk (λz=>nomatch z) λtk=>#[.bl kb,H,I.tok tk,Y,q]
theorem Ax{X:Cx}{a:bY}{pos p p2:Pos}{x:O}(h:VE X a δ (iO kvs))(hk:dz X.K (.type "dict") (.type tn)>>kb)(hb:bootBuiltins x>>(.type tn))(m1:X.mg "isinstance"=none)(m2:X.mg x=none)(hv:bootBuiltins "isinstance"=some (.builtin "isinstance"))
  (hg:Gl X "isinstance":=by rfl)(Q5:Gl X x:=by rfl)(hn:x≠"__name__":=by decide)(sJ:xr x:=by decide)(hs:starEach [a,.Name x p2] X.env=(false,eval a X.env)::starEach [.Name x p2] X.env:=by rfl)(pZ:starEach [.Name x p2] X.env=(false,eval (.Name x p2) X.env)::starEach [] X.env:=by rfl)
  (jX:qg X pos [.Name x p2]:=by rfl):VE X (.Call (.Name "isinstance" p) [a,.Name x p2] [] pos) δ (.bool kb):=
 .of (qv (OB hk) hg m1 hv (cy ck (cy (Jy Q5 m2 hb (v:=.ty tn) Y hn sJ) dU pZ) hs) ⋯ ⋯ hs jX) λB0 B σ H0 H Q f q=>h B0 B σ H0 H _ f λv H1 c7 g r=>by let#[b,ws,rfl,hb,_,_]:=r.nH;exact#[b,ws,Y,.inl (g.sub _ _ hb),q _ H1 c7 g (.bl _)]
theorem LC:MtR X "dict.clear" (λx vs H Q=>∃a kvs,x=.ref a/\vs=[]/\H a>>(.dK kvs)/\Q .non (upd H a (.dK []))):=by intro pins s σ H x vs v us Q I rx rv h;let#[a,kvs,rfl,rfl,e,q]:=h;cases rx;let hus:=rv.zero;subst hus;let#[z,hd,vs,rel,dd]:=B7 I.hok e;refine Bt BQ dd.typeIs PySem.F.entry_dict_clear (PySem.F.args_dict_clear_1 _) (meets_dict_clear _ a) #[vs,dd,[<-rel.length]▸z,λh' HB hs=>?_];let he:∃q,h'.get? a>>q:=let#[q,_,_,hq,_]:=HB;#[q,hq];exact#[.non,_,wt I ([e]▸fY) hs he (zZ (bj _) hd .nil HB),Y,q]
section
variable{X:Cx}{B0 B H0 H:Hp}{σ:St}{D:Ends}{δ:!Slot}{t a c:U}{pos px po p0 pa pc q0:Pos}{x:O}{j:Nat}{jj}{κ:Key}{kvs:!(Key×V)}{xs us:!V}
theorem WL{d:J}{e ek:bY}{k:Nat}(f:fM X.K B0 B H0 H σ δ)(hr:dB k X.A)(i:Nat)(hi:δ[i]?>>(.ref t))(ht:H t>>(.tup us))(hj:us[j]?>>(.ref a))(hd:H a>>(.dK kvs))(hk:VE X ek δ (k6 κ))(hy:gD kvs κ>>(.ref c))(hc:H c>>(.lst xs))(hv:VE X e δ d)(hl:xs.length<sizeLine)
  (q:∀v Ha Hb,cP H0 H Ha Hb->Rep X.K Ha v d->D.nx σ (upd Hb c (.lst (xs ++ [v]))))
  (hN:rT X i x:=by ac_rfl)
  (XF:n_ (.Constant (.int (j:Int)) jj q0):=by intro _ _;rfl)(hsl:yV ek:=by intro _ _;rfl)(gC:attributeBase (.Subscript (.Subscript (.Name x px) (.Constant (.int (j:Int)) jj q0) p0) ek po) "append" X.env (eval (.Subscript (.Subscript (.Name x px) (.Constant (.int (j:Int)) jj q0) p0) ek po) X.env)=eval (.Subscript (.Subscript (.Name x px) (.Constant (.int (j:Int)) jj q0) p0) ek po) X.env:=by rfl)
  (hs:j8 X e []:=by rfl)
  (lN:GV X pc [e]:=by rfl)
  (hline:(pa.endLine==pc.line)=true:=by rfl)(fQ:qg X pc []:=by rfl)(qB:swapsWith (.Call (.Attribute (.Subscript (.Subscript (.Name x px) (.Constant (.int (j:Int)) jj q0) p0) ek po) "append" pa) [e] [] pc) none pos.line X.env=pure false:=by rfl):
  cS X (.Expr (.Call (.Attribute (.Subscript (.Subscript (.Name x px) (.Constant (.int (j:Int)) jj q0) p0) ek po) "append" pa) [e] [] pc) pos) D σ H:=λpins s I=>by refine iR (pF cK fy fz lu (og (yZ hr) (JH xH (ud hN) Dn XF) ck hsl) (cy ck dU hs) gC lN hline hs fQ) qB pins s σ H D I ?_;refine#[_,f.slot i _ hi,?_];refine .inr (.inl #[t,_,_,_,Y,Y,oC.of ht,cB hj,?_]);refine hk B0 B σ H0 H _ f λu H1 c7 g1 r1=>?_;obtain rfl:=oP r1;refine#[a,.ref c,Y,[<-hy]▸mH.k (g1.big _ _ hd),.inl #[Y,_,jW.of (g1.big _ _ hc)],?_];exact hv B0 B σ H1 c7 _ (f.grow g1) λv H2 fA g2 r2=>(#[c,xs,v,Y,Y,g2.big _ _ (g1.big _ _ hc),hl,q v H2 fA (g1.trans g2) r2])
theorem OD(f:fM X.K B0 B H0 H σ δ)(i:Nat)(hi:δ[i]?>>(.ref t))(ht:H t>>(.tup us))(hj:us[j]?>>(.ref a))(hd:H a>>(.dK kvs))(q:D.nx σ (upd H a (.dK [])))
  (hN:rT X i x:=by ac_rfl)
  (XF:n_ (.Constant (.int (j:Int)) jj q0):=by intro _ _;rfl)(gC:attributeBase (.Subscript (.Name x px) (.Constant (.int (j:Int)) jj q0) p0) "clear" X.env (eval (.Subscript (.Name x px) (.Constant (.int (j:Int)) jj q0) p0) X.env)=eval (.Subscript (.Name x px) (.Constant (.int (j:Int)) jj q0) p0) X.env:=by rfl)
  (hline:(pa.endLine==pc.line)=true:=by rfl)(qB:swapsWith (.Call (.Attribute (.Subscript (.Name x px) (.Constant (.int (j:Int)) jj q0) p0) "clear" pa) [] [] pc) none pos.line X.env=pure false:=by rfl):
  cS X (.Expr (.Call (.Attribute (.Subscript (.Name x px) (.Constant (.int (j:Int)) jj q0) p0) "clear" pa) [] [] pc) pos) D σ H:=λpins s I=>by refine iR (Nc qp BQ PySem.F.type_dict_clear LC (JH xH (ud hN) Dn XF) gC hline) qB pins s σ H D I ?_;refine#[_,f.slot i _ hi,?_];exact .inr (.inl #[t,_,_,.ref a,Y,Y,oC.of ht,cB hj,(#[.inr (.inr (.inl #[Y,.inl #[_,hd]])),a,kvs,Y,Y,hd,q])])
theorem J'(h:H a>>(.dK kvs))(q:∀o,zt X rest D σ (upd H a (.oJ o (.dK kvs)))):zt X rest D σ H:=λpins s I=>by let#[o,I']:=I.freeze h;exact q o pins s I'
end
end L2
namespace Mg
open L2 PySem PyProof.Rows
def top(i:Nat):jT:=PySem.Challenge.pw_mergeline_k46_replayed.main.body.getD i (.Pass #[0,0,0,0])
theorem small(h:n<=1000000):n<=sizeLine:=bA h (by rw[dD];decide)
theorem fh(h:n<=1000000):n<sizeLine:=Nat.lt_of_le_of_lt h (by rw[dD];decide)
def om(x:O):Prop:=cj (.str x)=true
theorem bG(a b:O):cV (.str a) (.str b)=decide (a=b):=by rw[cV,e8];simp
theorem jw(a b:Int):cV (.int a) (.int b)=decide (a=b):=by rw[cV,e8];simp
end Mg
namespace L2
open PySem PySem.Spec PyProof.Rows
section
variable{X:Cx}{δ:!Slot}{pos:Pos}
theorem Ay(ho:uf X (compareOp op) r)(Bz:uf X (compareOp op') r')(od1:B9 X.K r d1 d2 (.bool k1))(od2:B9 X.K r' d2 d3 (.bool k2))(h1:VE X a δ d1)(h2:VE X b δ d2)(h3:k1=true->VE X c δ d3)
  (hm:lastMarks [op,op'] [b,c]=false:=by with_unfolding_all rfl):VE X (.Compare a [op,op'] [b,c] pos) δ (.bool (k1&&k2)):=by
 cases k1 with
 |true=>refine .of (EL ho Bz ck ck ck hm) λB0 B σ H0 H Q f q=>h1 B0 B σ H0 H _ f λv H1 c7 g1 r1=>h2 B0 B σ H1 c7 _ (f.grow g1) λu H2 fA g2 r2=>od1 v u H2 fA _ g2.sub (r1.mono g2.eV) r2 λz H3 uD g3 r3=>?_;cases r3;exact#[true,Y,(h3 Y B0 B σ H3 uD _ (((f.grow g1).grow g2).grow g3) λx H4 Ze g4 r4=>od2 u x H4 Ze _ g4.sub ((r2.mono g3.eV).mono g4.eV) r4 λy H5 TJ g5 r5=>q y H5 TJ ((((g1.trans g2).trans g3).trans g4).trans g5) r5)]
 |false=>refine .of (EL ho Bz ck ck Af hm) λB0 B σ H0 H Q f q=>h1 B0 B σ H0 H _ f λv H1 c7 g1 r1=>h2 B0 B σ H1 c7 _ (f.grow g1) λu H2 fA g2 r2=>od1 v u H2 fA _ g2.sub (r1.mono g2.eV) r2 λz H3 uD g3 r3=>?_;cases r3;exact#[false,Y,(q _ H3 uD ((g1.trans g2).trans g3) (.bl false))]
theorem OG{x:O}{s:O}{t:Tok}(hm:X.mg x>>(.str s t))(hg:Gl X x:=by rfl)(hd:xr x:=by decide):VE X (.Name x pos) δ (.str s):=.of (zp hg hm (v:=.str s) #[t,Y] hd) λ_ _ _ _ _ _ f k=>k _ _ _ (.refl f.sub) (.str s)
theorem Kc{x:O}{i:Int}{t:Tok}(hm:X.mg x>>(.int i t))(hg:Gl X x:=by rfl)(hd:xr x:=by decide):VE X (.Name x pos) δ (.int i):=.of (zp hg hm (v:=.int i) #[t,Y] hd) λ_ _ _ _ _ _ f k=>k _ _ _ (.refl f.sub) (.int i)
end
end L2
namespace Mg
open L2 PySem PyProof.Rows
seal L2.VE L2.VS L2.vz L2.VT L2.VO L2.Fd
variable{fd:fW}{kinds:!(O×Option Int)}{ds:!J}{i:Nat}{d:J}
structure Nw(mg:O->Option M):Prop where
 len:mg "len"=none
 all:mg "all"=none
 NQ:mg "enumerate"=none
 let_:∃t,mg "LETTERS"=some (.str "abcdefghijklmnopqrstuvwxyz" t)
 fig:∃t,mg "FIGURES"=some (.str "0123456789" t)
 lna:∃t,mg "LONGEST_NAME"=some (.int 8 t)
 lnu:∃t,mg "LONGEST_NUMBER"=some (.int 6 t)
def one(c:Nat):O:=#[(bQ [c])]
def rA(signs:O)(longest:Int)(w:O):Bool:=(decide (1<=(w.length:Int))&&decide ((w.length:Int)<=longest))&&w.cps.toList.all λc=>Fh (one c) signs
def ZQ(signs:O):J->Option J
 | .str x=>some (.bool (Fh x signs))
 |_=>none
theorem LD(signs w:O):(sY w).filterMap (ZQ signs)=(w.cps.toList.map λc=>Fh (one c) signs).map .bool:=by unfold sY;rw[bX,aj];exact filterMap_some λc _=>rfl
def isName(w:O):Bool:=rA "abcdefghijklmnopqrstuvwxyz" 8 w
def isNumber(w:O):Bool:=rA "0123456789" 6 w&&(decide (w="0") || not (decide ((w.cps.toList.head?.map one).getD fZ="0")))
def wordsOf(row:O):!O:=(cU row " ").filter λw=>decide (w≠"")
def rowsOf(text:O):!(Nat×!O):=(cU text "\n").zipIdx.filterMap λp=>if(wordsOf p.1).isEmpty then none else some (p.2,wordsOf p.1)
theorem oo(x:O):om x↔∀c∈x.cps.toList,c<0x110000:=by show(x.cps.all λc=>decide (c<0x110000))=true↔_;rw[<-Array.all_toList,fk];exact#[λh c hc=>qQ4 (h c hc),λh c hc=>qQ1 (h c hc)]
theorem WM(h:om x)(hc:c∈x.cps.toList):om (one c):=by
 rw[oo]at h ⊢;intro z hz;let:z=c:=by simpa[one]using hz
 rw[this];exact h c hc
def zc(x:O):Prop:=x.length<=100000/\om x
section
variable{P:bU}{w:c0}{K:aq}{mg:O->Option M}{base:dF}{f:U}
abbrev ZR:!O:=["signs","longest","word"]
theorem ZS:bW ZR ZR (bt (top 11)):=by grind
def Rmo(ds:!J)(d:J):Prop:=∃(signs:O)(longest:Int)(x:O),ds=[.str signs,.int longest,.str x]/\x.length<=100000/\d=.bool (rA signs longest x)
theorem zdX(F:jO K "is_made_of" "is_made_of" (top 11) f fd)(n:Nw mg):dR P w K mg base ju 1 f fd ZR (gk K Rmo):=
 ik F ZS (by ext) λ_ _ h=>by
  let#[signs,longest,x,rfl,hx,rfl]:=h;intro gj A outer s H E hr;let nc:(["sign","signs"]:!O).Nodup:=∎;let hl:(sY x).length<=100000:=by unfold sY;rw[ae,cW];exact hx
  refine aS (bL (VE.to (k8 (Ay zR zR (yW 1 x.length) (yW x.length longest) aB (J0 2. (small ()) n.len) (λ_=>mR 1 Y)) (λ_=>jb (gF (lQ Y) wB (cR (VO.ve (VO.to (eI (own:=["sign"]) (cap:=[0]) (tgt:=.one 0) Y #[Y,∎,∎,Y,Y,?_] (V2 2.) (λf s3 H3=>g6 0 nc) Y
   (small ()) (λd hd=>?_)) (LD signs x))) cO) n.all Y))) ?_))
  .intro j hj;rcases au.mp hj with rfl|hj
   .exact#[(by show(0:Nat)<3;decide),mB Y,Y]
   .cases hj
  .let#[c,_,rfl]:=ai.mp hd;exact#[_,Y,λf s3 H3=>lP,λr kL f s3 H3=>by cases kL;exact V4 0. 1.]
  .unfold rA rU;rw[GB];rfl
theorem ZT:bW ["word"] ["word"] (bt (top 12)):=by grind
theorem ZU:bW ["word"] ["word"] (bt (top 13)):=by grind
def ZV(ds:!J)(d:J):Prop:=∃x:O,ds=[.str x]/\x.length<=100000/\d=.bool (isName x)
def Rnu(ds:!J)(d:J):Prop:=∃x:O,ds=[.str x]/\zc x/\d=.bool (isNumber x)
theorem zdY(F:jO K "is_name" "is_name" (top 12) f fd)(n:Nw mg)(C:bw P w K mg base 1 "is_made_of" ZR (gk K Rmo)):dR P w K mg base ju 2 f fd ["word"] (gk K ZV):=
 ik F ZT (by ext) λ_ _ h=>by let#[x,rfl,hx,rfl]:=h;intro gj A outer s H E hr;let#[t1,m1]:=n.let_;let#[t2,m2]:=n.lna;exact aS (bL (bB C hr {OG m1,Kc m2,0.} #[_,8,x,Y,hx,Y]))
theorem zdZ(F:jO K "is_number" "is_number" (top 13) f fd)(n:Nw mg)(C:bw P w K mg base 1 "is_made_of" ZR (gk K Rmo)):dR P w K mg base ju 2 f fd ["word"] (gk K Rnu):=
 ik F ZU (by ext) λ_ _ h=>by
  let#[x,rfl,#[hx,okx],rfl]:=h;intro gj A outer s H E hr;let#[t1,m1]:=n.fig;let#[t2,m2]:=n.lnu;let o0:Lay 20 (.str "0"):=bo ∎;cases em:rA "0123456789" 6 x with
  |false=>refine aS (bL (VE.to (k8 (k2:=false) (VE.to (bB C hr {OG m1,Kc m2,0.} #[_,6,x,Y,hx,Y]) (by rw[em])) (λz=>by cases z)) ?_));unfold isNumber;rw[em];rfl
  |true=>
   obtain⟨c,hc⟩:∃c,x.cps.toList.head?>>c:=by
    cases e:x.cps.toList with
    |cons c l=>exact#[c,Y]
    |nil=>
     exfalso;let:x.length=0:=by let:=qQ6 dX e;exact this
     unfold rA at em;rw[this]at em;cases em
   let h0:uN x.cps.toList 0>>c:=by
    cases e:x.cps.toList with
    |nil=>rw[e]at hc;cases hc
    |cons a l=>rw[e]at hc;cases hc;exact cB Y
   let okc:om (one c):=by
    let hm:c∈x.cps.toList:=by
     cases e:x.cps.toList with
     |nil=>rw[e]at hc;cases hc
     |cons a l=>rw[e]at hc;cases hc;exact aJ
    exact WM okx hm
   refine aS (bL (VE.to (k8 (VE.to (bB C hr {OG m1,Kc m2,0.} #[_,6,x,Y,hx,Y]) (by rw[em])) (λ_=>jb (sX (oN hr (bo okx) o0 0. aQ) (λ_=>jb (NS hr (bo okc) o0 (DI 0. aB (small ()) h0) aQ))))) ?_));unfold isNumber;rw[em,bG,bG,hc];rfl
end
theorem FD:∀{zs:!O},p∈zs->c∈p.cps.toList->c∈(dA y zs).cps.toList
 | [],h,_=>by cases h
 | [x],h,hc=>by rw[aK]at h;subst h;exact hc
 |x::x2::zs,h,hc=>by
  show c∈(x++y++dA y (x2::zs)).cps.toList;let e:(x++y++dA y (x2::zs)).cps.toList=(x.cps.toList++y.cps.toList)++(dA y (x2::zs)).cps.toList:=by show(x.cps++y.cps++(dA y (x2::zs)).cps).toList=_;simp
  rw[e];rcases au.mp h with rfl|h
  .exact bH _ (bH _ hc)
  .exact aZ _ (FD h hc)
theorem FE(h:zc x)(hp:p∈cU x y):zc p:=by refine#[bA (part_short hp) h.1,(oo p).mpr λc hc=>(oo x).mp h.2 c ?_];let:=FD (y:=y) hp hc;rwa[oI]at this
def ZW:J->Option J
 | .str w=>if decide (w≠"")=true then some (.str w)else none
 |_=>none
theorem LJ(l:!O):(l.map aN).filterMap ZW=(l.filter λw:O=>decide (w≠"")).map aN:=by
 induction l with
 |nil=>rfl
 |cons w l ih=>
  rw[av,gA];by_cases h:decide (w≠"")=true
  .rw[qQ3 h,cI (by show(if _ then _ else _)=_;rw[qQ3 h]),ih];rfl
  .rw[qQ2 h,dS (by show(if _ then _ else _)=_;rw[qQ2 h]),ih]
def Kd(p:Nat×!O):J:=.tuple [.int p.1,.list (p.2.map .str)]
def vG(text:O)(i:Nat):!(Nat×!O):=((cU text "\n").zipIdx.take i).filterMap λp=>if(wordsOf p.1).isEmpty then none else some (p.2,wordsOf p.1)
theorem yu(h:(cU text "\n")[i]?>>row):vG text (i+1)=vG text i++(if(wordsOf row).isEmpty then []else [(i,wordsOf row)]):=by
 unfold vG;rw[bO,kD,h];simp only[k0,Jt,jV,mQ]
 congr 1
 cases e:(wordsOf row).isEmpty
 .rw[cI (by simp only[e];rfl)];rfl
 .rw[dS (by simp only[e];rfl)];rfl
theorem Ih(text:O):vG text (cU text "\n").length=rowsOf text:=by unfold vG rowsOf;rw[da ∅]
theorem Ii(text:O)(i:Nat):(vG text i).length<=i:=by exact bA (iQ _ _) (by rw[a9];omega)
theorem yv(h:x.length<=100000):(cU x y).length<=100002:=by
 let e1:=Ex x y 0 x.length (x.length+1);unfold cU;split
 .show 1<=100002;omega
 .split
  .show 1<=100002;omega
  .rw[yO];omega
section
variable{P:bU}{w:c0}{K:aq}{mg:O->Option M}{base:dF}{f:U}
theorem ZX:bW ["row"] ["row"] (bt (top 14)):=by grind
def Rwo(ds es:!J):Prop:=∃x:O,ds=[.str x]/\zc x/\es=(wordsOf x).map .str
theorem zd0(F:jO K "words_of" "words_of" (top 14) f fd):dR P w K mg base ju 1 f fd ["row"] (HJ K Rwo):=
 Le F ZX (by ext) λ_ _ h=>by
  let#[x,rfl,ok,rfl]:=h;intro gj A outer s H E hr;let nc:(["word"]:!O).Nodup:=∎;let hx:=ok.1;refine aS (zu (VO.to (eI (own:=["word"]) (cap:=[]) (tgt:=.one 0) Y #[Y,∎,∎,Y,Y,∅] (eG (VO.ve (sZ 0. aQ Y (small ())))) (λf s3 H3=>g6 0 nc) Y
   (small (by rw[ae];let:=yv (y:=" ") hx;omega)) (λd hd=>?_)) (LJ _)));let#[p,hp,rfl]:=ai.mp hd;refine#[_,Y,λf s3 H3=>?_,λr kL f s3 H3=>?_]
  .refine pJ (VT.to (gQ hr (bo (FE ok hp).2) (bo ∎) 0. aQ) ?_);show(not (decide (p="")))=(if decide (p≠"")=true then some (aN p)else none).isSome;by_cases h:p=""
   .subst h;rfl
   .rw[qQ3 ↑h,qQ0 h];rfl
  .let WN:(if decide (p≠"")=true then some (aN p)else none)>>r:=kL;split at WN
   .cases WN;exact mR 0 Y
   .cases WN
abbrev Nro:!O:=["text","rows","number","row","words"]
theorem T8:bW Nro ["text"] (bt (top 15)):=by grind
def Rro(ds es:!J):Prop:=∃x:O,ds=[.str x]/\zc x/\es=(rowsOf x).map Kd
theorem zd1(F:jO K "rows_of" "rows_of" (top 15) f fd)(n:Nw mg)(C:bw P w K mg base 1 "words_of" ["row"] (HJ K Rwo)):dR P w K mg base ju 2 f fd ["text"] (HJ K Rro):=
 Le F T8 (by ext) λ_ _ h=>by
  let#[x,rfl,ok,rfl]:=h;intro gj A outer s H E hr;let nd:=T8.nd;let hx:=ok.1;let hc:=yv (y:="\n") hx;refine aD (iT 1 (dQ cO) nd) ?_;refine aD (k7 (tgt:=.tup [2,3]) bZ Y (nr (VO.ve (sZ 0. aQ Y (small ()))) n.NQ)
   (g7 Y (bS (g6 2 nd) (bS (g6 3 nd) fP))) (λi=>[.val _,.own ((vG x i).map Kd),.un,.un,.un]) (cU x "\n").length Y (by rw[dC];simp) (λi d hi hd=>?_) (.inl #[by rw[dC];simp,Y])) ?_
  .let#[y,hy,rfl]:=ja hd;obtain⟨row,xU⟩:∃row,(cU x "\n")[i]?>>row:=#[(cU x "\n")[i],by simp[hi]];rw[ax,xU]at hy;cases hy;let XG:=FE ok (aH xU);let hle:=Ii x i;refine#[_,Y,?_];refine aD (cL 4 (VO.ve (pK C hr {3.} #[row,Y,XG,Y])) nd) ?_;cases ew:(wordsOf row).isEmpty with
   |true=>refine gW (aS (bE (VT.to (gV 4. Y) (by cases e:wordsOf row with|nil=>rfl|cons _ _=>rw[e]at ew;cases ew)) a_)) #[.inr Y,.inr ?_,.inl Y,.inl Y,.inl Y,trivial];rw[yu xU,ew,qQ3 Y,cA]
   |false=>refine gW (aS (dm (VT.to (gV 4. Y) (by cases e:wordsOf row with|nil=>rw[e]at ew;cases ew|cons _ _=>rfl)) (aS (jH 1 Y (fc {2.,4.}) (fh (by rw[ae];omega)))))) #[.inr Y,.inr ?_,.inl Y,.inl Y,.inl Y,trivial];rw[yu xU,ew,qQ2 ia,aI];rfl
  .rw[Ih];exact aS (DH 1 Y)
end
def oQ(ns:!Int):J:=.list (ns.map .int)
def dw(c k:Int):Int:=((c%2147483629+k*k*7919+11)*48271%2147483647)*((c%2147483629+k*k*7919+11)*48271%2147483647)%1999999973
theorem zB(c k:Int):0<=dw c k:=cx _ ⋯
theorem RN(c k:Int):dw c k<1999999973:=c6 _ ⋯
abbrev ABC:O:="abcdefghijklmnopqrstuvwxyz"
theorem FG:(ABC:O).cps.toList=(cF 26).map (97 + ·):=∎
def FH(i:Int):O:=one (97+i.toNat)
theorem Ij{i:Int}(h0:0<=i)(h1:i<26):uN (ABC:O).cps.toList i>>(97+i.toNat):=by let#[n,rfl]:=mD h0;refine cB ?_;rw[FG,ax,kW ()];rfl
def eu(x:O):Prop:=1<=x.cps.toList.length/\x.cps.toList.length<=8/\∀c∈x.cps.toList,97<=c/\c<123
theorem RP(h:97<=c/\c<123):c∈(ABC:O).cps.toList:=by rw[FG];exact ai.mpr #[c-97,cG.mpr (),()]
theorem eu.is(h:eu x):isName x=true:=by let#[h1,h2,h3]:=h;rw[cW]at h1 h2;let e:x.length=x.cps.size:=Y;unfold isName rA;rw[qQ1 (),qQ1 (),lr,lr,fk];intro c hc;let:Fh (one c) ABC=decide (c∈ABC.cps.toList):=v9 ..;rw[this];exact qQ1 (RP (h3 c hc))
theorem eu.ok(h:eu x):zc x:=by let#[h1,h2,h3]:=h;rw[cW]at h1 h2;refine#[by show x.cps.size<=_;omega,(oo x).mpr λc hc=>?_];let:=h3 c hc;omega
theorem FJ(x:O):∀n,(kB x n).cps.toList=(aW n x.cps.toList).flatten
 |0=>rfl
 |n+1=>by
  let e:(kB x (n+1)).cps.toList=x.cps.toList++(kB x n).cps.toList:=by show(x.cps++(kB x n).cps).toList=_;simp
  rw[e,FJ x n];rfl
theorem D2(c n:Nat):(kB (one c) n).cps.toList=aW n c:=by
 rw[FJ];induction n with
 |zero=>rfl
 |succ n ih=>rw[fu,fx,ih];rfl
def nameA(m:Int)(many k:Nat):O:=kB (FH (m/3%26)) (many-k)
def stemOf(m:Int):O:=kB (FH (m/4992%26)) (1+m/78%8).toNat
def uW(m:Int)(k:Nat):O:=nR (stemOf m) none (some (m/624%(1+m/78%8)))++FH ((m/3+5*k)%26)++nR (stemOf m) (some (m/624%(1+m/78%8)+1)) none
def namesOf(cell:Int)(many:Nat):!O:=if dw cell 3%3=0/\many<9 then(cF many).map (nameA (dw cell 3) many) else(cF many).map (uW (dw cell 3))
theorem g8(cell:Int)(many:Nat):(namesOf cell many).length=many:=by unfold namesOf;split<;>simp
theorem xV(m:Int):(stemOf m).cps.toList=aW (1+m/78%8).toNat (97+(m/4992%26).toNat):=D2 _ _
theorem OI(m:Int)(h:k<many)(h9:many<9):eu (nameA m many k):=by let e:(nameA m many k).cps.toList=aW (many-k) _:=D2 _ _;refine#[by rw[e,du];omega,by rw[e,du];omega,λc hc=>?_];rw[e]at hc;let:=(jG.mp hc).2;omega
theorem OJ(m:Int)(k:Nat):eu (uW m k):=by
 let hs:=xV m;let hl:(stemOf m).cps.toList.length=(1+m/78%8).toNat:=by rw[hs,du]
 let p1:0<=m/624%(1+m/78%8):=cx _ ();let p2:m/624%(1+m/78%8)<1+m/78%8:=c6 _ ();let e1:nR _ none _=_:=EF #[p1,by rw[hl];omega];let e2:nR _ (some (m/624%(1+m/78%8)+1)) none=_:=Di #[(),by rw[hl];omega];let e:(uW m k).cps.toList=(stemOf m).cps.toList.take (m/624%(1+m/78%8)).toNat ++ [97+((m/3+5*k)%26).toNat]++(stemOf m).cps.toList.drop (m/624%(1+m/78%8)+1).toNat:=by unfold uW;rw[e1,e2];show((_++_++_:Array Nat)).toList=_;simp only[Ju,mJ,Int.sub_zero,FH,one];rw[da (l:=List.drop _ _) (by rw[cX];omega)]
 let l1:(uW m k).cps.toList.length=(1+m/78%8).toNat:=by rw[e,aR,aR,a9,cX,hl];simp;omega
 refine#[by rw[l1];omega,by rw[l1];omega,λc hc=>?_];rw[e,hs]at hc;rcases aT.mp hc with hc|hc
 .rcases aT.mp hc with hc|hc
  .let:=(jG.mp (eK hc)).2;omega
  .let:=aK.mp hc;omega
 .let:=(jG.mp (fN hc)).2;omega
theorem k9(h:x∈namesOf cell many):eu x:=by
 unfold namesOf at h;split at h
 .rename_i hh
  let#[k,hk,rfl]:=ai.mp h;exact OI _ (cG.mp hk) hh.2
 .let#[k,hk,rfl]:=ai.mp h;exact OJ _ _
abbrev Ng(mg:O->Option M):Prop:=Nm mg
section
variable{P:bU}{w:c0}{K:aq}{mg:O->Option M}{base:dF}{f:U}{k:Nat}
def Ke(ds:!J)(d:J):Prop:=∃(ns:!Int)(k:Nat),ds=[oQ ns,.int k]/\d=.int (ns.getD k 0)
theorem RQ:bW ["_law_script","_law_k"] ["_law_script","_law_k"] (bt (top 43)):=by grind
theorem WO(m1:mg "len"=none)(h:Ke ds d):wA P w K mg base ["_law_script","_law_k"] "_law_cell_at" (top 43) f k ds (.rt d):=by
 let#[ns,n,rfl,rfl]:=h;intro gj A outer s H E hr;by_cases hn:n<ns.length
 .refine cZ (dm (VT.to (yl 1. (fD 0. m1)) (by simp only[ae];exact qQ1 ())) (aS (bL (fU 0. 1. (cB ?_))))) Y;rw[ax,aG,ao hn];rfl
 .refine aD (bE (VT.to (yl 1. (fD 0. m1)) (by simp only[ae];exact qQ0 ())) a_) ?_;let e:ns.getD n 0=0:=by rw[aG,eP ()];rfl
  rw[e];exact aS (bL aB)
theorem WQ(F:jO K "_law_cell_at" "_law_cell_at" (top 43) f fd)(m1:mg "len"=none):dR P w K mg base ju 1 f fd ["_law_script","_law_k"] (gk K Ke):=ik F RQ (by ext) λ_ _ h=>WO m1 h
def FK(ds:!J)(d:J):Prop:=∃(c k:Int),ds=[.int c,.int k]/\0<=k/\k<=1000/\d=.int (dw c k)
abbrev ZY:!O:=["_law_cell","_law_k","_law_m"]
theorem OL:bW ZY ["_law_cell","_law_k"] (bt (top 44)):=by grind
theorem ZZ(h:FK ds d):wA P w K mg base ZY "_law_mix" (top 44) f k ds (.rt d):=by let#[c,n,rfl,h0,h1,rfl]:=h;intro gj A outer s H E hr;let nd:=OL.nd;exact aD (cL 2 (cn (sP (dM (dM (cn 0. aB ⋯) (sP (sP 1. 1. (.inl #[(),()])) aB (.inr #[⋯,⋯]))) aB) aB (.inr #[⋯,⋯])) aB ⋯) nd) (aS (bL (cn (sP 2. 2. (.inl #[(),()])) aB ⋯)))
theorem Z0(F:jO K "_law_mix" "_law_mix" (top 44) f fd):dR P w K mg base ju 1 f fd ["_law_cell","_law_k"] (gk K FK):=ik F OL (by ext) λ_ _ h=>ZZ h
abbrev Nnm:!O:=["_law_cell","_law_many","_law_letters","_law_m","_law_size","_law_place","_law_stem"]
theorem T9:bW Nnm ["_law_cell","_law_many"] (bt (top 45)):=by grind
def Rnm(ds es:!J):Prop:=∃(c:Int)(many:Nat),ds=[.int c,.int many]/\many<=60/\es=(namesOf c many).map .str
def FA(m:Int)(many:Nat):J->Option J
 | .int k=>some (.str (nameA m many k.toNat))
 |_=>none
def FB(m:Int):J->Option J
 | .int k=>some (.str (uW m k.toNat))
 |_=>none
theorem WR(m:Int)(many:Nat):(kH many).filterMap (FA m many)=((cF many).map (nameA m many)).map .str:=by unfold kH;rw[bX,aj];exact filterMap_some λk _=>by show some _>>_;rw[fF];rfl
theorem WT(m:Int)(many:Nat):(kH many).filterMap (FB m)=((cF many).map (uW m)).map .str:=by unfold kH;rw[bX,aj];exact filterMap_some λk _=>by show some _>>_;rw[fF];rfl
theorem xW:(ABC:O).length<=sizeLine:=small ∎
theorem zd3(F:jO K "_law_names" "_law_names" (top 45) f fd)(n:Ng mg)(C:bw P w K mg base 1 "_law_mix" ["_law_cell","_law_k"] (gk K FK)):dR P w K mg base ju 2 f fd ["_law_cell","_law_many"] (HJ K Rnm):=
 Le F T9 (by ext) λ_ _ h=>by
  let#[c,many,rfl,hm,rfl]:=h;intro gj A outer s H E hr;let nd:Nnm.Nodup:=T9.nd;let nk:(["_law_k","_law_many","_law_letters","_law_m"]:!O).Nodup:=∎;let lo:=zB c 3;refine aD (cL 2 aQ nd) ?_;refine aD (cL 3 (bB C hr {0.,aB} #[c,3,Y,⋯,⋯,Y]) nd) ?_;by_cases hh:dw c 3%3=0/\many<9
  .let e:namesOf c many=(cF many).map (nameA (dw c 3) many):=by unfold namesOf;rw[qQ3 hh]
   rw[e];refine cZ (dm (VT.to (jJ (fB (k:=1) (hr.mono ()) (bJ 20 _) (bJ 20 _) (cn 3. aB ⋯) aB) (λ_=>yl 1. aB)) ?_) (aS (zu (VO.to (eI (own:=["_law_k"]) (cap:=[1,2,3]) (tgt:=.one 0) Y #[Y,∎,∎,Y,Y,?_] (oO 1. n.rng () ()) (λf s3 H3=>g6 0 nk) Y
    (small (by rw[iG];omega)) (λd hd=>?_)) (WR _ _))))) Y
   .rw[jw,qQ1 hh.1,qQ1 ()];rfl
   .intro j hj;rcases au.mp hj with rfl|hj
    .exact#[(by show(1:Nat)<7;decide),mB Y,Y]
    .rcases au.mp hj with rfl|hj
     .exact#[(by show(2:Nat)<7;decide),mB Y,Y]
     .rcases au.mp hj with rfl|hj
      .exact#[(by show(3:Nat)<7;decide),mB Y,Y]
      .cases hj
   .let#[i,hi,rfl]:=ai.mp hd;let hi:=cG.mp hi;refine#[_,Y,λf s3 H3=>lP,λr kL f s3 H3=>?_];cases kL;refine VE.to (JZ (DI 2. (cn (eE 3. aB #[⋯,⋯]) aB ⋯) xW (Ij () ())) (VX 1. 0.) () () (by show 1<=1000;decide)) ?_;unfold nameA;let e:((many:Int)-(i:Int)).toNat=many-((i:Nat):Int).toNat:=();rw[e];rfl
  .let e:namesOf c many=(cF many).map (uW (dw c 3)):=by unfold namesOf;rw[qQ2 hh]
   rw[e];let nk2:(["_law_k","_law_letters","_law_m","_law_place","_law_stem"]:!O).Nodup:=∎;let b1:0<=dw c 3/78%8:=cx _ ⋯;let b2:dw c 3/78%8<8:=c6 _ ⋯;let p1:0<=dw c 3/624%(1+dw c 3/78%8):=cx _ ();let p2:dw c 3/624%(1+dw c 3/78%8)<1+dw c 3/78%8:=c6 _ ();let sl:(stemOf (dw c 3)).length<=8:=by show(stemOf (dw c 3)).cps.size<=8;rw[<-cW,xV,du];omega
   refine aD (bE (VT.to (jJ (fB (k:=1) (hr.mono ()) (bJ 20 _) (bJ 20 _) (cn 3. aB ⋯) aB) (λ_=>yl 1. aB)) ?_) a_) ?_
   .rw[jw];by_cases h0:dw c 3%3=0
    .rw[qQ1 h0,lr];exact qQ0 λz=>hh #[h0,()]
    .rw[qQ0 h0];rfl
   refine aD (cL 4 (dM aB (cn (eE 3. aB #[⋯,⋯]) aB ⋯)) nd) ?_;refine aD (cL 5 (cn (eE 3. aB #[⋯,⋯]) 4. ()) nd) ?_;refine aD (cL 6 (d:=.str (stemOf (dw c 3))) (JZ (DI 2. (cn (eE 3. aB #[⋯,⋯]) aB ⋯) xW (Ij () ())) 4. () () (by show 1<=1000;decide)) nd) ?_;refine aS (zu (VO.to (eI (own:=["_law_k"]) (cap:=[2,3,5,6]) (tgt:=.one 0) Y #[Y,∎,∎,Y,Y,?_] (oO 1. n.rng () ()) (λf s3 H3=>g6 0 nk2) Y
    (small (by rw[iG];omega)) (λd hd=>?_)) (WT _ _)))
   .intro j hj;rcases au.mp hj with rfl|hj
    .exact#[(by show(2:Nat)<7;decide),mB Y,Y]
    .rcases au.mp hj with rfl|hj
     .exact#[(by show(3:Nat)<7;decide),mB Y,Y]
     .rcases au.mp hj with rfl|hj
      .exact#[(by show(5:Nat)<7;decide),mB Y,Y]
      .rcases au.mp hj with rfl|hj
       .exact#[(by show(6:Nat)<7;decide),mB Y,Y]
       .cases hj
   .let#[i,hi,rfl]:=ai.mp hd;let hi:=cG.mp hi;refine#[_,Y,λf s3 H3=>lP,λr kL f s3 H3=>?_];cases kL;let l1:=GR (stemOf (dw c 3)) none (some (dw c 3/624%(1+dw c 3/78%8)));let l2:=GR (stemOf (dw c 3)) (some (dw c 3/624%(1+dw c 3/78%8)+1)) none;let l3:(FH ((dw c 3/3+5*(i:Int))%26)).length=1:=Y;refine VE.to (iU (iU (Cq 4. (small ()) .no (.yes 3.)) (DI 1. (cn (dM (eE 2. aB #[⋯,⋯]) (sP aB 0. (.inl #[⋯,⋯]))) aB ⋯) xW (Ij () ())) (small ?_)) (Cq 4. (small ()) (.yes (dM 3. aB)) .no) (small ?_)) ?_
    .show _+(FH _).length<=_;omega
    .rw[cC];show _+(FH _).length+_<=_;omega
    .rfl
end
inductive Rl where
 |meet
 |gather (most age:Int)
 |many (most:Int)
 |rank (bound:Option Int)
 |turns (shares:!Int)
 |eldest
def sk:Option Int->J
 |none=>.none
 |some i=>.int i
def sr:Rl->O
 | .meet=>"meet"
 | .gather _ _=>"gather"
 | .many _=>"many"
 | .rank _=>"rank"
 | .turns _=>"turns"
 | .eldest=>"eldest"
def uE:Rl->!J
 | .meet=>[]
 | .gather m a=>[.int m,.int a]
 | .many m=>[.int m]
 | .rank b=>[sk b]
 | .turns s=>[.tuple (s.map .int)]
 | .eldest=>[]
def ML(r:Rl):J:=.tuple (.str (sr r)::uE r)
def D3(rest:Int)(k:Nat):Int:=1+rest/((k:Int)*k+1)%3
def lV(m:Int)(many:Nat):Rl:=
 if m%6=5/\1<many then .meet
 else if m%6=4 then .gather (1+m/6%4) (m/6/4%9)
 else if m%6=3 then .many (1+m/6%4)
 else if m%6=2 then .rank (if m/6%2=0 then none else some (m/6/2%9))
 else if m%6=1 then .turns ((cF many).map (D3 (m/6)))
 else .eldest
def jx:Rl->Nat->Int
 | .many m,_=>m
 | .gather m _,_=>m
 | .meet,n=>n
 |_,_=>1
section
variable{P:bU}{w:c0}{K:aq}{mg:O->Option M}{base:dF}{f:U}
abbrev Nrl:!O:=["_law_m","_law_many","_law_rest"]
theorem T_:bW Nrl ["_law_m","_law_many"] (bt (top 46)):=by grind
def Rrl(ds:!J)(d:J):Prop:=∃(m:Int)(many:Nat),ds=[.int m,.int many]/\0<=m/\m<1999999973/\many<=60/\d=ML (lV m many)
def WU(rest:Int):J->Option J
 | .int k=>some (.int (1+rest/(k*k+1)%3))
 |_=>none
theorem Ik(rest:Int)(many:Nat):(kH many).filterMap (WU rest)=((cF many).map (D3 rest)).map .int:=by unfold kH;rw[bX,aj];exact filterMap_some λk _=>rfl
theorem zd4(F:jO K "_law_rule" "_law_rule" (top 46) f fd)(n:Ng mg):dR P w K mg base ju 1 f fd ["_law_m","_law_many"] (gk K Rrl):=
 ik F T_ (by ext) λ_ _ h=>by
  let#[m,many,rfl,h0,h1,hm,rfl]:=h;intro gj A outer s H E hr;let nk:(["_law_k","_law_rest"]:!O).Nodup:=∎;let r0:0<=m/6:=Int.ediv_nonneg h0 ⋯;let r1:m/6<1999999973:=();refine aD (cL 2 (eE 0. aB #[⋯,⋯]) T_.nd) ?_;let ev:∀j:Int,cV (.int (m%6)) (.int j)=decide (m%6=j):=λj=>jw _ _;unfold lV;by_cases c5:m%6=5/\1<many
  .rw[qQ3 c5];refine cZ (dm (VT.to (jJ (fB hr (bJ 20 _) (bJ 20 _) (cn 0. aB ⋯) aB) (λ_=>Ca 1. aB)) ?_) (aS (bL (VE.to (fc (cR aQ cO)) Y)))) Y;rw[ev,qQ1 c5.1,qQ1 ()];rfl
  rw[qQ2 c5];refine aD (bE (VT.to (jJ (fB hr (bJ 20 _) (bJ 20 _) (cn 0. aB ⋯) aB) (λ_=>Ca 1. aB)) ?_) a_) ?_
  .rw[ev];by_cases h5:m%6=5
   .rw[qQ1 h5,lr];exact qQ0 λz=>c5 #[h5,()]
   .rw[qQ0 h5];rfl
  by_cases c4:m%6=4
  .rw[qQ3 c4];refine cZ (dm (VT.to (fB hr (bJ 20 _) (bJ 20 _) (cn 0. aB ⋯) aB) (by rw[ev,qQ1 c4])) (aS (bL (VE.to (fc {aQ,dM aB (cn 2. aB ⋯),cn (eE 2. aB #[⋯,⋯]) aB ⋯}) Y)))) Y
  rw[qQ2 c4];refine aD (bE (VT.to (fB hr (bJ 20 _) (bJ 20 _) (cn 0. aB ⋯) aB) (by rw[ev,qQ0 c4])) a_) ?_;by_cases c3:m%6=3
  .rw[qQ3 c3];refine cZ (dm (VT.to (fB hr (bJ 20 _) (bJ 20 _) (cn 0. aB ⋯) aB) (by rw[ev,qQ1 c3])) (aS (bL (VE.to (fc {aQ,dM aB (cn 2. aB ⋯)}) Y)))) Y
  rw[qQ2 c3];refine aD (bE (VT.to (fB hr (bJ 20 _) (bJ 20 _) (cn 0. aB ⋯) aB) (by rw[ev,qQ0 c3])) a_) ?_;by_cases c2:m%6=2
  .rw[qQ3 c2];refine cZ (dm (VT.to (fB hr (bJ 20 _) (bJ 20 _) (cn 0. aB ⋯) aB) (by rw[ev,qQ1 c2])) (aS (bL (VE.to (fc {aQ,fU (VO.ve (dQ {eD,cn (eE 2. aB #[⋯,⋯]) aB ⋯})) (cn 2. aB ⋯) ?_}) Y)))) Y;rcases Int.emod_two_eq (m/6)with e|e
   .rw[e,qQ3 Y];rfl
   .rw[e,qQ2 ⋯];rfl
  rw[qQ2 c2];refine aD (bE (VT.to (fB hr (bJ 20 _) (bJ 20 _) (cn 0. aB ⋯) aB) (by rw[ev,qQ0 c2])) a_) ?_;by_cases c1:m%6=1
  .rw[qQ3 c1];refine cZ (dm (VT.to (fB hr (bJ 20 _) (bJ 20 _) (cn 0. aB ⋯) aB) (by rw[ev,qQ1 c1])) (aS (bL (VE.to (fc (cR aQ (cR (kz kP wz (cR (VO.ve (VO.to (eI (own:=["_law_k"]) (cap:=[2]) (tgt:=.one 0) Y #[Y,∎,∎,Y,Y,?_] (oO 1. n.rng () ()) (λf s3 H3=>g6 0 nk) Y
    (small (by rw[iG];omega)) (λd hd=>?_)) (Ik _ _))) cO) n.tup Y) cO))) Y)))) Y
   .intro j hj;rcases au.mp hj with rfl|hj
    .exact#[(by show(2:Nat)<3;decide),mB Y,Y]
    .cases hj
   .let#[i,hi,rfl]:=ai.mp hd;let hi:=cG.mp hi;let hii:(0:Int)<=(i:Int)*i:=Int.mul_nonneg () ();let zjr:(i:Int)*i<=60*60:=Int.mul_le_mul () () () ();exact Cb Y Y λf s3 H3=>dM aB (cn (eE 1. (dM (sP 0. 0. (.inl #[(),()])) aB) #[(),()]) aB ⋯)
  rw[qQ2 c1];exact aD (bE (VT.to (fB hr (bJ 20 _) (bJ 20 _) (cn 0. aB ⋯) aB) (by rw[ev,qQ0 c1])) a_) (aS (bL (VE.to (fc (cR aQ cO)) Y)))
theorem Z1:bW ["_law_rule_here","_law_many"] ["_law_rule_here","_law_many"] (bt (top 47)):=by grind
def Rgr(ds:!J)(d:J):Prop:=∃(r:Rl)(many:Nat),ds=[ML r,.int many]/\d=.int (jx r many)
theorem zd5(F:jO K "_law_greatest" "_law_greatest" (top 47) f fd):dR P w K mg base ju 1 f fd ["_law_rule_here","_law_many"] (gk K Rgr):=
 ik F Z1 (by ext) λ_ _ h=>by
  let#[r,many,rfl,rfl]:=h;unfold ML;intro gj A outer s H E hr;let hl:(uE r).length<=2:=by cases r<;>simp[uE]
  let x1:∃x,(aN (sr r)::uE r ++ [.int 0])[1]?>>x/\((gJ [(("many":O),x),("gather",x),("meet",.int many)] (sr r)).getD (.int 1))=.int (jx r many):=by cases r<;>exact#[_,Y,Y]
  let#[x,hx,hv]:=x1;let hn3:=(show([("many":O),"gather","meet"]).Nodup by symm);let hx1:=cB hx;let hz:(aN (sr r)::uE r).length + [dq 0].length<=sizeLine:=small (by simp;omega);let sj:(aN (sr r)::uE r)≠[]:=∅
  generalize uE r=ra at *;generalize sr r=vY at *;refine aS (bL (VE.to (N4 hr (J4 (.cons aQ ?_ (.cons aQ ?_ (.cons aQ 1. .nil))) hn3 ∅ (by show 3<=15;decide)) ?_ aB) hv))
  .exact di (zx 0. (fc (cR aB cO)) sj hz) aB hx1
  .exact di (zx 0. (fc (cR aB cO)) sj hz) aB hx1
  .exact di 0. aB (cB Y)
end
structure Dk where
 name:O
 to:O
 rule:Rl
 places:!O
variable{iH:!Dk}
def jB(l:!O):J:=.list (l.map .str)
def dE(d:Dk):J:=.tuple [.str d.name,.str d.to,ML d.rule,.tuple (d.places.map .str)]
def gN(cell:Int)(nn k:Nat):Nat:=if k<nn then k else(dw cell (40+k)%nn).toNat
def Cy(cell:Int)(k len:Nat):Nat:=(dw cell (60+k)%(len+1)).toNat
def eA(cell:Int)(nn:Nat)(places:!O):Nat->!(!O)
 |0=>aW nn []
 |k+1=>(eA cell nn places k).set (gN cell nn k) (tj ((eA cell nn places k).getD (gN cell nn k) []) (Cy cell k ((eA cell nn places k).getD (gN cell nn k) []).length) (places.getD k ""))
def OO(cell:Int)(lines:!O)(k:Nat):O:=(lines ++ [("":O)]).getD (dw cell (80+k)%(lines.length+1)).toNat ""
def Il(cell:Int)(names lines:!O)(taken:!(!O))(k:Nat):Dk:=#[names.getD k "",OO cell lines k,lV (dw cell (90+k)) (taken.getD k []).length,taken.getD k []]
def lW(cell:Int)(n:Nat):Nat:=(1+dw cell 32%(if(n:Int)<4 then(n:Int)else 4)).toNat
def lX(cell:Int)(places lines:!O):!Dk:=(cF (lW cell places.length)).map (Il cell (namesOf (dw cell 31) (lW cell places.length)) lines (eA cell (lW cell places.length) places places.length))
theorem g_(cell:Int)(nn:Nat)(places:!O):∀k,(eA cell nn places k).length=nn
 |0=>by simp[eA]
 |k+1=>by rw[eA,oB,g_ cell nn places k]
theorem nI(cell:Int)(h:1<=n):1<=lW cell n/\lW cell n<=4/\lW cell n<=n:=by
 unfold lW;split
 .rename_i hn
  let a1:0<=dw cell 32%n:=cx _ ();let a2:dw cell 32%n<n:=c6 _ ();omega
 .let a1:0<=dw cell 32%4:=cx _ ();omega
theorem Cz(cell:Int)(h:1<=nn)(k:Nat):gN cell nn k<nn:=by
 unfold gN;split
 .assumption
 .let a1:0<=dw cell (40+k)%nn:=cx _ ();let a2:dw cell (40+k)%nn<nn:=c6 _ ();omega
theorem OQ(cell:Int)(k len:Nat):Cy cell k len<=len:=by unfold Cy;let a2:dw cell (60+k)%(len+1)<len+1:=c6 _ ();omega
theorem yw{α:Type}(l:!α)(i:Nat)(y:α):(tj l i y).length=l.length+1:=by unfold tj;rw[aR,a8,a9,cX];omega
theorem OS{α:Type}{l:!α}{x y:α}(h:x∈tj l i y):x∈l\/x=y:=by
 rcases aT.mp h with h|h
 .exact .inl (eK h)
 .rcases au.mp h with h|h
  .exact .inr h
  .exact .inl (fN h)
theorem uj(cell:Int)(nn:Nat)(places:!O):∀k,∀row∈eA cell nn places k,row.length<=k/\(k<=places.length->∀x∈row,x∈places)
 |0,row,h=>by let#[_,rfl]:=jG.mp h;exact#[aP _,λ_ x hx=>by cases hx]
 |k+1,row,h=>by
  let ih:=uj cell nn places k;rcases kO (show row∈List.set _ _ _ from h)with h|h
  .exact#[Nat.le_succ_of_le (ih row h).1,λhk=>(ih row h).2 ()]
  .let hg:(eA cell nn places k).getD (gN cell nn k) []=[]\/(eA cell nn places k).getD (gN cell nn k) []∈eA cell nn places k:=by
    rw[aG];cases e:(eA cell nn places k)[gN cell nn k]? with
    |none=>exact .inl Y
    |some r=>exact .inr (aH e)
   generalize(eA cell nn places k).getD _ []=g at *
   subst h;let Ub:g.length<=k/\(k<=places.length->∀x∈g,x∈places):=by
    rcases hg with rfl|hg
    .exact#[bj _,λ_ x hx=>by cases hx]
    .exact ih g hg
   refine#[by rw[yw];omega,λhk x hx=>?_];rcases OS hx with hx|rfl
   .exact Ub.2 () x hx
   .rw[aG,ao ()];exact cN _
theorem D4(cell:Int)(lines:!O)(k:Nat):uN ((lines ++ [("":O)]).map aN) (dw cell (80+k)%((lines.length:Int)+1))>>(.str (OO cell lines k))/\OO cell lines k∈lines ++ [("":O)]:=by
 let a1:0<=dw cell (80+k)%(lines.length+1):=cx _ ();let a2:dw cell (80+k)%(lines.length+1)<lines.length+1:=c6 _ ();unfold OO;generalize dw cell (80+k)%(lines.length+1)=j at *;let#[i,rfl]:=mD a1;let hi:i<(lines ++ [("":O)]).length:=by simp;omega
 let e:(lines ++ [("":O)]).getD ((i:Int)).toNat ""=(lines ++ [("":O)])[i]:=by rw[fF,aG,ao hi];rfl
 rw[e];exact#[cB (by rw[ax,ao hi];rfl),cN hi]
section
variable{K:aq}
abbrev Ndk:!O:=["_law_cell","_law_places","_law_lines","_law_names_here","_law_taken","_law_k","_law_place","_law_at","_law_desks_here","_law_name","_law_to"]
theorem Uc:bW Ndk ["_law_cell","_law_places","_law_lines"] (bt (top 48)):=by grind
def Rdk(ds es:!J):Prop:=∃(cell:Int)(places lines:!O),ds=[.int cell,jB places,jB lines]/\1<=places.length/\places.length<=12/\lines.length<=12/\es=(lX cell places lines).map dE
theorem zd6{P:bU}{w:c0}{mg:O->Option M}{base:dF}{f:U}(F:jO K "_law_desks" "_law_desks" (top 48) f fd)(n:Ng mg)(C1:bw P w K mg base 1 "_law_mix" ["_law_cell","_law_k"] (gk K FK))(C2:bw P w K mg base 2 "_law_names" ["_law_cell","_law_many"] (HJ K Rnm))(C3:bw P w K mg base 1 "_law_rule" ["_law_m","_law_many"] (gk K Rrl)):dR P w K mg base ju 3 f fd ["_law_cell","_law_places","_law_lines"] (HJ K Rdk):=
 Le F Uc (by ext) λ_ _ h=>by
  let#[cell,places,lines,rfl,h1,h12,WV,rfl]:=h;intro gj A outer s H E hr;let nd:Ndk.Nodup:=Uc.nd;let nc:(["_law_name"]:!O).Nodup:=∎;let eX:dB 1 _:=hr.mono ();let#[nn1,nn4,nnp]:=nI cell h1;unfold lX;let enn:((lW cell places.length:Nat):Int)=1+dw cell 32%(if(places.length:Int)<4 then(places.length:Int)else 4):=by unfold lW;let a1:0<=dw cell 32%(if(places.length:Int)<4 then(places.length:Int)else 4):=cx _ (by split<;>omega);omega
  generalize lW cell places.length=nn at *;let nl:=g8 (dw cell 31) nn;generalize hnm:namesOf (dw cell 31) nn=names at *;refine aD (cL 3 (d:=jB names) (VO.ve (pK C2 hr {bB C1 eX {0.,aB} #[cell,31,Y,⋯,⋯,Y],VE.to (k:=.int nn) (dM aB (cn (bB C1 eX {0.,aB} #[cell,32,Y,⋯,⋯,Y]) (gF (KQ Y) (Wc 4 (places.length:Int)) {aB,VE.to (fD 1. n.len) ∅} n.min Y) (by split<;>omega))) (by rw[enn])} #[dw cell 31,nn,Y,(),by rw[hnm]])) nd) ?_;refine qC λB0 B σ H0 Hh D fr ok=>?_;refine bT (Rn 4 (own:=["_law_name"]) (cap:=[]) (N:=["_law_name"]) (cl:=[]) (tgt:=.one 0) fr Y Y #[Y,∎,∎,Y,Y,∅] (eG 3.) (λf s3 H3=>g6 0 nc) Y (small (by rw[ae];omega)) (λd hd=>#[_,Y]) nd (λσ1 a ps H1 c7 G=>?_) (λa=>rfl));let e0:(eA cell nn places 0).map (λr=>r.map aN)=aW (names.map aN).length []:=by show(aW nn []).map _=_;rw[List.map_replicate,ae,nl];rfl
  rw[<-e0]at G;refine bT (yr (tgt:=.tup [5,6]) (λi=>LL K a ps ((eA cell nn places i).map λr=>r.map aN)) (λ_=>LL.mono) G bZ Y (nr (ds:=places.map .str) 1. n.NQ)
   (g7 Y (bS (g6 5 nd) (bS (g6 6 nd) fP))) (λi d hd=>?_) (λσ2 Ha Hb G2=>?_))
  .let#[x,hx,rfl]:=ja hd;obtain⟨hip,rfl⟩:i<places.length/\x=.str (places.getD i ""):=by
    rw[ax]at hx;cases e:places[i]? with
    |none=>rw[e]at hx;cases hx
    |some p=>rw[e]at hx;cases hx;exact#[(aF.mp e).1,by rw[aG,e];rfl]
   refine#[_,Y,Y,λD C0 σ' cY H' G q=>?_];let hR:=g_ cell nn places i;let hj:=Cz cell nn1 i;let jX:ps.length=nn:=by let#[_,_,_,_,_,z,_]:=G.ex;exact z.trans (by simp[hR])
   obtain⟨p,hp⟩:∃p,ps[gN cell nn i]?>>p:=#[ps[gN cell nn i]'(),ao _];let xU:(eA cell nn places i)[gN cell nn i]?>>((eA cell nn places i).getD (gN cell nn i) []):=by rw[aG,ao ()];rfl
   let uC:=aH xU;let hlen:=(uj cell nn places i _ uC).1;let egs:((eA cell nn places (i+1)).map λr=>r.map aN)=((eA cell nn places i).map λr=>r.map aN).set (gN cell nn i) (tj (((eA cell nn places i).getD (gN cell nn i) []).map aN) (Cy cell i ((eA cell nn places i).getD (gN cell nn i) []).length) (.str (places.getD i ""))):=by
    show(List.set _ _ _).map _=_;rw[List.map_set]
    congr 1
    unfold tj;rw[aI,av,wa,qU]
   let hgj:((eA cell nn places i).map λr=>r.map aN)[gN cell nn i]?>>(((eA cell nn places i).getD (gN cell nn i) []).map aN):=by rw[ax,xU];rfl
   rw[egs]at q
   generalize(eA cell nn places i).getD (gN cell nn i) []=row at *
   refine bT (mX LL.mono G (cL 7 5. nd) Y λσ1 Ha Hb G1=>?_);refine bT (mX LL.mono G1 (TF (o:=.nx [.val (.int cell),.val (jB places),.val (jB lines),.val (jB names),.ref a,.val (.int i),.val (.str (places.getD i "")),.val (.int (gN cell nn i)),.un,.un,.un]) (Tv 5. (fD 3. n.len)) (λhk=>?_) (λhk=>?_)) Y λσ2 Hc Hd G2=>?_)
   .let hk:¬i<nn:=by let:=qQ4 hk;rw[ae,nl]at this;omega
    let e:((gN cell nn i:Nat):Int)=dw cell (40+i)%(nn:Int):=by unfold gN;rw[qQ2 hk];let a1:0<=dw cell (40+i)%(nn:Int):=cx _ ();omega
    rw[e];exact aS (cL 7 (cn (bB C1 eX {0.,dM aB 5.} #[cell,40+(i:Int),Y,(),(),Y]) (VE.to (fD 3. n.len) (by rw[ae,nl])) ()) nd)
   .let hk:i<nn:=by let:=qQ5 hk;rw[ae,nl]at this;omega
    let e:gN cell nn i=i:=by unfold gN;rw[qQ3 hk]
    rw[e];exact a_
   let em:((Cy cell i row.length:Nat):Int)=dw cell (60+i)%((row.length:Int)+1):=by unfold Cy;let a1:0<=dw cell (60+i)%((row.length:Int)+1):=cx _ ();omega
   refine bK (Lr G2 4 (j:=gN cell nn i) (p:=p) (ds:=row.map .str) Y 7. hp hgj (VE.to (cn (bB C1 eX {0.,dM aB 5.} #[cell,60+(i:Int),Y,(),(),Y]) (dM (fD (ds:=row.map .str) (fU 4. 7. (cB (by rw[ax,hgj];rfl))) n.len) aB) ()) (by rw[em,ae])) ([ae]▸OQ _ _ _) 6. (fh (by rw[ae];omega)) (λσ6 Hk Hl G6=>?_));exact q _ _ _ (G6.forget LL.mono #[.inr Y,.inr Y,.inr Y,.inr Y,.inr Y,.inl Y,.inl Y,.inl Y,.inr Y,.inr Y,.inr Y,trivial] Y)
  .refine Wn G2 (ig:=4) Y LL.rep ?_ (λHx _=>sV.ret Y Y ok);rw[dC,ae];let tl:=g_ cell nn places places.length;let tr:=uj cell nn places places.length;generalize eA cell nn places places.length=taken at *;refine aD (iT 8 (dQ cO) nd) ?_;refine aD (k7 (tgt:=.tup [5,9]) bZ Y (nr (ds:=names.map .str) 3. n.NQ)
    (g7 Y (bS (g6 5 nd) (bS (g6 9 nd) fP))) (λi=>[.val (.int cell),.val (jB places),.val (jB lines),.val (jB names),.val _,.un,.un,.un,.own (((cF i).map (Il cell names lines taken)).map dE),.un,.un]) nn Y ([dC,ae,nl]▸aP _) (λi d hi hd=>?_) (.inl #[by rw[dC,ae,nl],Y])) (aS (DH 8 Y));let#[x,hx,rfl]:=ja hd;obtain rfl:x=.str (names.getD i ""):=by
    rw[ax,ao ()]at hx;cases hx;rw[aG,ao ()];rfl
   let xU:taken[i]?>>(taken.getD i []):=by rw[aG,ao ()];rfl
   let Z2:=(tr _ (aH xU)).1;let#[ht,_]:=D4 cell lines i;let lo:=zB cell (90+i);let XH:=RN cell (90+i);refine#[_,Y,?_];refine aD (cL 10 (fU (VE.to (VO.ve (lO (d1:=lines.map .str) (d2:=[.str ""]) 2. (VO.ve (dQ (cR aQ cO))) (small (by simp;omega)))) (by rw[aI];rfl)) (VE.to (cn (bB C1 eX {0.,dM aB 5.} #[cell,80+(i:Int),Y,(),(),Y]) (dM (fD 2. n.len) aB) ()) (by rw[ae])) ht) nd) ?_;refine gW (aS (jH 8 Y (d:=dE (Il cell names lines taken i)) (fc {9.,10.,?_,?_}) (fh (by simp only[ae,eS];omega)))) #[.inr Y,.inr Y,.inr Y,.inr Y,.inr Y,.inl Y,.inl Y,.inl Y,.inr ?_,.inl Y,.inl Y,trivial]
   .exact bB C3 eX {bB C1 eX {0.,dM aB 5.} #[cell,90+(i:Int),Y,(),(),Y],fD (fU 4. 5. (cB (by rw[ax,ax,xU];rfl))) n.len} #[dw cell (90+i),(taken.getD i []).length,by rw[ae],(),(),(),Y]
   .exact kz kP wz {fU 4. 5. (cB (by rw[ax,ax,xU];rfl))} n.tup Y
   .rw[sD,aI,aI];rfl
end
def qj(ns:!Int):Int:=ns.getD 0 0
def gq(ns:!Int):Int:=ns.getD 1 0
def pq(ns:!Int):Int:=ns.getD 2 0
def uX(p:O×Option Int):J:=.tuple [.str p.1,sk p.2]
def vH(m:Int):Option Int:=if m%3=2 then some (1+m/3%30)else none
def kindAt(a:Int)(names:!O)(k:Nat):O×Option Int:=(names.getD k "",vH (dw a (10+k)))
def kT(a:Int):Nat:=(1+dw a 1%4).toNat
def rB(a:Int):!(O×Option Int):=(cF (kT a)).map (kindAt a (namesOf a (kT a)))
def jl(b:Int):Nat:=(1+dw b 2%3).toNat
def placesOf(b:Int):!O:=namesOf (dw b 4) (jl b+(dw b 5%4).toNat)
def qc(b:Int)(n:Nat):Nat:=(dw b 6%n).toNat
def orderOf(b:Int):!O:=(placesOf b).drop (qc b (placesOf b).length)++(placesOf b).take (qc b (placesOf b).length)
def lY(b:Int):!O:=(placesOf b).take (jl b)
def linesOf(b:Int):!O:=(placesOf b).drop (jl b)
def lZ(iH:!Dk)(name:O):!Int:=iH.filterMap λd=>if decide (d.to=name)=true then some (jx d.rule d.places.length)else none
def maxOf(l:!Int):Int:=l.foldl (λm z=>if m<z then z else m) 1
def roomAt(b:Int)(iH:!Dk)(lines:!O)(k:Nat):O×Int:=(lines.getD k "",maxOf (lZ iH (lines.getD k ""))+dw b (20+k)%3)
def CB(p:O×Int):J:=.tuple [.str p.1,.int p.2]
def Az(p:O×O×Int):J:=.tuple [.str p.1,.str p.2.1,.int p.2.2]
def CD(p:O×Int×Int):J:=.tuple [.str p.1,.int p.2.1,.int p.2.2]
def vI(m:Int)(dn:O)(p:(O×Option Int)×Nat):Option (O×O×Int):=if decide (0<m/((p.2:Int)+7)%3)=true then some (dn,p.1.1,1+m/((p.2:Int)*p.2+2)%6)else none
def gR(m:Int)(dn:O)(kinds:!(O×Option Int))(j:Nat):!(O×O×Int):=(kinds.zipIdx.take j).filterMap (vI m dn)
def kU(m:Int)(dn:O):!(O×Int×Int):=if m/5%4=0 then [(dn,m/20%9,9+m/180%20),(dn,25+m/3600%20,50+m/72000%40)]else []
def hU(c:Int)(iH:!Dk)(kinds:!(O×Option Int))(i:Nat):!(O×O×Int):=(iH.zipIdx.take i).flatMap λp=>gR (dw c (110+p.2)) p.1.name kinds kinds.length
def jQ(c:Int)(iH:!Dk)(i:Nat):!(O×Int×Int):=(iH.zipIdx.take i).flatMap λp=>kU (dw c (110+p.2)) p.1.name
structure Pl where
 kinds:!(O×Option Int)
 gates:!O
 lines:!(O×Int)
 desks:!Dk
 times:!(O×O×Int)
 hours:!(O×Int×Int)
abbrev gZ(ns:!Int):!O:=linesOf (gq ns)
abbrev qd(ns:!Int):!O:=orderOf (gq ns)
abbrev iP(ns:!Int):!Dk:=lX (pq ns) (qd ns) (gZ ns)
abbrev jC(ns:!Int):!(O×Option Int):=rB (qj ns)
def eC(ns:!Int):Pl:=
 let kds:=rB (qj ns)
 let lns:=linesOf (gq ns)
 let iH:=lX (pq ns) (orderOf (gq ns)) lns
 #[kds,lY (gq ns),(cF lns.length).map (roomAt (gq ns) iH lns),iH,hU (pq ns) iH kds iH.length,jQ (pq ns) iH iH.length]
def oq(p:Pl):!(O×J):=[("kinds",.list (p.kinds.map uX)),("gates",jB p.gates),("lines",.list (p.lines.map CB)),("desks",.list (p.desks.map dE)),("times",.list (p.times.map Az)),("hours",.list (p.hours.map CD)),("paces",.list [])]
def gG(p:Pl):J:=iO (oq p)
theorem rC(l:!Int):maxOf l∈(1::l)/\∀z∈(1::l),z<=maxOf l:=by
 let go:∀(l:!Int)(m0:Int),(l.foldl (λm z=>if m<z then z else m) m0)∈m0::l/\∀z∈m0::l,z<=l.foldl (λm z=>if m<z then z else m) m0:=by
  intro l;induction l with
  |nil=>intro m0;exact#[aJ,λz hz=>by simp at hz;rw[hz];exact vj _]
  |cons x l ih=>
   intro m0;let#[h1,h2]:=ih (if m0<x then x else m0);rw[lF];refine#[?_,λz hz=>?_]
   .rcases au.mp h1 with h|h
    .rw[h];split<;>simp
    .exact ay _ (ay _ h)
   .let hm:=h2 _ aJ;rcases au.mp hz with rfl|hz
    .refine sE ?_ hm;split<;>omega
    .rcases au.mp hz with rfl|hz
     .refine sE ?_ hm;split<;>omega
     .exact h2 z (ay _ hz)
 exact go l 1
theorem uY(h:kinds[j]?>>p):gR m dn kinds (j+1)=gR m dn kinds j++(vI m dn (p,j)).toList:=by
 unfold gR;rw[bO,kD,h];simp;cases e:vI m dn (p,j) with
 |none=>rw[dS e];rfl
 |some r=>rw[cI e];rfl
theorem tF(m:Int)(dn:O)(kinds:!(O×Option Int))(j:Nat):(gR m dn kinds j).length<=j:=by exact bA (iQ _ _) (by rw[a9];omega)
theorem rD{c:Int}{d:Dk}(h:iH[i]?>>d):hU c iH kinds (i+1)=hU c iH kinds i++gR (dw c (110+i)) d.name kinds kinds.length:=by unfold hU;rw[bO,kD,h];simp
theorem wL{c:Int}{d:Dk}(h:iH[i]?>>d):jQ c iH (i+1)=jQ c iH i++kU (dw c (110+i)) d.name:=by unfold jQ;rw[bO,kD,h];simp
theorem FL(m:Int)(dn:O):(kU m dn).length<=2:=by unfold kU;split<;>simp
theorem rE(c:Int)(iH:!Dk)(kinds:!(O×Option Int))(hk:kinds.length<=4):∀i,i<=iH.length->(hU c iH kinds i).length<=4*i
 |0,_=>by simp[hU]
 |i+1,h=>by let ih:=rE c iH kinds hk i ();let:=tF (dw c (110+i)) iH[i].name kinds kinds.length;rw[rD (ao ()),aR];omega
theorem rF(c:Int)(iH:!Dk):∀i,i<=iH.length->(jQ c iH i).length<=2*i
 |0,_=>by simp[jQ]
 |i+1,h=>by let ih:=rF c iH i ();let:=FL (dw c (110+i)) iH[i].name;rw[wL (ao ()),aR];omega
theorem nJ(a:Int):1<=kT a/\kT a<=4:=by unfold kT;omega
theorem kf(b:Int):1<=jl b/\jl b<=3:=by unfold jl;omega
theorem uZ(b:Int):(placesOf b).length=jl b+(dw b 5%4).toNat:=g8 _ _
theorem mh(b:Int):jl b<=(placesOf b).length/\(placesOf b).length<=6:=by let:=kf b;rw[uZ];omega
theorem uk(b:Int)(h:1<=n):qc b n<n:=by unfold qc;let a2:dw b 6%n<n:=c6 _ ();omega
theorem rG(cell:Int)(places lines:!O):(lX cell places lines).length=lW cell places.length:=by simp[lX]
theorem RT(m:Int):uN [J.none,.none,.int (1+m/3%30)] (m%3)>>(sk (vH m)):=by unfold vH;rcases(by omega:m%3=0\/m%3=1\/m%3=2)with e|e|e<;>rw[e]<;>rfl
def CF(r:J)(n:Nat):Int:=match r with
 | .tuple [.str w,.int m]=>if w="many" then m else 1
 | .tuple [.str w,.int m,_]=>if w="gather" then m else 1
 | .tuple [.str w]=>if w="meet" then n else 1
 |_=>1
theorem D5(r:Rl)(n:Nat):CF (ML r) n=jx r n:=by
 cases r with
 |rank b=>cases b<;>rfl
 |_=>rfl
def Kf(name:O):J->Option J
 | .tuple [_,.str to,r,.tuple ps]=>if decide (to=name)=true then some (.int (CF r ps.length))else none
 |_=>none
theorem vJ(name:O)(d:Dk):Kf name (dE d)=(if decide (d.to=name)=true then some (.int (jx d.rule d.places.length))else none):=by show(if decide (d.to=name)=true then some (dq _)else none)=_;rw[D5,ae]
theorem LK(name:O)(iH:!Dk):(iH.map dE).filterMap (Kf name)=(lZ iH name).map .int:=by
 unfold lZ;rw[bX,List.map_filterMap]
 congr 1
 funext d;show Kf name _=_;rw[vJ];split<;>rfl
section
abbrev Npl:!O:=["_law_script","_law_a","_law_b","_law_c","_law_kinds","_law_k","_law_name","_law_m","_law_many","_law_places","_law_gates","_law_lines","_law_order","_law_desks_here","_law_rooms","_law_loads","_law_times","_law_hours","_law_desk_here","_law_j","_law_kind"]
theorem Ud:bW Npl ["_law_script"] (bt (top 49)):=by grind
def Rpl(ds:!J)(d:J):Prop:=∃ns:!Int,ds=[oQ ns]/\d=gG (eC ns)
end
theorem pN{α β:Type}(g:α->β)(l:!α)(lo hi:Option Int):L2.cutD (l.map g) lo hi=(L2.cutD l lo hi).map g:=by unfold L2.cutD;rw[ae,wa,qU]
theorem mj{α:Type}(l:!α)(n:Nat):L2.cutD l (some (n:Int)) none=l.drop n:=by
 unfold L2.cutD;rw[HT.q_,HT.EY];by_cases h:n<=l.length
 .rw[iL h,da (by rw[cX];omega)]
 .rw[Nat.min_eq_right (),su (),su ()];simp
section
variable{K:aq}
theorem zd8{P:bU}{w:c0}{mg:O->Option M}{base:dF}{f:U}(F:jO K "_law_plant" "_law_plant" (top 49) f fd)(n:Ng mg)(C0:bw P w K mg base 1 "_law_cell_at" ["_law_script","_law_k"] (gk K Ke))(C1:bw P w K mg base 1 "_law_mix" ["_law_cell","_law_k"] (gk K FK))(C2:bw P w K mg base 2 "_law_names" ["_law_cell","_law_many"] (HJ K Rnm))(C3:bw P w K mg base 1 "_law_greatest" ["_law_rule_here","_law_many"] (gk K Rgr))(C4:bw P w K mg base 3 "_law_desks" ["_law_cell","_law_places","_law_lines"] (HJ K Rdk)):dR P w K mg base ju 4 f fd ["_law_script"] (gk K Rpl):=
 ik F Ud (by ext) λ_ _ h=>by
  let#[ns,rfl,rfl]:=h;intro gj A outer s H E hr;let nd:Npl.Nodup:=Ud.nd;let eX:dB 1 _:=hr.mono ();let Qk:dB 2 _:=hr.mono ();let e0:eC ns=#[(jC ns),(placesOf (gq ns)).take (jl (gq ns)),((cF (gZ ns).length).map (roomAt (gq ns) (iP ns) (gZ ns))),(iP ns),hU (pq ns) (iP ns) (jC ns) (iP ns).length,jQ (pq ns) (iP ns) (iP ns).length]:=Y;rw[e0];let#[k1,k4]:=nJ (qj ns);let knl:(namesOf (qj ns) (kT (qj ns))).length=kT (qj ns):=g8 _ _;let hkd:(cF (kT (qj ns))).map (kindAt (qj ns) (namesOf (qj ns) (kT (qj ns))))=(jC ns):=Y;let XI:(jC ns).length=kT (qj ns):=by simp[rB]
  let#[g1,g3]:=kf (gq ns);let#[p1,p6]:=mh (gq ns);let pl:=uZ (gq ns);let WV:(placesOf (gq ns)).drop (jl (gq ns))=(gZ ns):=Y;let OU:(gZ ns).length<=6:=by rw[<-WV,cX];omega
  let hor:(placesOf (gq ns)).drop (qc (gq ns) (placesOf (gq ns)).length)++(placesOf (gq ns)).take (qc (gq ns) (placesOf (gq ns)).length)=(qd ns):=Y;let Qh:(qd ns).length=(placesOf (gq ns)).length:=by rw[<-hor,aR,cX,a9];let:=uk (gq ns) (n:=(placesOf (gq ns)).length) ();omega
  let NX:(iP ns).length<=4:=[rG]▸(nI (pq ns) ()).2.1;let ek:((kT (qj ns):Nat):Int)=1+dw (qj ns) 1%4:=by unfold kT;let a1:0<=dw (qj ns) 1%4:=cx _ ();omega
  let eg:(((jl (gq ns)):Nat):Int)=1+dw (gq ns) 2%3:=by unfold jl;let a1:0<=dw (gq ns) 2%3:=cx _ ();omega
  let ep:((((jl (gq ns))+(dw (gq ns) 5%4).toNat:Nat)):Int)=((jl (gq ns)):Int)+dw (gq ns) 5%4:=by let a1:0<=dw (gq ns) 5%4:=cx _ ();omega
  let et:((qc (gq ns) (placesOf (gq ns)).length:Nat):Int)=dw (gq ns) 6%((placesOf (gq ns)).length:Int):=by unfold qc;let a1:0<=dw (gq ns) 6%((placesOf (gq ns)).length:Int):=cx _ ();omega
  refine aD (Ri 1 2 3 (d1:=.int (qj ns)) (d2:=.int (gq ns)) (d3:=.int (pq ns)) (bB C0 eX {0.,aB} #[ns,0,Y,Y]) (bB C0 eX {0.,aB} #[ns,1,Y,Y]) (bB C0 eX {0.,aB} #[ns,2,Y,Y]) Y nd ⋯ ⋯ ⋯) ?_;refine aD (iT 4 (dQ cO) nd) ?_;refine aD (k7 (tgt:=.tup [5,6]) bZ Y (nr (VO.ve (pK C2 Qk {1.,VE.to (k:=.int (kT (qj ns):Nat)) (dM aB (cn (bB C1 eX {1.,aB} #[qj ns,1,Y,by first|decide|omega,by first|decide|omega,Y]) aB ⋯)) (by rw[ek])} #[qj ns,kT (qj ns),Y,(),Y])) n.NQ)
   (g7 Y (bS (g6 5 nd) (bS (g6 6 nd) (fP)))) (λi=>[.val (oQ ns),.val (.int (qj ns)),.val (.int (gq ns)),.val (.int (pq ns)),.own (((cF (i)).map (kindAt (qj ns) (namesOf (qj ns) (kT (qj ns))))).map uX),.un,.un,.un,.un,.un,.un,.un,.un,.un,.un,.un,.un,.un,.un,.un,.un]) (kT (qj ns)) Y ([dC,ae,knl]▸aP _) (λi d hi hd=>?_) (.inl #[by rw[dC,ae,knl],Y])) ?_
  .let#[x,hx,rfl]:=ja hd;obtain rfl:x=.str ((namesOf (qj ns) (kT (qj ns))).getD i ""):=by rw[ax,ao ()]at hx;cases hx;rw[aG,ao ()];rfl
   refine#[_,Y,?_];refine aD (cL 7 (d:=.int (dw (qj ns) (10+i))) (bB C1 eX {1.,dM aB 5.} #[qj ns,10+(i:Int),Y,by first|decide|omega,by first|decide|omega,Y]) nd) ?_;refine gW (aS (jH 4 Y (fc {6.,fU (VO.ve (dQ {eD,eD,dM aB (cn (eE 7. aB #[⋯,⋯]) aB ⋯)})) (cn 7. aB ⋯) (RT _)}) (fh (by simp only[ae,eS];omega)))) #[.inr Y,.inr Y,.inr Y,.inr Y,.inr ?_,.inl Y,.inl Y,.inl Y,.inl Y,.inl Y,.inl Y,.inl Y,.inl Y,.inl Y,.inl Y,.inl Y,.inl Y,.inl Y,.inl Y,.inl Y,.inl Y,trivial];rw[sD,aI,aI];rfl
  rw[hkd];refine eJ 4 Y ?_;refine aD (cL 8 (d:=.int ((jl (gq ns)):Nat)) (VE.to (dM aB (cn (bB C1 eX {2.,aB} #[gq ns,2,Y,by first|decide|omega,by first|decide|omega,Y]) aB ⋯)) (by rw[eg])) nd) ?_;refine aD (cL 9 (d:=jB (placesOf (gq ns))) (VO.ve (pK C2 Qk {bB C1 eX {2.,aB} #[gq ns,4,Y,by first|decide|omega,by first|decide|omega,Y],VE.to (dM 8. (cn (bB C1 eX {2.,aB} #[gq ns,5,Y,by first|decide|omega,by first|decide|omega,Y]) aB ⋯)) (by rw[ep])} #[dw (gq ns) 4,(jl (gq ns))+(dw (gq ns) 5%4).toNat,Y,(),Y])) nd) ?_;refine aD (NP 10 11 (d1:=jB ((placesOf (gq ns)).take (jl (gq ns)))) (d2:=jB (gZ ns)) (VE.to (VO.ve (gE (ds:=(placesOf (gq ns)).map .str) 9. .no (.yes 8.))) (by rw[pN,sW];rfl)) (VE.to (VO.ve (gE (ds:=(placesOf (gq ns)).map .str) 9. (.yes 8.) .no)) (by rw[pN,mj];rfl)) Y nd ⋯) ?_;refine aD (cL 12 (d:=jB (qd ns)) (VE.to (VO.ve (lO (VO.ve (VO.to (gE (ds:=(placesOf (gq ns)).map .str) 9. (.yes (VE.to (k:=.int (qc (gq ns) (placesOf (gq ns)).length:Nat)) (cn (bB C1 eX {2.,aB} #[gq ns,6,Y,by first|decide|omega,by first|decide|omega,Y]) (fD (ds:=(placesOf (gq ns)).map .str) 9. n.len) (by rw[ae];omega)) (by rw[et,ae]))) .no) (by rw[pN,mj]))) (VO.ve (VO.to (gE (ds:=(placesOf (gq ns)).map .str) 9. .no (.yes (VE.to (k:=.int (qc (gq ns) (placesOf (gq ns)).length:Nat)) (cn (bB C1 eX {2.,aB} #[gq ns,6,Y,by first|decide|omega,by first|decide|omega,Y]) (fD (ds:=(placesOf (gq ns)).map .str) 9. n.len) (by rw[ae];omega)) (by rw[et,ae])))) (by rw[pN,sW]))) (small (by simp only[ae,cX,a9];omega)))) (by rw[<-aI,hor];rfl)) nd) ?_;refine aD (cL 13 (d:=.list ((iP ns).map dE)) (VO.ve (pK C4 hr {3.,12.,11.} #[pq ns,(qd ns),(gZ ns),Y,(),(),(),Y])) nd) ?_;refine aD (iT 14 (dQ cO) nd) ?_;let Im:∀d∈(iP ns),om d.to:=λd hd=>by
   let#[j,_,rfl]:=ai.mp hd;let hm:=(D4 (pq ns) (gZ ns) j).2;rcases aT.mp hm with hm|hm
   .exact(k9 (fN hm)).ok.2
   .show om (OO (pq ns) (gZ ns) j);rw[aK.mp hm];show cj (.str ("":O))=true;symm
  refine aD (k7 (tgt:=.tup [5,6]) bZ Y (nr (ds:=(gZ ns).map .str) 11. n.NQ)
   (g7 Y (bS (g6 5 nd) (bS (g6 6 nd) (fP)))) (λi=>[.val (oQ ns),.val (.int (qj ns)),.val (.int (gq ns)),.val (.int (pq ns)),.val (.list ((jC ns).map uX)),.un,.un,.un,.val (.int (jl (gq ns))),.val (jB (placesOf (gq ns))),.val (jB ((placesOf (gq ns)).take (jl (gq ns)))),.val (jB (gZ ns)),.val (jB (qd ns)),.val (.list ((iP ns).map dE)),.own (((cF (i)).map (roomAt (gq ns) (iP ns) (gZ ns))).map CB),.un,.un,.un,.un,.un,.un]) (gZ ns).length Y ([dC,ae]▸aP _) (λi d hi hd=>?_) (.inl #[by rw[dC,ae],Y])) ?_
  .let#[x,hx,rfl]:=ja hd;obtain⟨rfl,uC⟩:x=.str ((gZ ns).getD i "")/\(gZ ns).getD i ""∈(gZ ns):=by rw[ax,ao ()]at hx;cases hx;rw[aG,ao ()];exact#[Y,cN _]
   let nc:(["_law_desk_here","_law_name"]:!O).Nodup:=∎;let hlo:(lZ (iP ns) ((gZ ns).getD i "")).length<=4:=bA (iQ _ _) NX;refine#[_,Y,?_];refine aD (zv 15 (own:=["_law_desk_here"]) (cap:=[6]) (N:=["_law_desk_here","_law_name"]) (tgt:=.one 0) (F:=Kf ((gZ ns).getD i "")) (ds:=(iP ns).map dE) Y #[Y,∎,∎,Y,Y,?_] (eG 13.) (λf s3 H3=>g6 0 nc) Y (small (by rw[ae];omega)) (λd hd=>?_) nd) ?_
   .intro j hj;rcases au.mp hj with rfl|hj
    .exact#[(by show(6:Nat)<21;decide),mB Y,Y]
    .cases hj
   .let#[dk,EB,rfl]:=ai.mp hd;refine#[_,Y,λf s3 H3=>?_,λr kL f s3 H3=>?_]
    .refine pJ (VT.to (fB (k:=1) eX (bo (Im dk EB)) (bo ((k9 (fN (show(gZ ns).getD i ""∈(placesOf (gq ns)).drop (jl (gq ns))from uC))).ok.2)) (di 0. aB Y) 1.) ?_);rw[vJ,bG];by_cases h:dk.to=(gZ ns).getD i ""
     .rw[qQ1 h,qQ3 Y];rfl
     .rw[qQ0 h,qQ2 ia];rfl
    .rw[vJ]at kL;split at kL
     .cases kL;exact bB C3 eX {di 0. aB Y,iS (ds:=dk.places.map .str) (di 0. aB Y) n.len} #[dk.rule,dk.places.length,by rw[ae],Y]
     .cases kL
   refine eJ 15 Y ?_;rw[LK];let#[Z3,Z4]:=rC (lZ (iP ns) ((gZ ns).getD i ""));refine gW (aS (jH 14 Y (fc {6.,dM (gF (xJ Y) (NM Z3 Z4) {VO.ve (lO (d1:=[.int 1]) (VO.ve (dQ (ds:=[.int 1]) (cR aB cO))) 15. (small (by simp only[ae,a8,dP];omega)))} n.max Y) (cn (bB C1 eX {2.,dM aB 5.} #[gq ns,20+(i:Int),Y,by first|decide|omega,by first|decide|omega,Y]) aB ⋯)}) (fh (by simp only[ae,eS];omega)))) #[.inr Y,.inr Y,.inr Y,.inr Y,.inr Y,.inl Y,.inl Y,.inl Y,.inr Y,.inr Y,.inr Y,.inr Y,.inr Y,.inr Y,.inr ?_,.inl Y,.inl Y,.inl Y,.inl Y,.inl Y,.inl Y,trivial];rw[sD,aI,aI];rfl
  refine eJ 14 Y ?_;refine aD (Rg 16 17 (dQ cO) (dQ cO) Y nd ⋯) ?_;refine aD (k7 (tgt:=.tup [5,18]) bZ Y (nr (ds:=(iP ns).map dE) 13. n.NQ)
   (g7 Y (bS (g6 5 nd) (bS (g6 18 nd) (fP)))) (λi=>[.val (oQ ns),.val (.int (qj ns)),.val (.int (gq ns)),.val (.int (pq ns)),.val (.list ((jC ns).map uX)),.un,.un,.un,.val (.int (jl (gq ns))),.val (jB (placesOf (gq ns))),.val (jB ((placesOf (gq ns)).take (jl (gq ns)))),.val (jB (gZ ns)),.val (jB (qd ns)),.val (.list ((iP ns).map dE)),.val _,.un,.own ((hU (pq ns) (iP ns) (jC ns) (i)).map Az),.own ((jQ (pq ns) (iP ns) (i)).map CD),.un,.un,.un]) (iP ns).length Y ([dC,ae]▸aP _) (λi d hi hd=>?_) (.inl #[by rw[dC,ae],Y])) ?_
  .let#[x,hx,rfl]:=ja hd;obtain⟨dk,EB,rfl⟩:∃dk,(iP ns)[i]?>>dk/\x=dE dk:=by rw[ax,ao ()]at hx;cases hx;exact#[_,ao (),Y]
   refine#[_,Y,?_];refine aD (cL 7 (d:=.int (dw (pq ns) (110+i))) (bB C1 eX {3.,dM aB 5.} #[pq ns,110+(i:Int),Y,by first|decide|omega,by first|decide|omega,Y]) nd) ?_;let tsu:=rD (c:=pq ns) (kinds:=(jC ns)) EB;let hsu:=wL (c:=pq ns) EB;let tle:=rE (pq ns) (iP ns) (jC ns) () i ();let hle:=rF (pq ns) (iP ns) i ();rw[tsu,hsu];let m0:=zB (pq ns) (110+i);generalize dw (pq ns) (110+i)=m at *;refine aD (k7 (tgt:=.tup [19,20]) bZ Y (nr (ds:=(jC ns).map uX) 4. n.NQ)
    (g7 Y (bS (g6 19 nd) (bS (g6 20 nd) (fP)))) (λj=>[.val (oQ ns),.val (.int (qj ns)),.val (.int (gq ns)),.val (.int (pq ns)),.val (.list ((jC ns).map uX)),.val (.int i),.un,.val (.int m),.val (.int (jl (gq ns))),.val (jB (placesOf (gq ns))),.val (jB ((placesOf (gq ns)).take (jl (gq ns)))),.val (jB (gZ ns)),.val (jB (qd ns)),.val (.list ((iP ns).map dE)),.val _,.un,.own ((hU (pq ns) (iP ns) (jC ns) i++gR m dk.name (jC ns) (j)).map Az),.own ((jQ (pq ns) (iP ns) (i)).map CD),.val (dE dk),.un,.un]) (jC ns).length (by show([.val (oQ ns),.val (.int (qj ns)),.val (.int (gq ns)),.val (.int (pq ns)),.val (.list ((jC ns).map uX)),.val (.int i),.un,.val (.int m),.val (.int (jl (gq ns))),.val (jB (placesOf (gq ns))),.val (jB ((placesOf (gq ns)).take (jl (gq ns)))),.val (jB (gZ ns)),.val (jB (qd ns)),.val (.list ((iP ns).map dE)),.val _,.un,.own ((hU (pq ns) (iP ns) (jC ns) i++gR m dk.name (jC ns) (0)).map Az),.own ((jQ (pq ns) (iP ns) (i)).map CD),.val (dE dk),.un,.un]:!Slot)=_;rw[show gR m dk.name (jC ns) 0=[]from Y,cA];rfl) ([dC,ae]▸aP _) (λj d hj hd=>?_) (.inl #[by rw[dC,ae],Y])) ?_
   .let#[x,hx,rfl]:=ja hd;obtain⟨kd,zd9,rfl⟩:∃kd,(jC ns)[j]?>>kd/\x=uX kd:=by rw[ax,ao ()]at hx;cases hx;exact#[_,ao (),Y]
    let rle:=tF m dk.name (jC ns) j;let jj0:(0:Int)<=(j:Int)*j:=Int.mul_nonneg () ();let jj1:(j:Int)*j<=60*60:=Int.mul_le_mul () () () ();refine#[_,Y,?_];rw[uY zd9];by_cases ht:decide (0<m/((j:Int)+7)%3)=true
    .let et:vI m dk.name (kd,j)>>(dk.name,kd.1,1+m/((j:Int)*j+2)%6):=by show(if _ then _ else _)=_;rw[qQ3 ht]
     rw[et];refine gW (aS (dm (VT.to (Ca (cn (eE 7. (dM 19. aB) #[(),()]) aB ⋯) aB) ht) (aS (jH 16 Y (fc {di 18. aB Y,di 20. aB Y,dM aB (cn (eE 7. (dM (sP 19. 19. (.inl #[(),()])) aB) #[(),()]) aB ⋯)}) (fh (by simp only[ae,aR];omega)))))) #[.inr Y,.inr Y,.inr Y,.inr Y,.inr Y,.inr Y,.inl Y,.inr Y,.inr Y,.inr Y,.inr Y,.inr Y,.inr Y,.inr Y,.inr Y,.inl Y,.inr ?_,.inr Y,.inr Y,.inl Y,.inl Y,trivial];rw[<-cw,aI (l₂:=Option.toList _)];rfl
    .let et:vI m dk.name (kd,j)=none:=by show(if _ then _ else _)=_;rw[qQ2 ht]
     rw[et];refine gW (aS (bE (VT.to (Ca (cn (eE 7. (dM 19. aB) #[(),()]) aB ⋯) aB) ↑ht) a_)) #[.inr Y,.inr Y,.inr Y,.inr Y,.inr Y,.inr Y,.inl Y,.inr Y,.inr Y,.inr Y,.inr Y,.inr Y,.inr Y,.inr Y,.inr Y,.inl Y,.inr ?_,.inr Y,.inr Y,.inl Y,.inl Y,trivial];rw[oZ,cA]
   let rle:=tF m dk.name (jC ns) (jC ns).length;let e5:cV (.int (m/5%4)) (.int 0)=decide (m/5%4=0):=jw _ _;by_cases h5:m/5%4=0
   .let eh:kU m dk.name=[(dk.name,m/20%9,9+m/180%20),(dk.name,25+m/3600%20,50+m/72000%40)]:=by unfold kU;rw[qQ3 h5]
    rw[eh];refine gW (aS (dm (VT.to (fB (k:=1) eX (bJ 20 _) (bJ 20 _) (cn (eE 7. aB #[⋯,⋯]) aB ⋯) aB) (by rw[e5,qQ1 h5])) (aD (jH 17 Y (fc {di 18. aB Y,cn (eE 7. aB #[⋯,⋯]) aB ⋯,dM aB (cn (eE 7. aB #[⋯,⋯]) aB ⋯)}) (fh (by simp only[ae];omega))) (aS (jH 17 Y (fc {di 18. aB Y,dM aB (cn (eE 7. aB #[⋯,⋯]) aB ⋯),dM aB (cn (eE 7. aB #[⋯,⋯]) aB ⋯)}) (fh (by simp;omega))))))) #[.inr Y,.inr Y,.inr Y,.inr Y,.inr Y,.inl Y,.inl Y,.inl Y,.inr Y,.inr Y,.inr Y,.inr Y,.inr Y,.inr Y,.inr Y,.inl Y,.inr Y,.inr ?_,.inl Y,.inl Y,.inl Y,trivial];rw[aI (l₂:=[_,_]),cw];rfl
   .let eh:kU m dk.name=[]:=by unfold kU;rw[qQ2 h5]
    rw[eh,cA];exact gW (aS (bE (VT.to (fB (k:=1) eX (bJ 20 _) (bJ 20 _) (cn (eE 7. aB #[⋯,⋯]) aB ⋯) aB) (by rw[e5,qQ0 h5])) a_)) #[.inr Y,.inr Y,.inr Y,.inr Y,.inr Y,.inl Y,.inl Y,.inl Y,.inr Y,.inr Y,.inr Y,.inr Y,.inr Y,.inr Y,.inr Y,.inl Y,.inr Y,.inr Y,.inl Y,.inl Y,.inl Y,trivial]
  refine eJ 16 Y ?_;refine eJ 17 Y ?_;refine aS (bL (J4 (.cons aQ 4. (.cons aQ 10. (.cons aQ 14. (.cons aQ 13. (.cons aQ 16. (.cons aQ 17. (.cons aQ (VO.ve (dQ cO)) .nil))))))) (show([("kinds":O),"gates","lines","desks","times","hours","paces"]).Nodup by symm) (by simp[oq]) (by show 7<=15;decide)))
end
end Mg
namespace Mg
open L2 PySem PyProof.Rows
theorem AA(p:Pl):gJ (oq p) "kinds"=some (.list (p.kinds.map uX)):=fE Y
theorem tG(p:Pl):gJ (oq p) "gates"=some (jB p.gates):=(cQ (show ¬(("kinds":O)="gates") by symm)).trans (fE Y)
theorem wM(p:Pl):gJ (oq p) "lines"=some (.list (p.lines.map CB)):=(cQ (show ¬(("kinds":O)="lines") by symm)).trans ((cQ (show ¬(("gates":O)="lines") by symm)).trans (fE Y))
theorem tH(p:Pl):gJ (oq p) "desks"=some (.list (p.desks.map dE)):=(cQ (show ¬(("kinds":O)="desks") by symm)).trans ((cQ (show ¬(("gates":O)="desks") by symm)).trans ((cQ (show ¬(("lines":O)="desks") by symm)).trans (fE Y)))
theorem FN(p:Pl):gJ (oq p) "times"=some (.list (p.times.map Az)):=(cQ (show ¬(("kinds":O)="times") by symm)).trans ((cQ (show ¬(("gates":O)="times") by symm)).trans ((cQ (show ¬(("lines":O)="times") by symm)).trans ((cQ (show ¬(("desks":O)="times") by symm)).trans (fE Y))))
theorem OV(p:Pl):gJ (oq p) "hours"=some (.list (p.hours.map CD)):=(cQ (show ¬(("kinds":O)="hours") by symm)).trans ((cQ (show ¬(("gates":O)="hours") by symm)).trans ((cQ (show ¬(("lines":O)="hours") by symm)).trans ((cQ (show ¬(("desks":O)="hours") by symm)).trans ((cQ (show ¬(("times":O)="hours") by symm)).trans (fE Y)))))
theorem OW(p:Pl):gJ (oq p) "paces"=some (.list []):=(cQ (show ¬(("kinds":O)="paces") by symm)).trans ((cQ (show ¬(("gates":O)="paces") by symm)).trans ((cQ (show ¬(("lines":O)="paces") by symm)).trans ((cQ (show ¬(("desks":O)="paces") by symm)).trans ((cQ (show ¬(("times":O)="paces") by symm)).trans ((cQ (show ¬(("hours":O)="paces") by symm)).trans (fE Y))))))
def pickOf{α:Type}(l:!α)(d:α)(j:Int):α:=l.getD (j%l.length).toNat d
theorem iV{α:Type}{l:!α}{d:α}{F:α->J}(h:1<=l.length)(j:Int):uN (l.map F) (j%(l.length:Int))>>(F (pickOf l d j))/\pickOf l d j∈l:=by
 unfold pickOf;let a1:0<=j%l.length:=cx _ ();let a2:j%l.length<l.length:=c6 _ ();generalize j%l.length=i at *;let#[n,rfl]:=mD a1;let hn:n<l.length:=();let e:l.getD ((n:Int)).toNat d=l[n]:=by rw[fF,aG,ao hn];rfl
 rw[e];exact#[cB (by rw[ax,ao hn];rfl),cN hn]
structure Ka(K:aq):Prop where
 ss:dz K (.type "str") (.type "str")>>true
 is:dz K (.type "int") (.type "str")>>false
 ts:dz K (.type "tuple") (.type "str")>>false
 ls:dz K (.type "list") (.type "str")>>false
 ii:dz K (.type "int") (.type "int")>>true
 ti:dz K (.type "tuple") (.type "int")>>false
 li:dz K (.type "list") (.type "int")>>false
 ib:dz K (.type "int") (.type "bool")>>false
 tt:dz K (.type "tuple") (.type "tuple")>>true
 tl:dz K (.type "tuple") (.type "list")>>false
 lt:dz K (.type "list") (.type "tuple")>>false
 ll:dz K (.type "list") (.type "list")>>true
def OX:J->Prop
 | .none=>True
 | .int _=>True
 | .str x=>om x
 |_=>False
def Ue:Nat->J->Prop
 |0,d=>OX d
 |n+1,d=>OX d\/∃ds,(d=.tuple ds\/d=.list ds)/\ds.length<=1000/\∀e∈ds,Ue n e
def OY:J->Bool
 | .none=>true
 |_=>false
theorem lB{K:aq}{d:J}:B9 K (λx y H Q=>y=.non/\Q (.bl (decide (x=.non))) H) d .none (.bool (OY d)):=λv u H0 H Q s r1 r2 k=>by cases r2;refine#[Y,k _ _ _ (.refl s) ?_];cases r1<;>exact .bl _
theorem nL(n:Nat)(b:Bool):Lay n (.bool b):=#[Y,bj _]
structure Na(mg:O->Option M):Prop extends Nm mg where
 str:mg "str"=none
 all:mg "all"=none
def XJ:J->Option J:=λ_=>some (.bool true)
theorem um:∀l:!J,l.filterMap XJ=(aW l.length true).map .bool
 | []=>rfl
 |d::l=>by rw[cI (f:=XJ) Y,um l];rfl
theorem qG(n:Nat):rU (aW n true)=true:=by unfold rU;rw[fk];intro b hb;exact(jG.mp hb).2
end Mg
namespace Mg
open L2 PySem PyProof.Rows
seal L2.VE L2.VS L2.vz L2.VT L2.VO L2.Fd
variable{fd:fW}{x:J}
section
variable{P:bU}{w:c0}{K:aq}{mg:O->Option M}{base:dF}{f:U}
abbrev RV:!O:=["_law_found","_law_due"]
theorem Ug:bW RV RV (bt (top 54)):=by grind
def Z5(n:Nat)(ds:!J)(d:J):Prop:=∃x,ds=[x,x]/\Ue n x/\d=.bool true
theorem Uh{k:Nat}(n:Na mg)(kt:Ka K)(h:OX x):wA P w K mg base RV "_law_alike" (top 54) f k [x,x] (.rt (.bool true)):=by
 intro gj A outer s H E hr;cases x with
 |none=>exact cZ (dm (VT.to (eW iZ lB 1. eD (eM _)) Y) (aS (bL (VE.to (vy iZ lB 0. eD (eM _)) Y)))) Y
 |int i=>refine aD (bE (VT.to (eW iZ lB 1. eD (eM _)) Y) a_) ?_;refine aD (bE (gV (jv 1. Y kt.is Y n.BG n.str Y) Y) a_) ?_;refine cZ (dm (gV (jv 1. Y kt.ii Y n.BG n.int Y) Y) (aS (bL (VE.to (k8 (jv 0. Y kt.ii Y n.BG n.int Y) (λ_=>k8 (wD (jv 0. Y kt.ib Y n.BG n.bool Y)) (λ_=>jb (oN hr (bJ 20 _) (bJ 20 _) 0. 1.)))) ?_)))) Y;rw[jw,qQ1 Y];rfl
 |str z=>refine aD (bE (VT.to (eW iZ lB 1. eD (eM _)) Y) a_) ?_;refine cZ (dm (gV (jv 1. Y kt.ss Y n.BG n.str Y) Y) (aS (bL (VE.to (k8 (jv 0. Y kt.ss Y n.BG n.str Y) (λ_=>jb (oN hr (bo h) (bo h) 0. 1.))) ?_)))) Y;rw[bG,qQ1 Y];rfl
 |_=>exact h.elim
theorem Z6{m:Nat}(n:Na mg)(kt:Ka K)(C:bw P w K mg base (m+1) "_law_alike" RV (gk K (Z5 m))){xs:!J}(hx:x=.tuple xs\/x=.list xs)(hl:xs.length<=1000)(ho:∀e∈xs,Ue m e):wA P w K mg base RV "_law_alike" (top 54) f (m+1) [x,x] (.rt (.bool true)):=by
 intro gj A outer s H E hr;let nk:(["_law_k","_law_found","_law_due"]:!O).Nodup:=∎;let Ls:∀i,i<xs.length->uN xs (i:Int)>>(xs.getD i .none):=λi hi=>cB (by rw[aG,ao hi];rfl);let uC:∀i,i<xs.length->xs.getD i .none∈xs:=λi hi=>[aG,ao hi]▸cN _;rcases hx with rfl|rfl
 .refine aD (bE (VT.to (eW iZ lB 1. eD (eM _)) Y) a_) ?_;refine aD (bE (gV (jv (tn:="str") 1. Y kt.ts Y n.BG n.str Y) Y) a_) ?_;refine aD (bE (gV (jv (tn:="int") 1. Y kt.ti Y n.BG n.int Y) Y) a_) ?_;refine aD (bE (VT.to (iz (gQ hr (nL 20 _) (nL 20 _) (jv 1. Y kt.tt Y n.BG n.tup Y) (jv 0. Y kt.tt Y n.BG n.tup Y)) (λ_=>gQ hr (nL 20 _) (nL 20 _) (jv (tn:="list") 1. Y kt.tl Y n.BG n.lst Y) (jv (tn:="list") 0. Y kt.tl Y n.BG n.lst Y))) Y) a_) ?_;refine aS (bL (VE.to (k8 (oN hr (bJ 20 _) (bJ 20 _) (iS 0. n.len) (iS 1. n.len)) (λ_=>jb (gF (lQ Y) wB (cR (VO.ve (VO.to (eI (own:=["_law_k"]) (cap:=[0,1]) (tgt:=.one 0) (F:=XJ) Y #[Y,∎,∎,Y,Y,?_] (oO (iS 1. n.len) n.rng () ()) (λf s3 H3=>g6 0 nk) Y
   (small (by rw[iG];omega)) (λd hd=>?_)) (um _))) cO) n.all Y))) ?_))
  .intro j hj;rcases au.mp hj with rfl|hj
   .exact#[(by show(0:Nat)<2;decide),mB Y,Y]
   .rcases au.mp hj with rfl|hj
    .exact#[(by show(1:Nat)<2;decide),mB Y,Y]
    .cases hj
  .let#[i,hi,rfl]:=ai.mp hd;let hi:=cG.mp hi;exact Cb Y Y λf s3 H3=>bB C hr {di 1. 0. (Ls i hi),di 2. 0. (Ls i hi)} #[xs.getD i .none,Y,ho _ (uC i hi),Y]
  .rw[jw,qQ1 Y,qG];rfl
 .refine aD (bE (VT.to (eW iZ lB 1. eD (eM _)) Y) a_) ?_;refine aD (bE (gV (jv (tn:="str") 1. Y kt.ls Y n.BG n.str Y) Y) a_) ?_;refine aD (bE (gV (jv (tn:="int") 1. Y kt.li Y n.BG n.int Y) Y) a_) ?_;refine aD (bE (VT.to (iz (gQ hr (nL 20 _) (nL 20 _) (jv 1. Y kt.lt Y n.BG n.tup Y) (jv 0. Y kt.lt Y n.BG n.tup Y)) (λ_=>gQ hr (nL 20 _) (nL 20 _) (jv (tn:="list") 1. Y kt.ll Y n.BG n.lst Y) (jv (tn:="list") 0. Y kt.ll Y n.BG n.lst Y))) Y) a_) ?_;refine aS (bL (VE.to (k8 (oN hr (bJ 20 _) (bJ 20 _) (fD 0. n.len) (fD 1. n.len)) (λ_=>jb (gF (lQ Y) wB (cR (VO.ve (VO.to (eI (own:=["_law_k"]) (cap:=[0,1]) (tgt:=.one 0) (F:=XJ) Y #[Y,∎,∎,Y,Y,?_] (oO (fD 1. n.len) n.rng () ()) (λf s3 H3=>g6 0 nk) Y
   (small (by rw[iG];omega)) (λd hd=>?_)) (um _))) cO) n.all Y))) ?_))
  .intro j hj;rcases au.mp hj with rfl|hj
   .exact#[(by show(0:Nat)<2;decide),mB Y,Y]
   .rcases au.mp hj with rfl|hj
    .exact#[(by show(1:Nat)<2;decide),mB Y,Y]
    .cases hj
  .let#[i,hi,rfl]:=ai.mp hd;let hi:=cG.mp hi;exact Cb Y Y λf s3 H3=>bB C hr {fU 1. 0. (Ls i hi),fU 2. 0. (Ls i hi)} #[xs.getD i .none,Y,ho _ (uC i hi),Y]
  .rw[jw,qQ1 Y,qG];rfl
theorem Z7(F:jO K "_law_alike" "_law_alike" (top 54) f fd)(n:Na mg)(kt:Ka K):dR P w K mg base ju 1 f fd RV (gk K (Z5 0)):=
 ik F Ug (by ext) λ_ _ h=>by let#[x,rfl,ho,rfl]:=h;exact Uh n kt ho
theorem Ui{m:Nat}(F:jO K "_law_alike" "_law_alike" (top 54) f fd)(n:Na mg)(kt:Ka K)(C:bw P w K mg base (m+1) "_law_alike" RV (gk K (Z5 m))):dR P w K mg base ju (m+2) f fd RV (gk K (Z5 (m+1))):=
 ik F Ug (by ext) λ_ _ h=>by
  let#[x,rfl,ho,rfl]:=h;rcases ho with ho|⟨xs,h1,h2,h3⟩
  .exact Uh n kt ho
  .exact Z6 n kt C h1 h2 h3
end
abbrev o5:=Int×O×O×O
def jU(g:o5):J:=.tuple [.int g.1,.str g.2.1,.str g.2.2.1,.str g.2.2.2]
def AF(m:Int):Int:=if m%5=2 then 1 else if m%5=3 then m/7%3 else if m%5=4 then m/7%12 else 0
theorem step_at(m:Int):uN [dq 0,.int 0,.int 1,.int (m/7%3),.int (m/7%12)] (m%5)>>(.int (AF m)):=by unfold AF;rcases(by omega:m%5=0\/m%5=1\/m%5=2\/m%5=3\/m%5=4)with e|e|e|e|e<;>rw[e]<;>rfl
def xX(cells:!Int):Nat->Int
 |0=>0
 |k+1=>xX cells k+AF (dw (cells.getD k 0) k)
def qH(m:Int):O:=([("":O),"p","q","pp","r"]).getD (m/10000%5).toNat ""
theorem LN(m:Int):uN [aN "",.str "p",.str "q",.str "pp",.str "r"] (m/10000%5)>>(.str (qH m)):=by unfold qH;rcases(by omega:m/10000%5=0\/m/10000%5=1\/m/10000%5=2\/m/10000%5=3\/m/10000%5=4)with e|e|e|e|e<;>rw[e]<;>rfl
def Io(p:Pl)(cells:!Int)(k:Nat):o5:=(xX cells (k+1),pickOf p.gates "" (dw (cells.getD k 0) k/100),(pickOf p.kinds ("",none) (dw (cells.getD k 0) k/1000)).1,qH (dw (cells.getD k 0) k))
def wN(p:Pl)(cells:!Int):!o5:=(cF cells.length).map (Io p cells)
section
variable{K:aq}
abbrev Ndy:!O:=["_law_h","_law_cells","_law_day_here","_law_t","_law_k","_law_cell","_law_m","_law_gate","_law_kind","_law_parcel"]
theorem Uj:bW Ndy ["_law_h","_law_cells"] (bt (top 53)):=by grind
def Rdy(ds es:!J):Prop:=∃(p:Pl)(cells:!Int),ds=[gG p,oQ cells]/\1<=p.gates.length/\1<=p.kinds.length/\cells.length<=63/\es=(wN p cells).map jU
theorem zea{P:bU}{w:c0}{mg:O->Option M}{base:dF}{f:U}(F:jO K "_law_day" "_law_day" (top 53) f fd)(n:Ng mg)(C1:bw P w K mg base 1 "_law_mix" ["_law_cell","_law_k"] (gk K FK)):dR P w K mg base ju 2 f fd ["_law_h","_law_cells"] (HJ K Rdy):=
 Le F Uj (by ext) λ_ _ h=>by
  let#[p,cells,rfl,hg,hk,hc,rfl]:=h;intro gj A outer s H E hr;let nd:Ndy.Nodup:=Uj.nd;refine aD (iT 2 (dQ cO) nd) ?_;refine aD (cL 3 aB nd) ?_;refine aD (k7 (tgt:=.tup [4,5]) bZ Y (nr 1. n.NQ)
   (g7 Y (bS (g6 4 nd) (bS (g6 5 nd) fP))) (λi=>[.val (gG p),.val _,.own (((cF i).map _).map jU),.val (.int (xX cells i)),.un,.un,.un,.un,.un,.un]) cells.length Y ([dC,ae]▸aP _) (λi d hi hd=>?_) (.inl #[by rw[dC,ae],Y])) (aS (DH 2 Y));let#[x,hx,rfl]:=ja hd;obtain rfl:x=.int (cells.getD i 0):=by
   rw[ax,ao ()]at hx;cases hx;rw[aG,ao ()];rfl
  refine#[_,Y,?_];let eg:Io p cells i=(xX cells i+AF _,pickOf p.gates "" (dw _ i/100),(pickOf p.kinds ("",none) _).1,qH _):=Y;let et:xX cells (i+1)=xX cells i+AF _:=Y;refine aD (cL 6 (bB C1 hr {5.,4.} #[_,i,Y,(),(),Y]) nd) ?_;rw[sD,aI,aI,fL,fL,eg,et];generalize dw _ i=m;let#[pg,_]:=iV hg (m/100);let#[pk,_]:=iV hk (m/1000);refine aD (cL 3 (dM 3. (fU (VO.ve (dQ {aB,aB,aB,cn (eE 6. aB #[⋯,⋯]) aB ⋯,cn (eE 6. aB #[⋯,⋯]) aB ⋯})) (cn 6. aB ⋯) (step_at m))) nd) ?_;refine aD (cL 7 (fU (cJ hr 0. aQ (tG p)) (VE.to (cn (eE 6. aB #[⋯,⋯]) (fD (cJ hr 0. aQ (tG p)) n.len) (by rw[ae];omega)) (by rw[ae])) pg) nd) ?_;refine aD (cL 8 (di (fU (cJ hr 0. aQ (AA p)) (VE.to (cn (eE 6. aB #[⋯,⋯]) (fD (cJ hr 0. aQ (AA p)) n.len) (by rw[ae];omega)) (by rw[ae])) pk) aB Y) nd) ?_;exact aD (cL 9 (fU (VO.ve (dQ (cR aQ (cR aQ (cR aQ (cR aQ (cR aQ cO))))))) (cn (eE 6. aB #[⋯,⋯]) aB ⋯) (LN m)) nd) (gW (aS (jH 2 Y (fc {3.,7.,8.,9.}) (fh (by simp;omega)))) #[.inr Y,.inr Y,.inr Y,.inr Y,.inl Y,.inl Y,.inl Y,.inl Y,.inl Y,.inl Y,trivial])
end
end Mg
namespace Mg
open L2 PySem PyProof.Rows
def CG(c:Nat):!(!Nat)->!Nat
 | []=>[]
 | [x]=>x
 |x::y::r=>x++c::CG c (y::r)
theorem FP:∀{a b r s:!Nat},c∉a->c∉b->a++c::r=b++c::s->a=b/\r=s
 | [],[],r,s,_,_,h=>#[Y,(iy h).2]
 | [],y::b,r,s,_,hb,h=>qQ7 (iy h).1 (λz=>hb ([z]▸aJ))
 |x::a,[],r,s,ha,_,h=>qQ7 (iy h).1 (λz=>ha ([<-z]▸aJ))
 |x::a,y::b,r,s,ha,hb,h=>by let#[h1,h2]:=iy h;let#[h3,h4]:=FP (λz=>ha (ay _ z)) (λz=>hb (ay _ z)) h2;exact#[by rw[h1,h3],h4]
theorem CH:∀{ps qs:!(!Nat)},ps≠[]->qs≠[]->(∀p∈ps,c∉p)->(∀p∈qs,c∉p)->CG c ps=CG c qs->ps=qs
 | [],_,h,_,_,_,_=>qQ7 Y h
 |_,[],_,h,_,_,_=>qQ7 Y h
 | [x],[y],_,_,_,_,h=>by let h:x=y:=h;rw[h]
 | [x],y::y2::qs,_,_,hp,_,h=>by let h:x=y++c::CG c (y2::qs):=h;exact qQ7 ([h]▸aZ _ aJ) (hp x aJ)
 |x::x2::ps,[y],_,_,_,hq,h=>by let h:x++c::CG c (x2::ps)=y:=h;exact qQ7 ([<-h]▸aZ _ aJ) (hq y aJ)
 |x::x2::ps,y::y2::qs,_,_,hp,hq,h=>by let#[h1,h2]:=FP (hp x aJ) (hq y aJ) h;let:=CH ∅ ∅ (λp z=>hp p (ay _ z)) (λp z=>hq p (ay _ z)) h2;rw[h1,this]
theorem add_list(x y:O):(x++y).cps.toList=x.cps.toList++y.cps.toList:=by show(x.cps++y.cps).toList=_;simp
theorem str_inj{x:O}{y: O}(h:x.cps.toList=y.cps.toList):x=y:=Str.ext' (yQ.mp h)
theorem join_list(c:Nat):∀ps:!O,(dA (one c) ps).cps.toList=CG c (ps.map λp=>p.cps.toList)
 | []=>rfl
 | [x]=>rfl
 |x::y::r=>by show(x++one c++dA (one c) (y::r)).cps.toList=_;rw[add_list,add_list,join_list c (y::r)];show x.cps.toList ++ [c]++_=x.cps.toList++c::_;simp
theorem wO(x y:O):cU x y≠[]:=by
 intro h;unfold cU at h;split at h
 .cases h
 .split at h
  .cases h
  .let:=qQ6 dX h;rw[yO]at this;simp at this
theorem vK(h:ps≠[])(hf:∀p∈ps,c∉p.cps.toList):cU (dA (one c) ps) (one c)=ps:=by
 let h1:=oI (dA (one c) ps) (one c);let h3:=wO (dA (one c) ps) (one c);generalize hq:cU (dA (one c) ps) _=qs at *;let h2:∀p∈qs,c∉p.cps.toList:=[<-hq]▸vk (dA (one c) ps) c;let e:=qQ6 (λs:O=>s.cps.toList) h1;simp only[join_list]at e;let:=CH ↑h3 ↑h
  (λp hp=>by let#[q,hq,rfl]:=ai.mp hp;exact h2 q hq) (λp hp=>by let#[q,hq,rfl]:=ai.mp hp;exact hf q hq) e;let inj:∀{l m:!O},(l.map λp=>p.cps.toList)=(m.map λp=>p.cps.toList)->l=m:=by
  intro l;induction l with
  |nil=>intro m hm;cases m with|nil=>rfl|cons _ _=>cases hm
  |cons x l ih=>
   intro m hm;cases m with
   |nil=>cases hm
   |cons y m=>let#[a1,a2]:=iy hm;rw[str_inj a1,ih a2]
 exact inj this
theorem FQ(c:Nat):∀{ps qs:!O},ps≠[]->qs≠[]->dA (one c) (ps++qs)=dA (one c) ps++one c++dA (one c) qs
 | [],_,h,_=>qQ7 Y h
 | [x],q::qs,_,_=>rfl
 | [x],[],_,h=>qQ7 Y h
 |x::y::r,qs,_,h=>by show x++one c++dA (one c) ((y::r)++qs)=_;rw[FQ c ∅ h];apply str_inj;show _=(x++one c++dA (one c) (y::r)++one c++dA (one c) qs).cps.toList;simp[add_list,cw]
theorem LQ(c:Nat)(x y:O):cU (x++one c++y) (one c)=cU x (one c)++cU y (one c):=by
 let e:x++one c++y=dA (one c) (cU x (one c)++cU y (one c)):=by rw[FQ c (wO _ _) (wO _ _),oI,oI]
 rw[e];refine vK (by simp[wO]) λp hp=>?_;rcases aT.mp hp with hp|hp
 .exact vk x c p hp
 .exact vk y c p hp
theorem Ip(h:c∉x.cps.toList):cU x (one c)=[x]:=by let:=vK (ps:=[x]) ∅ (λp hp=>[aK.mp hp]▸h);exact this
theorem CJ:(" ":O)=one 32:=∎
theorem WW:("\n":O)=one 10:=∎
theorem mZ(x y:O):wordsOf (x++" "++y)=wordsOf x++wordsOf y:=by unfold wordsOf;rw[CJ,LQ,List.filter_append]
theorem AG:wordsOf ""=[]:=by rfl
theorem xY{w:O}(h:w≠"")(hb:32∉w.cps.toList):wordsOf w=[w]:=by unfold wordsOf;rw[CJ,Ip hb,gA,qQ3 ↑h];rfl
theorem LR(x y z:O):x++y++z=x++(y++z):=by apply str_inj;simp[add_list,cw]
theorem empty_app(x:O):""++x=x:=by apply str_inj;rw[add_list];rfl
theorem FT(x:O)(n:Nat):kB x (n+1)=x++kB x n:=by apply str_inj;rw[add_list];show(x.cps++(kB x n).cps).toList=_;simp
theorem Iq(n:Nat)(y:O):wordsOf (kB " " n++y)=wordsOf y:=by
 induction n with
 |zero=>rw[show kB " " 0="" from Y,empty_app]
 |succ n ih=>
  let e:kB " " (n+1)++y=""++" "++(kB " " n++y):=by rw[FT,empty_app,LR]
  rw[e,mZ,AG,ih];rfl
theorem LV(n:Nat)(x y:O):wordsOf (x++kB " " (n+1)++y)=wordsOf x++wordsOf y:=by
 let e:x++kB " " (n+1)++y=x++" "++(kB " " n++y):=by rw[FT];apply str_inj;simp[add_list,cw]
 rw[e,mZ,Iq]
theorem AH(n:Nat):∀{ws:!O},(∀w∈ws,w≠""/\32∉w.cps.toList)->wordsOf (dA (kB " " (n+1)) ws)=ws
 | [],_=>AG
 | [w],h=>xY (h w aJ).1 (h w aJ).2
 |w::v::ws,h=>by show wordsOf (w++kB " " (n+1)++dA (kB " " (n+1)) (v::ws))=_;rw[LV,xY (h w aJ).1 (h w aJ).2,AH n (λu hu=>h u (ay _ hu))];rfl
theorem pO{ws:!O}(h:∀w∈ws,w≠""/\32∉w.cps.toList):wordsOf (dA " " ws)=ws:=by let:=AH 0 h;exact this
theorem LW(h0:rows≠[])(h:∀r∈rows,10∉r.cps.toList):rowsOf (dA "\n" rows)=rows.zipIdx.filterMap λp=>if(wordsOf p.1).isEmpty then none else some (p.2,wordsOf p.1):=by unfold rowsOf;rw[WW,vK h0 h]
def eY(n:Int):O:=Str.ofString (toString n)
theorem D6(h:¬m<10):iN 10 m=iN 10 (m/10) ++ [Nat.digitChar (m%10)]:=by let hm:m%10<10:=Nat.mod_lt m ⋯;let t:iN 10 (m/10)++iN 10 (m%10)=iN 10 _:=Nat.toDigits_append_toDigits ⋯ () hm;rw[Nat.div_add_mod]at t;rw[<-t,mE hm]
theorem Kg:∀(k m:Nat),1<=k->m<10^k->(iN 10 m).length<=k
 |0,_,h,_=>()
 |k+1,m,_,h=>by
  by_cases hm:m<10
  .rw[mE hm];simp
  .rw[D6 hm,aR];let hk:1<=k:=by
    rcases xu k with rfl|hk
    .exact qQ7 h ↑hm
    .exact hk
   let:=Kg k (m/10) hk (by rw[Nat.div_lt_iff_lt_mul ⋯];rw[Nat.pow_succ]at h;exact h);simp;omega
theorem RW(m:Nat):1<=(iN 10 m).length:=by
 by_cases hm:m<10
 .rw[mE hm];simp
 .rw[D6 hm,aR];simp
theorem OZ(m:Nat)(h:0<m):∃c,(iN 10 m).head?>>c/\c≠'0':=by
 induction m using Nat.strongRecOn with
 |_ m ih=>
  by_cases hm:m<10
  .rw[mE hm];refine#[_,Y,?_];let:∀d:Nat,d<10->0<d->Nat.digitChar d≠'0':=⋯;exact this m hm h
  .let#[c,h1,h2]:=ih (m/10) () ();refine#[c,?_,h2];rw[D6 hm,List.head?_append,h1];rfl
theorem xZ(h0:0<=n):(eY n).cps.toList=(iN 10 n.toNat).map Char.toNat:=by let#[m,rfl]:=mD h0;exact PySem.W.KIN.signs_num m
theorem m_(h0:0<=n)(hc:c∈(eY n).cps.toList):48<=c/\c<=57:=by rw[xZ h0]at hc;let#[ch,Mz,e]:=ai.mp hc;let r:=digit_range (Nat.isDigit_of_mem_toDigits ⋯ ⋯ Mz);rwa[<-e]
theorem zC(h0:0<=n)(h1:n<1000000):1<=(eY n).length/\(eY n).length<=6:=by
 let e:(eY n).length=(iN 10 n.toNat).length:=by show(eY n).cps.size=_;rw[<-cW,xZ h0,ae]
 rw[e];exact#[RW _,Kg 6 _ ⋯ ()]
theorem FU:("0123456789":O).cps.toList=(cF 10).map (48 + ·):=∎
theorem qe(h0:0<=n)(h1:n<1000000):zc (eY n):=by refine#[by let:=zC h0 h1;omega,(oo _).mpr λc hc=>?_];let:=m_ h0 hc;omega
theorem AI(h0:0<=n)(h1:n<1000000):isNumber (eY n)=true:=by
 let#[l1,l2]:=zC h0 h1;let em:rA "0123456789" 6 (eY n)=true:=by unfold rA;rw[qQ1 (),qQ1 (),lr,lr,fk];intro c hc;let hd:=m_ h0 hc;let:Fh (one c) "0123456789"=decide (c∈("0123456789":O).cps.toList):=v9 ..;rw[this,FU];exact qQ1 (ai.mpr #[c-48,cG.mpr (),()])
 unfold isNumber;rw[em,lr];by_cases hn:n=0
 .subst hn;rfl
 .let#[c,c1,c2]:=OZ n.toNat ();let hh:(eY n).cps.toList.head?>>c.toNat:=by rw[xZ h0,List.head?_map,c1];rfl
  rw[hh];let:one c.toNat≠"0":=by
   intro z;let z2:(one c.toNat).cps.toList=("0":O).cps.toList:=by rw[z]
   let z3:[c.toNat]=[48]:=z2;let z4:c.toNat=48:=by simpa using z3
   exact c2 (Char.toNat_inj.mp z4)
  show(_ || not (decide (one c.toNat="0")))=true;rw[qQ0 this];simp
theorem num_reads(h0:0<=n)(h1:n<1000000):intText? (eY n)>>n:=PySem.W.KIN.num_reads h0 ()
theorem oS(h0:0<=n)(h1:n<1000000):eY n≠""/\32∉(eY n).cps.toList/\10∉(eY n).cps.toList:=by
 refine#[λz=>?_,λz=>?_,λz=>?_]
 .let:=(zC h0 h1).1;rw[z]at this;exact qQ7 this ⋯
 .let:=m_ h0 z;omega
 .let:=m_ h0 z;omega
theorem iu(h:eu x):x≠""/\32∉x.cps.toList/\10∉x.cps.toList:=by
 refine#[λz=>?_,λz=>?_,λz=>?_]
 .let:=h.1;rw[z]at this;exact qQ7 this ⋯
 .let:=h.2.2 _ z;omega
 .let:=h.2.2 _ z;omega
end Mg
namespace Mg
open L2 PySem PyProof.Rows
seal L2.VE L2.VS L2.vz L2.VT L2.VO L2.Fd
variable{fd:fW}
def dG(i:Int):Prop:=0<=i/\i<1000000
theorem dG.log(h:dG i):i.natAbs.log2<1920:=by
 let:i.natAbs<2^20:=by let:=h.1;let:=h.2;omega
 let h2:i.natAbs.log2<=20:=by
  rcases xu i.natAbs with e|e
  .rw[e];decide
  .exact yM ((Nat.log2_lt ()).mpr this)
 omega
def Ir:J->Prop
 | .none=>True
 | .int i=>dG i
 | .str x=>x=""\/eu x
 |_=>False
def gi:J->O
 | .str x=>if x="" then "-" else x
 | .int i=>eY i
 |_=>"-"
section
variable{P:bU}{w:c0}{K:aq}{mg:O->Option M}{base:dF}{f:U}
theorem Z8:bW ["_law_thing"] ["_law_thing"] (bt (top 50)):=by grind
def Rda(ds:!J)(d:J):Prop:=∃x,ds=[x]/\Ir x/\d=.str (gi x)
theorem zec(F:jO K "_law_dash" "_law_dash" (top 50) f fd)(n:Na mg):dR P w K mg base ju 1 f fd ["_law_thing"] (gk K Rda):=
 ik F Z8 (by ext) λ_ _ h=>by
  let#[x,rfl,ho,rfl]:=h;intro gj A outer s H E hr;let l0:Lay 20 (.str ""):=bo ∎;cases x with
  |none=>exact cZ (dm (VT.to (iz (k2:=true) (eW iZ lB 0. eD (eM _)) (λz=>by cases z)) Y) (aS (bL aQ))) Y
  |int i=>exact aD (bE (VT.to (iz (eW iZ lB 0. eD (eM _)) (λ_=>fB hr (bJ 20 _) l0 0. aQ)) Y) a_) (aS (bL (uh 0. (dG.log ho) n.str)))
  |str z=>
   let oz:om z:=by
    rcases ho with rfl|ho
    .show cj _=true;symm
    .exact ho.ok.2
   by_cases hz:z=""
   .refine cZ (dm (VT.to (iz (eW iZ lB 0. eD (eM _)) (λ_=>fB hr (bo oz) l0 0. aQ)) ?_) (aS (bL (VE.to aQ ?_)))) Y
    .rw[bG,qQ1 hz];rfl
    .show aN "-"=.str (if z="" then "-" else z);rw[qQ3 hz]
   .refine aD (bE (VT.to (iz (eW iZ lB 0. eD (eM _)) (λ_=>fB hr (bo oz) l0 0. aQ)) ?_) a_) ?_
    .rw[bG,qQ0 hz];rfl
    .refine aS (bL (VE.to (Rj 0. n.str) ?_));show aN z=.str (if z="" then "-" else z);rw[qQ2 hz]
  |_=>exact ho.elim
def AJ:Rl->Prop
 | .meet=>True
 | .gather m a=>dG m/\dG a
 | .many m=>dG m
 | .rank none=>True
 | .rank (some b)=>dG b
 | .turns s=>s.length<=60/\∀z∈s,dG z
 | .eldest=>True
def dg:Rl->!O
 | .turns s=>"turns"::s.map eY
 |r=>sr r::(uE r).map gi
def qI(r:Rl):O:=dA " " (dg r)
theorem Z9:bW ["_law_rule_here"] ["_law_rule_here"] (bt (top 51)):=by grind
def Rrt(ds:!J)(d:J):Prop:=∃r,ds=[ML r]/\AJ r/\d=.str (qI r)
def zed:J->Option J
 | .int i=>some (.str (eY i))
 |_=>none
theorem O1(l:!Int):(l.map dq).filterMap zed=(l.map eY).map .str:=by rw[bX,aj];exact filterMap_some λk _=>rfl
def Z_:J->Option J:=λd=>some (.str (gi d))
theorem LX(l:!J):l.filterMap Z_=(l.map gi).map .str:=by rw[aj];exact filterMap_some λk _=>rfl
theorem iw(h:dG i):(eY i).length<=6:=(zC h.1 h.2).2
theorem qJ:∀{l:!O}{b:Nat},(∀x∈l,x.length<=b)->(l.map (·.length)).sum<=l.length*b
 | [],_,_=>∅
 |x::l,b,h=>by let h1:=h x aJ;let h2:=qJ λy hy=>h y (ay _ hy);rw[av,List.sum_cons,a8,Nat.add_mul];omega
theorem k_(h:Ir d):(gi d).length<=8:=by
 cases d with
 |none=>decide
 |int i=>exact bA (iw h) ⋯
 |str x=>
  show(if x="" then("-":O)else x).length<=8;split
  .decide
  .rename_i hx
   rcases h with h|h
   .exact qQ7 h hx
   .let:=h.2.1;exact this
 |_=>exact h.elim
theorem AK(ht:∀s,r≠.turns s)(h:AJ r):∀d∈uE r,Ir d:=by
 intro d hd;cases r with
 |meet=>cases hd
 |eldest=>cases hd
 |gather m a=>
  rcases au.mp hd with rfl|hd
  .exact h.1
  .rw[aK.mp hd];exact h.2
 |many m=>rw[aK.mp hd];exact h
 |rank b=>rw[aK.mp hd];cases b with|none=>trivial|some b=>exact h
 |turns s=>exact qQ7 Y (ht s)
theorem zee(F:jO K "_law_rule_text" "_law_rule_text" (top 51) f fd)(n:Na mg)(C:bw P w K mg base 1 "_law_dash" ["_law_thing"] (gk K Rda)):dR P w K mg base ju 2 f fd ["_law_rule_here"] (gk K Rrt):=
 ik F Z9 (by ext) λ_ _ h=>by
  let#[r,rfl,ho,rfl]:=h;intro gj A outer s H E hr;let oR:om (sr r):=by cases r<;>dsimp only[sr,om]<;>symm
  let lT:Lay 20 (.str "turns"):=bo ∎;let h0:uN (aN (sr r)::uE r) 0>>_:=cB Y;by_cases ht:∃sh,r=.turns sh
  .let#[sh,rfl]:=ht;let nc:(["_law_share"]:!O).Nodup:=∎;refine cZ (dm (VT.to (fB hr (bo oR) lT (di 0. aB h0) aQ) ([bG]▸qQ1 Y)) (aS (bL (ui aQ (VE.to (VO.ve (lO (VO.ve (dQ (cR aQ cO))) (VO.ve (VO.to (eI (own:=["_law_share"]) (cap:=[]) (tgt:=.one 0) Y #[Y,∎,∎,Y,Y,∅] (p_ (di 0. aB (cB Y))) (λf s3 H3=>g6 0 nc) Y
    (small (by rw[ae];let:=ho.1;omega)) (λd hd=>?_)) (O1 _))) (small (by simp;let:=ho.1;omega)))) Y) ?_)))) Y
   .let#[z,hz,rfl]:=ai.mp hd;exact Cb Y Y λf s3 H3=>uh 0. (dG.log (ho.2 z hz)) n.str
   .let h1:=qJ (l:=dg (.turns sh)) (b:=6) λx hx=>by
     rcases au.mp hx with rfl|hx
     .decide
     .let#[z,hz,rfl]:=ai.mp hx;exact iw (ho.2 z hz)
    let h2:(dg (.turns sh)).length=sh.length+1:=by simp[dg]
    let h3:=ho.1;let h4:(" ":O).length=1:=⋯;rw[h4];omega
  .let D7:=λsh z=>ht #[sh,z];let hw:sr r≠"turns":=by
    cases r with
    |turns sh=>exact qQ7 Y (D7 sh)
    |_=>dsimp only[sr];symm
   let O2:dg r=sr r::(uE r).map gi:=by
    cases r with
    |turns sh=>exact qQ7 Y (D7 sh)
    |_=>rfl
   let hl:(uE r).length<=2:=by cases r<;>simp[uE]
   let YL:(sr r).length<=8:=by cases r<;>dsimp only[sr]<;>symm
   let hok:=AK D7 ho;unfold qI;rw[O2];unfold ML;generalize uE r=ra at *;generalize sr r=vY at *;let nc:(["_law_one"]:!O).Nodup:=∎;let D8:L2.cutD (aN vY::ra) (some 1) none=ra:=(mj (aN vY::ra) 1).trans Y;refine aD (bE (VT.to (fB hr (bo oR) lT (di 0. aB h0) aQ) ([bG]▸qQ0 hw)) a_) ?_;refine aS (bL (ui aQ (VE.to (VO.ve (lO (VO.ve (dQ {di 0. aB h0})) (VO.ve (VO.to (eI (own:=["_law_one"]) (cap:=[]) (tgt:=.one 0) Y #[Y,∎,∎,Y,Y,∅] (p_ (VE.to (xI 0. (.yes aB) .no ?_) (by rw[D8]))) (λf s3 H3=>g6 0 nc) Y
    (small ()) (λd hd=>?_)) (LX _))) (small (by simp;omega)))) Y) ?_))
   .intro z;let:=z.1;rw[show(1:Int)=((1:Nat):Int)from Y,HT.q_,a8]at this;omega
   .exact Cb Y Y λf s3 H3=>bB C hr {0.} #[d,Y,hok d hd,Y]
   .let h1:=qJ (l:=vY::ra.map gi) λx hx=>by
     rcases au.mp hx with rfl|hx
     .exact YL
     .let#[z,hz,rfl]:=ai.mp hx;exact k_ (hok z hz)
    let h2:(vY::ra.map gi).length=ra.length+1:=∅
    let h4:(" ":O).length=1:=⋯;rw[h4];omega
end
def rH(p:O×Option Int):O:="kind "++p.1++" "++gi (sk p.2)
def pP(g:O):O:="gate "++g
def pQ(p:O×Int):O:="line "++p.1++" "++eY p.2
def qK(d:Dk):O:="desk "++d.name++" to "++gi (.str d.to)++" by "++qI d.rule
def ou(d:Dk):O:=qK d++" from "++dA " " d.places
def pR(p:O×O×Int):O:=dA " " ["time",p.1,p.2.1,eY p.2.2]
def rJ(p:O×Int×Int):O:=dA " " ["open",p.1,eY p.2.1,eY p.2.2]
structure nM(p:Pl):Prop where
 kn:p.kinds.length<=60
 gn:p.gates.length<=60
 ln:p.lines.length<=60
 dn:p.desks.length<=60
 tn:p.times.length<=600
 hn:p.hours.length<=600
 kinds:∀q∈p.kinds,eu q.1/\Ir (sk q.2)
 gates:∀g∈p.gates,eu g
 lines:∀q∈p.lines,eu q.1/\dG q.2
 desks:∀d∈p.desks,eu d.name/\(d.to=""\/eu d.to)/\AJ d.rule/\d.places.length<=60/\∀x∈d.places,eu x
 times:∀q∈p.times,eu q.1/\eu q.2.1/\dG q.2.2
 hours:∀q∈p.hours,eu q.1/\dG q.2.1/\dG q.2.2
theorem eu.short(h:eu x):x.length<=8:=by let:=h.2.1;exact this
theorem iI(hy:y.length<=1):∀{l:!O}{b:Nat},(∀x∈l,x.length<=b)->(dA y l).length<=l.length*(b+1)
 | [],_,_=>by exact bj _
 | [x],b,h=>by let:=h x aJ;show x.length<=1*(b+1);omega
 |x::z::l,b,h=>by let h1:=h x aJ;let h2:=iI hy λu hu=>h u (ay _ hu);show(x++y++dA y (z::l)).length<=(z::l).length.succ*(b+1);rw[cC,cC,GO];omega
theorem oT(h:AJ r):(qI r).length<=700:=by
 let hl:(dg r).length<=61/\∀x∈dg r,x.length<=8:=by
  by_cases ht:∃sh,r=.turns sh
  .let#[sh,rfl]:=ht;refine#[by let:=h.1;simp[dg];omega,λx hx=>?_];rcases au.mp hx with rfl|hx
   .decide
   .let#[z,hz,rfl]:=ai.mp hx;exact bA (iw (h.2 z hz)) ⋯
  .let D7:=λsh z=>ht #[sh,z];let O2:dg r=sr r::(uE r).map gi:=by
    cases r with
    |turns sh=>exact qQ7 Y (D7 sh)
    |_=>rfl
   let hl:(uE r).length<=2:=by cases r<;>simp[uE]
   rw[O2];refine#[by rw[a8,ae];omega,λx hx=>?_];rcases au.mp hx with rfl|hx
   .exact (by cases r<;>dsimp only[sr]<;>symm)
   .let#[z,hz,rfl]:=ai.mp hx;exact k_ ((AK D7 h) z hz)
 let:=iI (y:=" ") ⋯ hl.2;unfold qI;omega
def Fkr:J->Option J
 | .tuple [.str a,k]=>some (.str ("kind "++a++" "++gi k))
 |_=>none
def Fgr:J->Option J
 | .str a=>some (.str (pP a))
 |_=>none
def Flr:J->Option J
 | .tuple [.str a,.int i]=>some (.str (pQ (a,i)))
 |_=>none
def Ftr:J->Option J
 | .tuple [.str a,.str b,.int i]=>some (.str (pR (a,b,i)))
 |_=>none
def Fhr:J->Option J
 | .tuple [.str a,.int i,.int j]=>some (.str (rJ (a,i,j)))
 |_=>none
theorem RX(l:!(O×Option Int)):(l.map uX).filterMap Fkr=(l.map rH).map .str:=by rw[bX,aj];exact filterMap_some λk _=>rfl
theorem RZ(l:!O):(l.map aN).filterMap Fgr=(l.map pP).map .str:=by rw[bX,aj];exact filterMap_some λk _=>rfl
theorem R0(l:!(O×Int)):(l.map CB).filterMap Flr=(l.map pQ).map .str:=by rw[bX,aj];exact filterMap_some λk _=>rfl
theorem R1(l:!(O×O×Int)):(l.map Az).filterMap Ftr=(l.map pR).map .str:=by rw[bX,aj];exact filterMap_some λk _=>rfl
theorem R3(l:!(O×Int×Int)):(l.map CD).filterMap Fhr=(l.map rJ).map .str:=by rw[bX,aj];exact filterMap_some λk _=>rfl
def pS(p:Pl):!O:=p.kinds.map rH++p.gates.map pP++p.lines.map pQ
def fj(p:Pl):!O:=pS p++p.desks.map ou++p.times.map pR++p.hours.map rJ
def wQ(p:Pl):O:=dA "\n" (fj p)
section
variable{K:aq}
abbrev Npt:!O:=["_law_h","_law_rows","_law_name","_law_to","_law_rule_here","_law_places","_law_row","_law_gate","_law_kind","_law_burst","_law_gap"]
theorem Uk:bW Npt ["_law_h"] (bt (top 52)):=by grind
def Rpt(ds:!J)(d:J):Prop:=∃p,ds=[gG p]/\nM p/\d=.str (wQ p)
theorem zef{P:bU}{w:c0}{mg:O->Option M}{base:dF}{f:U}(F:jO K "_law_plant_text" "_law_plant_text" (top 52) f fd)(n:Na mg)(C1:bw P w K mg base 1 "_law_dash" ["_law_thing"] (gk K Rda))(C2:bw P w K mg base 2 "_law_rule_text" ["_law_rule_here"] (gk K Rrt)):dR P w K mg base ju 3 f fd ["_law_h"] (gk K Rpt):=
 ik F Uk (by ext) λ_ _ h=>by
  let#[p,rfl,ok,rfl]:=h;intro gj A outer s H E hr;let nd:Npt.Nodup:=Uk.nd;let eX:dB 1 _:=hr.mono ();let b1:=ok.kn;let b2:=ok.gn;let b3:=ok.ln;let b4:=ok.dn;let b5:=ok.tn;let b6:=ok.hn;let nk:(["_law_name","_law_keep"]:!O).Nodup:=∎;refine aD (zv 1 (own:=["_law_name","_law_keep"]) (cap:=[]) (cl:=[]) (tgt:=.tup [0,1]) (F:=Fkr) Y #[Y,∎,∎,Y,Y,∅] (eG (cJ eX 0. aQ (AA p))) (λf s3 H3=>g7 Y (bS (g6 0 nk) (bS (g6 1 nk) fP))) Y (small (by rw[ae];omega)) (λd hd=>?_) nd) ?_
  .let#[q,hq,rfl]:=ai.mp hd;let#[h1,h2]:=ok.kinds q hq;refine#[_,Y,λf s3 H3=>lP,λr kL f s3 H3=>?_];cases kL;let s1:=h1.short;let s2:=k_ h2;let e1:("kind ":O).length=5:=⋯;let e2:(" ":O).length=1:=⋯;exact iU (iU (iU aQ 0. (small ())) aQ (small (by simp only[cC];omega))) (bB C1 eX {1.} #[_,Y,h2,Y]) (small (by simp only[cC];omega))
  rw[RX];refine eJ 1 Y ?_;let n1:(["_law_name"]:!O).Nodup:=∎;refine aD (iT 1 (ds:=(p.kinds.map rH++p.gates.map pP).map .str) (VO.to (lO 1. (VO.ve (VO.to (eI (own:=["_law_name"]) (cap:=[]) (N:=["_law_name"]) (cl:=[]) (tgt:=.one 0) (F:=Fgr) Y #[Y,∎,∎,Y,Y,∅] (eG (cJ eX 0. aQ (tG p))) (λf s3 H3=>g6 0 n1) Y (small (by rw[ae];omega)) (λd hd=>?_)) (RZ _))) (small (by simp only[ae];omega))) (by rw[aI])) nd) ?_
  .let#[q,hq,rfl]:=ai.mp hd;let s1:=(ok.gates q hq).short;let e1:("gate ":O).length=5:=⋯;exact Cb Y Y λf s3 H3=>iU aQ 0. (small ())
  refine eJ 1 Y ?_;let n2:(["_law_name","_law_room"]:!O).Nodup:=∎;refine aD (iT 1 (ds:=(pS p).map .str) (VO.to (lO 1. (VO.ve (VO.to (eI (own:=["_law_name","_law_room"]) (cap:=[]) (cl:=[]) (tgt:=.tup [0,1]) (F:=Flr) Y #[Y,∎,∎,Y,Y,∅] (eG (cJ eX 0. aQ (wM p))) (λf s3 H3=>g7 Y (bS (g6 0 n2) (bS (g6 1 n2) fP))) Y (small (by rw[ae];omega)) (λd hd=>?_)) (R0 _))) (small (by simp;omega))) (by unfold pS;rw[aI (l₂:=pC pQ _)])) nd) ?_
  .let#[#[qa,qi],hq,rfl]:=ai.mp hd;obtain⟨h1,h2⟩:eu qa/\dG qi:=ok.lines (qa,qi) hq;let s1:=h1.short;let s2:=iw h2;let e1:("line ":O).length=5:=⋯;let e2:(" ":O).length=1:=⋯;exact Cb Y Y λf s3 H3=>VE.to (iU (y:=eY qi) (iU (x:="line "++qa) (iU (y:=qa) aQ 0. (small ())) aQ (small (by simp only[cC];omega))) (uh 1. (dG.log h2) n.str) (small (by simp only[cC];omega))) Y
  let r1:(pS p).length=p.kinds.length+p.gates.length+p.lines.length:=by unfold pS;simp only[aR,ae]
  refine aD (k7 (tgt:=.tup [2,3,4,5]) bZ Y (eG (cJ eX 0. aQ (tH p)))
   (g7 Y (bS (g6 2 nd) (bS (g6 3 nd) (bS (g6 4 nd) (bS (g6 5 nd) fP))))) (λi=>[.val (gG p),.own ((pS p++(p.desks.take i).map ou).map .str),.un,.un,.un,.un,.un,.un,.un,.un,.un]) p.desks.length (by show([.val (gG p),.own ((pS p++(p.desks.take 0).map ou).map .str),.un,.un,.un,.un,.un,.un,.un,.un,.un]:!Slot)=_;rw[List.take_zero,iK,cA];rfl) ([ae]▸aP _) (λi d hi hd=>?_) (.inl #[by rw[ae],Y])) ?_
  .obtain⟨dk,EB,rfl⟩:∃dk,p.desks[i]?>>dk/\d=dE dk:=by rw[ax,ao ()]at hd;cases hd;exact#[_,ao (),Y]
   let#[h1,h2,h3,h4,h5]:=ok.desks dk (aH EB);let XM:Ir (.str dk.to):=h2;let s1:=h1.short;let s2:=k_ XM;let s3:=oT h3;let s4:=iI (y:=" ") ⋯ (l:=dk.places) (b:=8) λx hx=>(h5 x hx).short;let s5:dk.places.length*(8+1)<=60*9:=kG h4 (aP _);let s6:=qJ (l:=dk.places) (b:=8) λx hx=>(h5 x hx).short;let e1:("desk ":O).length=5:=⋯;let e2:(" to ":O).length=4:=⋯;let e3:(" by ":O).length=4:=⋯;let e4:(" from ":O).length=6:=⋯;let e5:(" ":O).length=1:=⋯;let eh:(qK dk).length<=800:=by unfold qK;simp only[cC];omega
   refine#[_,Y,?_];refine aD (cL 6 (iU (iU (iU (iU (iU aQ 2. (small ())) aQ (small (by simp only[cC];omega))) (bB C1 eX {3.} #[_,Y,XM,Y]) (small (by simp only[cC];omega))) aQ (small (by simp only[cC];omega))) (bB C2 hr {4.} #[_,Y,h3,Y]) (small (by simp only[cC];omega))) nd) ?_;refine gW (aS (jH 1 Y (d:=.str (ou dk)) (iU (iU 6. aQ (small ())) (ui (zs:=dk.places) aQ (VO.ve (i_ lM DK {5.} n.lst Y)) (by rw[e5];omega)) (small (by simp only[cC];omega))) (fh (by simp;omega)))) #[.inr Y,.inr ?_,.inl Y,.inl Y,.inl Y,.inl Y,.inl Y,.inr Y,.inr Y,.inr Y,.inr Y,trivial];rw[bO,EB];simp
  rw[cq];refine eJ 1 Y ?_;let n3:(["_law_desk_here","_law_kind","_law_work"]:!O).Nodup:=∎;refine aD (iT 1 (ds:=(pS p++p.desks.map ou++p.times.map pR).map .str) (VO.to (lO 1. (VO.ve (VO.to (eI (own:=["_law_desk_here","_law_kind","_law_work"]) (cap:=[]) (cl:=[]) (tgt:=.tup [0,1,2]) (F:=Ftr) Y #[Y,∎,∎,Y,Y,∅] (eG (cJ eX 0. aQ (FN p))) (λf s3 H3=>g7 Y (bS (g6 0 n3) (bS (g6 1 n3) (bS (g6 2 n3) fP)))) Y (small (by rw[ae];omega)) (λd hd=>?_)) (R1 _))) (small (by simp;omega))) (by rw[aI (l₂:=pC pR _)])) nd) ?_
  .let#[#[qa,qb,qi],hq,rfl]:=ai.mp hd;obtain⟨h1,h2,h3⟩:eu qa/\eu qb/\dG qi:=ok.times (qa,qb,qi) hq;let s1:=h1.short;let s2:=h2.short;let s3:=iw h3;let e1:("time":O).length=4:=⋯;let e2:(" ":O).length=1:=⋯;exact Cb Y Y λf s3 H3=>ui aQ (VO.ve (dQ {aQ,0.,1.,uh 2. (dG.log h3) n.str} (small (by show 4<=_;decide)))) (by rw[e2];simp;omega)
  refine eJ 1 Y ?_;let n4:(["_law_desk_here","_law_begin","_law_end"]:!O).Nodup:=∎;refine aD (iT 1 (ds:=(fj p).map .str) (VO.to (lO 1. (VO.ve (VO.to (eI (own:=["_law_desk_here","_law_begin","_law_end"]) (cap:=[]) (cl:=[]) (tgt:=.tup [0,1,2]) (F:=Fhr) Y #[Y,∎,∎,Y,Y,∅] (eG (cJ eX 0. aQ (OV p))) (λf s3 H3=>g7 Y (bS (g6 0 n4) (bS (g6 1 n4) (bS (g6 2 n4) fP)))) Y (small (by rw[ae];omega)) (λd hd=>?_)) (R3 _))) (small (by simp;omega))) (by unfold fj;rw[aI (l₂:=pC rJ _)])) nd) ?_
  .let#[#[qa,qb,qi],hq,rfl]:=ai.mp hd;obtain⟨h1,h2,h3⟩:eu qa/\dG qb/\dG qi:=ok.hours (qa,qb,qi) hq;let s1:=h1.short;let s2:=iw h2;let s3:=iw h3;let e1:("open":O).length=4:=⋯;let e2:(" ":O).length=1:=⋯;exact Cb Y Y λf s3 H3=>ui aQ (VO.ve (dQ {aQ,0.,uh 1. (dG.log h2) n.str,uh 2. (dG.log h3) n.str} (small (by show 4<=_;decide)))) (by rw[e2];simp;omega)
  refine aD (k7 (tgt:=.tup [7,8,9,10]) bZ Y (eG (cJ eX 0. aQ (OW p)))
   (g7 Y (bS (g6 7 nd) (bS (g6 8 nd) (bS (g6 9 nd) (bS (g6 10 nd) fP))))) (λi=>[.val (gG p),.own ((fj p).map .str),.un,.un,.un,.un,.un,.un,.un,.un,.un]) 0 Y (bj _) (λi d hi hd=>qQ7 hi ()) (.inl #[Y,Y])) ?_;refine eJ 1 Y ?_;refine aS (bL (ui (zs:=fj p) aQ 1. ?_));let e5:("\n":O).length=1:=⋯;let e2:(" ":O).length=1:=⋯;let hs:=qJ (l:=fj p) (b:=2000) λx hx=>by
   unfold fj pS at hx;simp only[aT,ai]at hx;rcases hx with((((⟨q,hq,rfl⟩|⟨q,hq,rfl⟩)|⟨q,hq,rfl⟩)|⟨dk,hq,rfl⟩)|⟨q,hq,rfl⟩)|⟨q,hq,rfl⟩
   .let#[h1,h2]:=ok.kinds q hq;let s1:=h1.short;let s2:=k_ h2;let e1:("kind ":O).length=5:=⋯;unfold rH;simp only[cC];omega
   .let s1:=(ok.gates q hq).short;let e1:("gate ":O).length=5:=⋯;unfold pP;simp only[cC];omega
   .let#[h1,h2]:=ok.lines q hq;let s1:=h1.short;let s2:=iw h2;let e1:("line ":O).length=5:=⋯;unfold pQ;simp only[cC];omega
   .let#[h1,h2,h3,h4,h5]:=ok.desks dk hq;let XM:Ir (.str dk.to):=h2;let s1:=h1.short;let s2:=k_ XM;let s3:=oT h3;let s4:=iI (y:=" ") ⋯ (l:=dk.places) (b:=8) λx hx=>(h5 x hx).short;let s5:dk.places.length*(8+1)<=60*9:=kG h4 (aP _);let e1:("desk ":O).length=5:=⋯;let e2:(" to ":O).length=4:=⋯;let e3:(" by ":O).length=4:=⋯;let e4:(" from ":O).length=6:=⋯;unfold ou qK;simp only[cC];omega
   .let#[h1,h2,h3]:=ok.times q hq;let s1:=h1.short;let s2:=h2.short;let s3:=iw h3;let:=iI (y:=" ") ⋯ (l:=["time",q.1,q.2.1,eY q.2.2]) (b:=8) λx hx=>by
     simp only[au,bu,or_false]at hx;rcases hx with rfl|rfl|rfl|rfl
     .decide
     .exact s1
     .exact s2
     .omega
    unfold pR;exact bA this (by simp only[a8,dP];omega)
   .let#[h1,h2,h3]:=ok.hours q hq;let s1:=h1.short;let s2:=iw h2;let s3:=iw h3;let:=iI (y:=" ") ⋯ (l:=["open",q.1,eY q.2.1,eY q.2.2]) (b:=8) λx hx=>by
     simp only[au,bu,or_false]at hx;rcases hx with rfl|rfl|rfl|rfl
     .decide
     .exact s1
     .omega
     .omega
    unfold rJ;exact bA this (by simp only[a8,dP];omega)
  let hb:(fj p).length*2000<=1440*2000:=kG (by unfold fj;simp;omega) (aP _);rw[e5];omega
end
end Mg
namespace Mg
open L2 PySem PyProof.Rows
theorem g0(a c:Int)(hb:0<b)(hc:0<=c)(h:c+b<=1000000):dG (c+a%b):=by let a1:0<=a%b:=cx _ ();let a2:a%b<b:=c6 _ hb;exact#[(),()]
theorem oU(a:Int)(hb:0<b)(h:b<=1000000):dG (a%b):=by let:=g0 a 0 hb () ();rwa[Int.zero_add]at this
theorem getD_mem{l:!O}{k:Nat}(h:k<l.length):l.getD k ""∈l:=by rw[aG,ao h];exact cN _
theorem R4(m:Int)(h:many<=60):AJ (lV m many):=by
 unfold lV;split
 .trivial
 split
 .exact#[g0 _ 1 ⋯ ⋯ ⋯,oU _ ⋯ ⋯]
 split
 .exact g0 _ 1 ⋯ ⋯ ⋯
 split
 .split
  .trivial
  .exact oU _ ⋯ ⋯
 split
 .refine#[[ae,eS]▸h,λz hz=>?_];let#[k,_,rfl]:=ai.mp hz;exact g0 _ 1 ⋯ ⋯ ⋯
 .trivial
theorem AO(m:Int)(h:many<=12):jx (lV m many) many<=12:=by
 unfold lV;split
 .show(many:Int)<=12;omega
 split
 .show 1+m/6%4<=12;omega
 split
 .show 1+m/6%4<=12;omega
 split
 .show(1:Int)<=12;omega
 split
 .show(1:Int)<=12;omega
 .show(1:Int)<=12;omega
theorem Kh(h1:1<=places.length)(h12:places.length<=12)(hd:d∈lX cell places lines):
  eu d.name/\d.to∈lines ++ [("":O)]/\AJ d.rule/\d.places.length<=places.length/\(∀x∈d.places,x∈places)/\jx d.rule d.places.length<=12:=by
 let#[k,hk,rfl]:=ai.mp hd;let hk:=cG.mp hk;let tl:=g_ cell (lW cell places.length) places places.length;let xU:(eA cell (lW cell places.length) places places.length).getD k []∈eA cell (lW cell places.length) places places.length:=by rw[aG,ao ()];exact cN _
 let#[r1,r2]:=uj cell _ places _ _ xU;refine#[k9 (getD_mem ([g8]▸hk)),(D4 cell lines k).2,R4 _ (),r1,r2 (),AO _ ()]
theorem zD(ns:!Int):nM (eC ns):=by
 let#[k1,k4]:=nJ (qj ns);let#[g1,g3]:=kf (gq ns);let#[p1,p6]:=mh (gq ns);let OU:(gZ ns).length<=6:=by unfold gZ linesOf;rw[cX];omega
 let Qh:(qd ns).length=(placesOf (gq ns)).length:=by unfold qd orderOf;rw[aR,cX,a9];let:=uk (gq ns) ();omega
 let O4:∀x∈placesOf (gq ns),eu x:=λx hx=>k9 hx;let hon:∀x∈qd ns,eu x:=λx hx=>by
  rcases aT.mp hx with hx|hx
  .exact O4 x (fN hx)
  .exact O4 x (eK hx)
 let WV:∀x∈gZ ns,eu x:=λx hx=>O4 x (fN hx);let XI:(jC ns).length=kT (qj ns):=by simp[rB]
 let hkn:∀q∈jC ns,eu q.1/\Ir (sk q.2):=λq hq=>by
  let#[k,hk,rfl]:=ai.mp hq;let hk:=cG.mp hk;refine#[k9 (getD_mem ([g8]▸hk)),?_];show Ir (sk (vH _));unfold vH;split
  .exact g0 _ 1 ⋯ ⋯ ⋯
  .trivial
 let NX:(iP ns).length<=4:=[rG]▸(nI _ ()).2.1;let EB:∀d∈iP ns,_:=λd hd=>Kh () () hd;let htl:=rE (pq ns) (iP ns) (jC ns) () _ (aP _);let hhl:=rF (pq ns) (iP ns) _ (aP _);generalize hD:iP ns=iH at *;let e0:eC ns=#[jC ns,lY (gq ns),(cF (gZ ns).length).map (roomAt (gq ns) iH (gZ ns)),iH,hU (pq ns) iH (jC ns) iH.length,jQ (pq ns) iH iH.length]:=by rw[<-hD];rfl
 rw[e0];refine#[by show(jC ns).length<=60;omega,?_,?_,by show iH.length<=60;omega,by show(hU _ _ _ _).length<=600;omega,by show(jQ _ _ _).length<=600;omega,hkn,λg hg=>O4 g (eK hg),λq hq=>?_,λd hd=>?_,λq hq=>?_,λq hq=>?_]
 .show(lY _).length<=60;unfold lY;rw[a9];omega
 .show((cF (gZ ns).length).map _).length<=60;rw[ae,eS];omega
 .let#[k,hk,rfl]:=ai.mp hq;let hk:=cG.mp hk;refine#[WV _ (getD_mem hk),?_];let mo:=rC (lZ iH ((gZ ns).getD k ""));let mb:maxOf (lZ iH ((gZ ns).getD k ""))<=12:=by
   rcases au.mp mo.1 with h|h
   .rw[h];decide
   .let#[d,hd,he]:=jF.mp h;split at he
    .rw[<-cv he];exact(EB d hd).2.2.2.2.2
    .cases he
  let ml:=mo.2 1 aJ;exact g0 _ _ ⋯ () ()
 .let#[d1,d2,d3,d4,d5,_]:=EB d hd;refine#[d1,?_,d3,(),λx hx=>hon x (d5 x hx)];rcases aT.mp d2 with h|h
  .exact .inr (WV _ h)
  .exact .inl (aK.mp h)
 .let#[#[d,i],hd,hq]:=zm.mp hq;let hdm:d∈iH:=by let:=eK hd;exact kE this
  let#[#[kd,j],hk,hq]:=jF.mp hq;unfold vI at hq;split at hq
  .cases hq;exact#[(EB d hdm).1,(hkn kd (kE (eK hk))).1,g0 _ 1 ⋯ ⋯ ⋯]
  .cases hq
 .let#[#[d,i],hd,hq]:=zm.mp hq;let hn:=(EB d (kE (eK hd))).1;unfold kU at hq;split at hq
  .rcases au.mp hq with rfl|hq
   .exact#[hn,oU _ ⋯ ⋯,g0 _ 9 ⋯ ⋯ ⋯]
   .rw[aK.mp hq];exact#[hn,g0 _ 25 ⋯ ⋯ ⋯,g0 _ 50 ⋯ ⋯ ⋯]
  .cases hq
def jc(x:O):Prop:=x≠""/\32∉x.cps.toList/\10∉x.cps.toList
theorem jc.one(h:jc x):wordsOf x=[x]:=xY h.1 h.2.1
theorem rK{l k:O}(hl:l=k++" ")(hk:jc k)(x:O):wordsOf (l++x)=k::wordsOf x:=by rw[hl,mZ,hk.one];rfl
theorem vL{l k:O}(hl:l=" "++k++" ")(hk:jc k)(x y:O):wordsOf (x++l++y)=wordsOf x++k::wordsOf y:=by
 let e:x++l++y=x++" "++(k++" "++y):=by rw[hl];apply str_inj;simp[add_list,cw]
 rw[e,mZ,mZ,hk.one];rfl
theorem uo(h:Ir d):jc (gi d):=by
 let e:jc "-":=by unfold jc;symm
 cases d with
 |none=>exact e
 |int i=>exact oS h.1 h.2
 |str x=>
  show jc (if x="" then "-" else x);split
  .exact e
  .rename_i hx
   rcases h with h|h
   .exact qQ7 h hx
   .exact iu h
 |_=>exact h.elim
theorem vM(h:AJ r):∀w∈dg r,jc w:=by
 intro w hw;by_cases ht:∃sh,r=.turns sh
 .let#[sh,rfl]:=ht;rcases au.mp hw with rfl|hw
  .unfold jc;symm
  .let#[z,hz,rfl]:=ai.mp hw;exact oS (h.2 z hz).1 (h.2 z hz).2
 .let D7:=λsh z=>ht #[sh,z];let O2:dg r=sr r::(uE r).map gi:=by
   cases r with
   |turns sh=>exact qQ7 Y (D7 sh)
   |_=>rfl
  rw[O2]at hw;rcases au.mp hw with rfl|hw
  .cases r<;>dsimp[sr,jc]<;>symm
  .let#[z,hz,rfl]:=ai.mp hw;exact uo ((AK D7 h) z hz)
theorem Iu(h:eu q.1/\Ir (sk q.2)):wordsOf (rH q)=[("kind":O),q.1,gi (sk q.2)]:=by unfold rH;rw[mZ,rK (k:="kind") ∎ (by unfold jc;symm),(show jc q.1 from iu h.1).one,(uo h.2).one];rfl
theorem Iv(h:eu g):wordsOf (pP g)=[("gate":O),g]:=by unfold pP;rw[rK (k:="gate") ∎ (by unfold jc;symm),(show jc g from iu h).one]
theorem Iw(h:eu q.1/\dG q.2):wordsOf (pQ q)=[("line":O),q.1,eY q.2]:=by unfold pQ;rw[mZ,rK (k:="line") ∎ (by unfold jc;symm),(show jc q.1 from iu h.1).one,(show jc (eY q.2)from oS h.2.1 h.2.2).one];rfl
theorem Iy{d:Dk}(h:eu d.name/\(d.to=""\/eu d.to)/\AJ d.rule/\d.places.length<=60/\∀x∈d.places,eu x):wordsOf (ou d)=[("desk":O),d.name,"to",gi (.str d.to),"by"]++dg d.rule ++ [("from":O)]++d.places:=by let#[h1,h2,h3,h4,h5]:=h;let XM:Ir (.str d.to):=h2;let hr:wordsOf (qI d.rule)=dg d.rule:=pO λw hw=>#[(vM h3 w hw).1,(vM h3 w hw).2.1];unfold ou qK;rw[vL (k:="from") ∎ (by unfold jc;symm),vL (k:="by") ∎ (by unfold jc;symm),vL (k:="to") ∎ (by unfold jc;symm),rK (k:="desk") ∎ (by unfold jc;symm),(show jc d.name from iu h1).one,(uo XM).one,hr,pO λw hw=>#[(iu (h5 w hw)).1,(iu (h5 w hw)).2.1]];simp
theorem Iz(h:eu q.1/\eu q.2.1/\dG q.2.2):wordsOf (pR q)=[("time":O),q.1,q.2.1,eY q.2.2]:=by
 refine pO λw hw=>?_;let:jc w:=by
  simp[au,bu,or_false]at hw;rcases hw with rfl|rfl|rfl|rfl
  .unfold jc;symm
  .exact iu h.1
  .exact iu h.2.1
  .exact oS h.2.2.1 h.2.2.2
 exact#[this.1,this.2.1]
theorem IA(h:eu q.1/\dG q.2.1/\dG q.2.2):wordsOf (rJ q)=[("open":O),q.1,eY q.2.1,eY q.2.2]:=by
 refine pO λw hw=>?_;let:jc w:=by
  simp[au,bu,or_false]at hw;rcases hw with rfl|rfl|rfl|rfl
  .unfold jc;symm
  .exact iu h.1
  .exact oS h.2.1.1 h.2.1.2
  .exact oS h.2.2.1 h.2.2.2
 exact#[this.1,this.2.1]
end Mg
namespace Mg
open L2 PySem PyProof.Rows
seal L2.VE L2.VS L2.vz L2.VT L2.VO L2.Fd
variable{p:U}{fd:fW}{H:Hp}{n:Int}{l:!O}{d:J}{K:aq}{r:Rl}{x:O}
inductive Sh where
 |name|number|count|share|nT|oV|oy
def Sh.tx:Sh->O
 | .name=>"name"
 | .number=>"number"
 | .count=>"count"
 | .share=>"share"
 | .nT=>"count or -"
 | .oV=>"name or -"
 | .oy=>"number or -"
def kY(x:O):Bool:=isNumber x && not (decide (x="0"))
def oW:Sh->O->Bool
 | .name,x=>isName x
 | .number,x=>isNumber x
 | .count,x=>kY x
 | .share,x=>kY x&&decide ((x.length:Int)=1)
 | .nT,x=>decide (x="-")||kY x
 | .oV,x=>decide (x="-")||isName x
 | .oy,x=>decide (x="-")||isNumber x
def D9(x:O):Int:=(intText? x).getD 0
def jy:Sh->O->J
 | .name,x=>.str x
 | .oV,x=>.str (if x="-" then "" else x)
 |_,x=>if x="-" then .none else .int (D9 x)
def Sh.base:Sh->Bool
 | .name=>true
 | .number=>true
 | .count=>true
 |_=>false
theorem Sh.ok(s:Sh):om s.tx:=by cases s<;>(show cj _=true)<;>symm
theorem AQ(h:isNumber x=true):1<=x.length/\x.length<=6/\∀c∈x.cps.toList,48<=c/\c<=57:=by let#[h1,h2]:=df.mp ((df.mp h).1);let#[h3,h4]:=df.mp h1;let h3:=qQ4 h3;let h4:=qQ4 h4;refine#[(),(),λc hc=>?_];let:=fk.mp h2 c hc;let e:Fh (one c) "0123456789"=decide (c∈("0123456789":O).cps.toList):=v9 ..;rw[e,FU]at this;let#[i,hi,rfl]:=ai.mp (qQ4 this);let:=cG.mp hi;omega
theorem BK(h:isNumber x=true):intText? x>>(D9 x):=by let#[h1,h2,h3]:=AQ h;let hd:=λc hc=>h3 c hc;let hl:x.cps.toList.length=x.length:=cW;let e:=intText_digits hd (λz=>by rw[z]at hl;simp only[dP]at hl;omega) ();unfold D9;rw[e];rfl
theorem FV(h:dG n):D9 (eY n)=n:=by unfold D9;rw[num_reads h.1 h.2];rfl
theorem rL(h:kY x=true):isNumber x=true:=(df.mp h).1
theorem yx(h:oW s x=true)(h1:s≠.name)(h2:s≠.oV)(hx:x≠"-"):isNumber x=true:=by
 cases s with
 |name=>exact qQ7 Y h1
 |oV=>exact qQ7 Y h2
 |number=>exact h
 |count=>exact rL h
 |share=>exact rL (df.mp h).1
 |nT=>
  rcases Bool.or_eq_true_iff.mp h with h|h
  .exact qQ7 (qQ4 h) hx
  .exact rL h
 |oy=>
  rcases Bool.or_eq_true_iff.mp h with h|h
  .exact qQ7 (qQ4 h) hx
  .exact h
section
abbrev MN:!O:=["shape","word"]
theorem Ul:bW MN MN (bt (top 24)):=by grind
def XO(b:Bool)(ds:!J)(d:J):Prop:=∃(s:Sh)(x:O),ds=[.str s.tx,.str x]/\zc x/\(b=true\/s.base=true)/\d=.bool (oW s x)
theorem bP(h:cj (.str x)=true:=by symm):Lay 20 (.str x):=bo h
theorem kZ{X:L2.Cx}{k:Nat}{z y: O}{δ:!L2.Slot}{b:Bool}{p0 q pos:Pos}{j}(hr:L2.dB k X.A)(hl:Lay 20 (.str z))(i:Nat)(h:δ[i]?>>(.val (.str z)))(e:cV (.str z) (.str y)=b)(hN:rT X i x:=by ac_rfl)(hy:cj (.str y)=true:=by symm):VT X (.Compare (.Name x p0) [.Eq] [.Constant (.str y) j q] pos) δ b:=VT.to (fB hr hl (bP hy) (mR i h hN) aQ) e
theorem Z'(n:Na mg)(C1:bw P w K mg base 2 "is_name" ["word"] (gk K ZV))(C2:bw P w K mg base 2 "is_number" ["word"] (gk K Rnu))(k2:2<=k)(C3:fb=true->bw P w K mg base k "fits" MN (gk K (XO false)))(h:XO fb ds d):wA P w K mg base MN "fits" (top 24) f k ds (.rt d):=by
 let#[s,x,rfl,ox,hb,rfl]:=h;intro gj A outer sh H E hr;let Qk:dB 2 _:=hr.mono k2;let ls:=bo (n:=20) s.ok;let lx:=bo (n:=20) ox.2;cases s with
 |name=>exact cZ (dm (kZ hr ls 0 Y ([bG]▸qQ1 Y)) (aS (bL (bB C1 Qk {1.} #[x,Y,ox.1,Y])))) Y
 |number=>exact aD (bE (kZ hr ls 0 Y (by rw[bG];symm)) a_) (cZ (dm (kZ hr ls 0 Y ([bG]▸qQ1 Y)) (aS (bL (bB C2 Qk {1.} #[x,Y,ox,Y])))) Y)
 |count=>exact aD (bE (kZ hr ls 0 Y (by rw[bG];symm)) a_) (aD (bE (kZ hr ls 0 Y (by rw[bG];symm)) a_) (cZ (dm (kZ hr ls 0 Y ([bG]▸qQ1 Y)) (aS (bL (VE.to (k8 (bB C2 Qk {1.} #[x,Y,ox,Y]) (λ_=>jb (NS hr lx bP 1. aQ))) (by rw[bG];rfl))))) Y))
 |share=>let C3:=C3 (hb.resolve_right ⋯);refine aD (bE (kZ hr ls 0 Y (by rw[bG];symm)) a_) ?_;exact aD (bE (kZ hr ls 0 Y (by rw[bG];symm)) a_) (aD (bE (kZ hr ls 0 Y (by rw[bG];symm)) a_) (cZ (dm (kZ hr ls 0 Y ([bG]▸qQ1 Y)) (aS (bL (VE.to (k8 (bB C3 hr {aQ,1.} #[.count,x,Y,ox,.inr Y,Y]) (λ_=>jb (oN hr (bJ 20 _) (bJ 20 _) (J0 1. (small (by let:=ox.1;omega)) n.len) aB))) (by rw[jw];rfl))))) Y))
 |nT=>
  let C3:=C3 (hb.resolve_right ⋯);refine aD (bE (kZ hr ls 0 Y (by rw[bG];symm)) a_) ?_;refine aD (bE (kZ hr ls 0 Y (by rw[bG];symm)) a_) ?_;refine aD (bE (kZ hr ls 0 Y (by rw[bG];symm)) a_) ?_;refine aD (bE (kZ hr ls 0 Y (by rw[bG];symm)) a_) ?_;let Dv:(cU (Sh.nT.tx) " ").map aN=[.str "count",.str "or",.str "-"]:=by rw[show cU _ " "=[("count":O),"or","-"]from by symm];rfl
  exact aS (bL (VE.to (sX (oN hr lx bP 1. aQ) (λ_=>jb (bB C3 hr {fU (VE.to (VO.ve (sZ 0. aQ Y (small ⋯))) (by rw[Dv])) aB (cB Y),1.} #[.count,x,Y,ox,.inr Y,Y]))) (by rw[bG];rfl)))
 |oV=>
  let C3:=C3 (hb.resolve_right ⋯);refine aD (bE (kZ hr ls 0 Y (by rw[bG];symm)) a_) ?_;refine aD (bE (kZ hr ls 0 Y (by rw[bG];symm)) a_) ?_;refine aD (bE (kZ hr ls 0 Y (by rw[bG];symm)) a_) ?_;refine aD (bE (kZ hr ls 0 Y (by rw[bG];symm)) a_) ?_;let Dv:(cU (Sh.oV.tx) " ").map aN=[.str "name",.str "or",.str "-"]:=by rw[show cU _ " "=[("name":O),"or","-"]from by symm];rfl
  exact aS (bL (VE.to (sX (oN hr lx bP 1. aQ) (λ_=>jb (bB C3 hr {fU (VE.to (VO.ve (sZ 0. aQ Y (small ⋯))) (by rw[Dv])) aB (cB Y),1.} #[.name,x,Y,ox,.inr Y,Y]))) (by rw[bG];rfl)))
 |oy=>
  refine aD (bE (kZ hr ls 0 Y (by rw[bG];symm)) a_) ?_;refine aD (bE (kZ hr ls 0 Y (by rw[bG];symm)) a_) ?_;refine aD (bE (kZ hr ls 0 Y (by rw[bG];symm)) a_) ?_;refine aD (bE (kZ hr ls 0 Y (by rw[bG];symm)) a_) ?_;let Dv:(cU (Sh.oy.tx) " ").map aN=[.str "number",.str "or",.str "-"]:=by rw[show cU _ " "=[("number":O),"or","-"]from by symm];rfl
  exact aS (bL (VE.to (sX (oN hr lx bP 1. aQ) (λ_=>jb (bB (C3 (hb.resolve_right ⋯)) hr {fU (VE.to (VO.ve (sZ 0. aQ Y (small ⋯))) (by rw[Dv])) aB (cB Y),1.} #[.number,x,Y,ox,.inr Y,Y]))) (by rw[bG];rfl)))
theorem zaa(F:jO K "fits" "fits" (top 24) f fd)(n:Na mg)(C1:bw P w K mg base 2 "is_name" ["word"] (gk K ZV))(C2:bw P w K mg base 2 "is_number" ["word"] (gk K Rnu)):dR P w K mg base ju 3 f fd MN (gk K (XO false)):=
 ik F Ul (by ext) λ_ _ h=>Z' n C1 C2 () (λz=>by cases z) h
theorem zeg(F:jO K "fits" "fits" (top 24) f fd)(n:Na mg)(C1:bw P w K mg base 2 "is_name" ["word"] (gk K ZV))(C2:bw P w K mg base 2 "is_number" ["word"] (gk K Rnu))(C3:bw P w K mg base 3 "fits" MN (gk K (XO false))):dR P w K mg base ju 4 f fd MN (gk K (XO true)):=
 ik F Ul (by ext) λ_ _ h=>Z' n C1 C2 ⋯ (λ_=>C3) h
theorem zab:bW MN MN (bt (top 25)):=by grind
def Rvo(ds:!J)(d:J):Prop:=∃(s:Sh)(x:O),ds=[.str s.tx,.str x]/\zc x/\oW s x=true/\d=jy s x
theorem zeh(F:jO K "value_of" "value_of" (top 25) f fd)(n:Na mg):dR P w K mg base ju 1 f fd MN (gk K Rvo):=
 ik F zab (by ext) λ_ _ h=>by
  let#[s,x,rfl,ox,hf,rfl]:=h;intro gj A outer sh H E hr;let ls:=bo (n:=20) s.ok;let lx:=bo (n:=20) ox.2;by_cases h1:s=.name
  .subst h1;exact cZ (dm (kZ hr ls 0 Y ([bG]▸qQ1 Y)) (aS (bL 1.))) Y
  .let d1:s.tx≠"name":=by cases s<;>first|exact qQ7 Y h1|(dsimp;symm)
   refine aD (bE (kZ hr ls 0 Y ([bG]▸qQ0 d1)) a_) ?_;by_cases h2:s=.oV
   .subst h2;refine cZ (dm (kZ hr ls 0 Y ([bG]▸qQ1 Y)) (aS (bL (sS (kZ hr lx 1 Y (by rw[bG])) (λz=>VE.to aQ ?_) (λz=>VE.to 1. ?_))))) Y
    .show aN ""=.str (if x="-" then "" else x);rw[qQ3 (qQ4 z)]
    .show aN x=.str (if x="-" then "" else x);rw[qQ2 (qQ5 z)]
   .let d2:s.tx≠"name or -":=by cases s<;>first|exact qQ7 Y h2|exact qQ7 Y h1|(dsimp;symm)
    let ev:jy s x=if x="-" then .none else .int (D9 x):=by cases s<;>first|exact qQ7 Y h1|exact qQ7 Y h2|rfl
    rw[ev];refine aD (bE (kZ hr ls 0 Y ([bG]▸qQ0 d2)) a_) ?_;refine aS (bL (sS (kZ hr lx 1 Y (by rw[bG])) (λz=>VE.to eD (by rw[qQ3 (qQ4 z)])) (λz=>VE.to (Q9 1. (BK (yx hf h1 h2 (qQ5 z))) (by let:=(AQ (yx hf h1 h2 (qQ5 z))).2.1;omega) n.int) (by rw[qQ2 (qQ5 z)]))))
def R5(qL:!Sh):J:=.tuple (qL.map λs=>.str s.tx)
def tJ(qL:!Sh)(ws:!O):Bool:=decide (ws.length=qL.length)&&(qL.zip ws).all λp=>oW p.1 p.2
def rM(qL:!Sh)(ws:!O):!J:=(qL.zip ws).map λp=>jy p.1 p.2
def jR(qL:!Sh)(ws:!O):J:=if tJ qL ws then .tuple (rM qL ws)else .none
abbrev XQ:!O:=["shapes","words"]
theorem zac:bW XQ XQ (bt (top 26)):=by grind
def Rvs(ds:!J)(d:J):Prop:=∃(qL:!Sh)(ws:!O),ds=[R5 qL,jB ws]/\qL.length<=1000/\ws.length<=100002/\(∀x∈ws,zc x)/\d=jR qL ws
def WX(x:O):Sh:=if x="name" then .name else if x="number" then .number else if x="count" then .count else if x="share" then .share else if x="count or -" then .nT else if x="name or -" then .oV else .oy
theorem wR(s:Sh):WX s.tx=s:=by cases s<;>rfl
def zei:J->Option J
 | .tuple [.str s,.str x]=>some (.bool (oW (WX s) x))
 |_=>none
def zej:J->Option J
 | .tuple [.str s,.str x]=>some (jy (WX s) x)
 |_=>none
theorem tK:∀(qL:!Sh)(ws:!O),Aj (qL.map λs=>aN s.tx) (ws.map aN)=(qL.zip ws).map λp=>.tuple [.str p.1.tx,.str p.2]
 | [],_=>rfl
 |_::_,[]=>rfl
 |s::qL,x::ws=>by let:=tK qL ws;unfold Aj at this ⊢;rw[av,av,cg,cg,av,av,this]
theorem FW(qL:!Sh)(ws:!O):(Aj (qL.map λs=>aN s.tx) (ws.map aN)).filterMap zei=((qL.zip ws).map λp=>oW p.1 p.2).map .bool:=by rw[tK,bX,aj];exact filterMap_some λp _=>by show some (iC _)=_;rw[wR];rfl
theorem O6(qL:!Sh)(ws:!O):(Aj (qL.map λs=>aN s.tx) (ws.map aN)).filterMap zej=rM qL ws:=by rw[tK,bX];exact filterMap_some λp _=>by show some _=_;rw[wR]
theorem zek(F:jO K "values_of" "values_of" (top 26) f fd)(n:Na mg)(mz:mg "zip"=none)(C1:bw P w K mg base 4 "fits" MN (gk K (XO true)))(C2:bw P w K mg base 1 "value_of" MN (gk K Rvo)):dR P w K mg base ju 5 f fd XQ (gk K Rvs):=
 ik F zac (by ext) λ_ _ h=>by
  let#[qL,ws,rfl,Qg,hw1,hok,rfl]:=h;intro gj A outer sh H E hr;let eX:dB 1 _:=hr.mono ();let nc:(["shape","word"]:!O).Nodup:=∎;let hzl:(Aj (qL.map λs=>aN s.tx) (ws.map aN)).length<=1000:=by rw[tK,ae,jM];omega
  let hlen:∀b,decide (ws.length=qL.length)=b->cV (.int ((ws.map aN).length:Nat)) (.int ((qL.map λs=>aN s.tx).length:Nat))=b:=λb hb=>by rw[jw,ae,ae,<-hb,e8,decide_eq_true_iff,decide_eq_true_iff];omega
  let uC:∀d∈Aj (qL.map λs=>aN s.tx) (ws.map aN),∃s x,d=.tuple [.str (Sh.tx s),.str x]/\(s,x)∈qL.zip ws/\zc x:=λd hd=>by rw[tK]at hd;let#[p,hp,rfl]:=ai.mp hd;exact#[p.1,p.2,Y,hp,hok _ (lD hp).2]
  by_cases hl:ws.length=qL.length
  .let E1:∀b,((qL.zip ws).all λp=>oW p.1 p.2)=b->rU ((qL.zip ws).map λp=>oW p.1 p.2)=b:=λb hb=>by unfold rU;rwa[GB]
   by_cases ha:((qL.zip ws).all λp=>oW p.1 p.2)=true
   .let ev:jR qL ws=.tuple (rM qL ws):=by unfold jR tJ;rw[ha,qQ1 hl];rfl
    rw[ev];refine aD (bE (VT.to (iz (k1:=false) (VT.to (gQ hr (bJ 20 _) (bJ 20 _) (fD 1. n.len) (iS 0. n.len)) (by rw[hlen true (qQ1 hl)];rfl)) (λ_=>VT.to (p8 (gV (gF (lQ Y) wB (cR (VO.ve (VO.to (eI (own:=["shape","word"]) (cap:=[]) (cl:=[]) (tgt:=.tup [0,1]) Y #[Y,∎,∎,Y,Y,∅] (HX .tup .lst 0. 1. mz) (λf s3 H3=>g7 Y (bS (g6 0 nc) (bS (g6 1 nc) fP))) Y
     (small ()) (λd hd=>?_)) (FW qL ws))) cO) n.all Y) (by show some _>>_;rw[E1 true ha]))) Y)) Y) a_) ?_
    .let#[s,x,rfl,hp,ox]:=uC d hd;refine#[_,Y,λf s3 H3=>lP,λr kL f s3 H3=>?_];let kL:some (iC _)>>r:=kL;rw[wR]at kL;cases kL;exact bB C1 hr {0.,1.} #[s,x,Y,ox,.inl Y,Y]
    refine aS (bL (kz kP wz (cR (VO.ve (VO.to (eI (own:=["shape","word"]) (cap:=[]) (cl:=[]) (tgt:=.tup [0,1]) Y #[Y,∎,∎,Y,Y,∅] (HX .tup .lst 0. 1. mz) (λf s3 H3=>g7 Y (bS (g6 0 nc) (bS (g6 1 nc) fP))) Y
     (small ()) (λd hd=>?_)) (O6 qL ws))) cO) n.tup Y));let#[s,x,rfl,hp,ox]:=uC d hd;refine#[_,Y,λf s3 H3=>lP,λr kL f s3 H3=>?_];let kL:some _>>r:=kL;rw[wR]at kL;cases kL;exact bB C2 eX {0.,1.} #[s,x,Y,ox,fk.mp ha (s,x) hp,Y]
   .let ha:=Bool.not_eq_true _▸ha;let ev:jR qL ws=.none:=by unfold jR tJ;rw[ha,uK];rfl
    rw[ev];refine cZ (dm (VT.to (iz (k1:=false) (VT.to (gQ hr (bJ 20 _) (bJ 20 _) (fD 1. n.len) (iS 0. n.len)) (by rw[hlen true (qQ1 hl)];rfl)) (λ_=>VT.to (p8 (gV (gF (lQ Y) wB (cR (VO.ve (VO.to (eI (own:=["shape","word"]) (cap:=[]) (cl:=[]) (tgt:=.tup [0,1]) Y #[Y,∎,∎,Y,Y,∅] (HX .tup .lst 0. 1. mz) (λf s3 H3=>g7 Y (bS (g6 0 nc) (bS (g6 1 nc) fP))) Y
     (small ()) (λd hd=>?_)) (FW qL ws))) cO) n.all Y) (by show some _>>_;rw[E1 false ha]))) Y)) Y) (aS (bL eD))) Y;let#[s,x,rfl,hp,ox]:=uC d hd;refine#[_,Y,λf s3 H3=>lP,λr kL f s3 H3=>?_];let kL:some (iC _)>>r:=kL;rw[wR]at kL;cases kL;exact bB C1 hr {0.,1.} #[s,x,Y,ox,.inl Y,Y]
  .let ev:jR qL ws=.none:=by unfold jR tJ;rw[qQ0 hl];rfl
   rw[ev];exact cZ (dm (VT.to (iz (k1:=true) (k2:=true) (VT.to (gQ hr (bJ 20 _) (bJ 20 _) (fD 1. n.len) (iS 0. n.len)) (by rw[hlen false (qQ0 hl)];rfl)) (λz=>by cases z)) Y) (aS (bL eD))) Y
end
def tL:Rl->Nat->Prop
 | .meet,n=>2<=n
 | .gather m a,_=>1<=m/\dG m/\dG a
 | .many m,_=>1<=m/\dG m
 | .rank none,_=>True
 | .rank (some b),_=>dG b
 | .turns s,n=>s.length=n/\∀z∈s,1<=z/\z<=9
 | .eldest,_=>True
theorem WY(h:dG n)(hx:D9 x≠n):eY n≠x:=λz=>hx (by rw[<-z,FV h])
theorem O7(h:dG n):eY n≠"-":=λz=>by
 let hd:45∈(eY n).cps.toList:=by rw[z];symm
 let:=m_ h.1 hd;omega
theorem qM(h:dG n)(h1:1<=n):kY (eY n)=true:=by unfold kY;rw[AI h.1 h.2,qQ0 (WY h (by rw[show D9 "0"=0 from by symm];omega))];rfl
theorem LY(h1:1<=n)(h9:n<=9):oW .share (eY n)=true:=by show(kY _&&decide (((eY n).length:Int)=1))=true;rcases(by omega:n=1\/n=2\/n=3\/n=4\/n=5\/n=6\/n=7\/n=8\/n=9)with rfl|rfl|rfl|rfl|rfl|rfl|rfl|rfl|rfl<;>symm
theorem ny(h:dG n)(h1:s≠.name)(h2:s≠.oV):jy s (eY n)=.int n:=by
 let e:jy s (eY n)=if eY n="-" then .none else .int (D9 (eY n)):=by cases s<;>first|exact qQ7 Y h1|exact qQ7 Y h2|rfl
 rw[e,qQ2 (O7 h),FV h]
theorem wU:∀s:!Int,(∀z∈s,1<=z/\z<=9)->tJ (aW s.length .share) (s.map eY)=true/\rM (aW s.length .share) (s.map eY)=s.map .int
 | [],_=>#[Y,Y]
 |z::s,h=>by
  let#[i1,i2]:=wU s λx hx=>h x (ay _ hx);let#[z1,z9]:=h z aJ;unfold tJ at i1 ⊢;unfold rM at i2 ⊢;let#[j1,j2]:=df.mp i1;rw[a8,fu,av,cg,List.all_cons,av,av,i2];refine#[?_,?_]
  .rw[j2,show oW (Sh.share,eY z).1 (Sh.share,eY z).2=true from LY z1 z9];simp
  .rw[show jy (Sh.share,eY z).1 (Sh.share,eY z).2=.int z from ny #[(),()] (by intro z;cases z) (by intro z;cases z)]
def vN:Rl->!Sh
 | .rank _=>[.oy]
 | .many _=>[.count]
 | .gather _ _=>[.count,.number]
 |_=>[]
theorem FX{n:Nat}(h:tL r n)(ht:∀s,r≠.turns s):tJ (vN r) ((uE r).map gi)=true/\rM (vN r) ((uE r).map gi)=uE r:=by
 cases r with
 |meet=>exact#[Y,Y]
 |eldest=>exact#[Y,Y]
 |turns s=>exact qQ7 Y (ht s)
 |many m=>
  let#[h1,h2]:=h;constructor
  .show(true&&(kY (eY m)&&true))=true;rw[qM h2 h1];rfl
  .show [jy .count (eY m)]=[dq m];rw[ny h2 (by intro z;cases z) (by intro z;cases z)]
 |gather m a=>
  let#[h1,h2,h3]:=h;constructor
  .show(true&&(kY (eY m)&&(isNumber (eY a)&&true)))=true;rw[qM h2 h1,AI h3.1 h3.2];rfl
  .show [jy .count (eY m),jy .number (eY a)]=[dq m,.int a];rw[ny h2 (by intro z;cases z) (by intro z;cases z),ny h3 (by intro z;cases z) (by intro z;cases z)]
 |rank b=>
  cases b with
  |none=>exact#[∎,Y]
  |some b=>
   constructor
   .show(true&&((decide _||isNumber (eY b))&&true))=true;rw[AI h.1 h.2];simp
   .show [jy .oy (eY b)]=[dq b];rw[ny h (by intro z;cases z) (by intro z;cases z)]
theorem tL.ok{n:Nat}(hn:n<=60)(h:tL r n):AJ r:=by
 cases r with
 |meet=>trivial
 |eldest=>trivial
 |gather m a=>exact h.2
 |many m=>exact h.2
 |rank b=>cases b with|none=>trivial|some b=>exact h
 |turns s=>exact#[by let:=h.1;omega,λz hz=>by let:=h.2 z hz;exact#[(),()]]
abbrev rN:!(O×!O):=[("kind",[("name":O),"count or -"]),("gate",[("name":O)]),("line",[("name":O),"count"]),("time",[("name":O),"name","count"]),("open",[("name":O),"number","number"]),("pace",[("name":O),"name","count","count"])]
abbrev wV:!(O×!O):=[("eldest",[]),("rank",[("number or -":O)]),("many",[("count":O)]),("gather",[("count":O),"number"]),("meet",[])]
structure Np(mg:O->Option M)(pr:GP)(K:aq):Prop extends Na mg where
 zip:mg "zip"=none
 set:mg "set"=none
 any:mg "any"=none
 mp:∃t,mg "MOST_PLACES"=some (.int 6 t)
 fo:∃g,mg "FORMS"=some (.ref g)/\GD pr K g rN
 ru:∃g,mg "RULES"=some (.ref g)/\GD pr K g wV
theorem FY{α:Type}(x:α):∀n,(aW n [x]).flatten=aW n x
 |0=>rfl
 |n+1=>by rw[fu,fx,FY x n];rfl
theorem AU(x:J)(l:!J):L2.cutD (x::l) (some 1) none=l:=(mj (x::l) 1).trans Y
section
abbrev zel:!O:=["words","many","shares","values"]
theorem O8:bW zel ["words","many"] (bt (top 29)):=by grind
def zad(ds:!J)(d:J):Prop:=∃(r:Rl)(n:Nat),ds=[jB (dg r),.int n]/\1<=n/\n<=6/\tL r n/\d=ML r
theorem zae(F:jO K "rule_of" "rule_of" (top 29) f fd)(n:Np mg w.params K)(C:bw P w K mg base 5 "values_of" XQ (gk K Rvs)):dR P w K mg base ju 6 f fd ["words","many"] (gk K zad):=
 ik F O8 (by ext) λ_ _ h=>by
  let#[r,m,rfl,m1,m6,hg,rfl]:=h;intro gj A outer s H E hr;let nd:=O8.nd;let XG:=hg.ok ();by_cases ht:∃sh,r=.turns sh
  .let#[sh,rfl]:=ht;let#[hl,hz]:=hg;let#[v1,v2]:=wU sh hz;let ev:jR (aW m .share) (sh.map eY)=.tuple (sh.map .int):=by unfold jR;rw[<-hl,v1,v2];rfl
   refine cZ (dm (VT.to (fB hr bP bP (fU 0. aB (cB Y)) aQ) ([bG]▸qQ1 Y)) (aD (cL 2 (bB C hr {VE.to (Rm (fc (cR aQ cO)) 1. () () ⋯ ∅) (by rw[FY];unfold R5;rw[List.map_replicate,fF];rfl),VE.to (VO.ve (gE 0. (.yes aB) .no)) (by show lG (L2.cutD (_::_) _ _)=_;rw[AU];rfl)} #[_,_,Y,by rw[du];omega,by rw[ae];omega,λx hx=>?_,ev.symm]) nd) (aS (bL (sS (VT.to (eW iZ lB 2. eD (eM _)) Y) (λz=>by cases z) (λ_=>VE.to (fc {aQ,2.}) Y)))))) Y;let#[z,hz',rfl]:=ai.mp hx;let:=hz z hz';exact qe () ()
  .let D7:=λsh z=>ht #[sh,z];let#[v1,v2]:=FX hg D7;let O2:dg r=sr r::(uE r).map gi:=by
    cases r with
    |turns sh=>exact qQ7 Y (D7 sh)
    |_=>rfl
   let hw:sr r≠"turns":=by
    cases r with
    |turns sh=>exact qQ7 Y (D7 sh)
    |_=>dsimp only[sr];symm
   let oR:om (sr r):=by cases r<;>dsimp only[sr,om]<;>symm
   let hk:kF wV (sr r)>>((vN r).map Sh.tx):=by
    cases r with
    |turns sh=>exact qQ7 Y (D7 sh)
    |meet=>symm
    |eldest=>symm
    |rank b=>show kF wV "rank"=some ([Sh.oy].map Sh.tx);symm
    |many m=>show kF wV "many"=some ([Sh.count].map Sh.tx);symm
    |gather m a=>show kF wV "gather"=some ([Sh.count,Sh.number].map Sh.tx);symm
   let WZ:decide (sr r="meet")=true->¬(m:Int)<2:=by
    cases r with
    |meet=>intro _;let:2<=m:=hg;omega
    |turns sh=>exact qQ7 Y (D7 sh)
    |eldest=>intro z;exact qQ7 z ∎
    |rank b=>intro z;exact qQ7 z (show ¬decide ("rank"="meet")=true by symm)
    |many m=>intro z;exact qQ7 z (show ¬decide ("many"="meet")=true by symm)
    |gather m a=>intro z;exact qQ7 z (show ¬decide ("gather"="meet")=true by symm)
   let hal:(uE r).length<=2:=by cases r<;>simp[uE]
   let hok:=AK D7 XG;let hsl:(vN r).length<=2:=by cases r<;>simp[vN]
   let ev:jR (vN r) ((uE r).map gi)=.tuple (uE r):=by unfold jR;rw[v1,v2];rfl
   rw[O2];unfold ML;generalize hA:uE r=ra at *;generalize hW:sr r=vY at *;let#[g1,q1,q2]:=n.ru;let a0:uN ((vY::ra.map gi).map aN) 0>>_:=cB Y;refine aD (bE (VT.to (fB hr (bo oR) bP (fU 0. aB a0) aQ) ([bG]▸qQ0 hw)) a_) ?_;refine aD (bE (VT.to (iz (k1:=false) (VT.to (Cp q1 q2 (fU 0. aB a0)) (by rw[hk];rfl)) (λ_=>jJ (VT.to (fB hr (bo oR) bP (fU 0. aB a0) aQ) (by rw[bG])) (λ_=>yl 1. aB))) ?_) a_) ?_
   .cases hd:decide (vY="meet") with
    |false=>rfl
    |true=>rw[qQ0 (WZ hd)];rfl
   refine aD (cL 3 (bB C hr {VE.to (J3 q1 q2 (fU 0. aB a0) hk) (by unfold R5;rw[aj];rfl),VE.to (VO.ve (gE 0. (.yes aB) .no)) (by show lG (L2.cutD (_::_) _ _)=_;rw[AU];rfl)} #[vN r,_,Y,(),by rw[ae];omega,λx hx=>?_,ev.symm]) nd) ?_
   .let#[z,hz,rfl]:=ai.mp hx;let:=hok z hz;cases z with
    |none=>exact#[⋯,by show cj _=true;symm]
    |int i=>exact qe this.1 this.2
    |str x=>
     show zc (if x="" then "-" else x);split
     .exact#[⋯,by show cj _=true;symm]
     .rename_i hx
      exact(this.resolve_left hx).ok
    |_=>exact this.elim
   .exact aS (bL (sS (VT.to (eW iZ lB 3. eD (eM _)) Y) (λz=>by cases z) (λ_=>VE.to (zx (fc {fU 0. aB a0}) 3. ∅ (small (by simp;omega))) Y)))
theorem zaf:bW ["names"] ["names"] (bt (top 30)):=by grind
def O9(l:!O):Prop:=1<=l.length/\l.length<=6/\l.Nodup/\∀x∈l,eu x
def Rap(ds:!J)(d:J):Prop:=∃l:!O,ds=[.tuple (l.map .str)]/\O9 l/\d=.bool true
def zag:J->Option J
 | .str x=>some (.bool (isName x))
 |_=>none
theorem LZ(l:!O):(l.map aN).filterMap zag=(l.map isName).map .bool:=by rw[bX,aj];exact filterMap_some λk _=>rfl
theorem zem(F:jO K "are_places" "are_places" (top 30) f fd)(n:Np mg w.params K)(C:bw P w K mg base 2 "is_name" ["word"] (gk K ZV)):dR P w K mg base ju 3 f fd ["names"] (gk K Rap):=
 ik F zaf (by ext) λ_ _ h=>by
  let#[l,rfl,#[l1,l6,lnd,lnm],rfl]:=h;intro gj A outer s H E hr;let#[t,m6]:=n.mp;let nc:(["name"]:!O).Nodup:=∎;let hdd:dd [] l=l:=Fg ↑lnd;let E1:rU (l.map isName)=true:=by unfold rU;rw[GB,fk];intro x hx;exact(lnm x hx).is
  refine aS (bL (VE.to (k8 (k1:=true) (VE.to (Ay zR zR (yW 1 l.length) (yW l.length 6) aB (VE.to (iS 0. n.len) (by rw[ae])) (λ_=>Kc m6)) (by rw[qQ1 (),qQ1 ()];rfl)) (λ_=>k8 (VE.to (gF (lQ Y) wB (cR (VO.ve (VO.to (eI (own:=["name"]) (cap:=[]) (tgt:=.one 0) Y #[Y,∎,∎,Y,Y,∅] (p_ 0.) (λf s3 H3=>g6 0 nc) Y
   (small (by rw[ae];omega)) (λd hd=>?_)) (LZ _))) cO) n.all Y) (by rw[E1])) (λ_=>jb (oN hr (bJ 20 _) (bJ 20 _) (Fn 0. () Y n.len n.set) (iS 0. n.len))))) ?_))
  .let#[z,hz,rfl]:=ai.mp hd;exact Cb Y Y λf s3 H3=>bB C hr {0.} #[z,Y,(lnm z hz).ok.1,Y]
  .rw[jw,hdd,ae,qQ1 Y];rfl
end
inductive Ent where
 |kind (n:O) (k:Option Int)
 |gate (n:O)
 |line (n:O) (r:Int)
 |desk (d:Dk)
 |time (d k:O) (w:Int)
 |hour (d:O) (a b:Int)
variable{e:Ent}
def Ent.form:Ent->O
 | .kind _ _=>"kind"
 | .gate _=>"gate"
 | .line _ _=>"line"
 | .desk _=>"desk"
 | .time _ _ _=>"time"
 | .hour _ _ _=>"open"
def Ent.rest:Ent->!J
 | .kind n k=>[.str n,sk k]
 | .gate n=>[.str n]
 | .line n r=>[.str n,.int r]
 | .desk d=>[.str d.name,.str d.to,ML d.rule,.tuple (d.places.map .str)]
 | .time d k w=>[.str d,.str k,.int w]
 | .hour d a b=>[.str d,.int a,.int b]
def L0(e:Ent):J:=.tuple (.str e.form::e.rest)
def kj(d:Dk):!O:=[("desk":O),d.name,"to",gi (.str d.to),"by"]++dg d.rule ++ [("from":O)]++d.places
def IB:Ent->!O
 | .kind n k=>[("kind":O),n,gi (sk k)]
 | .gate n=>[("gate":O),n]
 | .line n r=>[("line":O),n,eY r]
 | .desk d=>kj d
 | .time d k w=>[("time":O),d,k,eY w]
 | .hour d a b=>[("open":O),d,eY a,eY b]
def IC(d:Dk):Prop:=eu d.name/\(d.to=""\/eu d.to)/\tL d.rule d.places.length/\O9 d.places
def u9:Ent->Prop
 | .kind n k=>eu n/\∀i,k>>i->1<=i/\dG i
 | .gate n=>eu n
 | .line n r=>eu n/\1<=r/\dG r
 | .desk d=>IC d
 | .time d k w=>eu d/\eu k/\1<=w/\dG w
 | .hour d a b=>eu d/\dG a/\dG b/\a<b
theorem D_(h:eu x):x≠"-":=λz=>by
 let hd:45∈x.cps.toList:=by rw[z];symm
 let:=h.2.2 _ hd;omega
theorem L1(h:eu x):gi (.str x)=x:=by show(if x="" then("-":O)else x)=x;rw[qQ2 (iu h).1]
theorem wW(h:Ir d):zc (gi d):=by
 let h0:zc "-":=#[⋯,by show cj _=true;symm];cases d with
 |none=>exact h0
 |int i=>exact qe h.1 h.2
 |str x=>
  show zc (if x="" then "-" else x);split
  .exact h0
  .rename_i hx
   exact(h.resolve_left hx).ok
 |_=>exact h.elim
theorem FZ(h:AJ r):∀x∈dg r,zc x:=by
 intro x hx;by_cases ht:∃sh,r=.turns sh
 .let#[sh,rfl]:=ht;rcases au.mp hx with rfl|hx
  .exact#[⋯,by show cj _=true;symm]
  .let#[z,hz,rfl]:=ai.mp hx;exact qe (h.2 z hz).1 (h.2 z hz).2
 .let D7:=λsh z=>ht #[sh,z];let O2:dg r=sr r::(uE r).map gi:=by
   cases r with
   |turns sh=>exact qQ7 Y (D7 sh)
   |_=>rfl
  rw[O2]at hx;rcases au.mp hx with rfl|hx
  .cases r<;>(refine#[?_,?_]<;>dsimp[sr,om]<;>symm)
  .let#[z,hz,rfl]:=ai.mp hx;exact wW (AK D7 h z hz)
theorem O_{n:Nat}(hn:n<=6)(h:tL r n):1<=(dg r).length/\(dg r).length<=7:=by
 cases r with
 |turns s=>have:=h.1;simp[dg];omega
 |_=>simp[dg,uE]
theorem Ea(h:AJ r):∀x∈(dg r).drop 1,x≠"from":=by
 let hd:∀d,Ir d->(∀x,d≠.str x)->gi d≠"from":=by
  intro d hd hs;cases d with
  |none=>symm
  |int i=>
   intro z;let:102∈(eY i).cps.toList:=by let z:eY i="from":=z;rw[z];symm
   let:=m_ hd.1 this;omega
  |str x=>exact qQ7 Y (hs x)
  |_=>exact hd.elim
 intro x hx;cases r with
 |turns s=>let#[z,hz,rfl]:=ai.mp hx;exact hd (.int z) (h.2 z hz) (by intro x z;cases z)
 |meet=>cases hx
 |eldest=>cases hx
 |gather m a=>
  simp[dg,uE,av,iK,vX,mJ,au,bu,or_false]at hx;rcases hx with rfl|rfl
  .exact hd _ h.1 (by intro x z;cases z)
  .exact hd _ h.2 (by intro x z;cases z)
 |many m=>simp[dg,uE,av,iK,vX,mJ,au,bu,or_false]at hx;rw[hx];exact hd _ h (by intro x z;cases z)
 |rank b=>
  simp[dg,uE,av,iK,vX,mJ,au,bu,or_false]at hx;rw[hx];cases b with
  |none=>exact hd .none trivial (by intro x z;cases z)
  |some b=>exact hd _ h (by intro x z;cases z)
section
abbrev Nde:!O:=["words","end","head","places","rule"]
theorem Um:bW Nde ["words"] (bt (top 28)):=by grind
def Rde(ds:!J)(d:J):Prop:=∃q:Dk,ds=[jB (kj q)]/\IC q/\d=L0 (.desk q)
theorem zen{α:Type}(l:!α)(a b:Nat)(ha:a<=b)(hb:b<=l.length):L2.cutD l (some (a:Int)) (some (b:Int))=(l.drop a).take (b-a):=by unfold L2.cutD;rw[HT.q_,HT.q_,iL hb,iL (show a<=l.length by omega)]
theorem Eb(h:∀x∈l,zc x):Lay 20 (jB l):=oh λd hd=>by let#[x,hx,rfl]:=ai.mp hd;exact bo (h x hx).2
theorem rO(x:O)(l:!O):lz (.str x) (.list (l.map aN))=decide (x∈l):=by
 show((l.map aN).any λy=>cV y _)=_;rw[List.any_map];induction l with
 |nil=>rfl
 |cons y l ih=>
  rw[v7,ih];show(cV _ _||decide (x∈l))=_;rw[bG,e8];simp;constructor
  .rintro(h|h)
   .exact .inl h.symm
   .exact .inr h
  .rintro(h|h)
   .exact .inl h.symm
   .exact .inr h
theorem zeo(F:jO K "desk_entry" "desk_entry" (top 28) f fd)(n:Np mg w.params K)(C1:bw P w K mg base 5 "values_of" XQ (gk K Rvs))(C2:bw P w K mg base 6 "rule_of" ["words","many"] (gk K zad))(C3:bw P w K mg base 3 "are_places" ["names"] (gk K Rap)):dR P w K mg base ju 7 f fd ["words"] (gk K Rde):=
 ik F Um (by ext) λ_ _ h=>by
  let#[q,rfl,#[hn,Im,Z2,Wm],rfl]:=h;intro gj A outer s H E hr;let nd:Nde.Nodup:=Um.nd;let zep:=Wm;let#[p1,p6,pnd,pnm]:=zep;let XG:=Z2.ok ();let#[r1,r7]:=O_ p6 Z2;let rok:=FZ XG;let rnf:=Ea XG;let zai:zc (gi (.str q.to)):=wW Im;obtain⟨rw0,rest,XR⟩:∃a l,dg q.rule=a::l:=by
   cases e:dg q.rule with
   |nil=>rw[e]at r1;simp at r1
   |cons a l=>exact#[a,l,Y]
  let zaj:zc "from":=#[⋯,by show cj _=true;symm];let hW:kj q=("desk":O)::q.name::"to"::gi (.str q.to)::"by"::rw0::(rest++("from":O)::q.places):=by unfold kj;rw[XR];simp
  let zjJ:rest.length<=6:=by rw[XR]at r7;simp at r7;omega
  let lit:∀x:O,cj (.str x)=true->x.length<=100000->zc x:=λx h1 h2=>#[h2,h1];let hok:∀x∈kj q,zc x:=by
   intro x hx;rw[hW]at hx;simp only[au,aT]at hx;rcases hx with rfl|rfl|rfl|rfl|rfl|rfl|hx|rfl|hx
   .exact lit _ ∎ ⋯
   .exact hn.ok
   .exact lit _ ∎ ⋯
   .exact zai
   .exact lit _ ∎ ⋯
   .exact rok _ ([XR]▸aJ)
   .exact (λx hx=>rok x ([XR]▸ay _ hx)) x hx
   .exact zaj
   .exact(pnm x hx).ok
  let hlay:=Eb hok;let hlen:(kj q).length=7+rest.length+q.places.length:=by rw[hW];simp;omega
  let hd6:(kj q).drop 6=rest++("from":O)::q.places:=by rw[hW];rfl
  let zal:L2.cutD ((kj q).map aN) (some 6) none=(rest++("from":O)::q.places).map aN:=[<-hd6,qU]▸mj _ 6;let zam:Lay 20 (.list ((rest++("from":O)::q.places).map aN)):=Eb λx hx=>by refine hok x ?_;rw[<-hd6]at hx;exact fN hx
  let Uo:Lay 20 (.str "from"):=bP;let R6:∀(j:Nat)(x:O),(kj q)[j]?>>x->uN ((kj q).map aN) (j:Int)>>(.str x):=λj x h=>cB (by rw[ax,h];rfl);let g1:(kj q)[1]?>>q.name:=by rw[hW];rfl
  let g2:(kj q)[2]?>>("to":O):=by rw[hW];rfl
  let g4:(kj q)[4]?>>("by":O):=by rw[hW];rfl
  let Rb:(kj q)[6+rest.length]?>>("from":O):=by
   let:(kj q)[6+rest.length]?=((kj q).drop 6)[rest.length]?:=by rw[lH]
   rw[this,hd6,bM (aP _),GU];rfl
  let K2:∀j (h:j<(kj q).length),6<=j->j<6+rest.length->(kj q)[j]≠"from":=by
   intro j h j6 jr;let:(kj q)[j]?=((kj q).drop 6)[j-6]?:=by rw[lH];congr 1;omega
   rw[hd6,bN (),ao h,ao ()]at this;rw[cv this];exact (λx hx=>rnf x ([XR]▸hx)) _ (cN _)
  let R7:L2.cutD ((kj q).map aN) (some ((6+rest.length:Nat)+1:Int)) none=q.places.map aN:=by
   rw[show((6+rest.length:Nat)+1:Int)=((6+rest.length+1:Nat):Int)from by omega,mj,<-qU]
   congr 1
   rw[show 6+rest.length+1=6+(rest.length+1)from by omega,<-List.drop_drop,hd6,List.drop_append,su (),show rest.length+1-rest.length=1 from by omega];rfl
  let zan:L2.cutD ((kj q).map aN) (some 5) (some ((6+rest.length:Nat):Int))=(dg q.rule).map aN:=by
   rw[show(5:Int)=((5:Nat):Int)from Y,zen _ 5 (6+rest.length) () (by rw[ae];omega),<-qU,<-wa]
   congr 1
   rw[hW,XR];show((rw0::(rest++("from":O)::q.places))).take _=rw0::rest;rw[show 6+rest.length-5=rest.length+1 from by omega,List.take_succ_cons,List.take_left' Y]
  refine aD (bE (VT.to (HF (k1:=false) (k2:=false) (VT.to (Ab hr Y Uo zam aQ (VE.to (VO.ve (gE 0. (.yes aB) .no)) (by rw[zal]))) (by rw[rO,qQ1 ∅];rfl)) (λ_=>VT.to (gQ hr bP bP (fU 0. aB (R6 2 _ g2)) aQ) (by rw[bG,qQ1 Y];rfl)) (λ_ _=>VT.to (gQ hr bP bP (fU 0. aB (R6 4 _ g4)) aQ) (by rw[bG,qQ1 Y];rfl))) Y) a_) ?_;refine aD (cL 1 (Lp (i:=6) (j:=6+rest.length) hr 0. aQ aB hlay Uo () #[by rw[ae];omega,?_] (λj h j6 jr=>?_)) nd) ?_
  .let:(kj q)[6+rest.length]'()="from":=by rw[ao ()]at Rb;exact cv Rb
   rw[kK,bG,this];exact qQ1 Y
  .rw[ae]at h;rw[kK,bG];exact qQ0 (K2 j h j6 jr)
  let Wf:jR [.name,.oV] [q.name,gi (.str q.to)]=.tuple [.str q.name,.str q.to]:=by
   let f2:oW .oV (gi (.str q.to))=true/\jy .oV (gi (.str q.to))=.str q.to:=by
    rcases Im with h|h
    .rw[h];exact#[∎,Y]
    .rw[L1 h];refine#[?_,?_]
     .show(decide (q.to="-")||isName q.to)=true;rw[h.is,GC]
     .show aN (if q.to="-" then "" else q.to)=_;rw[qQ2 (D_ h)]
   unfold jR tJ rM;show(if(true&&(isName q.name&&(oW .oV _&&true)))=true then fH [.str q.name,jy .oV _]else .none)=_;rw[hn.is,f2.1,f2.2];rfl
  refine aD (cL 2 (bB C1 (hr.mono ()) {VE.to (fc (cR aQ (cR aQ cO))) Y,VE.to (VO.ve (dQ {fU 0. aB (R6 1 _ g1),fU 0. aB (R6 3 _ (by rw[hW];rfl))})) Y} #[_,_,Y,by show 2<=1000;decide,by show 2<=100002;decide,λx hx=>?_,Wf.symm]) nd) ?_
  .simp only[au,bu,or_false]at hx;rcases hx with rfl|rfl
   .exact hn.ok
   .exact zai
  refine aD (cL 3 (kz kP wz {VE.to (VO.ve (gE 0. (.yes (dM 1. aB)) .no)) (by rw[R7])} n.tup Y) nd) ?_;refine aD (cL 4 (bB C2 hr {VE.to (VO.ve (gE 0. (.yes aB) (.yes 1.))) (by rw[zan];rfl),VE.to (iS 3. n.len) (by rw[ae])} #[q.rule,q.places.length,Y,p1,p6,Z2,Y]) nd) ?_;refine aD (bE (VT.to (HF (VT.to (eW iZ lB 2. eD (eM _)) Y) (λ_=>VT.to (eW iZ lB 4. eD (eM _)) Y) (λ_ _=>VT.to (p8 (gV (bB C3 (hr.mono ()) {3.} #[q.places,Y,Wm,Y]) Y)) Y)) Y) a_) ?_;exact aS (bL (VE.to (fc {aQ,gB 2 0 Y Y,gB 2 1 Y Y,4.,3.}) Y))
abbrev Neo:!O:=["words","form","values"]
theorem Up:bW Neo ["words"] (bt (top 27)):=by grind
def Reo(ds:!J)(d:J):Prop:=∃e:Ent,ds=[jB (IB e)]/\u9 e/\d=L0 e
def F0:Ent->!Sh
 | .kind _ _=>[.name,.nT]
 | .gate _=>[.name]
 | .line _ _=>[.name,.count]
 | .desk _=>[]
 | .time _ _ _=>[.name,.name,.count]
 | .hour _ _ _=>[.name,.number,.number]
theorem IE(h:u9 e)(hd:∀q,e≠.desk q):∃ws,IB e=e.form::ws/\ws.length<=3/\(∀x∈ws,zc x)/\jR (F0 e) ws=.tuple e.rest/\kF rN e.form>>((F0 e).map Sh.tx)/\e.form≠"desk"/\om e.form:=by
 cases e with
 |desk q=>exact qQ7 Y (hd q)
 |kind n k=>
  let#[hn,hk]:=h;let ok2:zc (gi (sk k))/\oW .nT (gi (sk k))=true/\jy .nT (gi (sk k))=sk k:=by
   cases k with
   |none=>exact#[wW trivial,∎,Y]
   |some i=>let#[h1,h2]:=hk i Y;refine#[qe h2.1 h2.2,?_,ny h2 (by intro z;cases z) (by intro z;cases z)];show(decide _||kY (eY i))=true;rw[qM h2 h1,GC]
  refine#[_,Y,by show 2<=3;decide,λx hx=>?_,?_,(show kF rN "kind"=some ([Sh.name,Sh.nT].map Sh.tx) by symm),(show("kind":O)≠"desk" by symm),(show cj (.str "kind")=true by symm)]
  .simp[au,bu,or_false]at hx;rcases hx with rfl|rfl
   .exact hn.ok
   .exact ok2.1
  .show(if(true&&(isName n&&(oW .nT _&&true)))=true then fH [.str n,jy .nT _]else .none)=_;rw[hn.is,ok2.2.1,ok2.2.2];rfl
 |gate n=>
  refine#[[n],Y,by show 1<=3;decide,λx hx=>?_,?_,(show kF rN "gate"=some ([Sh.name].map Sh.tx) by symm),(show("gate":O)≠"desk" by symm),(show cj (.str "gate")=true by symm)]
  .rw[aK.mp hx];exact(show eu n from h).ok
  .show(if(true&&(isName n&&true))=true then fH [.str n]else .none)=_;rw[h.is];rfl
 |line n r=>
  let#[hn,h1,h2]:=h;refine#[_,Y,by show 2<=3;decide,λx hx=>?_,?_,(show kF rN "line"=some ([Sh.name,Sh.count].map Sh.tx) by symm),(show("line":O)≠"desk" by symm),(show cj (.str "line")=true by symm)]
  .simp[au,bu,or_false]at hx;rcases hx with rfl|rfl
   .exact hn.ok
   .exact qe h2.1 h2.2
  .show(if(true&&(isName n&&(kY _&&true)))=true then fH [.str n,jy .count _]else .none)=_;rw[hn.is,qM h2 h1,ny h2 (by intro z;cases z) (by intro z;cases z)];rfl
 |time d k w=>
  let#[hn,hk,h1,h2]:=h;refine#[_,Y,by show 3<=3;decide,λx hx=>?_,?_,(show kF rN "time"=some ([Sh.name,Sh.name,Sh.count].map Sh.tx) by symm),(show("time":O)≠"desk" by symm),(show cj (.str "time")=true by symm)]
  .simp[au,bu,or_false]at hx;rcases hx with rfl|rfl|rfl
   .exact hn.ok
   .exact hk.ok
   .exact qe h2.1 h2.2
  .show(if(true&&(isName d&&(isName k&&(kY _&&true))))=true then fH [.str d,.str k,jy .count _]else .none)=_;rw[hn.is,hk.is,qM h2 h1,ny h2 (by intro z;cases z) (by intro z;cases z)];rfl
 |hour d a b=>
  let#[hn,h1,h2,_]:=h;refine#[_,Y,by show 3<=3;decide,λx hx=>?_,?_,(show kF rN "open"=some ([Sh.name,Sh.number,Sh.number].map Sh.tx) by symm),(show("open":O)≠"desk" by symm),(show cj (.str "open")=true by symm)]
  .simp[au,bu,or_false]at hx;rcases hx with rfl|rfl|rfl
   .exact hn.ok
   .exact qe h1.1 h1.2
   .exact qe h2.1 h2.2
  .show(if(true&&(isName d&&(isNumber _&&(isNumber _&&true))))=true then fH [.str d,jy .number _,jy .number _]else .none)=_;rw[hn.is,AI h1.1 h1.2,AI h2.1 h2.2,ny h1 (by intro z;cases z) (by intro z;cases z),ny h2 (by intro z;cases z) (by intro z;cases z)];rfl
theorem zet(F:jO K "entry_of" "entry_of" (top 27) f fd)(n:Np mg w.params K)(C1:bw P w K mg base 5 "values_of" XQ (gk K Rvs))(C2:bw P w K mg base 7 "desk_entry" ["words"] (gk K Rde)):dR P w K mg base ju 8 f fd ["words"] (gk K Reo):=
 ik F Up (by ext) λ_ _ h=>by
  let#[e,rfl,ok,rfl]:=h;intro gj A outer s H E hr;let nd:=Up.nd;by_cases hd:∃q,e=.desk q
  .let#[q,rfl]:=hd;exact aD (cL 1 (fU 0. aB (cB Y)) nd) (cZ (dm (kZ hr bP 1 Y ([bG]▸qQ1 Y)) (aS (bL (bB C2 hr {0.} #[q,Y,ok,Y])))) Y)
  .let MH:=λq z=>hd #[q,z];let#[ws,w1,w2,w3,w4,w5,w6,w7]:=IE ok MH;let#[g1,q1,q2]:=n.fo;rw[w1];let hsl:(F0 e).length<=3:=by cases e<;>simp[F0]
   refine aD (cL 1 (fU 0. aB (cB Y)) nd) ?_;refine aD (bE (kZ hr (bo w7) 1 Y ([bG]▸qQ0 w6)) a_) ?_;refine aD (bE (VT.to (Cp q1 q2 1.) (by rw[w5];rfl)) a_) ?_;refine aD (cL 2 (bB C1 (hr.mono ()) {VE.to (J3 q1 q2 1. w5) (by unfold R5;rw[aj];rfl),VE.to (VO.ve (gE 0. (.yes aB) .no)) (by show lG (L2.cutD (_::_) _ _)=_;rw[AU];rfl)} #[F0 e,ws,Y,(),(),w3,w4.symm]) nd) ?_;let Z2:e.rest.length<=4:=by cases e<;>simp[Ent.rest]
   refine aD (bE ?_ a_) (aS (bL (VE.to (zx (fc {1.}) 2. ∅ (small (by simp;omega))) Y)));cases e with
   |hour d a b=>exact VT.to (iz (VT.to (eW iZ lB 2. eD (eM _)) Y) (λ_=>VT.to (jJ (k1:=true) (kZ hr (bo w7) 1 Y ([bG]▸qQ1 Y)) (λ_=>VT.to (Tv (gB 2 1 Y Y) (gB 2 2 Y Y)) (qQ0 (by let:=ok.2.2.2;omega)))) Y)) Y
   |_=>exact VT.to (iz (VT.to (eW iZ lB 2. eD (eM _)) Y) (λ_=>VT.to (jJ (k1:=false) (k2:=false) (kZ hr (bo w7) 1 Y (by rw[bG];dsimp only[Ent.form];exact qQ0 ∎)) (λz=>by cases z)) Y)) Y
end
def tM:!(O×!(Int×Int))->O->Int×Int->!(O×!(Int×Int))
 | [],n,z=>[(n,[z])]
 |q::l,n,z=>if q.1=n then(q.1,q.2 ++ [z])::l else q::tM l n z
def gx(l:!(O×Int×Int)):!(O×!(Int×Int)):=l.foldl (λacc q=>tM acc q.1 q.2) []
def pairD(z:Int×Int):J:=.tuple [.int z.1,.int z.2]
def uq(p:Pl):!(O×J):=p.kinds.map λq=>(q.1,sk q.2)
def jS(p:Pl):!(O×J):=p.lines.map λq=>(q.1,.int q.2)
def mq(p:Pl):!((O×O)×J):=p.times.map λq=>((q.1,q.2.1),.int q.2.2)
def zE(p:Pl):!(O×J):=(gx p.hours).map λq=>(q.1,.list (q.2.map pairD))
def ur(p:Pl):!(O×J):=[("kinds",iO (uq p)),("gates",jB p.gates),("lines",iO (jS p)),("desks",.list (p.desks.map dE)),("times",DJ (mq p)),("hours",iO (zE p)),("paces",iO [])]
def fV(p:Pl):J:=Q_ (ur p)
theorem F1(p:Pl):gJ (ur p) "kinds"=some (iO (uq p)):=fE Y
theorem F2(p:Pl):gJ (ur p) "gates"=some (jB p.gates):=(cQ (show ¬(("kinds":O)="gates") by symm)).trans (fE Y)
theorem tN(p:Pl):gJ (ur p) "lines"=some (iO (jS p)):=(cQ (show ¬(("kinds":O)="lines") by symm)).trans ((cQ (show ¬(("gates":O)="lines") by symm)).trans (fE Y))
theorem AV(p:Pl):gJ (ur p) "desks"=some (.list (p.desks.map dE)):=(cQ (show ¬(("kinds":O)="desks") by symm)).trans ((cQ (show ¬(("gates":O)="desks") by symm)).trans ((cQ (show ¬(("lines":O)="desks") by symm)).trans (fE Y)))
theorem F3(p:Pl):gJ (ur p) "times"=some (DJ (mq p)):=(cQ (show ¬(("kinds":O)="times") by symm)).trans ((cQ (show ¬(("gates":O)="times") by symm)).trans ((cQ (show ¬(("lines":O)="times") by symm)).trans ((cQ (show ¬(("desks":O)="times") by symm)).trans (fE Y))))
theorem km{κ:Type}[DecidableEq κ]:∀(kvs:!(κ×J))(x:κ),(gJ kvs x).isSome=decide (x∈kvs.map (·.1))
 | [],x=>by simp[gJ]
 |q::l,x=>by
  by_cases h:q.1=x
  .rw[fE h,qQ1 (by simp[h])];rfl
  .rw[cQ h,km l x,e8,decide_eq_true_iff,decide_eq_true_iff,av,au];exact#[.inr,λz=>z.resolve_left λe=>h e.symm]
theorem wX(p:Pl):(uq p).map (·.1)=p.kinds.map (·.1):=by unfold uq;rw[aj];rfl
theorem kC(p:Pl):(jS p).map (·.1)=p.lines.map (·.1):=by unfold jS;rw[aj];rfl
theorem wY(p:Pl):(mq p).map (·.1)=p.times.map λq=>(q.1,q.2.1):=by unfold mq;rw[aj];rfl
def qN(p:Pl)(x:O):Prop:=x∈p.gates\/x∈p.lines.map (·.1)
instance (p : Pl) (x : O) : Decidable (qN p x) := by unfold qN; infer_instance
def rP(p:Pl)(x:O):Prop:=x∈p.desks.map (·.name)
instance (p : Pl) (x : O) : Decidable (rP p x) := by unfold rP; infer_instance
def F4(p:Pl)(x:O):Prop:=∃q∈p.desks,x∈q.places
def AW(p:Pl):Ent->Prop
 | .kind n _=>n∉p.kinds.map (·.1)
 | .gate n=>¬qN p n
 | .line n _=>¬qN p n
 | .desk d=>¬rP p d.name/\(∀x∈d.places,¬F4 p x)/\(∀x∈d.places,qN p x)/\(d.to=""\/∃r:Int,gJ (jS p) d.to>>(.int r)/\jx d.rule d.places.length<=r)
 | .time d k _=>(d,k)∉p.times.map (λq=>(q.1,q.2.1))/\rP p d/\k∈p.kinds.map (·.1)
 | .hour d _ _=>rP p d
section
abbrev Ql:!O:=["plant","name"]
abbrev Npp:!O:=["plant","place"]
theorem zao:bW Ql Ql (bt (top 35)):=by grind
theorem zap:bW Ql Ql (bt (top 36)):=by grind
theorem zaq:bW Npp Npp (bt (top 37)):=by grind
def Rip(ds:!J)(d:J):Prop:=∃(p:Pl)(x:O),ds=[fV p,.str x]/\nM p/\om x/\d=.bool (decide (qN p x))
def Rid(ds:!J)(d:J):Prop:=∃(p:Pl)(x:O),ds=[fV p,.str x]/\nM p/\om x/\d=.bool (decide (rP p x))
def AX(p:Pl)(x:O):!Dk:=p.desks.filter λq=>decide (x∈q.places)
def Rit(ds es:!J):Prop:=∃(p:Pl)(x:O),ds=[fV p,.str x]/\nM p/\om x/\es=(AX p x).map dE
theorem IG{p:Pl}(h:¬F4 p x):AX p x=[]:=by unfold AX;rw[GF];intro q hq z;exact h #[q,hq,qQ4 z]
theorem CK(h:∀x∈l,eu x):Lay 20 (.list (l.map aN)):=Eb λx hx=>(h x hx).ok
theorem zex(F:jO K "is_place" "is_place" (top 35) f fd):dR P w K mg base ju 1 f fd Ql (gk K Rip):=
 ik F zao (by ext) λ_ _ h=>by
  let#[p,x,rfl,ok,ox,rfl]:=h;intro gj A outer s H E hr;refine aS (bL (VE.to (sX (NR hr Y (bo ox) (CK ok.gates) 1. (lR 0. (F2 p))) (λ_=>jb (HP hr 1. (lR 0. (tN p))))) ?_));rw[rO,km,kC]
  congr 1
  rw[e8];simp only[Bj,decide_eq_true_eq];exact Iff.rfl
def Fdn:J->Option J
 | .tuple (x::_)=>some x
 |_=>none
theorem R8(l:!Dk):(l.map dE).filterMap Fdn=(l.map (·.name)).map .str:=by rw[bX,aj];exact filterMap_some λk _=>rfl
theorem zey(F:jO K "is_desk" "is_desk" (top 36) f fd):dR P w K mg base ju 1 f fd Ql (gk K Rid):=
 ik F zap (by ext) λ_ _ h=>by
  let#[p,x,rfl,ok,ox,rfl]:=h;intro gj A outer s H E hr;let nc:(["desk"]:!O).Nodup:=∎;let hn:=ok.dn;refine aS (bL (VE.to (NR hr Y (bo ox) (CK λy hy=>?_) 1. (VO.ve (VO.to (eI (own:=["desk"]) (cap:=[]) (tgt:=.one 0) Y #[Y,∎,∎,Y,Y,∅] (eG (lR 0. (AV p))) (λf s3 H3=>g6 0 nc) Y
   (small (by rw[ae];omega)) (λd hd=>?_)) (R8 _)))) ?_))
  .let#[q,hq,rfl]:=ai.mp hy;exact(ok.desks q hq).1
  .let#[z,hz,rfl]:=ai.mp hd;exact Cb Y Y λf s3 H3=>gB 0 0 Y Y
  .rw[rO];rfl
theorem yy(x:O)(l:!O):lz (.str x) (.tuple (l.map aN))=decide (x∈l):=rO x l
def Pa(x:O):J->Bool
 | .tuple [_,_,_,.tuple l]=>l.any λy=>cV y (.str x)
 |_=>false
def Fin(x:O)(d:J):Option J:=if Pa x d=true then some d else none
theorem tP(x:O)(q:Dk):Pa x (dE q)=decide (x∈q.places):=yy x q.places
theorem R9(x:O)(l:!Dk):(l.map dE).filterMap (Fin x)=(l.filter λq=>decide (x∈q.places)).map dE:=by
 induction l with
 |nil=>rfl
 |cons q l ih=>
  rw[av,gA];by_cases h:x∈q.places
  .rw[cI (by unfold Fin;rw[tP,qQ3 (qQ1 h)]),ih,qQ3 (qQ1 h),av]
  .rw[dS (by unfold Fin;rw[tP,qQ2 (by rw[qQ0 h];decide)]),ih,qQ2 (by rw[qQ0 h];decide)]
theorem zez(F:jO K "takers_of" "takers_of" (top 37) f fd):dR P w K mg base ju 1 f fd Npp (HJ K Rit):=
 Le F zaq (by ext) λ_ _ h=>by
  let#[p,x,rfl,ok,ox,rfl]:=h;intro gj A outer s H E hr;let nc:(["desk","place"]:!O).Nodup:=∎;let hn:=ok.dn;refine aS (zu (VO.to (eI (own:=["desk"]) (cap:=[1]) (tgt:=.one 0) Y #[Y,∎,∎,Y,Y,?_] (eG (lR 0. (AV p))) (λf s3 H3=>g6 0 nc) Y
   (small (by rw[ae];omega)) (λd hd=>?_)) (R9 x _)))
  .intro j hj;rcases au.mp hj with rfl|hj
   .exact#[(by show(1:Nat)<2;decide),mB Y,Y]
   .cases hj
  .let#[z,hz,rfl]:=ai.mp hd;refine#[_,Y,λf s3 H3=>?_,λr kL f s3 H3=>?_]
   .refine pJ (VT.to (JW hr Y (bo ox) (kA λd hd=>by let#[y,hy,rfl]:=ai.mp hd;exact bo ((ok.desks z hz).2.2.2.2 y hy).ok.2) 1. (di 0. aB (cB Y))) ?_);unfold Fin;rw[tP,yy];by_cases h:x∈z.places
    .rw[qQ1 h];rfl
    .rw[qQ0 h];rfl
   .unfold Fin at kL;split at kL
    .cases kL;exact mR 0 Y
    .cases kL
def zar:Rl->Bool
 | .many _=>true
 | .gather _ _=>true
 |_=>false
theorem zas:bW ["rule","many"] ["rule","many"] (bt (top 5)):=by grind
theorem zeA(F:jO K "greatest_load" "greatest_load" (top 5) f fd):dR P w K mg base ju 1 f fd ["rule","many"] (gk K Rgr):=
 ik F zas (by ext) λ_ _ h=>by
  let#[r,m,rfl,rfl]:=h;intro gj A outer s H E hr;let oR:om (sr r):=by cases r<;>dsimp[sr,om]<;>symm
  let h0:uN (aN (sr r)::uE r) 0>>_:=cB Y;let MC:(decide (sr r="many")||decide (sr r="gather"))=zar r:=by
   cases r with
   |meet=>symm
   |eldest=>symm
   |many m=>exact(show(decide ("many"="many")||decide ("many"="gather"))=true by symm)
   |gather m a=>exact(show(decide ("gather"="many")||decide ("gather"="gather"))=true by symm)
   |rank b=>exact(show(decide ("rank"="many")||decide ("rank"="gather"))=false by symm)
   |turns l=>exact(show(decide ("turns"="many")||decide ("turns"="gather"))=false by symm)
  by_cases h1:zar r=true
  .refine cZ (dm (VT.to (iz (fB hr (bo oR) bP (di 0. aB h0) aQ) (λ_=>fB hr (bo oR) bP (di 0. aB h0) aQ)) (by rw[bG,bG,MC,h1])) (aS (bL (di 0. aB ?_)))) Y;cases r with
   |many m=>exact cB Y
   |gather m a=>exact cB Y
   |_=>cases h1
  .let h1:=Bool.not_eq_true _▸h1;refine aD (bE (VT.to (iz (fB hr (bo oR) bP (di 0. aB h0) aQ) (λ_=>fB hr (bo oR) bP (di 0. aB h0) aQ)) (by rw[bG,bG,MC,h1])) a_) ?_;by_cases h2:sr r="meet"
   .refine cZ (dm (VT.to (fB hr (bo oR) bP (di 0. aB h0) aQ) ([bG]▸qQ1 h2)) (aS (bL (VE.to 1. ?_)))) Y;cases r with
    |meet=>rfl
    |many m=>cases h1
    |gather m a=>cases h1
    |eldest=>exact qQ7 h2 ∎
    |rank b=>exact qQ7 h2 (show ¬(("rank":O)="meet") by symm)
    |turns l=>exact qQ7 h2 (show ¬(("turns":O)="meet") by symm)
   .refine aD (bE (VT.to (fB hr (bo oR) bP (di 0. aB h0) aQ) ([bG]▸qQ0 h2)) a_) ?_;refine aS (bL (VE.to aB ?_));cases r with
    |meet=>exact qQ7 Y h2
    |many m=>cases h1
    |gather m a=>cases h1
    |_=>rfl
end
theorem dH(e:Ent):om e.form:=by cases e<;>(dsimp[Ent.form,om];symm)
theorem uv(e:Ent):uN (aN e.form::e.rest) 0>>(.str e.form):=cB Y
def Ent.name:Ent->O
 | .kind n _=>n
 | .gate n=>n
 | .line n _=>n
 | .desk d=>d.name
 | .time d _ _=>d
 | .hour d _ _=>d
theorem Ki(e:Ent):uN (aN e.form::e.rest) 1>>(.str e.name):=by cases e<;>exact cB Y
theorem Kj(h:u9 e):eu e.name:=by
 cases e with
 |gate n=>exact h
 |_=>exact h.1
theorem gM(h:a≠b):cV (.str a) (.str b)=false:=[bG]▸qQ0 h
theorem ko(a:O):cV (.str a) (.str a)=true:=[bG]▸qQ1 Y
section
abbrev F5:!O:=["plant","entry"]
def XS(ds:!J)(d:J):Prop:=∃(p:Pl)(e:Ent),ds=[fV p,L0 e]/\nM p/\u9 e/\AW p e/\d=.bool false
def Pb:J->Option J:=λ_=>some (.bool false)
theorem AY:∀l:!J,l.filterMap Pb=(aW l.length false).map .bool
 | []=>rfl
 |d::l=>by rw[cI (f:=Pb) Y,AY l];rfl
theorem L3(n:Nat):Cr (aW n false)=false:=by rw[eT];intro z;let#[b,hb,h]:=kJ.mp z;rw[(jG.mp hb).2]at h;cases h
abbrev Ntt:!O:=["plant","entry","form","name"]
theorem Uq:bW Ntt F5 (bt (top 32)):=by grind
theorem zeB(F:jO K "tells_twice" "tells_twice" (top 32) f fd)(n:Np mg w.params K)(C1:bw P w K mg base 1 "is_place" Ql (gk K Rip))(C2:bw P w K mg base 1 "is_desk" Ql (gk K Rid))(C3:bw P w K mg base 1 "takers_of" Npp (HJ K Rit)):dR P w K mg base ju 2 f fd F5 (gk K XS):=
 ik F Uq (by ext) λ_ _ h=>by
  let#[p,e,rfl,ok,oe,oa,rfl]:=h;intro gj A outer s H E hr;let nd:Ntt.Nodup:=Uq.nd;let XT:=(Kj oe).ok.2;let ofm:=dH e;refine aD (cL 2 (di 1. aB (uv e)) nd) ?_;refine aD (cL 3 (di 1. aB (Ki e)) nd) ?_;cases e with
  |kind m k=>refine cZ (dm (kZ hr (bo (dH _)) 2 Y (ko _)) (aS (bL (VE.to (HP hr 3. (lR 0. (F1 p))) ?_)))) Y;rw[km,wX];exact qQ6 iC (qQ0 oa)
  |gate m=>refine aD (bE (kZ hr (bo (dH _)) 2 Y (gM (show("gate":O)≠"kind" by symm))) a_) ?_;exact cZ (dm (VT.to (iz (k2:=true) (kZ hr (bo (dH _)) 2 Y (ko _)) (λz=>by cases z)) Y) (aS (bL (bB C1 hr {0.,3.} #[p,m,Y,ok,XT,by rw[qQ0 oa]])))) Y
  |line m r=>refine aD (bE (kZ hr (bo (dH _)) 2 Y (gM (show("line":O)≠"kind" by symm))) a_) ?_;exact cZ (dm (VT.to (iz (kZ hr (bo (dH _)) 2 Y (gM (show("line":O)≠"gate" by symm))) (λ_=>kZ hr (bo (dH _)) 2 Y (ko _))) Y) (aS (bL (bB C1 hr {0.,3.} #[p,m,Y,ok,XT,by rw[qQ0 oa]])))) Y
  |desk q=>
   refine aD (bE (kZ hr (bo (dH _)) 2 Y (gM (show("desk":O)≠"kind" by symm))) a_) ?_;refine aD (bE (VT.to (iz (kZ hr (bo (dH _)) 2 Y (gM (show("desk":O)≠"gate" by symm))) (λ_=>kZ hr (bo (dH _)) 2 Y (gM (show("desk":O)≠"line" by symm)))) Y) a_) ?_;let nc:(["place","plant"]:!O).Nodup:=∎;let#[a1,a2,a3,a4]:=oa;let l6:=oe.2.2.2.2.1;refine cZ (dm (kZ hr (bo (dH _)) 2 Y (ko _)) (aS (bL (VE.to (sX (bB C2 hr {0.,3.} #[p,q.name,Y,ok,XT,Y]) (λ_=>jb (gF (N6 Y) Zt (cR (VO.ve (VO.to (eI (own:=["place"]) (cap:=[0]) (tgt:=.one 0) Y #[Y,∎,∎,Y,Y,?_] (p_ (di 1. aB (cB (j:=4) Y))) (λf s3 H3=>g6 0 nc) Y
    (small (by rw[ae];omega)) (λd hd=>?_)) (AY _))) cO) n.any Y))) ?_)))) Y
   .intro j hj;rcases au.mp hj with rfl|hj
    .exact#[(by show(0:Nat)<4;decide),mB Y,Y]
    .cases hj
   .let#[z,hz,rfl]:=ai.mp hd;exact Cb Y Y λf s3 H3=>VE.to (NS hr jP jP (VE.to (VO.ve (pK C3 hr {1.,0.} #[p,z,Y,ok,(oe.2.2.2.2.2.2 z hz).ok.2,Y])) (by rw[IG (a2 z hz)];rfl)) (VO.ve (dQ (ds:=[]) cO))) Y
   .rw[qQ0 a1,L3];rfl
  |time d k wk=>refine aD (bE (kZ hr (bo (dH _)) 2 Y (gM (show("time":O)≠"kind" by symm))) a_) ?_;refine aD (bE (VT.to (iz (kZ hr (bo (dH _)) 2 Y (gM (show("time":O)≠"gate" by symm))) (λ_=>kZ hr (bo (dH _)) 2 Y (gM (show("time":O)≠"line" by symm)))) Y) a_) ?_;refine aD (bE (kZ hr (bo (dH _)) 2 Y (gM (show("time":O)≠"desk" by symm))) a_) ?_;refine cZ (dm (kZ hr (bo (dH _)) 2 Y (ko _)) (aS (bL (VE.to (Ra hr 3. (gB 1 2 Y Y) (lR 0. (F3 p))) ?_)))) Y;refine qQ6 iC ?_;rw[km,wY];rw[eT];intro z;exact oa.1 (@of_decide_eq_true _ (_) z)
  |hour d a b=>refine aD (bE (kZ hr (bo (dH _)) 2 Y (gM (show("open":O)≠"kind" by symm))) a_) ?_;refine aD (bE (VT.to (iz (kZ hr (bo (dH _)) 2 Y (gM (show("open":O)≠"gate" by symm))) (λ_=>kZ hr (bo (dH _)) 2 Y (gM (show("open":O)≠"line" by symm)))) Y) a_) ?_;refine aD (bE (kZ hr (bo (dH _)) 2 Y (gM (show("open":O)≠"desk" by symm))) a_) ?_;refine aD (bE (kZ hr (bo (dH _)) 2 Y (gM (show("open":O)≠"time" by symm))) a_) ?_;exact aS (bL (VE.to (k8 (k2:=false) (VE.to (oN hr (bo (dH _)) bP 2. aQ) (qQ6 iC (gM (show("open":O)≠"pace" by symm)))) (λz=>by cases z)) Y))
abbrev Nln:!O:=["plant","entry","form","into_line"]
theorem Ur:bW Nln F5 (bt (top 33)):=by grind
theorem zeC(F:jO K "lacks_name" "lacks_name" (top 33) f fd)(n:Np mg w.params K)(C1:bw P w K mg base 1 "is_place" Ql (gk K Rip))(C2:bw P w K mg base 1 "is_desk" Ql (gk K Rid)):dR P w K mg base ju 2 f fd F5 (gk K XS):=
 ik F Ur (by ext) λ_ _ h=>by
  let#[p,e,rfl,ok,oe,oa,rfl]:=h;intro gj A outer s H E hr;let nd:Nln.Nodup:=Ur.nd;let XT:=(Kj oe).ok.2;refine aD (cL 2 (di 1. aB (uv e)) nd) ?_;let pac:∀(e:Ent),e.form≠"pace":=λe=>by cases e<;>(dsimp only[Ent.form];symm)
  cases e with
  |desk q=>
   let#[a1,a2,a3,a4]:=oa;let nc:(["place","plant"]:!O).Nodup:=∎;let oto:om q.to:=by
    rcases oe.2.1 with h|h
    .rw[h];show cj (.str ("":O))=true;symm
    .exact h.ok.2
   let l6:=oe.2.2.2.2.1;refine cZ (dm (kZ hr (bo (dH _)) 2 Y (ko _)) (aD (cL 3 (d:=.bool true) (VE.to (sX (oN hr (bo oto) bP (gB 1 2 Y Y) aQ) (λ_=>jb (HP hr (gB 1 2 Y Y) (lR 0. (tN p))))) ?_) nd) (aS (bL (VE.to (sX (VE.to (wD 3.) Y) (λ_=>jb (VE.to (wD (gF (lQ Y) wB (cR (VO.ve (VO.to (eI (own:=["place"]) (cap:=[0]) (tgt:=.one 0) (F:=XJ) Y #[Y,∎,∎,Y,Y,?_] (p_ (di 1. aB (cB (j:=4) Y))) (λf s3 H3=>g6 0 nc) Y
    (small (by rw[ae];omega)) (λd hd=>?_)) (um _))) cO) n.all Y)) (by rw[qG];rfl)))) Y))))) Y
   .rw[bG,km,kC]
    congr 1
    rcases a4 with h|⟨r,h,_⟩
    .rw[qQ1 h];rfl
    .let:(gJ (jS p) q.to).isSome=true:=by rw[h];rfl
     rw[km,kC]at this;rw[this,GC]
   .intro j hj;rcases au.mp hj with rfl|hj
    .exact#[(by show(0:Nat)<4;decide),mB Y,Y]
    .cases hj
   .let#[z,hz,rfl]:=ai.mp hd;exact Cb Y Y λf s3 H3=>bB C1 hr {1.,0.} #[p,z,Y,ok,(oe.2.2.2.2.2.2 z hz).ok.2,by rw[qQ1 (a3 z hz)]]
  |time d k wk=>refine aD (bE (kZ hr (bo (dH _)) 2 Y (gM (show("time":O)≠"desk" by symm))) a_) ?_;refine cZ (dm (kZ hr (bo (dH _)) 2 Y (ko _)) (aS (bL (VE.to (sX (k1:=false) (VE.to (wD (bB C2 hr {0.,gB 1 1 Y Y} #[p,d,Y,ok,XT,Y])) (by rw[qQ1 oa.2.1];rfl)) (λ_=>jb (Lf hr (gB 1 2 Y Y) (lR 0. (F1 p))))) ?_)))) Y;rw[km,wX,qQ1 oa.2.2];rfl
  |hour d a b=>exact aD (bE (kZ hr (bo (dH _)) 2 Y (gM (show("open":O)≠"desk" by symm))) a_) (aD (bE (kZ hr (bo (dH _)) 2 Y (gM (show("open":O)≠"time" by symm))) a_) (cZ (dm (kZ hr (bo (dH _)) 2 Y (ko _)) (aS (bL (VE.to (wD (bB C2 hr {0.,gB 1 1 Y Y} #[p,d,Y,ok,XT,Y])) (by rw[qQ1 (show rP p d from oa)];rfl))))) Y))
  |_=>refine aD (bE (kZ hr (bo (dH _)) 2 Y (by rw[bG];dsimp only[Ent.form];exact qQ0 ∎)) a_) ?_;exact aD (bE (kZ hr (bo (dH _)) 2 Y (by rw[bG];dsimp only[Ent.form];exact qQ0 ∎)) a_) (aD (bE (kZ hr (bo (dH _)) 2 Y (by rw[bG];dsimp only[Ent.form];exact qQ0 ∎)) a_) (aS (bL (VE.to (k8 (k1:=false) (k2:=false) (VE.to (oN hr (bo (dH _)) bP 2. aQ) ([bG]▸qQ6 iC (qQ0 (pac _)))) (λz=>by cases z)) Y))))
theorem W1:bW F5 F5 (bt (top 34)):=by grind
theorem zat(F:jO K "lacks_room" "lacks_room" (top 34) f fd)(n:Np mg w.params K)(C1:bw P w K mg base 1 "greatest_load" ["rule","many"] (gk K Rgr)):dR P w K mg base ju 2 f fd F5 (gk K XS):=
 ik F W1 (by ext) λ_ _ h=>by
  let#[p,e,rfl,ok,oe,oa,rfl]:=h;intro gj A outer s H E hr;by_cases hd:∃q,e=.desk q
  .let#[q,rfl]:=hd;let#[a1,a2,a3,a4]:=oa;let oto:om q.to:=by
    rcases oe.2.1 with h|h
    .rw[h];show cj _=true;symm
    .exact h.ok.2
   by_cases ht:q.to=""
   .exact cZ (dm (VT.to (iz (VT.to (gQ hr (bo (dH _)) bP (di 1. aB (uv _)) aQ) (qQ6 (λb=>not b) (ko _))) (λ_=>VT.to (fB hr (bo oto) bP (gB 1 2 Y Y) aQ) ([bG]▸qQ1 ht))) Y) (aS (bL B_))) Y
   .let#[r,h1,h2]:=a4.resolve_left ht;exact aD (bE (VT.to (iz (VT.to (gQ hr (bo (dH _)) bP (di 1. aB (uv _)) aQ) (qQ6 (λb=>not b) (ko _))) (λ_=>VT.to (fB hr (bo oto) bP (gB 1 2 Y Y) aQ) ([bG]▸qQ0 ht))) Y) a_) (aS (bL (VE.to (Y8 (bB C1 hr {di 1. aB (cB Y),VE.to (iS (gB 1 4 Y Y) n.len) (by rw[ae])} #[q.rule,q.places.length,Y,Y]) (cJ hr (lR 0. (tN p)) (gB 1 2 Y Y) h1)) (qQ6 iC (qQ0 ())))))
  .let hf:e.form≠"desk":=by
    cases e with
    |desk q=>exact qQ7 #[q,Y] hd
    |_=>dsimp only[Ent.form];symm
   exact cZ (dm (VT.to (iz (k1:=true) (k2:=true) (VT.to (gQ hr (bo (dH e)) bP (di 1. aB (uv _)) aQ) (by rw[bG,qQ0 hf];rfl)) (λz=>by cases z)) Y) (aS (bL B_))) Y
theorem zau:bW F5 F5 (bt (top 31)):=by grind
def Rfo(ds:!J)(d:J):Prop:=∃(p:Pl)(e:Ent),ds=[fV p,L0 e]/\nM p/\u9 e/\AW p e/\d=.str ""
theorem zeD(F:jO K "fault_of" "fault_of" (top 31) f fd)(C1:bw P w K mg base 2 "tells_twice" F5 (gk K XS))(C2:bw P w K mg base 2 "lacks_name" F5 (gk K XS))(C3:bw P w K mg base 2 "lacks_room" F5 (gk K XS)):dR P w K mg base ju 3 f fd F5 (gk K Rfo):=
 ik F zau (by ext) λ_ _ h=>by let#[p,e,rfl,ok,oe,oa,rfl]:=h;intro gj A outer s H E hr;refine aD (bE (VT.to (eW iZ lB 1. eD (eM _)) Y) a_) ?_;refine aD (bE (gV (bB C1 hr {0.,1.} #[p,e,Y,ok,oe,oa,Y]) Y) a_) ?_;exact aD (bE (gV (bB C2 hr {0.,1.} #[p,e,Y,ok,oe,oa,Y]) Y) a_) (aD (bE (gV (bB C3 hr {0.,1.} #[p,e,Y,ok,oe,oa,Y]) Y) a_) (aS (bL aQ)))
end
def R_:Option Int->V
 |none=>.non
 |some i=>.int i
theorem Pg(o:Option Int):Rep K H (R_ o) (sk o):=by
 cases o with
 |none=>exact .non
 |some i=>exact .int i
theorem Rep.Sb(r:Rep K H v (sk o)):v=R_ o:=by
 cases o with
 |none=>cases r;rfl
 |some i=>cases r;rfl
def vO(p:Pl):!(Key×V):=p.kinds.map λq=>(aL q.1,R_ q.2)
def vP(p:Pl):!(Key×V):=p.lines.map λq=>(aL q.1,V.int q.2)
def vQ(p:Pl):!(!Key×V):=p.times.map λq=>(vB (q.1,q.2.1),V.int q.2.2)
def gX(h:!(O×!(Int×Int)))(cs:!U):!(Key×V):=(h.zip cs).map λz=>(aL z.1.1,V.ref z.2)
abbrev fsN:!O:=["kinds","gates","lines","desks","times","hours","paces"]
def Us(ak ag al ad at_ ah ap:U):!(O×V):=[("kinds",.ref ak),("gates",.ref ag),("lines",.ref al),("desks",.ref ad),("times",.ref at_),("hours",.ref ah),("paces",.ref ap)]
structure PlW(K:aq)(p:U)(st:Pl)(H0 H:Hp)(C dx ak ag al ad at_ ah ap:U)(cs:!U)(xd:!V):Prop where
 ins:H p>>(.ins C dx (Us ak ag al ad at_ ah ap))
 cls:uM K C
 uF:∀f∈fsN,gw K C f
 ki:H ak>>(.dK (vO st))
 ga:H ag>>(.lst (st.gates.map V.str))
 li:H al>>(.dK (vP st))
 de:H ad>>(.lst xd)
 dr:b_ K H0 xd (st.desks.map dE)
 ti:H at_>>(.dT (vQ st))
 ho:H ah>>(.dK (gX (gx st.hours) cs))
 hl:cs.length=(gx st.hours).length
 pa:H ap>>(.dK [])
 ce:∀(i:Nat)c q,cs[i]?>>c->(gx st.hours)[i]?>>q->∃xs,H c>>(.lst xs)/\b_ K H0 xs (q.2.map pairD)
def Ec(K:aq)(p:U)(st:Pl):OR:=λH0 H as=>∃C dx ak ag al ad at_ ah ap cs xd,as=p::ak::ag::al::ad::at_::ah::ap::cs/\as.Nodup/\PlW K p st H0 H C dx ak ag al ad at_ ah ap cs xd
theorem Ec.mono{st:Pl}:fq (Ec K p st):=by
 rintro H0 H Ha Hb as ⟨C,dx,ak,ag,al,ad,at_,ah,ap,cs,xd,rfl,nd,W⟩ s e;exact#[C,dx,ak,ag,al,ad,at_,ah,ap,cs,xd,Y,nd,(#[[e p ∅]▸W.ins,W.cls,W.uF,[e ak ∅]▸W.ki,[e ag ∅]▸W.ga,[e al ∅]▸W.li,[e ad ∅]▸W.de,W.dr.mono s,[e at_ ∅]▸W.ti,[e ah ∅]▸W.ho,W.hl,[e ap ∅]▸W.pa,λi c q e1 e2=>by let#[xs,h1,h2]:=W.ce i c q e1 e2;refine#[xs,?_,h2.mono s];rw[e c (by simp[aH e1])];exact h1])]
theorem wZ{α:Type}{f:α->V}{g:α->J}:∀{l:!α},(∀x∈l,Rep K H (f x) (g x))->b_ K H (l.map f) (l.map g)
 | [],_=>.nil
 |x::l,h=>.cons (h x aJ) (wZ λy hy=>h y (ay _ hy))
theorem F6{α:Type}{g:α->J}:∀{l:!α}{cs:!U},cs.length=l.length->(∀(i:Nat)c q,cs[i]?>>c->l[i]?>>q->Rep K H (.ref c) (g q))->b_ K H (cs.map V.ref) (l.map g)
 | [],[],_,_=>.nil
 | [],_::_,h,_=>by cases h
 |_::_,[],h,_=>by cases h
 |q::l,c::cs,h,k=>.cons (k 0 c q Y Y) (F6 ↑h λi c' q' e1 e2=>k (i+1) c' q' ↑e1 ↑e2)
theorem yz:∀{h:!(O×!(Int×Int))}{cs:!U},cs.length=h.length->(gX h cs).map (·.1)=h.map λq=>(aL q.1:Key)
 | [],[],_=>rfl
 | [],_::_,e=>by cases e
 |_::_,[],e=>by cases e
 |q::h,c::cs,e=>by let:=yz ↑e;unfold gX at this ⊢;rw[cg,av,av,this];rfl
theorem yA:∀{h:!(O×!(Int×Int))}{cs:!U},cs.length=h.length->(gX h cs).map (·.2)=cs.map V.ref
 | [],[],_=>rfl
 | [],_::_,e=>by cases e
 |_::_,[],e=>by cases e
 |q::h,c::cs,e=>by let:=yA ↑e;unfold gX at this ⊢;rw[cg,av,av,this];rfl
theorem Ec.rep{st:Pl}(Ha Hb:Hp)(as:!U)(sb:cz Ha Hb)(h:Ec K p st Ha Hb as):Rep K (gK as Hb Ha) (.ref p) (fV st):=by
 let#[C,dx,ak,ag,al,ad,at_,ah,ap,cs,xd,rfl,nd,W]:=h;let sm:=kS (as:=p::ak::ag::al::ad::at_::ah::ap::cs) sb;generalize hM:gK (p::ak::ag::al::ad::at_::ah::ap::cs) Hb Ha=Ma at *;let mm:∀a∈p::ak::ag::al::ad::at_::ah::ap::cs,Ma a=Hb a:=λa ha=>[<-hM]▸f7 ha;refine Rep.obj ((mm p ∅).trans W.ins) W.cls W.uF Y ?_;refine .cons ?_ (.cons ?_ (.cons ?_ (.cons ?_ (.cons ?_ (.cons ?_ (.cons ?_ .nil))))))
 .refine .dct ((mm ak ∅).trans W.ki) ?_ ?_
  .unfold uq vO;simp only[aj];rfl
  .unfold uq vO;simp;exact wZ λq _=>Pg q.2
 .exact .lst (jW.of ((mm ag ∅).trans W.ga)) (oF _)
 .refine .dct ((mm al ∅).trans W.li) ?_ ?_
  .unfold jS vP;simp only[aj];rfl
  .unfold jS vP;simp;exact wZ λq _=>.int q.2
 .exact .lst (jW.of ((mm ad ∅).trans W.de)) (W.dr.mono sm)
 .refine .Tt ((mm at_ ∅).trans W.ti) ?_ ?_
  .unfold mq vQ;simp only[aj];rfl
  .unfold mq vQ;simp;exact wZ λq _=>.int q.2.2
 .refine .dct ((mm ah ∅).trans W.ho) ?_ ?_
  .let:=yz W.hl;let e:(gX (gx st.hours) cs).map (λq=>k6 q.1)=((gX (gx st.hours) cs).map (·.1)).map k6:=by rw[aj];rfl
   rw[e,this];unfold zE;simp only[aj];rfl
  .rw[yA W.hl];let e:((zE st).map λq=>(aN q.1,q.2)).map (·.2)=(gx st.hours).map λq=>lG (q.2.map pairD):=by unfold zE;simp only[aj];rfl
   rw[e];exact F6 W.hl λi c q e1 e2=>by let#[xs,h1,h2]:=W.ce i c q e1 e2;exact .lst (jW.of ([mm c (by simp[aH e1])]▸h1)) (h2.mono sm)
 .exact .dct ((mm ap ∅).trans W.pa) Y .nil
structure Mid(H H1:Hp)(p C dx:U)(fs:!(O×V))(os:!(U×HO)):Prop where
 ins:H1 p>>(.ins C dx fs)
 ob:∀q∈os,H1 q.1>>q.2
 nd:(p::os.map (·.1)).Nodup
 fresh:∀q∈os,H q.1=none
 old:∀b o,H b>>o->b≠p->H1 b>>o
theorem Mid.step{H1: Hp}{C dx d: U}{fs fs':!(O×V)}{os:!(U×HO)}{o:HO}(m:Mid H H1 p C dx fs os)(hd:H1 d=none):Mid H (upd (upd H1 d o) p (.ins C dx fs')) p C dx fs' (os ++ [(d,o)]):=by
 let hpd:d≠p:=λz=>by subst z;rw[m.ins]at hd;cases hd
 let Vp:d∉os.map (·.1):=λz=>by let#[q,hq,rfl]:=ai.mp z;rw[m.ob q hq]at hd;cases hd
 refine#[aM,λq hq=>?_,?_,λq hq=>?_,λb o' e hb=>?_]
 .rcases aT.mp hq with hq|hq
  .let h1:q.1≠p:=λz=>((aO.mp m.nd).1) ([<-z]▸ai.mpr #[q,hq,Y]);let h2:q.1≠d:=λz=>Vp ([<-z]▸ai.mpr #[q,hq,Y]);rw[L h1,L h2];exact m.ob q hq
  .rw[aK.mp hq,L hpd];exact aM
 .rw[aI,<-List.cons_append,bD];refine#[m.nd,∅,λx hx y hy=>?_];rw[fL,aK]at hy;subst hy;rcases au.mp hx with rfl|hx
  .exact bF hpd
  .exact λz=>Vp ([<-z]▸hx)
 .rcases aT.mp hq with hq|hq
  .exact m.fresh q hq
  .rw[aK.mp hq];cases e:H d with
   |none=>rfl
   |some o'=>have:=m.old d o' e hpd;rw[hd]at this;cases this
 .let h2:b≠d:=λz=>by subst z;let:=m.old b o' e hb;rw[hd]at this;cases this
  rw[L hb,L h2];exact m.old b o' e hb
theorem jD:∀{fs:!(O×V)},f∉fs.map (·.1)->nB f v fs=fs ++ [(f,v)]
 | [],_=>rfl
 |(g,x)::fs,h=>by show(if g=f then(g,v)::fs else(g,x)::nB f v fs)=_;rw[qQ2 (λz=>h (by rw[z];simp)),jD λz=>h (by simp[z])];rfl
abbrev CL:jT:=inClass (top 20) 0
def Ph(C:U):Sp:=λvs H Q _=>∃p dx,vs=[.ref p]/\H p>>(.ins C dx [])/\∀ak ag al ad at_ ah ap H',Mid H H' p C dx (Us ak ag al ad at_ ah ap) [(ak,.dK []),(ag,.lst []),(al,.dK []),(ad,.lst []),(at_,.dT []),(ah,.dK []),(ap,.dK [])]->Q .non H'
section
theorem zaw:bW ["self"] ["self"] (bt CL):=by grind
theorem zeE(F:jO K "__init__" "Plant.__init__" CL f fd)(cl:uM K C)(na:∀f∈fsN,gw K C f):dR P w K mg base ju 1 f fd ["self"] (Ph C):=by
 refine F.ok zaw (λvs H Q E h=>?_) (λgj A outer s H vs Q E hr h=>?_)
 .let#[p,dx,rfl,_]:=h;rfl
 .let#[p,dx,rfl,hp,q]:=h;refine#[_,lL (qZ (pv 0) qy Y) (lL (qZ (pv 0) (zU dU) Y) (lL (qZ (pv 0) qy Y) (lL (qZ (pv 0) (zU dU) Y) (lL (qZ (pv 0) Nn Y) (lL (qZ (pv 0) qy Y) (Dq (qZ (pv 0) qy Y))))))),?_];let m0:Mid H H p C dx [] []:=#[hp,λq hq=>(by cases hq),∅,λq hq=>(by cases hq),λb o e _=>e];intro ak hak;let p1:(upd H ak (.dK [])) p>>(.ins C dx []):=[L (bq hp hak)]▸hp;refine#[_,Y,p,C,dx,_,Y,p1,cl,na _ ∎,⋯,?_];let m1:=m0.step (o:=.dK []) (fs':=[(("kinds":O),V.ref ak)]) hak;rw[jD (show("kinds":O)∉([]) by symm)];refine#[bj _,λag hag=>?_];refine#[_,Y,p,C,dx,_,Y,[L (bq m1.ins hag)]▸m1.ins,cl,na _ ∎,by show 1<1000;decide,?_];let m2:=m1.step (o:=.lst []) (fs':=[(("kinds":O),V.ref ak),("gates",V.ref ag)]) hag;rw[jD (show("gates":O)∉(["kinds"]:!O) by symm)];intro al hal;refine#[_,Y,p,C,dx,_,Y,[L (bq m2.ins hal)]▸m2.ins,cl,na _ ∎,by show 2<1000;decide,?_];let m3:=m2.step (o:=.dK []) (fs':=[(("kinds":O),V.ref ak),("gates",V.ref ag),("lines",V.ref al)]) hal;rw[jD (show("lines":O)∉(["kinds","gates"]:!O) by symm)];refine#[bj _,λad had=>?_];refine#[_,Y,p,C,dx,_,Y,[L (bq m3.ins had)]▸m3.ins,cl,na _ ∎,by show 3<1000;decide,?_];let m4:=m3.step (o:=.lst []) (fs':=[(("kinds":O),V.ref ak),("gates",V.ref ag),("lines",V.ref al),("desks",V.ref ad)]) had;rw[jD (show("desks":O)∉(["kinds","gates","lines"]:!O) by symm)];intro at_ Ls;refine#[_,Y,p,C,dx,_,Y,[L (bq m4.ins Ls)]▸m4.ins,cl,na _ ∎,by show 4<1000;decide,?_];let m5:=m4.step (o:=.dT []) (fs':=[(("kinds":O),V.ref ak),("gates",V.ref ag),("lines",V.ref al),("desks",V.ref ad),("times",V.ref at_)]) Ls;rw[jD (show("times":O)∉(["kinds","gates","lines","desks"]:!O) by symm)];intro ah hah;refine#[_,Y,p,C,dx,_,Y,[L (bq m5.ins hah)]▸m5.ins,cl,na _ ∎,by show 5<1000;decide,?_];let m6:=m5.step (o:=.dK []) (fs':=[(("kinds":O),V.ref ak),("gates",V.ref ag),("lines",V.ref al),("desks",V.ref ad),("times",V.ref at_),("hours",V.ref ah)]) hah;rw[jD (show("hours":O)∉(["kinds","gates","lines","desks","times"]:!O) by symm)];intro ap hap;refine#[_,Y,p,C,dx,_,Y,[L (bq m6.ins hap)]▸m6.ins,cl,na _ ∎,by show 6<1000;decide,?_];let m7:=m6.step (o:=.dK []) (fs':=[(("kinds":O),V.ref ak),("gates",V.ref ag),("lines",V.ref al),("desks",V.ref ad),("times",V.ref at_),("hours",V.ref ah),("paces",V.ref ap)]) hap;exact q ak ag al ad at_ ah ap _ m7
end
def tQ(p:Pl):Ent->Pl
 | .kind n k=>{ p with kinds:=p.kinds ++ [(n,k)] }
 | .gate n=>{ p with gates:=p.gates ++ [n] }
 | .line n r=>{ p with lines:=p.lines ++ [(n,r)] }
 | .desk d=>{ p with desks:=p.desks ++ [d] }
 | .time d k w=>{ p with times:=p.times ++ [(d,k,w)] }
 | .hour d a b=>{ p with hours:=p.hours ++ [(d,a,b)] }
def Ut(st:Pl)(d:J)(yg:Pl):Prop:=∃e,d=L0 e/\nM st/\u9 e/\AW st e/\yg=tQ st e
theorem w8{κ:Type}[DecidableEq κ]:∀{kvs:!(κ×V)}{k:κ},(∀q∈kvs,q.1≠k)->gD kvs k=none
 | [],_,_=>rfl
 |q::l,k,h=>by rw[jA (h q aJ)];exact w8 λx hx=>h x (ay _ hx)
theorem AZ(z:Int×Int)(n:O):∀{h:!(O×!(Int×Int))}{cs:!U},cs.length=h.length->
  (gD (gX h cs) (aL n)=none/\tM h n z=h ++ [(n,[z])])\/∃i c q,h[i]?>>q/\cs[i]?>>c/\gD (gX h cs) (aL n)>>(.ref c)/\tM h n z=h.set i (q.1,q.2 ++ [z])
 | [],[],_=>.inl #[Y,Y]
 | [],_::_,e=>by cases e
 |_::_,[],e=>by cases e
 |q::h,c::cs,e=>by
  let hv:gX (q::h) (c::cs)=(aL q.1,V.ref c)::gX h cs:=Y;by_cases hn:q.1=n
  .refine .inr #[0,c,q,Y,Y,?_,?_]
   .exact kQ (by show(aL q.1)=aL n;rw[hn])
   .show(if q.1=n then(q.1,q.2 ++ [z])::h else q::tM h n z)=_;rw[qQ3 hn];rfl
  .let ne:¬(aL q.1:Key)=aL n:=λw=>hn (by injection w);let ea:tM (q::h) n z=q::tM h n z:=by show(if q.1=n then(q.1,q.2 ++ [z])::h else q::tM h n z)=_;rw[qQ2 hn]
   rcases AZ z n ↑e with⟨h1,h2⟩|⟨i,c',q',h1,h2,h3,h4⟩
   .exact .inl #[[hv,jA ne]▸h1,by rw[ea,h2];rfl]
   .exact .inr #[i+1,c',q',by simpa using h1,by simpa using h2,[hv,jA ne]▸h3,by rw[ea,h4];rfl]
theorem yB:∀{h h':!(O×!(Int×Int))}{cs:!U},h'.map (·.1)=h.map (·.1)->gX h' cs=gX h cs
 | [],[],_,_=>rfl
 | [],_::_,_,e=>by cases e
 |_::_,[],_,e=>by cases e
 |q::h,q'::h',cs,e=>by
  let#[e1,e2]:=iy e;cases cs with
  |nil=>rfl
  |cons c cs=>show(aL q'.1,V.ref c)::gX h' cs=(aL q.1,V.ref c)::gX h cs;rw[show q'.1=q.1 from e1,yB e2]
theorem II(e:cs.length=h.length)(q:O×!(Int×Int))(c:U):gX (h ++ [q]) (cs ++ [c])=gX h cs ++ [(aL q.1,V.ref c)]:=by unfold gX;rw[List.zip_append (),aI];rfl
theorem IJ(l:!(O×Int×Int))(q:O×Int×Int):gx (l ++ [q])=tM (gx l) q.1 q.2:=by unfold gx;rw[eB];rfl
theorem F7(z:Int×Int)(n:O):∀h,(tM h n z).length<=h.length+1
 | []=>aP _
 |q::h=>by
  show(if q.1=n then(q.1,q.2 ++ [z])::h else q::tM h n z).length<=_;split
  .simp
  .let:=F7 z n h;simp;omega
theorem IK(l:!(O×Int×Int)):(gx l).length<=l.length:=by
 let go:∀(l:!(O×Int×Int))(acc:!(O×!(Int×Int))),(l.foldl (λacc q=>tM acc q.1 q.2) acc).length<=acc.length+l.length:=by
  intro l;induction l with
  |nil=>intro acc;exact aP _
  |cons q l ih=>intro acc;let h1:=ih (tM acc q.1 q.2);let h2:=F7 q.2 q.1 acc;rw[lF,a8];omega
 let:=go l [];rwa[dP,mQ]at this
theorem A0(z:Int×Int)(n:O):∀(h:!(O×!(Int×Int)))(b:Nat),(∀q∈h,q.2.length<=b)->∀q∈tM h n z,q.2.length<=b+1
 | [],b,_,q,hq=>by rw[aK.mp hq];simp
 |p::h,b,hb,q,hq=>by
  let hq:q∈(if p.1=n then(p.1,p.2 ++ [z])::h else p::tM h n z):=hq;split at hq
  .rcases au.mp hq with rfl|hq
   .let:=hb p aJ;simp;omega
   .let:=hb q (ay _ hq);omega
  .rcases au.mp hq with rfl|hq
   .let:=hb q aJ;omega
   .exact A0 z n h b (λx hx=>hb x (ay _ hx)) q hq
theorem F8(l:!(O×Int×Int)):∀q∈gx l,q.2.length<=l.length:=by
 let go:∀(l:!(O×Int×Int))(acc:!(O×!(Int×Int)))(b:Nat),(∀q∈acc,q.2.length<=b)->∀q∈l.foldl (λacc q=>tM acc q.1 q.2) acc,q.2.length<=b+l.length:=by
  intro l;induction l with
  |nil=>intro acc b hb q hq;exact hb q hq
  |cons q0 l ih=>intro acc b hb q hq;let:=ih _ (b+1) (A0 q0.2 q0.1 acc b hb) q hq;rw[a8];omega
 intro q hq;let:=go l [] 0 (λq hq=>by cases hq) q hq;omega
section
variable{X:Cx}{B0 B H0 H C0 C:Hp}{σ:L2.St}{D:Ends}{δ:!Slot}{x y z:O}{k:Nat}{body orelse:!jT}{p0 p1 q0 pos:Pos}{j}
theorem vR(f:fM X.K B0 B H0 H σ δ)(g:cP C0 C H0 H)(hr:dB k X.A)(hl:Lay 20 (.str z))(i:Nat)(h:δ[i]?>>(.val (.str z)))(e:cV (.str z) (.str y)=false)(q:∀Ha Hb,fM X.K B0 B Ha Hb σ δ->cP C0 C Ha Hb->zt X orelse D σ Hb)(hN:rT X i x:=by ac_rfl)(hy:cj (.str y)=true:=by symm):
  cS X (.If (.Compare (.Name x p0) [.Eq] [.Constant (.str y) j q0] p1) body orelse pos) D σ H:=Oc f (VT.to (fB hr hl (bP hy) (mR i h hN) aQ) e) λHa Hb g'=>q Ha Hb (f.grow g') (g.trans g')
theorem F9(f:fM X.K B0 B H0 H σ δ)(g:cP C0 C H0 H)(hr:dB k X.A)(hl:Lay 20 (.str z))(i:Nat)(h:δ[i]?>>(.val (.str z)))(e:cV (.str z) (.str y)=true)(q:∀Ha Hb,fM X.K B0 B Ha Hb σ δ->cP C0 C Ha Hb->zt X body D σ Hb)(hN:rT X i x:=by ac_rfl)(hy:cj (.str y)=true:=by symm):
  cS X (.If (.Compare (.Name x p0) [.Eq] [.Constant (.str y) j q0] p1) body orelse pos) D σ H:=Ob f (VT.to (fB hr hl (bP hy) (mR i h hN) aQ) e) λHa Hb g'=>q Ha Hb (f.grow g') (g.trans g')
end
section
abbrev Nae:!O:=["plant","entry","form","name"]
theorem Uu:bW Nae F5 (bt (top 38)):=by grind
theorem zax{ak ag al ad at_ ah ap:U}:(Us ak ag al ad at_ ah ap).lookup ("kinds":O)>>(.ref ak)/\(Us ak ag al ad at_ ah ap).lookup ("gates":O)>>(.ref ag)/\(Us ak ag al ad at_ ah ap).lookup ("lines":O)>>(.ref al)/\(Us ak ag al ad at_ ah ap).lookup ("desks":O)>>(.ref ad)/\(Us ak ag al ad at_ ah ap).lookup ("times":O)>>(.ref at_)/\(Us ak ag al ad at_ ah ap).lookup ("hours":O)>>(.ref ah):=#[Y,Y,Y,Y,Y,Y]
theorem zeG(F:jO K "add_entry" "add_entry" (top 38) f fd):dR P w K mg base ju 1 f fd F5 (N9 K Pl (Ec K) Ut):=by
 refine F.ok Uu (λvs H Q E h=>?_) (λgj A outer s H vs Q E hr h=>?_)
 .let#[_,_,_,_,_,_,_,rfl,_]:=h;rfl
 .let#[H0,p,v,as,st,yg,d,rfl,sm,rv,own,W0,#[e,rfl,ok,oe,oa,rfl],q]:=h;refine#[_,ly,?_];let nd:Nae.Nodup:=Uu.nd;let f0:fM K H0 H H0 H (start Nae [.ref p,v]) [.ref p,.val (L0 e),.un,.un]:=by
   refine#[.refl sm,Y,λi sl hi=>?_,λi j a b p' _ h1=>?_]
   .match i,hi with
    |0,hi=>cases hi;exact Y
    |1,hi=>cases hi;exact#[v,Y,rv]
    |2,hi=>cases hi;exact trivial
    |3,hi=>cases hi;exact trivial
    |i+4,hi=>simp at hi
   .match i,h1 with
    |0,h1=>cases h1
    |1,h1=>cases h1
    |2,h1=>cases h1
    |3,h1=>cases h1
    |i+4,h1=>simp at h1
  refine bT (ZC f0 (cL 2 (d:=.str e.form) (di 1. aB (uv e)) nd) λσ1 H1 c7 s1 f1=>?_);refine bT (ZC f1 (cL 3 (d:=.str e.name) (di 1. aB (Ki e)) nd) λσ2 H2 fA s2 f2=>?_);let W2:=Ec.mono _ _ _ _ _ W0 f2.ent.eV (λa ha=>f2.ent.big.eq (own a ha).2);let#[C,dx,ak,ag,al,ad,at_,ah,ap,cs,xd,rfl,Sd,W]:=W2;let o2:∀a∈p::ak::ag::al::ad::at_::ah::ap::cs,∃o,H a>>o/\H0 a=none:=λa ha=>by
   let#[z1,z2]:=own a ha;cases e:H a with
   |none=>exact qQ7 e z2
   |some o=>exact#[o,Y,z1]
  let zay:=Sd;simp only[aO,au,not_or]at zay;let#[#[pk,pg,pl,pd,pt,ph,pp,pc],#[kg,kl,kd,kt,kh,kp,kc],#[gl,gd,gt,gh,gp,gc],#[ld,lt,lh,lp,lc],#[dt,dh,dp,dc],#[th,tp,tc],#[hp,hc],apc,Pj]:=zay;let fin:∀(Ha Hb:Hp)(a:U)(o:HO),cP H0 H Ha Hb->a∈p::ak::ag::al::ad::at_::ah::ap::cs->(∀xd',xd'=xd->Ec K p (tQ st e) Ha (upd Hb a o) (p::ak::ag::al::ad::at_::ah::ap::cs))->Q .non (upd Hb a o):=λHa Hb a o g ha hW=>by
   let fr:∀b∈p::ak::ag::al::ad::at_::ah::ap::cs,Ha b=none/\Hb b≠none:=λb hb=>by let#[ob,e1,e2]:=o2 b hb;exact#[g.still e2 e1,by rw[g.big _ _ e1];simp]
   refine q Ha (upd Hb a o) _ g.eV (λb u e=>?_) g.new (λb hb=>#[(fr b hb).1,?_,.inl hb]) (λb u e hb=>?_) (hW xd Y)
   .rw[L (bq e (fr a ha).1)];exact g.sub b u e
   .by_cases hba:b=a
    .subst hba;rw[aM];simp
    .rw[L hba];exact(fr b hb).2
   .rw[L (λz=>hb ([z]▸ha))];exact g.big b u e
  let Wg:∀Ha Hb,cP H2 fA Ha Hb->PlW K p st Ha Hb C dx ak ag al ad at_ ah ap cs xd:=λHa Hb g=>by
   let Ma:=Ec.mono (K:=K) (p:=p) (st:=st) H2 fA Ha Hb (p::ak::ag::al::ad::at_::ah::ap::cs) #[C,dx,ak,ag,al,ad,at_,ah,ap,cs,xd,Y,Sd,W] g.eV (λa ha=>by
    let#[o,e1,_]:=o2 a ha;exact g.big.eq (by rw[f2.ent.big _ _ e1];simp));exact#[g.big _ _ W.ins,W.cls,W.uF,g.big _ _ W.ki,g.big _ _ W.ga,g.big _ _ W.li,g.big _ _ W.de,W.dr.mono g.eV,g.big _ _ W.ti,g.big _ _ W.ho,W.hl,g.big _ _ W.pa,λi c q e1 e2=>by
    let#[xs,h1,h2]:=W.ce i c q e1 e2;exact#[xs,g.big _ _ h1,h2.mono g.eV]]
  let#[lk1,lk2,lk3,lk4,lk5,lk6]:=zax (ak:=ak) (ag:=ag) (al:=al) (ad:=ad) (at_:=at_) (ah:=ah) (ap:=ap);let lf:=bo (n:=20) (dH e);cases e with
  |kind m kk=>
   refine bK (Ob f2 (kZ hr lf 2 Y (ko _)) λHa Hb g=>?_);let Wa:=Wg Ha Hb g;let hz:(vO st).length<sizeLine:=fh (by unfold vO;rw[ae];let:=ok.kn;omega);refine bK (T1 (f2.grow g) hr 0 Y Wa.ins Wa.cls (Wa.uF _ ∎) lk1 Wa.ki 3. (gB 1 2 Y Y) hz λv Hc Hd g2 r=>?_);let Wd:=Wg Hc Hd (g.trans g2);let hv:=Rep.Sb r;subst hv;refine fin Hc Hd ak _ (f2.ent.trans (g.trans g2)) ∅ λ_ _=>#[C,dx,ak,ag,al,ad,at_,ah,ap,cs,xd,Y,Sd,?_];let hn:gD (vO st) (aL m)=none:=w8 λq' Ht=>by
    let#[q0,h0,rfl]:=ai.mp Ht;intro z;injection z with z
    exact oa ([<-z]▸ai.mpr #[q0,h0,Y])
   refine#[[L pk]▸Wd.ins,Wd.cls,Wd.uF,?_,[L (bF kg)]▸Wd.ga,[L (bF kl)]▸Wd.li,[L (bF kd)]▸Wd.de,Wd.dr,[L (bF kt)]▸Wd.ti,[L (bF kh)]▸Wd.ho,Wd.hl,[L (bF kp)]▸Wd.pa,λi c q' e1 e2=>?_]
   .rw[aM];show some (HO.dK (putK (vO st) (aL m) (R_ kk)))>>(.dK ((st.kinds ++ [(m,kk)]).map _));rw[qw _ hn,aI];rfl
   .let#[xs,h1,h2]:=Wd.ce i c q' e1 e2;exact#[xs,by rw[L (λz=>kc ([<-z]▸aH e1))];exact h1,h2]
  |gate m=>
   refine bK (vR f2 (.refl f2.sub) hr lf 2 Y (gM (show("gate":O)≠"kind" by symm)) λHa1 Hb1 Se Sf=>?_);refine bK (F9 Se Sf hr lf 2 Y (ko _) λXU XW Sg Pk=>?_);let Wa:=Wg XU XW Pk;let hz:(st.gates.map V.str).length<sizeLine:=fh (by rw[ae];let:=ok.gn;omega);refine bK (Fo Sg 0 Y Wa.ins Wa.cls (Wa.uF _ ∎) lk2 Wa.ga 3. hz λv Hc Hd g9 r=>?_);let Wd:=Wg Hc Hd (Pk.trans g9);cases r;refine fin Hc Hd ag _ (f2.ent.trans (Pk.trans g9)) ∅ λ_ _=>#[C,dx,ak,ag,al,ad,at_,ah,ap,cs,xd,Y,Sd,?_];refine#[[L (pg)]▸Wd.ins,Wd.cls,Wd.uF,[L (kg)]▸Wd.ki,?_,[L (bF gl)]▸Wd.li,[L (bF gd)]▸Wd.de,Wd.dr,[L (bF gt)]▸Wd.ti,[L (bF gh)]▸Wd.ho,Wd.hl,[L (bF gp)]▸Wd.pa,λi c q' e1 e2=>?_]
   .rw[aM];show some (HO.lst (st.gates.map V.str ++ [V.str m]))>>(.lst ((st.gates ++ [m]).map V.str));rw[aI];rfl
   .let#[xs,h1,h2]:=Wd.ce i c q' e1 e2;exact#[xs,by rw[L (λz=>gc ([<-z]▸aH e1))];exact h1,h2]
  |line m rr=>
   refine bK (vR f2 (.refl f2.sub) hr lf 2 Y (gM (show("line":O)≠"kind" by symm)) λHa1 Hb1 Se Sf=>?_);refine bK (vR Se Sf hr lf 2 Y (gM (show("line":O)≠"gate" by symm)) λXU XW Sg Pk=>?_);refine bK (F9 Sg Pk hr lf 2 Y (ko _) λHa3 Hb3 W3 Si=>?_);let Wa:=Wg Ha3 Hb3 Si;let hz:(vP st).length<sizeLine:=fh (by unfold vP;rw[ae];let:=ok.ln;omega);refine bK (T1 W3 hr 0 Y Wa.ins Wa.cls (Wa.uF _ ∎) lk3 Wa.li 3. (gB 1 2 Y Y) hz λv Hc Hd g9 r=>?_);let Wd:=Wg Hc Hd (Si.trans g9);cases r;refine fin Hc Hd al _ (f2.ent.trans (Si.trans g9)) ∅ λ_ _=>#[C,dx,ak,ag,al,ad,at_,ah,ap,cs,xd,Y,Sd,?_];let hn:gD (vP st) (aL m)=none:=w8 λq' Ht=>by
    let#[q0,h0,rfl]:=ai.mp Ht;intro z;injection z with z
    exact oa (.inr ([<-z]▸ai.mpr #[q0,h0,Y]))
   refine#[[L (pl)]▸Wd.ins,Wd.cls,Wd.uF,[L (kl)]▸Wd.ki,[L (gl)]▸Wd.ga,?_,[L (bF ld)]▸Wd.de,Wd.dr,[L (bF lt)]▸Wd.ti,[L (bF lh)]▸Wd.ho,Wd.hl,[L (bF lp)]▸Wd.pa,λi c q' e1 e2=>?_]
   .rw[aM];show some (HO.dK (putK (vP st) (aL m) (V.int rr)))>>(.dK ((st.lines ++ [(m,rr)]).map _));rw[qw _ hn,aI];rfl
   .let#[xs,h1,h2]:=Wd.ce i c q' e1 e2;exact#[xs,by rw[L (λz=>lc ([<-z]▸aH e1))];exact h1,h2]
  |desk q0=>
   refine bK (vR f2 (.refl f2.sub) hr lf 2 Y (gM (show("desk":O)≠"kind" by symm)) λHa1 Hb1 Se Sf=>?_);refine bK (vR Se Sf hr lf 2 Y (gM (show("desk":O)≠"gate" by symm)) λXU XW Sg Pk=>?_);refine bK (vR Sg Pk hr lf 2 Y (gM (show("desk":O)≠"line" by symm)) λHa3 Hb3 W3 Si=>?_);refine bK (F9 W3 Si hr lf 2 Y (ko _) λHa4 Hb4 ff4 W4=>?_);let Wa:=Wg Ha4 Hb4 W4;let Qj:=Wa.dr.length;rw[ae]at Qj;let hz:xd.length<sizeLine:=fh (by let:=ok.dn;omega);let D8:L2.cutD (aN "desk"::Ent.rest (.desk q0)) (some 1) none=Ent.rest (.desk q0):=(mj (aN "desk"::Ent.rest (.desk q0)) 1).trans Y;refine bK (Fo (d:=dE q0) ff4 0 Y Wa.ins Wa.cls (Wa.uF _ ∎) lk4 Wa.de (VE.to (xI 1. (.yes aB) .no ?_) (by show fH (L2.cutD (aN "desk"::Ent.rest (.desk q0)) (some 1) none)=_;rw[D8];rfl)) hz λv Hc Hd g9 r=>?_)
   .intro z;let:=z.1;rw[show(1:Int)=((1:Nat):Int)from Y,HT.q_]at this;exact qQ7 this (by show ¬(min 1 5=0);decide)
   let Wd:=Wg Hc Hd (W4.trans g9);refine fin Hc Hd ad _ (f2.ent.trans (W4.trans g9)) ∅ λ_ _=>#[C,dx,ak,ag,al,ad,at_,ah,ap,cs,xd ++ [v],Y,Sd,?_];refine#[[L (pd)]▸Wd.ins,Wd.cls,Wd.uF,[L (kd)]▸Wd.ki,[L (gd)]▸Wd.ga,[L (ld)]▸Wd.li,aM,?_,[L (bF dt)]▸Wd.ti,[L (bF dh)]▸Wd.ho,Wd.hl,[L (bF dp)]▸Wd.pa,λi c q' e1 e2=>?_]
   .show b_ K Hc (xd ++ [v]) ((st.desks ++ [q0]).map dE);rw[aI];exact Wd.dr.append (.cons r .nil)
   .let#[xs,h1,h2]:=Wd.ce i c q' e1 e2;exact#[xs,by rw[L (λz=>dc ([<-z]▸aH e1))];exact h1,h2]
  |time dk kd2 wk=>
   refine bK (vR f2 (.refl f2.sub) hr lf 2 Y (gM (show("time":O)≠"kind" by symm)) λHa1 Hb1 Se Sf=>?_);refine bK (vR Se Sf hr lf 2 Y (gM (show("time":O)≠"gate" by symm)) λXU XW Sg Pk=>?_);refine bK (vR Sg Pk hr lf 2 Y (gM (show("time":O)≠"line" by symm)) λHa3 Hb3 W3 Si=>?_);refine bK (vR W3 Si hr lf 2 Y (gM (show("time":O)≠"desk" by symm)) λHa4 Hb4 ff4 W4=>?_);refine bK (F9 ff4 W4 hr lf 2 Y (ko _) λHa5 Hb5 ff5 gg5=>?_);let Wa:=Wg Ha5 Hb5 gg5;let hz:(vQ st).length<sizeLine:=fh (by unfold vQ;rw[ae];let:=ok.tn;omega);refine bK (Wp ff5 hr 0 Y Wa.ins Wa.cls (Wa.uF _ ∎) lk5 Wa.ti 3. (gB 1 2 Y Y) (gB 1 3 Y Y) hz λv t Hc Hd g9 ht r=>?_);let gt9:cP H2 fA Hc (upd Hd t (.tup [.str dk,.str kd2])):=(gg5.trans g9).trans (.loose g9.sub ht);let Wd:=Wg Hc _ gt9;cases r;refine fin Hc _ at_ _ (f2.ent.trans gt9) ∅ λ_ _=>#[C,dx,ak,ag,al,ad,at_,ah,ap,cs,xd,Y,Sd,?_];let hn:gD (vQ st) (vB (dk,kd2))=none:=w8 λq' Ht=>by let#[q0,h0,rfl]:=ai.mp Ht;intro z;let:=Ah z;exact oa.1 ([<-this]▸ai.mpr #[q0,h0,Y])
   refine#[[L (pt)]▸Wd.ins,Wd.cls,Wd.uF,[L (kt)]▸Wd.ki,[L (gt)]▸Wd.ga,[L (lt)]▸Wd.li,[L (dt)]▸Wd.de,Wd.dr,?_,[L (bF th)]▸Wd.ho,Wd.hl,[L (bF tp)]▸Wd.pa,λi c q' e1 e2=>?_]
   .rw[aM];show some (HO.dT (putK (vQ st) (vB (dk,kd2)) (V.int wk)))>>(.dT ((st.times ++ [(dk,kd2,wk)]).map _));rw[qw _ hn,aI];rfl
   .let#[xs,h1,h2]:=Wd.ce i c q' e1 e2;exact#[xs,by rw[L (λz=>tc ([<-z]▸aH e1))];exact h1,h2]
  |hour dk ha hb=>
   refine bK (vR f2 (.refl f2.sub) hr lf 2 Y (gM (show("open":O)≠"kind" by symm)) λHa1 Hb1 Se Sf=>?_);refine bK (vR Se Sf hr lf 2 Y (gM (show("open":O)≠"gate" by symm)) λXU XW Sg Pk=>?_);refine bK (vR Sg Pk hr lf 2 Y (gM (show("open":O)≠"line" by symm)) λHa3 Hb3 W3 Si=>?_);refine bK (vR W3 Si hr lf 2 Y (gM (show("open":O)≠"desk" by symm)) λHa4 Hb4 ff4 W4=>?_);refine bK (vR ff4 W4 hr lf 2 Y (gM (show("open":O)≠"time" by symm)) λHa5 Hb5 ff5 gg5=>?_);refine bK (F9 ff5 gg5 hr lf 2 Y (ko _) λHa6 Hb6 ff6 gg6=>?_);let Wa:=Wg Ha6 Hb6 gg6;let OU:=IK st.hours;let HR:=F8 st.hours;let okh:=ok.hn;let hz:(gX (gx st.hours) cs).length<sizeLine:=fh (by unfold gX;rw[ae,jM];omega);let D8:L2.cutD (aN "open"::Ent.rest (.hour dk ha hb)) (some 2) none=[.int ha,.int hb]:=(mj (aN "open"::Ent.rest (.hour dk ha hb)) 2).trans Y;let ha0:Ha6 ah=none:=by let#[o,e1,e2]:=o2 ah ∅;exact(f2.ent.trans gg6).still e2 e1
   let Sj:gx (st.hours ++ [(dk,ha,hb)])=tM (gx st.hours) dk (ha,hb):=IJ _ _;let Pm:=AZ (ha,hb) dk W.hl;refine bK (Od (d:=pairD (ha,hb)) ff6 0 Y Wa.ins Wa.cls (Wa.uF _ ∎) lk6 Wa.ho 3. (VE.to (xI 1. (.yes aB) .no ?_) (by show fH (L2.cutD (aN "open"::Ent.rest (.hour dk ha hb)) (some 2) none)=_;rw[D8];rfl)) hz Y ha0 (λv hv=>?_) (λc xs v t Hc Hd HY hcc htt g9 ht0 r=>?_) (λv c Hc Hd HY hcn s9 s10 nw old hda hdc hc0 ha9 r=>?_))
   .intro z;let:=z.1;rw[show(2:Int)=((2:Nat):Int)from Y,HT.q_]at this;exact qQ7 this (by show ¬(min 2 4=0);decide)
   .rcases Pm with⟨h1,_⟩|⟨i,c,q',h1,h2,h3,h4⟩
    .let hv:gD (gX (gx st.hours) cs) (aL dk)>>v:=hv;rw[h1]at hv;cases hv
    .let hv:some v>>(V.ref c):=hv.symm.trans h3;cases hv;let#[xs,x1,x2]:=Wa.ce i c q' h2 h1;refine#[c,xs,Y,x1,fh ?_];let:=x2.length;rw[ae]at this;let:=HR q' (aH h1);omega
   .rcases Pm with⟨h1,_⟩|⟨i,c',q',h1,h2,h3,h4⟩
    .let HY:gD (gX (gx st.hours) cs) (aL dk)>>(V.ref c):=HY;rw[h1]at HY;cases HY
    .let HY:some (V.ref c')>>(V.ref c):=h3.symm.trans HY;cases HY;let Wd:=Wg Hc Hd (gg6.trans g9);let JF:c∈cs:=aH h2;let#[xs',x1,x2]:=Wd.ce i c q' h2 h1;let ex:xs'=xs:=by let:=g9.big _ _ hcc;rw[this]at x1;cases x1;rfl
     subst ex;let hil:i<(gx st.hours).length:=(aF.mp h1).1;let IL:gx (tQ st (.hour dk ha hb)).hours=(gx st.hours).set i (q'.1,q'.2 ++ [(ha,hb)]):=by show gx (st.hours ++ [(dk,ha,hb)])=_;rw[Sj,h4]
     refine fin Hc Hd c _ (f2.ent.trans (gg6.trans g9)) (by simp[JF]) λ_ _=>#[C,dx,ak,ag,al,ad,at_,ah,ap,cs,xd,Y,Sd,?_];let nc:∀x,x∉cs->x≠c:=λx hx z=>hx ([z]▸JF);refine#[[L (nc _ pc)]▸Wd.ins,Wd.cls,Wd.uF,[L (nc _ kc)]▸Wd.ki,[L (nc _ gc)]▸Wd.ga,[L (nc _ lc)]▸Wd.li,[L (nc _ dc)]▸Wd.de,Wd.dr,[L (nc _ tc)]▸Wd.ti,?_,?_,[L (nc _ apc)]▸Wd.pa,λj c2 q2 e1 e2=>?_]
     .rw[L (nc _ hc),Wd.ho,IL]
      congr 2
      refine(yB ?_).symm;rw[List.map_set];refine gP λn=>?_;by_cases hn:n=i
      .subst hn;rw[a7 ([ae]▸hil),ax,h1];rfl
      .rw[aY (bF hn)]
     .rw[IL,oB];exact Wd.hl
     .rw[IL]at e2;by_cases hj:j=i
      .subst hj;rw[h2]at e1;cases e1;rw[a7 hil]at e2;cases e2;refine#[xs' ++ [v],aM,?_];rw[aI];exact x2.append (.cons r .nil)
      .rw[aY (bF hj)]at e2;let#[ys,y1,y2]:=Wd.ce j c2 q2 e1 e2;let sj:c2≠c:=λz=>by
        subst z;let l1:=aF.mp e1;let l2:=aF.mp h2;let#[l1a,l1b]:=l1;let#[l2a,l2b]:=l2;rcases Nat.lt_or_gt_of_ne hj with oE|oE
        .exact iD.mp Pj j i l1a l2a oE (by rw[l1b,l2b])
        .exact iD.mp Pj i j l2a l1a oE (by rw[l1b,l2b])
       exact#[ys,[L sj]▸y1,y2]
   .rcases Pm with⟨h1,h4⟩|⟨i,c',q',h1,h2,h3,h4⟩
    .let gH:=f2.ent.trans gg6;let hcH:H c=none:=gH.big.free hcn;let Sl:c∉p::ak::ag::al::ad::at_::ah::ap::cs:=λz=>by let#[o,e1,_]:=o2 c z;rw[hcH]at e1;cases e1
     let IL:gx (tQ st (.hour dk ha hb)).hours=gx st.hours ++ [(dk,[(ha,hb)])]:=by show gx (st.hours ++ [(dk,ha,hb)])=_;rw[Sj,h4]
     let zeL:∀x∈p::ak::ag::al::ad::at_::ah::ap::cs,Hc x=none:=λx hx=>by
      let#[o,e1,e2]:=o2 x hx;let:Ha6 x=none:=gH.still e2 e1;cases e:Hc x with
      |none=>rfl
      |some u=>
       rcases nw x (by rw[e];simp)with z|z
       .exact qQ7 this z
       .rw[gH.big _ _ e1]at z;cases z
     let Uv:∀x∈p::ak::ag::al::ad::at_::ah::ap::cs,x≠ah->∀u,Hb6 x>>u->(upd Hd c (.lst [v])) x>>u:=λx hx hxa u e=>by rw[L (λz=>Sl ([<-z]▸hx))];exact old x u e hxa
     refine q Hc (upd Hd c (.lst [v])) (p::ak::ag::al::ad::at_::ah::ap::(cs ++ [c])) (gH.eV.trans s9) (λb u e=>?_) (λb z=>?_) (λx hx=>?_) (λb u e Zi=>?_) #[C,dx,ak,ag,al,ad,at_,ah,ap,cs ++ [c],xd,Y,?_,?_]
     .rw[L (bq e hc0)];exact s10 b u e
     .rcases nw b z with z|z
      .exact gH.new b z
      .exact .inr (gH.big.free z)
     .let hx:x∈(p::ak::ag::al::ad::at_::ah::ap::cs) ++ [c]:=by simpa using hx
      rcases aT.mp hx with hx|hx
      .refine#[zeL x hx,?_,.inl hx];rw[L (λz=>Sl ([<-z]▸hx))];let#[o,e1,_]:=o2 x hx;by_cases hxa:x=ah
       .rw[hxa,hda];simp
       .rw[old x o (gH.big _ _ e1) hxa];simp
      .rw[aK.mp hx];exact#[hc0,by rw[aM];simp,.inr hcH]
     .let hbc:b≠c:=λz=>by rw[z,hcH]at e;cases e
      rw[L hbc];exact old b u (gH.big _ _ e) (λz=>Zi (by rw[z];simp))
     .let:(p::ak::ag::al::ad::at_::ah::ap::(cs ++ [c]))=(p::ak::ag::al::ad::at_::ah::ap::cs) ++ [c]:=∅
      rw[this,bD];exact#[Sd,∅,λx hx y hy z=>Sl ([<-aK.mp hy,<-z]▸hx)]
     .refine#[Uv p ∅ ph _ Wa.ins,Wa.cls,Wa.uF,Uv ak ∅ kh _ Wa.ki,Uv ag ∅ gh _ Wa.ga,Uv al ∅ lh _ Wa.li,Uv ad ∅ dh _ Wa.de,Wa.dr.mono s9,Uv at_ ∅ th _ Wa.ti,?_,?_,Uv ap ∅ (bF hp) _ Wa.pa,λj c2 q2 e1 e2=>?_]
      .let hda:Hd ah>>(.dK (putK (gX (gx st.hours) cs) (aL dk) (.ref c))):=hda;rw[L (λz=>Sl (by rw[<-z];simp)),hda,IL,qw _ h1,II W.hl]
      .rw[IL,aR,aR,W.hl];rfl
      .rw[IL]at e2;by_cases hj:j<cs.length
       .rw[bN hj]at e1;rw[bN ([<-W.hl]▸hj)]at e2;let#[ys,y1,y2]:=Wa.ce j c2 q2 e1 e2;let hm:c2∈cs:=aH e1;exact#[ys,Uv c2 (by simp[hm]) (λz=>hc ([<-z]▸hm)) _ y1,y2.mono s9]
       .let hl:=W.hl;let hj2:j=cs.length:=by let:=(aF.mp e1).1;rw[aR,nz]at this;omega
        subst hj2;rw[bM (aP _),GU]at e1;rw[bM (),show cs.length-(gx st.hours).length=0 from by omega]at e2;cases e1;cases e2;exact#[[v],aM,.cons r .nil]
    .let HY:gD (gX (gx st.hours) cs) (aL dk)=none:=HY;rw[h3]at HY;cases HY
end
def IQ:Pl:=#[[],[],[],[],[],[]]
def A1(es:!Ent)(i:Nat):Pl:=(es.take i).foldl tQ IQ
theorem L4(h:es[i]?>>e):A1 es (i+1)=tQ (A1 es i) e:=by unfold A1;rw[bO,h,eB];rfl
theorem Pn(es:!Ent):A1 es es.length=es.foldl tQ IQ:=by unfold A1;rw[cq]
structure zaF(es:!Ent):Prop where
 ent:∀e∈es,u9 e
 pl:∀i,i<=es.length->nM (A1 es i)
 add:∀(i:Nat)e,es[i]?>>e->AW (A1 es i) e
section
variable{P:bU}{w:c0}{K:aq}{mg:O->Option M}{base:dF}{f:U}
structure PlC(P:bU)(w:c0)(K:aq)(mg:O->Option M)(base:dF):Prop where
 ex:∃C fi fd,mg "Plant"=some (.ref C)/\uM K C/\(∀f∈fsN,gw K C f)/\Mk K C fi/\dR P w K mg base ju 1 fi fd ["self"] (Ph C)/\Binds K fd ["self"] []
abbrev Nrp:!O:=["text","plant","number","words","entry","word"]
theorem Uw:bW Nrp ["text"] (bt (top 21)):=by grind
def Rrp(ds:!J)(d:J):Prop:=∃(x:O)(es:!Ent),ds=[.str x]/\zc x/\(rowsOf x).map (·.2)=es.map IB/\zaF es/\d=fV (es.foldl tQ IQ)
theorem zeM(F:jO K "read_plant" "read_plant" (top 21) f fd)(n:Np mg w.params K)(T:PlC P w K mg base)(C1:bw P w K mg base 2 "rows_of" ["text"] (HJ K Rro))(C2:bw P w K mg base 8 "entry_of" ["words"] (gk K Reo))(C3:bw P w K mg base 3 "fault_of" F5 (gk K Rfo))(C4:bw P w K mg base 1 "add_entry" F5 (N9 K Pl (Ec K) Ut)):dR P w K mg base ju 9 f fd ["text"] (gk K Rrp):=
 ik F Uw (by ext) λ_ _ h=>by
  let#[x,es,rfl,ox,Ux,W5,rfl]:=h;intro gj A outer s H E hr;let nd:Nrp.Nodup:=Uw.nd;let#[C,fi,fdi,mC,cl,na,Ma,FI,bI]:=T.ex;let hlen:(rowsOf x).length=es.length:=by let:=qQ6 dX Ux;simpa using this
  refine qC λB0 B σ H0 Hh D fr okD=>?_;refine bT (Wo 1 Ma FI (hr.mono ()) mC bI (λp dx E' hp hdx hpd=>?_) nd);refine#[p,dx,Y,aM,λak ag al ad at_ ah ap H' mid=>#[Y,?_]];let EJ:∀b,(upd (upd Hh dx (.own p)) p (.ins C dx [])) b=none->Hh b=none:=λb hb=>by
   let h1:b≠p:=λz=>by rw[z,aM]at hb;cases hb
   rw[L h1]at hb;let h2:b≠dx:=λz=>by rw[z,aM]at hb;cases hb
   rwa[L h2]at hb
  let Uy:∀b o,Hh b>>o->H' b>>o:=λb o e=>by let h1:b≠p:=bq e hp;refine mid.old b o ?_ h1;rw[L h1,L (bq e hdx)];exact e
  let G0:OF K B0 B (Ec K p (A1 es 0)) H0 H' (σ.set 1 (some (.ref p))) [.val (.str x),.ref p,.un,.un,.un,.un]:=by
   refine#[(fr.grow (#[Uy,cz.refl _,λb u e=>Uy b u (fr.sub b u e),λ_ z=>.inl z])).xK (i:=1) Y Y,Y,_,λa ha=>?_,C,dx,ak,ag,al,ad,at_,ah,ap,[],[],Y,by simpa using mid.nd,?_]
   .let Pp:Hh a=none/\H' a≠none:=by
     rcases au.mp ha with rfl|ha
     .exact#[hp,by rw[mid.ins];simp]
     .let ha':∃q∈[(ak,HO.dK []),(ag,.lst []),(al,.dK []),(ad,.lst []),(at_,.dT []),(ah,.dK []),(ap,.dK [])],q.1=a:=by simp only[au,bu,or_false]at ha;rcases ha with rfl|rfl|rfl|rfl|rfl|rfl|rfl<;>simp
      let#[q,hq,rfl]:=ha';exact#[EJ _ (mid.fresh q hq),by rw[mid.ob q hq];simp]
    exact#[fr.sub.free Pp.1,fr.ent.big.free Pp.1,Pp.2]
   .exact#[mid.ins,cl,na,mid.ob (ak,.dK []) ∅,mid.ob (ag,.lst []) ∅,mid.ob (al,.dK []) ∅,mid.ob (ad,.lst []) ∅,.nil,mid.ob (at_,.dT []) ∅,mid.ob (ah,.dK []) ∅,Y,mid.ob (ap,.dK []) ∅,λi c q e1=>by simp at e1]
  refine bT (yr (tgt:=.tup [2,3]) (λi=>Ec K p (A1 es i)) (λi=>Ec.mono) G0 bZ Y (eG (VO.ve (pK C1 (hr.mono ()) {0.} #[x,Y,ox,Y])))
   (g7 Y (bS (g6 2 nd) (bS (g6 3 nd) fP))) (λi d hd=>?_) (λσ2 Ha Hb G=>?_))
  .obtain⟨r,hri,rfl⟩:∃r,(rowsOf x)[i]?>>r/\d=Kd r:=by
    rw[ax]at hd;cases e:(rowsOf x)[i]? with
    |none=>rw[e]at hd;cases hd
    |some r=>rw[e]at hd;cases hd;exact#[r,Y,Y]
   let hil:i<(rowsOf x).length:=(aF.mp hri).1;let Xx:es[i]?>>es[i]:=ao ();let hw:r.2=IB es[i]:=by
    let h1:((rowsOf x).map (·.2))[i]?>>r.2:=by rw[ax,hri];rfl
    rw[Ux,ax,Xx]at h1;exact(cv h1).symm
   let oe:=W5.ent _ (cN (by omega:i<es.length));let oa:=W5.add i _ Xx;let op:=W5.pl i ();generalize es[i]=e at *;refine#[_,Y,Y,λD C0 σ' cY c7 G q=>?_];refine bT (mX Ec.mono G (cL 4 (bB C2 hr {3.} #[e,by rw[hw];rfl,oe,Y]) nd) Y λσ1 Ha1 Hb1 G1=>?_);refine bT (N7 Ec.mono G1 1 5 Y Ec.rep (bB C3 (hr.mono ()) {1.,4.} #[A1 es i,e,Y,op,oe,oa,Y]) Y Y (λσ2 XU XW G2=>?_) nd);refine bT (mX Ec.mono G2 (bE (VT.to (gQ hr bP bP 5. aQ) (qQ6 (λb=>not b) (ko _))) a_) Y λσ3 Ha3 Hb3 G3=>?_);refine bK (Zx C4 (hr.mono ()) G3 Ec.mono 1 Y 4. #[e,Y,op,oe,oa,(L4 Xx)] λHa4 Hb4 G4=>?_);exact q _ _ _ (G4.forget Ec.mono #[.inr Y,.inr Y,.inl Y,.inl Y,.inl Y,.inl Y,trivial] Y)
  .let e:A1 es ((rowsOf x).map Kd).length=es.foldl tQ IQ:=by rw[ae,hlen,Pn]
   rw[e]at G;exact bK (TY G 1 Y Ec.rep okD)
end
end Mg
namespace Mg
open L2 PySem PyProof.Rows
variable{p:Pl}
structure kI(p:Pl):Prop where
 kn:(p.kinds.map (·.1)).Nodup
 pn:(p.gates++p.lines.map (·.1)).Nodup
 dn:(p.desks.map (·.name)).Nodup
 dk:∀d∈p.desks,IC d/\(∀x∈d.places,x∈p.gates++p.lines.map (·.1))/\(d.to=""\/∃r,(d.to,r)∈p.lines/\jx d.rule d.places.length<=r)
 dj:(p.desks.map (·.places)).flatten.Nodup
 tn:(p.times.map λq=>(q.1,q.2.1)).Nodup
 tm:∀q∈p.times,q.1∈p.desks.map (·.name)/\q.2.1∈p.kinds.map (·.1)/\1<=q.2.2
 hr:∀q∈p.hours,q.1∈p.desks.map (·.name)/\q.2.1<q.2.2
 kk:∀q∈p.kinds,∀i,q.2>>i->1<=i/\dG i
 ll:∀q∈p.lines,1<=q.2
def IU(p:Pl):!Ent:=p.kinds.map (λq=>Ent.kind q.1 q.2)++p.gates.map Ent.gate++p.lines.map (λq=>Ent.line q.1 q.2)++p.desks.map Ent.desk++p.times.map (λq=>Ent.time q.1 q.2.1 q.2.2)++p.hours.map (λq=>Ent.hour q.1 q.2.1 q.2.2)
def u_:Pl->!Ent->Prop
 |st,[]=>nM st
 |st,e::es=>nM st/\u9 e/\AW st e/\u_ (tQ st e) es
theorem u_.app:∀{A B:!Ent}{st:Pl},u_ st A->u_ (A.foldl tQ st) B->u_ st (A++B)
 | [],_,_,_,h=>h
 |_::_,_,_,#[h1,h2,h3,h4],h=>#[h1,h2,h3,h4.app h]
theorem u_.es:∀{es:!Ent}{st:Pl},u_ st es->(∀e∈es,u9 e)/\(∀i,i<=es.length->nM ((es.take i).foldl tQ st))/\∀(i:Nat)e,es[i]?>>e->AW ((es.take i).foldl tQ st) e
 | [],st,h=>#[λe he=>(by cases he),λi hi=>[List.take_nil]▸h,λi e he=>by simp at he]
 |e::es,st,#[h1,h2,h3,h4]=>by
  let#[a,b,c]:=h4.es;refine#[λx hx=>?_,λi hi=>?_,λi x hx=>?_]
  .rcases au.mp hx with rfl|hx
   .exact h2
   .exact a x hx
  .cases i with
   |zero=>exact h1
   |succ i=>exact b i ↑hi
  .cases i with
   |zero=>cases hx;exact h3
   |succ i=>exact c i x ↑hx
theorem seg{α:Type}(mk:α->Ent)(put:!α->Pl)(h1:∀l x,tQ (put l) (mk x)=put (l ++ [x]))(l:!α)(hok:∀pre x post,l=pre++x::post->nM (put pre)/\u9 (mk x)/\AW (put pre) (mk x))(zeN:nM (put l)):
  u_ (put []) (l.map mk)/\(l.map mk).foldl tQ (put [])=put l:=by
 let go:∀(rest pre:!α),l=pre++rest->u_ (put pre) (rest.map mk)/\(rest.map mk).foldl tQ (put pre)=put l:=by
  intro rest;induction rest with
  |nil=>intro pre e;rw[cA]at e;subst e;exact#[zeN,Y]
  |cons x rest ih=>
   intro pre e;let#[a,b,c]:=hok pre x rest e;let#[i1,i2]:=ih (pre ++ [x]) (by rw[e];simp);rw[av];refine#[#[a,b,c,?_],?_]
   .rwa[h1]
   .rwa[lF,h1]
 exact go l [] Y
theorem mr(h:nM p)(k1:q.kinds.length<=p.kinds.length)(k2:∀x∈q.kinds,x∈p.kinds)(g1:q.gates.length<=p.gates.length)(g2:∀x∈q.gates,x∈p.gates)(l1:q.lines.length<=p.lines.length)(l2:∀x∈q.lines,x∈p.lines)(d1:q.desks.length<=p.desks.length)(d2:∀x∈q.desks,x∈p.desks)(t1:q.times.length<=p.times.length)(t2:∀x∈q.times,x∈p.times)(h1:q.hours.length<=p.hours.length)(h2:∀x∈q.hours,x∈p.hours):nM q:=
 #[bA k1 h.kn,bA g1 h.gn,bA l1 h.ln,bA d1 h.dn,bA t1 h.tn,bA h1 h.hn,λx hx=>h.kinds x (k2 x hx),λx hx=>h.gates x (g2 x hx),λx hx=>h.lines x (l2 x hx),λx hx=>h.desks x (d2 x hx),λx hx=>h.times x (t2 x hx),λx hx=>h.hours x (h2 x hx)]
theorem A2{κ:Type}[DecidableEq κ]:∀{kvs:!(κ×J)}{k:κ}{v:J},(kvs.map (·.1)).Nodup->(k,v)∈kvs->gJ kvs k>>v
 | [],_,_,_,h=>by cases h
 |q::l,k,v,nd,h=>by
  rw[av,aO]at nd;rcases au.mp h with rfl|h
  .exact fE Y
  .rw[cQ (λe=>nd.1 ([e]▸ai.mpr #[(k,v),h,Y]))];exact A2 nd.2 h
theorem x3{α:Type}{l pre post:!α}{x:α}(e:l=pre++x::post):pre.length<=l.length/\∀y∈pre,y∈l:=by subst e;exact#[by rw[aR];omega,λy hy=>bH _ hy]
theorem ng{α β:Type}{f:α->β}{l pre post:!α}{x:α}(nd:(l.map f).Nodup)(e:l=pre++x::post):f x∉pre.map f:=by subst e;rw[aI,av,bD]at nd;intro z;exact nd.2.2 _ z _ aJ Y
theorem Pq(ok:nM p)(g:kI p):u_ IQ (IU p)/\(IU p).foldl tQ IQ=p:=by
 let n0:∀{α:Type}(x:α),x∈([])->False:=λx h=>by cases h
 let s1:=seg (λq:O×Option Int=>Ent.kind q.1 q.2) (λl=>#[l,[],[],[],[],[]]) (λ_ _=>rfl) p.kinds (λpre x post e=>by
  let#[e1,e2]:=x3 e;let hx:x∈p.kinds:=by rw[e];simp
  exact#[mr ok e1 e2 (bj _) (λx h=>(n0 x h).elim) (bj _) (λx h=>(n0 x h).elim) (bj _) (λx h=>(n0 x h).elim) (bj _) (λx h=>(n0 x h).elim) (bj _) (λx h=>(n0 x h).elim),#[(ok.kinds x hx).1,g.kk x hx],ng g.kn e])
  (mr ok (aP _) (λ_ h=>h) (bj _) (λx h=>(n0 x h).elim) (bj _) (λx h=>(n0 x h).elim) (bj _) (λx h=>(n0 x h).elim) (bj _) (λx h=>(n0 x h).elim) (bj _) (λx h=>(n0 x h).elim));let pn:=g.pn;rw[bD]at pn;let s2:=seg Ent.gate (λl=>#[_,l,[],[],[],[]]) (λ_ _=>rfl) p.gates (λpre x post e=>by
  let#[e1,e2]:=x3 e;let hx:x∈p.gates:=by rw[e];simp
  refine#[mr ok (aP _) (λ_ h=>h) e1 e2 (bj _) (λx h=>(n0 x h).elim) (bj _) (λx h=>(n0 x h).elim) (bj _) (λx h=>(n0 x h).elim) (bj _) (λx h=>(n0 x h).elim),ok.gates x hx,?_];rintro(h|h)
  .let:=ng (f:=id) ↑pn.1 e;exact this ↑h
  .cases h)
  (mr ok (aP _) (λ_ h=>h) (aP _) (λ_ h=>h) (bj _) (λx h=>(n0 x h).elim) (bj _) (λx h=>(n0 x h).elim) (bj _) (λx h=>(n0 x h).elim) (bj _) (λx h=>(n0 x h).elim));let s3:=seg (λq:O×Int=>Ent.line q.1 q.2) (λl=>#[_,_,l,[],[],[]]) (λ_ _=>rfl) p.lines (λpre x post e=>by
  let#[e1,e2]:=x3 e;let hx:x∈p.lines:=by rw[e];simp
  refine#[mr ok (aP _) (λ_ h=>h) (aP _) (λ_ h=>h) e1 e2 (bj _) (λx h=>(n0 x h).elim) (bj _) (λx h=>(n0 x h).elim) (bj _) (λx h=>(n0 x h).elim),#[(ok.lines x hx).1,g.ll x hx,(ok.lines x hx).2],?_];rintro(h|h)
  .exact pn.2.2 _ h _ (ai.mpr #[x,hx,Y]) Y
  .exact ng pn.2.1 e h)
  (mr ok (aP _) (λ_ h=>h) (aP _) (λ_ h=>h) (aP _) (λ_ h=>h) (bj _) (λx h=>(n0 x h).elim) (bj _) (λx h=>(n0 x h).elim) (bj _) (λx h=>(n0 x h).elim));let s4:=seg Ent.desk (λl=>#[_,_,_,l,[],[]]) (λ_ _=>rfl) p.desks (λpre x post e=>by
  let#[e1,e2]:=x3 e;let hx:x∈p.desks:=by rw[e];simp
  let#[q1,q2,q3]:=g.dk x hx;refine#[mr ok (aP _) (λ_ h=>h) (aP _) (λ_ h=>h) (aP _) (λ_ h=>h) e1 e2 (bj _) (λx h=>(n0 x h).elim) (bj _) (λx h=>(n0 x h).elim),q1,ng g.dn e,λy hy hz=>?_,λy hy=>aT.mp (q2 y hy),?_]
  .let#[d,hd,hyd]:=hz;let dj:=g.dj;rw[e,aI,kX,bD]at dj;exact dj.2.2 y (hG.mpr #[d.places,ai.mpr #[d,hd,Y],hyd]) y (hG.mpr #[x.places,∅,hy]) Y
  .rcases q3 with h|⟨r,h,hr⟩
   .exact .inl h
   .refine .inr #[r,A2 ?_ (ai.mpr #[(x.to,r),h,Y]),hr];rw[kC];exact pn.2.1)
  (mr ok (aP _) (λ_ h=>h) (aP _) (λ_ h=>h) (aP _) (λ_ h=>h) (aP _) (λ_ h=>h) (bj _) (λx h=>(n0 x h).elim) (bj _) (λx h=>(n0 x h).elim));let s5:=seg (λq:O×O×Int=>Ent.time q.1 q.2.1 q.2.2) (λl=>#[_,_,_,_,l,[]]) (λ_ _=>rfl) p.times (λpre x post e=>by
  let#[e1,e2]:=x3 e;let hx:x∈p.times:=by rw[e];simp
  let#[q1,q2,q3]:=g.tm x hx;let#[r1,r2,r3]:=ok.times x hx;exact#[mr ok (aP _) (λ_ h=>h) (aP _) (λ_ h=>h) (aP _) (λ_ h=>h) (aP _) (λ_ h=>h) e1 e2 (bj _) (λx h=>(n0 x h).elim),#[r1,r2,q3,r3],ng g.tn e,q1,q2])
  (mr ok (aP _) (λ_ h=>h) (aP _) (λ_ h=>h) (aP _) (λ_ h=>h) (aP _) (λ_ h=>h) (aP _) (λ_ h=>h) (bj _) (λx h=>(n0 x h).elim));let s6:=seg (λq:O×Int×Int=>Ent.hour q.1 q.2.1 q.2.2) (λl=>#[_,_,_,_,_,l]) (λ_ _=>rfl) p.hours (λpre x post e=>by
  let#[e1,e2]:=x3 e;let hx:x∈p.hours:=by rw[e];simp
  let#[q1,q2]:=g.hr x hx;let#[r1,r2,r3]:=ok.hours x hx;exact#[mr ok (aP _) (λ_ h=>h) (aP _) (λ_ h=>h) (aP _) (λ_ h=>h) (aP _) (λ_ h=>h) (aP _) (λ_ h=>h) e1 e2,#[r1,r2,r3,q2],q1])
  ok;unfold IU;simp only[cw];refine#[s1.1.app ?_,?_]
 .rw[s1.2];refine s2.1.app ?_;rw[s2.2];refine s3.1.app ?_;rw[s3.2];refine s4.1.app ?_;rw[s4.2];refine s5.1.app ?_;rw[s5.2];exact s6.1
 .rw[eB,show IQ=#[[],[],[],[],[],[]]from Y,s1.2,eB,s2.2,eB,s3.2,eB,s4.2,eB,s5.2,s6.2]
theorem zaH(ok:nM p)(g:kI p):zaF (IU p):=by let#[a,b,c]:=(Pq ok g).1.es;exact#[a,b,c]
theorem gS{x y:O}{c:Nat}(h1:c∉x.cps.toList)(h2:c∉y.cps.toList):c∉(x++y).cps.toList:=by rw[add_list,aT];exact λz=>z.elim h1 h2
theorem w_(hy:c∉y.cps.toList):∀{l:!O},(∀x∈l,c∉x.cps.toList)->c∉(dA y l).cps.toList
 | [],_=>by show c∉([]);simp
 | [x],h=>h x aJ
 |x::z::l,h=>by exact gS (gS (h x aJ) hy) (w_ hy λu hu=>h u (ay _ hu))
theorem IV(ok:nM p):(∀r∈fj p,10∉r.cps.toList)/\(fj p).map wordsOf=(IU p).map IB:=by
 let nn:∀{x:O},eu x->10∉x.cps.toList:=λh=>(iu h).2.2;let dn:∀{d:J},Ir d->10∉(gi d).cps.toList:=λh=>(uo h).2.2;let nm:∀{i:Int},dG i->10∉(eY i).cps.toList:=λh=>(oS h.1 h.2).2.2;constructor
 .intro r hr;unfold fj pS at hr;simp only[aT,ai]at hr;rcases hr with((((⟨q,hq,rfl⟩|⟨q,hq,rfl⟩)|⟨q,hq,rfl⟩)|⟨q,hq,rfl⟩)|⟨q,hq,rfl⟩)|⟨q,hq,rfl⟩
  .let#[h1,h2]:=ok.kinds q hq;exact gS (gS (gS ∎ (nn h1)) ∎) (dn h2)
  .exact gS ∎ (nn (ok.gates q hq))
  .let#[h1,h2]:=ok.lines q hq;exact gS (gS (gS ∎ (nn h1)) ∎) (nm h2)
  .let#[h1,h2,h3,h4,h5]:=ok.desks q hq;refine gS (gS (gS (gS (gS (gS (gS ∎ (nn h1)) ∎) (dn (d:=.str q.to) h2)) ∎) (w_ ∎ λx hx=>(vM h3 x hx).2.2)) ∎) (w_ ∎ λx hx=>nn (h5 x hx))
  .let#[h1,h2,h3]:=ok.times q hq;refine w_ ∎ λx hx=>?_;simp only[au,bu,or_false]at hx;rcases hx with rfl|rfl|rfl|rfl
   .symm
   .exact nn h1
   .exact nn h2
   .exact nm h3
  .let#[h1,h2,h3]:=ok.hours q hq;refine w_ ∎ λx hx=>?_;simp only[au,bu,or_false]at hx;rcases hx with rfl|rfl|rfl|rfl
   .symm
   .exact nn h1
   .exact nm h2
   .exact nm h3
 .unfold fj pS IU;simp only[aI,aj]
  congr 1
  congr 1
  congr 1
  congr 1
  congr 1
  .exact dI λq hq=>Iu (ok.kinds q hq)
  .exact dI λq hq=>Iv (ok.gates q hq)
  .exact dI λq hq=>Iw (ok.lines q hq)
  .exact dI λq hq=>Iy (ok.desks q hq)
  .exact dI λq hq=>Iz (ok.times q hq)
  .exact dI λq hq=>IA (ok.hours q hq)
theorem Sn(e:Ent):(IB e).isEmpty=false:=by cases e<;>rfl
theorem L5(l:!O):∀k,((l.zipIdx k).filterMap λp=>if(wordsOf p.1).isEmpty then none else some (p.2,wordsOf p.1)).map (·.2)=(l.map wordsOf).filter λws=>not ws.isEmpty:=by
 induction l with
 |nil=>intro k;rfl
 |cons x l ih=>
  intro k;rw[List.zipIdx_cons,av,gA];cases hx:(wordsOf x).isEmpty with
  |true=>rw[dS (by simp only[hx];rfl),ih];rfl
  |false=>rw[cI (by simp only[hx];rfl),av,ih];rfl
theorem Gd(ok:nM p)(hk:p.kinds≠[]):(rowsOf (wQ p)).map (·.2)=(IU p).map IB:=by
 let#[h1,h2]:=IV ok;unfold wQ;rw[LW (λz=>?_) h1,L5,h2,List.filter_eq_self.mpr]
 .intro ws O2;let#[e,_,rfl]:=ai.mp O2;rw[Sn];rfl
 .unfold fj pS at z;cases hkk:p.kinds with
  |nil=>exact hk hkk
  |cons q l=>rw[hkk]at z;simp at z
theorem IW(m:Int)(k:Nat):(uW m k).cps.toList=(stemOf m).cps.toList.take (m/624%(1+m/78%8)).toNat++(97+((m/3+5*k)%26).toNat)::(stemOf m).cps.toList.drop (m/624%(1+m/78%8)+1).toNat:=by
 let hl:(stemOf m).cps.toList.length=(1+m/78%8).toNat:=by rw[xV m,du]
 let p1:0<=m/624%(1+m/78%8):=cx _ ();let p2:m/624%(1+m/78%8)<1+m/78%8:=c6 _ ();let e1:nR _ none _=_:=EF #[p1,by rw[hl];omega];let e2:nR _ (some (m/624%(1+m/78%8)+1)) none=_:=Di #[(),by rw[hl];omega];unfold uW;rw[e1,e2];show((_++_++_:Array Nat)).toList=_;simp only[Ju,mJ,Int.sub_zero,FH,one];rw[da (l:=List.drop _ _) (by rw[cX];omega),cw];rfl
theorem yC{β:Type}{f:Nat->β}:∀{n:Nat},(∀i j,i<n->j<n->f i=f j->i=j)->((cF n).map f).Nodup:=by intro n h;rw[List.Nodup,List.pairwise_map,iD];intro i j hi hj Bl e;rw[eS]at hi hj;rw[List.getElem_range,List.getElem_range]at e;exact qQ7 (h i j hi hj e) ()
theorem qf(cell:Int)(hm:many<=26):(namesOf cell many).Nodup:=by
 unfold namesOf;split
 .refine yC λi j hi hj e=>?_;let e1:∀k,(nameA (dw cell 3) many k).cps.toList=aW (many-k) _:=λk=>D2 _ _;let:=qQ6 (λx:O=>x.cps.toList.length) e;simp[e1,du]at this;omega
 .refine yC λi j hi hj e=>?_;let:=qQ6 (λx:O=>x.cps.toList) e;simp only[IW]at this;let:=List.append_cancel_left this;let:=(iy this).1;generalize dw cell 3/3=a at *;omega
theorem vS(l:!O):(cF l.length).map (λk=>l.getD k "")=l:=by
 refine gP λi=>?_;rw[ax];by_cases h:i<l.length
 .rw[kW h,ao h];show some (l.getD i "")=_;rw[aG,ao h];rfl
 .rw[eP ↑h,eP ↑h];rfl
theorem yD{α:Type}:∀(La:!(!α))(i:Nat)(j:Nat)(y:α),i<La.length->(La.set i (tj (La.getD i []) j y)).flatten.Perm (y::La.flatten)
 | [],i,_,_,h=>by simp at h
 |r::La,0,j,y,_=>by
  show(tj r j y++La.flatten).Perm (y::(r++La.flatten));let:(tj r j y).Perm (y::r):=by exact nP.trans (by rw[fG])
  exact this.append_right _
 |r::La,i+1,j,y,h=>by show(r++(La.set i _).flatten).Perm (y::(r++La.flatten));exact((yD La i j y ↑h).append_left r).trans nP
theorem A3(cell:Int)(h1:1<=nn)(places:!O):∀k,k<=places.length->(eA cell nn places k).flatten.Perm (places.take k)
 |0,_=>by show(aW nn ([])).flatten.Perm [];rw[List.flatten_replicate_nil]
 |k+1,hk=>by
  let e:places.take (k+1)=places.take k ++ [places.getD k ""]:=by rw[bO,ao (),aG,ao ()];rfl
  rw[e];refine(yD _ _ _ _ ([g_]▸Cz cell h1 k)).trans ?_;exact((A3 cell h1 places k ()).cons _).trans ((List.perm_append_singleton _ _).symm)
theorem xg(cell:Int)(h1:1<=nn)(places:!O):∀k,∀j,j<k->j<nn->(eA cell nn places k).getD j []≠[]
 |0,_,h,_=>()
 |k+1,j,hj,hn=>by
  let ex:∀(La:!(!O))(i:Nat)(r:!O),La.length=nn->(La.set i r).getD j []=if i=j then r else La.getD j []:=λLa i r e=>by
   rw[aG,List.getElem?_set];by_cases Bl:i=j
   .subst Bl;rw[qQ3 Y,qQ3 (),qQ3 Y];rfl
   .rw[qQ2 Bl,qQ2 Bl,aG]
  show((eA cell nn places k).set _ _).getD j []≠[];rw[ex _ _ _ (g_ cell nn places k)];split
  .intro z;let:=qQ6 dX z;rw[yw]at this;simp at this
  .rename_i sj
   by_cases JT:j<k
   .exact xg cell h1 places k j JT hn
   .exfalso;apply sj;let:j=k:=();subst this;unfold gN;rw[qQ3 hn]
theorem L6(m:Int):tL (lV m many) many:=by
 unfold lV;split
 .rename_i h;exact h.2
 .split
  .exact#[(),g0 _ 1 ⋯ ⋯ ⋯,oU _ ⋯ ⋯]
  .split
   .exact#[(),g0 _ 1 ⋯ ⋯ ⋯]
   .split
    .split
     .trivial
     .exact oU _ ⋯ ⋯
    .split
     .refine#[∅,λz hz=>?_];let#[k,_,rfl]:=ai.mp hz;unfold D3;omega
     .trivial
theorem Ge(cell:Int)(places lines:!O):(lX cell places lines).map (·.name)=namesOf (dw cell 31) (lW cell places.length):=by unfold lX;rw[aj];let:=vS (namesOf (dw cell 31) (lW cell places.length));rwa[g8]at this
theorem Ed(cell:Int)(places lines:!O):(lX cell places lines).map (·.places)=eA cell (lW cell places.length) places places.length:=by
 unfold lX;rw[aj];let hl:=g_ cell (lW cell places.length) places places.length;refine gP λi=>?_;rw[ax];by_cases h:i<lW cell places.length
 .rw[kW h];show some ((eA cell _ places places.length).getD i [])=_;rw[aG,ao ()];rfl
 .rw[eP ↑h,eP ()];rfl
theorem A4(c:Int)(iH:!Dk)(kinds:!(O×Option Int))(hk:(kinds.map (·.1)).Nodup)(hd:(iH.map (·.name)).Nodup):∀i,i<=iH.length->((hU c iH kinds i).map λq=>(q.1,q.2.1)).Nodup/\∀q∈hU c iH kinds i,q.1∈(iH.take i).map (·.name)/\q.2.1∈kinds.map (·.1)/\1<=q.2.2
 |0,_=>#[by simp[hU],λq hq=>by simp[hU]at hq]
 |i+1,hi=>by
  let#[a,b]:=A4 c iH kinds hk hd i ();let hg:iH[i]?>>iH[i]:=ao ();rw[rD hg,bO,hg];let row:∀j,((gR (dw c (110+i)) iH[i].name kinds j).map λq=>(q.1,q.2.1)).Nodup/\∀q∈gR (dw c (110+i)) iH[i].name kinds j,q.1=iH[i].name/\q.2.1∈(kinds.take j).map (·.1)/\1<=q.2.2:=by
   intro j;induction j with
   |zero=>exact#[by simp[gR],λq hq=>by simp[gR]at hq]
   |succ j ih=>
    by_cases hj:j<kinds.length
    .let hkj:=ao hj;rw[uY hkj,bO,hkj];unfold vI;split
     .rw[aI];refine#[?_,λq hq=>?_]
      .rw[bD];refine#[ih.1,∅,λx hx y hy z=>?_];let#[q,hq,rfl]:=ai.mp hx;let h2:=(ih.2 q hq).2.1;let hy:y=(iH[i].name,kinds[j].1):=by simpa using hy
       rw[hy]at z;let z2:q.2.1=kinds[j].1:=qQ6 (λw:O×O=>w.2) z;rw[z2]at h2;let:kinds=kinds.take j++kinds[j]::kinds.drop (j+1):=by rw[GH,fG]
       exact ng hk this h2
      .rcases aT.mp hq with hq|hq
       .let#[h1,h2,h3]:=ih.2 q hq;exact#[h1,[aI]▸bH _ h2,h3]
       .let hq:q=(iH[i].name,kinds[j].1,1+dw c (110+i)/(j*j+2)%6):=by simpa using hq
        rw[hq];refine#[Y,[aI]▸aZ _ (ai.mpr #[kinds[j],aK.mpr Y,Y]),?_];let:=cx (dw c (110+i)/(j*j+2)) (b:=6) ⋯;show 1<=1+dw c _/(j*j+2)%6;omega
     .refine#[by simpa using ih.1,λq hq=>?_];let#[h1,h2,h3]:=ih.2 q ↑hq;exact#[h1,[aI]▸bH _ h2,h3]
    .let e1:gR (dw c (110+i)) iH[i].name kinds (j+1)=gR (dw c (110+i)) iH[i].name kinds j:=by unfold gR;rw[da (by simp;omega),da (by simp;omega)]
     rw[e1,da ()];rwa[da ()]at ih
  let#[r1,r2]:=row kinds.length;rw[cq]at r2;let Sj:iH[i].name∉(iH.take i).map (·.name):=by
   let:iH=iH.take i++iH[i]::iH.drop (i+1):=by rw[GH,fG]
   exact ng hd this
  refine#[?_,λq hq=>?_]
  .rw[aI,bD];refine#[a,r1,λx hx y hy z=>?_];let#[q,hq,rfl]:=ai.mp hx;let#[q2,EA,rfl]:=ai.mp hy;let z1:=qQ6 (λw:O×O=>w.1) z;let:=(b q hq).1;rw[z1,(r2 q2 EA).1]at this;exact Sj this
  .rcases aT.mp hq with hq|hq
   .let#[h1,h2,h3]:=b q hq;exact#[[aI]▸bH _ h1,h2,h3]
   .let#[h1,h2,h3]:=r2 q hq;exact#[[h1,aI]▸aZ _ (ai.mpr #[iH[i],aK.mpr Y,Y]),h2,h3]
theorem A5{α:Type}:∀{La:!(!α)},La.flatten.Nodup->∀r∈La,r.Nodup
 | [],_,r,h=>by cases h
 |x::La,nd,r,h=>by
  rw[fx,bD]at nd;rcases au.mp h with rfl|h
  .exact nd.1
  .exact A5 nd.2.1 r h
theorem x4(ns:!Int):kI (eC ns):=by
 let#[k1,k4]:=nJ (qj ns);let#[g1,g3]:=kf (gq ns);let#[p1,p6]:=mh (gq ns);let Qh:(qd ns).length=(placesOf (gq ns)).length:=by unfold qd orderOf;rw[aR,cX,a9];let:=uk (gq ns) ();omega
 let pnd:(placesOf (gq ns)).Nodup:=qf _ ();let hpm:(qd ns).Perm (placesOf (gq ns)):=by exact nA.trans (by rw[fG])
 let W6:(jC ns).map (·.1)=namesOf (qj ns) (kT (qj ns)):=by unfold jC rB;rw[aj];let:=vS (namesOf (qj ns) (kT (qj ns)));rwa[g8]at this
 let knd:((jC ns).map (·.1)).Nodup:=[W6]▸qf _ ();let#[m1,m4,mp]:=nI (pq ns) (n:=(qd ns).length) ();let dnd:((iP ns).map (·.name)).Nodup:=[Ge (pq ns) (qd ns) (gZ ns)]▸qf _ ();let tp:=A3 (pq ns) m1 (qd ns) _ (aP _);rw[cq]at tp;let dj:((iP ns).map (·.places)).flatten.Nodup:=by rw[Ed (pq ns) (qd ns) (gZ ns)];exact(tp.trans hpm).nodup_iff.mpr pnd
 let EB:∀d∈iP ns,_:=λd hd=>Kh () () hd;let zaI:∀d∈iP ns,d.places≠[]/\d.places.Nodup/\tL d.rule d.places.length:=λd hd=>by
  refine#[?_,?_,?_]
  .let#[k,hk,rfl]:=ai.mp hd;let hk:=cG.mp hk;exact xg _ m1 _ _ k () hk
  .exact A5 dj _ (ai.mpr #[d,hd,Y])
  .let#[k,hk,rfl]:=ai.mp hd;exact L6 _
 let tk:=A4 (pq ns) _ _ knd dnd _ (aP _);generalize hD:iP ns=iH at *;let e0:eC ns=#[jC ns,lY (gq ns),(cF (gZ ns).length).map (roomAt (gq ns) iH (gZ ns)),iH,hU (pq ns) iH (jC ns) iH.length,jQ (pq ns) iH iH.length]:=by rw[<-hD];rfl
 let lnm:((cF (gZ ns).length).map (roomAt (gq ns) iH (gZ ns))).map (·.1)=gZ ns:=by rw[aj];exact vS _
 let gl:lY _++gZ ns=placesOf _:=fG _ _;rw[e0];rw[cq]at tk;refine#[knd,[lnm,gl]▸pnd,dnd,λd hd=>?_,dj,tk.1,tk.2,λq hq=>?_,λq hq i hi=>?_,λq hq=>?_]
 .let#[a1,a2,a3,a4,a5,a6]:=EB d hd;let#[f1,f2,f3]:=zaI d hd;let XF:=λx hx=>hpm.mem_iff.mp (a5 x hx);refine#[#[a1,?_,f3,?_,(),f2,λx hx=>k9 (XF x hx)],λx hx=>[lnm,gl]▸XF x hx,?_]
  .rcases aT.mp a2 with h|h
   .exact .inr ((λx hx=>k9 (fN hx)) _ h)
   .exact .inl (aK.mp h)
  .cases hp:d.places with
   |nil=>exact qQ7 hp f1
   |cons _ _=>simp
  .rcases aT.mp a2 with h|h
   .let#[k,hk,he]:=eZ.mp h;let hgd:(gZ ns).getD k ""=d.to:=by rw[aG,ao hk,he];rfl
    refine .inr #[(roomAt (gq ns) iH (gZ ns) k).2,ai.mpr #[k,cG.mpr hk,?_],?_]
    .show roomAt _ iH _ k=(d.to,_);rw[<-hgd];rfl
    .show _<=maxOf _+dw _ (20+k)%3;let:=(rC (lZ iH ((gZ ns).getD k ""))).2 _ (ay _ (jF.mpr #[d,hd,by rw[hgd,qQ1 Y];rfl]));omega
   .exact .inl (aK.mp h)
 .let#[#[d,i],hd,hq]:=zm.mp hq;let hdm:=kE (eK hd);unfold kU at hq;split at hq
  .rcases au.mp hq with rfl|hq
   .exact#[ai.mpr #[d,hdm,Y],by show _%9<9+_%20;omega]
   .rw[aK.mp hq];exact#[ai.mpr #[d,hdm,Y],by show 25+_%20<50+_%40;omega]
  .cases hq
 .let#[k,hk,rfl]:=ai.mp hq;let hi:vH _>>i:=hi;unfold vH at hi;split at hi
  .cases hi;exact#[(),g0 _ 1 ⋯ ⋯ ⋯]
  .cases hi
 .let#[k,hk,rfl]:=ai.mp hq;show 1<=maxOf _+_%3;let:=(rC (lZ iH ((gZ ns).getD k ""))).2 1 aJ;omega
theorem rQ(ns:!Int):(eC ns).kinds≠[]/\(eC ns).gates≠[]:=by
 let#[k1,k4]:=nJ (qj ns);let#[g1,g3]:=kf (gq ns);let#[p1,p6]:=mh (gq ns);refine#[λz=>?_,λz=>?_]
 .let:=qQ6 dX z;let:(jC ns).length=0:=this;simp[rB,ae,eS]at this;omega
 .let:=qQ6 dX z;let:(lY _).length=0:=this;unfold lY at this;rw[a9]at this;omega
end Mg
namespace Mg
open L2 PySem PyProof.Rows
seal L2.VE L2.VS L2.vz L2.VT L2.VO L2.Fd
theorem iA(x y:O):(x++y).length=x.length+y.length:=by simp only[cC]
theorem iW(h1:om x)(h2:om y):om (x++y):=(oo _).mpr λc hc=>by
 rw[add_list]at hc;rcases aT.mp hc with hc|hc
 .exact(oo _).mp h1 c hc
 .exact(oo _).mp h2 c hc
theorem qO(hy:om y):∀{l:!O},(∀x∈l,om x)->om (dA y l)
 | [],_=>(oo _).mpr λc hc=>by cases hc
 | [x],h=>h x aJ
 |x::z::l,h=>iW (iW (h x aJ) hy) (qO hy λu hu=>h u (ay _ hu))
theorem hZ(h:cj (.str x)=true:=by symm):om x:=h
theorem L7(ok:nM p):∀r∈fj p,om r/\r.length<=1400:=by
 intro r hr;let nn:∀{x:O},eu x->om x/\x.length<=8:=λh=>#[h.ok.2,h.short];let dn:∀{d:J},Ir d->om _/\(gi d).length<=8:=λh=>#[(wW h).2,k_ h];let nm:∀{i:Int},dG i->om _/\(eY i).length<=6:=λh=>#[(qe h.1 h.2).2,iw h];unfold fj pS at hr;simp only[aT,ai]at hr;rcases hr with((((⟨q,hq,rfl⟩|⟨q,hq,rfl⟩)|⟨q,hq,rfl⟩)|⟨q,hq,rfl⟩)|⟨q,hq,rfl⟩)|⟨q,hq,rfl⟩
 .let#[h1,h2]:=ok.kinds q hq;refine#[iW (iW (iW hZ (nn h1).1) hZ) (dn h2).1,?_];let a:=(nn h1).2;let b:=(dn h2).2;unfold rH;rw[iA,iA,iA,show("kind ":O).length=5 from by decide,show(" ":O).length=1 from by decide];omega
 .let h1:=ok.gates q hq;refine#[iW hZ (nn h1).1,?_];let a:=(nn h1).2;unfold pP;rw[iA,show("gate ":O).length=5 from by decide];omega
 .let#[h1,h2]:=ok.lines q hq;refine#[iW (iW (iW hZ (nn h1).1) hZ) (nm h2).1,?_];let a:=(nn h1).2;let b:=(nm h2).2;unfold pQ;rw[iA,iA,iA,show("line ":O).length=5 from by decide,show(" ":O).length=1 from by decide];omega
 .let#[h1,h2,h3,h4,h5]:=ok.desks q hq;refine#[iW (iW (iW (iW (iW (iW (iW hZ (nn h1).1) hZ) (dn (d:=.str q.to) h2).1) hZ) (qO hZ λx hx=>(FZ h3 x hx).2)) hZ) (qO hZ λx hx=>(nn (h5 x hx)).1),?_];let a:=(nn h1).2;let b:=(dn (d:=.str q.to) h2).2;let c:=oT h3;let d:=iI (y:=(" ")) ⋯ λx hx=>(nn (h5 x hx)).2;unfold ou qK;rw[iA,iA,iA,iA,iA,iA,iA,show("desk ":O).length=5 from by decide,show(" to ":O).length=4 from by decide,show(" by ":O).length=4 from by decide,show(" from ":O).length=6 from by decide];omega
 .let#[h1,h2,h3]:=ok.times q hq;let hx4:∀x∈[("time":O),q.1,q.2.1,eY q.2.2],om x/\x.length<=8:=λx hx=>by
   simp[au,bu,or_false]at hx;rcases hx with rfl|rfl|rfl|rfl
   .exact#[hZ,⋯]
   .exact nn h1
   .exact nn h2
   .exact#[(nm h3).1,by let:=(nm h3).2;omega]
  refine#[qO hZ λx hx=>(hx4 x hx).1,?_];let:=iI (y:=(" ")) ⋯ λx hx=>(hx4 x hx).2;unfold pR;simp[a8,dP]at this;omega
 .let#[h1,h2,h3]:=ok.hours q hq;let hx4:∀x∈[("open":O),q.1,eY q.2.1,eY q.2.2],om x/\x.length<=8:=λx hx=>by
   simp[au,bu,or_false]at hx;rcases hx with rfl|rfl|rfl|rfl
   .exact#[hZ,⋯]
   .exact nn h1
   .exact#[(nm h2).1,by let:=(nm h2).2;omega]
   .exact#[(nm h3).1,by let:=(nm h3).2;omega]
  refine#[qO hZ λx hx=>(hx4 x hx).1,?_];let:=iI (y:=(" ")) ⋯ λx hx=>(hx4 x hx).2;unfold rJ;simp[a8,dP]at this;omega
theorem L8(ns:!Int):(fj (eC ns)).length<=44:=by
 let#[k1,k4]:=nJ (qj ns);let#[p1,p6]:=mh (gq ns);let Qh:(qd ns).length=(placesOf (gq ns)).length:=by unfold qd orderOf;rw[aR,cX,a9];let:=uk (gq ns) (by let:=(kf (gq ns)).1;omega);omega
 let g1:=(kf (gq ns)).1;let XI:(jC ns).length=kT (qj ns):=by simp[rB]
 let NX:(iP ns).length<=4:=[rG]▸(nI _ ()).2.1;let htl:=rE (pq ns) (iP ns) (jC ns) () _ (aP _);let hhl:=rF (pq ns) (iP ns) _ (aP _);generalize hD:iP ns=iH at *;let e0:eC ns=#[jC ns,lY (gq ns),(cF (gZ ns).length).map (roomAt (gq ns) iH (gZ ns)),iH,hU (pq ns) iH (jC ns) iH.length,jQ (pq ns) iH iH.length]:=by rw[<-hD];rfl
 let hg:(lY (gq ns)).length+(gZ ns).length<=6:=by unfold lY gZ linesOf;rw[a9,cX];omega
 rw[e0];unfold fj pS;simp;omega
theorem L9(ns:!Int):zc (wQ (eC ns)):=by let hr:=L7 (zD ns);refine#[?_,qO hZ λx hx=>(hr x hx).1];let:=iI (y:="\n") ⋯ λx hx=>(hr x hx).2;unfold wQ;let:(fj _).length*(1400+1)<=44*1401:=kG (L8 ns) ();omega
end Mg
namespace Mg
open L2 PySem PyProof.Rows
variable{n:Nat}{p:Pl}
structure Ws where
 places:!(O×!Nat)
 loads:!(O×Option (!Nat×Int))
 met:!Nat
 time:Int
variable{s:Ws}
def il(l:!Nat):!J:=l.map λ(g:Nat)=>dq (g:Int)
theorem dW(l:!Nat):(il l).length=l.length:=ae _
def mM:Option (!Nat×Int)->J
 |none=>.none
 |some q=>.tuple [.tuple (il q.1),.int q.2]
def cM(s:Ws):!(O×J):=s.places.map λq=>(q.1,.list (il q.2))
def dN(s:Ws):!(O×J):=s.loads.map λq=>(q.1,mM q.2)
def uG(s:Ws):!Int:=s.met.map λ(g:Nat)=>(g:Int)
def Sq(s:Ws):!(O×J):=[("places",wG (cM s)),("loads",iO (dN s)),("met",xT (uG s)),("time",.int s.time)]
def Pr(s:Ws):J:=iO (Sq s)
theorem qP(s:Ws):gJ (Sq s) "places"=some (wG (cM s)):=fE Y
theorem Gf(s:Ws):gJ (Sq s) "loads"=some (iO (dN s)):=(cQ (show ¬(("places":O)="loads") by symm)).trans (fE Y)
theorem W7(s:Ws):gJ (Sq s) "met"=some (xT (uG s)):=(cQ (show ¬(("places":O)="met") by symm)).trans ((cQ (show ¬(("loads":O)="met") by symm)).trans (fE Y))
def gO(s:Ws)(x:O):!Nat:=((s.places.find? λq=>decide (q.1=x)).map (·.2)).getD []
def ie(s:Ws)(x:O):Option (!Nat×Int):=((s.loads.find? λq=>decide (q.1=x)).map (·.2)).getD none
theorem xh{α β:Type}{F:α->β}(x:O):∀(l:!(O×α)),x∈l.map (·.1)->(((l.map λq=>(q.1,F q.2)).find? λp=>decide (p.1=x)).map (·.2))=((l.find? λq=>decide (q.1=x)).map (·.2)).map F/\∃a,(x,a)∈l/\(l.find? λq=>decide (q.1=x)).map (·.2)>>a
 | [],h=>by cases h
 |q::l,h=>by
  rw[av,c9,c9];by_cases e:q.1=x
  .rw[qQ1 e];exact#[Y,q.2,[<-e]▸aJ,Y]
  .rw[qQ0 e];let h':x∈l.map (·.1):=by
    rcases au.mp h with h|h
    .exact qQ7 h.symm e
    .exact h
   let#[i1,a,i2,i3]:=xh x l h';exact#[i1,a,ay _ i2,i3]
theorem iB(h:x∈s.places.map (·.1)):gJ (cM s) x>>(.list (il (gO s x)))/\(x,gO s x)∈s.places:=by
 let#[h1,a,h2,h3]:=xh (F:=λl=>lG _) x s.places h;let e:gO s x=a:=by unfold gO;rw[h3];rfl
 refine#[?_,[e]▸h2];unfold gJ cM;rw[h1,h3,e];rfl
theorem Kk(h:x∈s.loads.map (·.1)):gJ (dN s) x>>(mM (ie s x))/\(x,ie s x)∈s.loads:=by
 let#[h1,a,h2,h3]:=xh x s.loads h;let e:ie s x=a:=by unfold ie;rw[h3];rfl
 refine#[?_,[e]▸h2];unfold gJ dN;rw[h1,h3,e];rfl
inductive We where
 |come (t:Int) (g:Nat)
 |spoil (t:Int) (g:Nat)
 |take (t:Int) (d:O) (gs:!Nat)
 |put (t:Int) (d:O) (gs:!Nat)
def qV:We->J
 | .come t g=>.tuple [.str "come",.int t,.int (g:Int)]
 | .spoil t g=>.tuple [.str "spoil",.int t,.int (g:Int)]
 | .take t d gs=>.tuple [.str "take",.int t,.str d,.tuple (il gs)]
 | .put t d gs=>.tuple [.str "put",.int t,.str d,.tuple (il gs)]
def XX:Option We->J
 |none=>.none
 |some e=>qV e
theorem IX(l:!Nat):xS (.tuple (il l)):=.tup λd hd=>by let#[g,_,rfl]:=ai.mp hd;exact .int _
theorem W8(e:Option We):xS (XX e):=by
 cases e with
 |none=>exact .non
 |some e=>
  cases e<;>(refine .tup λd hd=>?_;simp[au,bu,or_false]at hd)
  .rcases hd with rfl|rfl|rfl
   .exact .str _
   .exact .int _
   .exact .int _
  .rcases hd with rfl|rfl|rfl
   .exact .str _
   .exact .int _
   .exact .int _
  .rcases hd with rfl|rfl|rfl|rfl
   .exact .str _
   .exact .int _
   .exact .str _
   .exact IX _
  .rcases hd with rfl|rfl|rfl|rfl
   .exact .str _
   .exact .int _
   .exact .str _
   .exact IX _
structure pA(p:Pl)(n:Nat)(s:Ws):Prop where
 nm:s.places.map (·.1)=p.gates++p.lines.map (·.1)
 ld:s.loads.map (·.1)=p.desks.map (·.name)
 pn:(s.places.map (·.2)).flatten.Nodup
 pg:∀g∈(s.places.map (·.2)).flatten,g<n
 lg:∀q∈s.loads,∀l,q.2>>l->l.1.length<=3/\∀g∈l.1,g<n
 mn:s.met.length<=n
 n30:n<=30
theorem yE{l:!Nat}(h:l.Nodup)(hb:∀g∈l,g<n):l.length<=n:=by
 let go:∀(l m:!Nat),l.Nodup->(∀x∈l,x∈m)->l.length<=m.length:=by
  intro l;induction l with
  |nil=>intro m _ _;exact bj _
  |cons x l ih=>intro m hn h;let#[h1,h2]:=aO.mp hn;let hx:=h x aJ;let:=ih (m.erase x) h2 λy hy=>(List.mem_erase_of_ne (λz:y=x=>h1 ([<-z]▸hy))).mpr (h y (ay _ hy));rw[List.length_erase_of_mem hx]at this;let:=List.length_pos_of_mem hx;rw[a8];omega
 let:=go l _ h λx hx=>cG.mpr (hb x hx)
 rwa [eS]at this
theorem pA.few(h:pA p n s):(s.places.map (·.2)).flatten.length<=30:=bA (yE h.pn h.pg) h.n30
theorem uw{l:!(O×!Nat)}{q:O×!Nat}(h:q∈l):q.2.length<=((l.map (·.2)).flatten).length:=by
 induction l with
 |nil=>cases h
 |cons z l ih=>
  rw[av,fx,aR];rcases au.mp h with rfl|h
  .omega
  .let:=ih h;omega
theorem pA.place(h:pA p n s)(hx:x∈p.gates++p.lines.map (·.1)):gJ (cM s) x>>(.list (il (gO s x)))/\(gO s x).length<=30/\∀g∈gO s x,g<n:=by let#[h1,h2]:=iB ([h.nm]▸hx);exact#[h1,bA (uw h2) h.few,λg hg=>h.pg g (hG.mpr #[_,ai.mpr #[_,h2,Y],hg])]
theorem pA.load(h:pA p n s)(hx:x∈p.desks.map (·.name)):gJ (dN s) x>>(mM (ie s x))/\∀l,ie s x>>l->l.1.length<=3/\∀g∈l.1,g<n:=by let#[h1,h2]:=Kk ([h.ld]▸hx);exact#[h1,λl hl=>h.lg _ h2 l hl]
def gT(s:Ws)(ps:!O):!Nat:=(ps.map (gO s)).flatten
def xi(p:Pl)(s:Ws):!Dk:=p.desks.filter λd=>(ie s d.name).isNone && not (gT s d.places).isEmpty
def Ee(l:!Nat)(m:Int):!Nat:=
 let a:=(m/8%l.length).toNat
 let c:=(l.drop a++l.take a).take (1+m/64%3).toNat
 if m/256%2=1 then c.reverse else c
def nY(p:Pl)(s:Ws)(m t:Int):Option We:=
 match xi p s with
 | []=>none
 |d::ds=>some (.take t (pickOf (d::ds) d m).name (Ee (gT s (pickOf (d::ds) d m).places) m))
def rV(p:Pl)(s:Ws)(d:Dk)(l:!Nat):Bool:=decide (d.to="")||decide ((gO s d.to).length+l.length<=Pt p d.to)
where Pt (p:Pl) (x:O):Int:=((p.lines.find? λq=>decide (q.1=x)).map (·.2)).getD 0
def tR(p:Pl)(s:Ws)(t:Int)(d:Dk):Option We:=match ie s d.name with
 |none=>none
 |some l=>if decide (l.2<=t)&&rV p s d l.1 then some (.put t d.name l.1)else none
def qQ(p:Pl)(s:Ws)(t:Int):!We:=p.desks.filterMap (tR p s t)
def fJ(s:Ws):!Nat:=(s.places.map (·.2)).flatten
def yF(n:Nat)(s:Ws):!Nat:=(cF n).filter λg=>not (decide (g∈s.met))
def A6(l:!We)(j:Int):We:=pickOf l (.come 0 0) j
def yG(p:Pl)(n:Nat)(s:Ws)(m t:Int):Option We:=
 if decide (5<m%8) && not (qQ p s t).isEmpty then some (A6 (qQ p s t) (m/8))
 else if(decide (m%8=3)||(decide (m%8=4)||decide (m%8=5)))&&(nY p s (m/8) t).isSome then nY p s (m/8) t
 else if decide (m%32=2) && not (fJ s).isEmpty then some (.spoil t (pickOf (fJ s) 0 (m/32)))
 else if not (yF n s).isEmpty then some (.come t (pickOf (yF n s) 0 (m/8)))
 else if not (qQ p s t).isEmpty then some (A6 (qQ p s t) (m/8))
 else nY p s (m/8) t
end Mg
namespace Mg
open L2 PySem PyProof.Rows
seal L2.VE L2.VS L2.vz L2.VT L2.VO L2.Fd
variable{fd:fW}{p:Pl}
def strsOf(l:!J):!O:=l.filterMap λd=>match d with | .str x=>some x|_=>none
theorem strs_map:∀l:!O,strsOf (l.map aN)=l
 | []=>rfl
 |x::l=>by let:strsOf ((x::l).map aN)=x::strsOf _:=Y;rw[this,strs_map l]
theorem Sr(r:Rl):Lay (n+2) (ML r):=by
 refine kA λd hd=>?_;rcases au.mp hd with rfl|hd
 .refine bo ?_;cases r<;>(dsimp[sr,om];symm)
 .cases r with
  |turns s=>rw[aK.mp hd];exact kA λd hd=>by let#[i,_,rfl]:=ai.mp hd;exact bJ _ _
  |eldest=>cases hd
  |rank b=>rw[aK.mp hd];cases b with|none=>exact Q6 _|some i=>exact bJ _ _
  |many m=>rw[aK.mp hd];exact bJ _ _
  |gather m a=>
   rcases au.mp hd with rfl|hd
   .exact bJ _ _
   .rw[aK.mp hd];exact bJ _ _
  |meet=>cases hd
structure GK(p:Pl):Prop where
 ok:nM p
 dp:∀d∈p.desks,(∀x∈d.places,x∈p.gates++p.lines.map (·.1))/\d.places.length<=6/\(d.to=""\/d.to∈p.lines.map (·.1))
 ln:(p.lines.map (·.1)).Nodup
 pn:(p.gates++p.lines.map (·.1)).Nodup
theorem tS(h:pA p n s):∀{ps:!O},(∀x∈ps,x∈p.gates++p.lines.map (·.1))->(gT s ps).length<=30*ps.length/\∀g∈gT s ps,g<n
 | [],_=>#[bj _,λg hg=>by cases hg]
 |x::ps,hx=>by
  let#[_,h1,h2]:=h.place (hx x aJ);let#[i1,i2]:=tS h λy hy=>hx y (ay _ hy);let e:gT s (x::ps)=gO s x++gT s ps:=Y;rw[e,aR,a8];refine#[(),λg hg=>?_];rcases aT.mp hg with hg|hg
  .exact h2 g hg
  .exact i2 g hg
def Rfr(ds:!J)(d:J):Prop:=∃(p:Pl)(n:Nat)(s:Ws)(k:Dk)(dh:J),ds=[dh,Pr s,dE k]/\pA p n s/\(∀x∈k.places,x∈p.gates++p.lines.map (·.1))/\k.places.length<=6/\d=.list (il (gT s k.places))
abbrev Nfr:!O:=["_law_h","_law_state","_law_desk_here","_law_goods","_law_place"]
section
variable{P:bU}{w:c0}{K:aq}{mg:O->Option M}{base:dF}{f:U}
theorem Uz:bW Nfr ["_law_h","_law_state","_law_desk_here"] (bt (top 55)):=by grind
theorem zaK(F:jO K "_law_free" "_law_free" (top 55) f fd):dR P w K mg base ju 1 f fd ["_law_h","_law_state","_law_desk_here"] (gk K Rfr):=
 ik F Uz (by ext) λ_ _ h=>by
  let#[p,n,s,k,dh,rfl,hs,hk,hl,rfl]:=h;intro gj A outer s0 H E hr;let nd:=Uz.nd;refine aD (iT 3 (dQ cO) nd) ?_;refine aD (k7 (tgt:=.one 4) bZ Y (p_ (gB 2 3 Y Y)) (g6 4 nd) (λi=>[.val dh,.val _,.val _,.own (il (gT s (k.places.take i))),.un]) k.places.length Y ([ae]▸aP _) (λi d hi hd=>?_) (.inl #[by rw[ae],Y])) ?_
  .obtain⟨x,hx,rfl⟩:∃x,k.places[i]?>>x/\d=.str x:=by rw[ax,ao hi]at hd;cases hd;exact#[_,ao hi,Y]
   let hxm:=hk x (aH hx);let#[h1,h2,_]:=hs.place hxm;let e:gT s (k.places.take (i+1))=gT s (k.places.take i)++gO s x:=by unfold gT;rw[bO,hx,aI,kX];simp
   let hfl:=(tS hs (ps:=k.places.take i) λy hy=>hk y (eK hy)).1;rw[a9]at hfl;rw[e];refine#[_,Y,?_];refine eJ 3 Y ?_;refine gW (aS (iT 3 (VO.to (lO 3. (tE hr (cJ hr 1. aQ (qP s)) 4. h1) (small (by rw[dW,dW];omega))) (by unfold il;rw[aI])) nd)) #[.inr Y,.inr Y,.inr Y,.inr Y,.inl Y,trivial]
  rw[cq];exact eJ 3 Y (aS (bL 3.))
def Fwl(s:Ws):J->Option J
 | .tuple [.str nm,a,b,.tuple ps]=>if((ie s nm).isNone && not (gT s (strsOf ps)).isEmpty)=true then some (.tuple [.str nm,a,b,.tuple ps])else none
 |_=>none
theorem xj(s:Ws)(d:Dk):Fwl s (dE d)=if((ie s d.name).isNone && not (gT s d.places).isEmpty)=true then some (dE d)else none:=by show(if((ie s d.name).isNone && not (gT s _).isEmpty)=true then _ else _)=_;rw[strs_map];rfl
theorem Ss(s:Ws)(l:!Dk):(l.map dE).filterMap (Fwl s)=(l.filter λd=>(ie s d.name).isNone && not (gT s d.places).isEmpty).map dE:=by
 induction l with
 |nil=>rfl
 |cons d l ih=>
  rw[av,gA];by_cases h:((ie s d.name).isNone && not (gT s d.places).isEmpty)=true
  .rw[cI ((xj s d).trans (qQ3 h)),qQ3 h,ih];rfl
  .rw[dS ((xj s d).trans (qQ2 h)),qQ2 h,ih]
theorem tU(l:!Nat):Lay 20 (.list (il l)):=oh λd hd=>by let#[g,_,rfl]:=ai.mp hd;exact bJ _ _
theorem Gg(l:!Nat):(not (cV (.list (il l)) (.list [])))=not l.isEmpty:=by cases l<;>rfl
def Rwl(ds:!J)(d:J):Prop:=∃(p:Pl)(n:Nat)(s:Ws)(dy:J)(m t:Int),ds=[gG p,dy,Pr s,.int m,.int t]/\GK p/\pA p n s/\d=XX (nY p s m t)
abbrev Nwl:!O:=["_law_h","_law_day_here","_law_state","_law_m","_law_t","_law_desks_here","_law_desk_here","_law_goods","_law_at"]
theorem UA:bW Nwl ["_law_h","_law_day_here","_law_state","_law_m","_law_t"] (bt (top 56)):=by grind
theorem zeQ(F:jO K "_law_wild_load" "_law_wild_load" (top 56) f fd)(n:Na mg)(C1:bw P w K mg base 1 "_law_free" ["_law_h","_law_state","_law_desk_here"] (gk K Rfr)):dR P w K mg base ju 2 f fd ["_law_h","_law_day_here","_law_state","_law_m","_law_t"] (gk K Rwl):=
 ik F UA (by ext) λ_ _ h=>by
  let#[p,nn,s,dy,m,t,rfl,hp,hs,rfl]:=h;intro gj A outer s0 H E hr;let nd:Nwl.Nodup:=UA.nd;let nc:(["_law_desk_here","_law_h","_law_state"]:!O).Nodup:=∎;let Fq:=hp.ok.dn;refine aD (zv 5 (own:=["_law_desk_here"]) (cap:=[0,2]) (tgt:=.one 0) (F:=Fwl s) Y #[Y,∎,∎,Y,Y,?_] (eG (cJ hr 0. aQ (tH p))) (λf s3 H3=>g6 0 nc) Y (small (by rw[ae];omega)) (λd hd=>?_) nd) ?_
  .intro j hj;rcases au.mp hj with rfl|hj
   .exact#[(by show(0:Nat)<9;decide),(by left),Y]
   rcases au.mp hj with rfl|hj
   .exact#[(by show(2:Nat)<9;decide),(by left),Y]
   .cases hj
  .let#[z,hz,rfl]:=ai.mp hd;let#[z1,z2,_]:=hp.dp z hz;let#[l1,_]:=hs.load (ai.mpr #[z,hz,Y]);let hn:OY (mM (ie s z.name))=(ie s z.name).isNone:=by cases ie s z.name<;>rfl
   refine#[_,Y,λf s3 H3=>pJ (VT.to (jJ (eW iZ lB (cJ hr (cJ hr 2. aQ (Gf s)) (gB 0 0 Y Y) l1) eD (eM _)) (λ_=>VT.to (gQ hr (tU _) jP (bB C1 hr {1.,2.,0.} #[p,nn,s,z,gG p,Y,hs,z1,z2,Y]) (VO.ve (dQ (ds:=[]) cO))) (Gg _))) ?_),λr kL f s3 H3=>?_]
   .rw[xj,hn];by_cases h:((ie s z.name).isNone && not (gT s z.places).isEmpty)=true
    .rw[qQ3 h,h];rfl
    .rw[qQ2 h,eT.mpr h];rfl
   .rw[xj]at kL;split at kL
    .cases kL;exact mR 0 Y
    .cases kL
  rw[Ss,show(p.desks.filter λd=>(ie s d.name).isNone && not (gT s d.places).isEmpty)=xi p s from Y];refine eJ 5 Y ?_;let hlay:Lay 20 (.list ((xi p s).map dE)):=oh (n:=19) λd hd=>by
   let#[q,hq,rfl]:=ai.mp hd;let#[h1,h2,h3,h4,h5]:=hp.ok.desks q (jK.mp hq).1;refine kA (n:=18) λd hd=>?_;simp only[au,bu,or_false]at hd;rcases hd with rfl|rfl|rfl|rfl
   .exact bo h1.ok.2
   .refine bo ?_;rcases h2 with h|h
    .rw[h];symm
    .exact h.ok.2
   .exact Sr q.rule
   .exact kA (n:=17) λd hd=>by let#[i,hi,rfl]:=ai.mp hd;exact bo (h5 i hi).ok.2
  cases hI:xi p s with
  |nil=>rw[show nY p s m t=none by unfold nY;rw[hI]];exact cZ (dm (VT.to (fB hr jP jP (VE.to 5. Y) (VO.ve (dQ (ds:=[]) cO))) Y) (aS (bL eD))) Y
  |cons d0 XY=>
   rw[hI]at hlay;let hw:nY p s m t>>(.take t (pickOf (d0::XY) d0 m).name (Ee (gT s (pickOf (d0::XY) d0 m).places) m)):=by unfold nY;rw[hI]
   rw[hw];let#[Sv,hm1]:=iV (l:=d0::XY) (d:=d0) (F:=dE) (by rw[a8];omega) m;let uC:pickOf (d0::XY) d0 m∈xi p s:=[hI]▸hm1;generalize pickOf (d0::XY) d0 m=z at *;let#[hz,hzf]:=jK.mp uC;let#[z1,z2,_]:=hp.dp z hz;let sj:(gT s z.places).isEmpty=false:=by let:=(df.mp hzf).2;simpa using this
   let#[fl,fg]:=tS hs z1;refine aD (bE (VT.to (fB hr hlay jP 5. (VO.ve (dQ (ds:=[]) cO))) Y) a_) ?_;refine aD (cL 6 (d:=dE z) (fU 5. (VE.to (cn 3. (fD 5. n.len) (by rw[ae,a8];omega)) (by rw[ae])) Sv) nd) ?_;refine aD (cL 7 (bB C1 hr {0.,2.,6.} #[p,nn,s,z,gG p,Y,hs,z1,z2,Y]) nd) ?_;generalize hL:gT s z.places=La at *;let MG:1<=La.length:=by cases La with|nil=>cases sj|cons _ _=>rw[a8];omega
   obtain⟨a,ha,ha2⟩:∃a:Nat,m/8%(La.length:Int)=a/\a<La.length:=#[(m/8%(La.length:Int)).toNat,by let:=cx (m/8) (show(La.length:Int)≠0 by omega);omega,by let:=c6 (m/8) (show(0:Int)<La.length by omega);let:=cx (m/8) (show(La.length:Int)≠0 by omega);omega];refine aD (cL 8 (VE.to (cn (eE 3. aB #[⋯,⋯]) (fD (ds:=il La) 7. n.len) (by rw[dW];omega)) (by rw[dW,ha])) nd) ?_;obtain⟨c,hc,Tn⟩:∃c:Nat,1+m/64%3=c/\c<=3:=#[(1+m/64%3).toNat,(),()];let eR:Ee La m=if m/256%2=1 then((La.drop a++La.take a).take c).reverse else(La.drop a++La.take a).take c:=by unfold Ee;rw[ha,hc,fF,fF]
   rw[eR];generalize hR:(La.drop a++La.take a).take c=R;refine aD (iT 7 (ds:=il R) (VO.to (gE (ds:=il (La.drop a++La.take a)) (VE.to (VO.ve (lO (d1:=il (La.drop a)) (d2:=il (La.take a)) (VE.to (VO.ve (gE (ds:=il La) 7. (.yes 8.) .no)) (by unfold il;rw[pN,mj])) (VE.to (VO.ve (gE (ds:=il La) 7. .no (.yes 8.))) (by unfold il;rw[pN,sW])) (small (by rw[dW,dW,cX,a9];omega)))) (by unfold il;rw[aI])) .no (.yes (VE.to (dM aB (cn (eE 3. aB #[⋯,⋯]) aB ⋯)) (by rw[hc])))) (by unfold il;rw[pN,sW,hR])) nd) ?_;refine aD (δ':=[.val (gG p),.val dy,.val (Pr s),.val (.int m),.val (.int t),.val (.list ((d0::XY).map dE)),.val (dE z),.own (il (if m/256%2=1 then R.reverse else R)),.val (.int (a:Nat))]) (TF (VT.to (fB hr (bJ 20 _) (bJ 20 _) (cn (eE 3. aB #[⋯,⋯]) aB ⋯) aB) (by rw[jw])) (λhk=>?_) λhk=>?_) ?_
   .rw[qQ3 (qQ4 hk)];let e:il R.reverse=(il R).reverse:=List.map_reverse;rw[e];exact aS (H_ 7 Y)
   .rw[qQ2 (qQ5 hk)];exact a_
   exact eJ 7 Y (aS (bL (VE.to (fc {aQ,4.,gB 6 0 Y Y,kz kP wz {7.} n.tup Y}) Y)))
end
theorem Gh{K:aq}{d:J}:B9 K (λx y H Q=>y=.non/\Q (.bl (not (decide (x=.non)))) H) d .none (.bool (not (OY d))):=λv u H0 H Q s r1 r2 k=>by cases r2;refine#[Y,k _ _ _ (.refl s) ?_];cases r1<;>exact .bl _
theorem x5(h:x∈p.lines.map (·.1)):gJ (jS p) x>>(.int (rV.Pt p x)):=by let#[h1,a,h2,h3]:=xh x p.lines h;unfold gJ jS rV.Pt;rw[h1,h3];rfl
theorem yH(p:Pl):p.lines.map CB=(jS p).map L2.pairD:=by unfold jS;rw[aj];rfl
def Rri(ds:!J)(d:J):Prop:=∃(p:Pl)(n:Nat)(s:Ws)(t:Int),ds=[gG p,Pr s,.int t]/\GK p/\pA p n s/\d=.list ((qQ p s t).map qV)
abbrev Nri:!O:=["_law_h","_law_state","_law_t","_law_found","_law_name","_law_to","_law_rule_here","_law_places","_law_load"]
section
variable{K:aq}
theorem UB:bW Nri ["_law_h","_law_state","_law_t"] (bt (top 57)):=by grind
theorem zeR{P:bU}{w:c0}{mg:O->Option M}{base:dF}{f:U}(F:jO K "_law_ripe" "_law_ripe" (top 57) f fd)(n:Na mg)(md:mg "dict"=none):dR P w K mg base ju 1 f fd ["_law_h","_law_state","_law_t"] (gk K Rri):=
 ik F UB (by ext) λ_ _ h=>by
  let#[p,nn,s,t,rfl,hp,hs,rfl]:=h;intro gj A outer s0 H E hr;let nd:Nri.Nodup:=UB.nd;let Fq:=hp.ok.dn;refine aD (iT 3 (dQ cO) nd) ?_;refine aD (k7 (tgt:=.tup [4,5,6,7]) bZ Y (eG (cJ hr 0. aQ (tH p)))
   (g7 Y (bS (g6 4 nd) (bS (g6 5 nd) (bS (g6 6 nd) (bS (g6 7 nd) fP)))))
   (λi=>[.val _,.val (Pr s),.val (.int t),.own (((p.desks.take i).filterMap (tR p s t)).map qV),.un,.un,.un,.un,.un]) p.desks.length Y ([ae]▸aP _) (λi d hi hd=>?_) (.inl #[by rw[ae],Y])) ?_
  .obtain⟨z,hz,rfl⟩:∃z,p.desks[i]?>>z/\d=dE z:=by rw[ax,ao hi]at hd;cases hd;exact#[_,ao hi,Y]
   let XA:=aH hz;let#[z1,z2,z3]:=hp.dp z XA;let#[l1,l2]:=hs.load (ai.mpr #[z,XA,Y]);let zto:om z.to:=by
    rcases(hp.ok.desks z XA).2.1 with h|h
    .rw[h];show cj _=true;symm
    .exact h.ok.2
   let hlen:((p.desks.take i).filterMap (tR p s t)).length<=60:=bA (iQ _ _) (by rw[a9];omega);let e:(p.desks.take (i+1)).filterMap (tR p s t)=(p.desks.take i).filterMap (tR p s t)++(tR p s t z).toList:=by
    rw[bO,hz,jV]
    congr 1
   rw[e];refine#[_,Y,?_];refine aD (cL 8 (cJ hr (cJ hr 1. aQ (Gf s)) 4. l1) nd) ?_
   generalize(p.desks.take i).filterMap _=rs at *
   let XZ:∀{x:Slot},MF [.val _,.val (Pr s),.val (.int t),x,.val (.str z.name),.val (.str z.to),.val (ML z.rule),.val (.tuple (z.places.map .str)),.val (mM (ie s z.name))] [.val (gG p),.val (Pr s),.val (.int t),x,.un,.un,.un,.un,.un]:=#[.inr Y,.inr Y,.inr Y,.inr Y,.inl Y,.inl Y,.inl Y,.inl Y,.inl Y,trivial];cases hL:ie s z.name with
   |none=>rw[show tR p s t z=none by unfold tR;rw[hL],oZ,cA];rw[hL]at XZ;exact gW (aS (bE (VT.to (jJ (k2:=false) (VT.to (eW pD Gh 8. eD (eM _)) Y) (λz=>by cases z)) Y) a_)) XZ
   |some l=>
    rw[hL]at XZ;let hl:=(l2 l hL).1;let er:tR p s t z=if(decide (l.2<=t)&&rV p s z l.1)=true then some (.put t z.name l.1)else none:=by unfold tR;rw[hL]
    rw[er];by_cases c1:l.2<=t
    .by_cases c2:rV p s z l.1=true
     .rw[qQ3 (by rw[qQ1 c1,c2];rfl),Jt,aI,fL];refine gW (aS (dm (VT.to (jJ (VT.to (eW pD Gh 8. eD (eM _)) Y) (λ_=>E9 (gB 8 1 Y Y) 2.)) (by rw[qQ1 c1];rfl)) (aS (dm (VT.to (iz (kZ hr (bo zto) 5 Y (bG _ _)) (λhk=>?_)) (by unfold rV at c2;exact c2)) (aS (jH 3 Y (VE.to (fc {aQ,2.,4.,gB 8 0 Y Y}) Y) (fh (by rw[ae];omega))))))))  XZ;let Im:=z3.resolve_left (qQ5 hk);let#[h1,h2,_]:=hs.place (aZ p.gates Im);exact E9 (VE.to (dM (fD (tE hr (cJ hr 1. aQ (qP s)) 5. h1) n.len) (iS (gB 8 0 Y Y) n.len)) (by rw[dW,dW])) (cJ hr (Fs (VE.to (cJ hr 0. aQ (wM p)) (by rw[yH])) ([kC]▸hp.ln) Y md) 5. (x5 Im))
     .rw[qQ2 (by rw[eT.mpr c2,uK];decide),oZ,cA];refine gW (aS (dm (VT.to (jJ (VT.to (eW pD Gh 8. eD (eM _)) Y) (λ_=>E9 (gB 8 1 Y Y) 2.)) (by rw[qQ1 c1];rfl)) (aS (bE (VT.to (iz (kZ hr (bo zto) 5 Y (bG _ _)) (λhk=>?_)) (by unfold rV at c2;exact eT.mpr c2)) a_)))) XZ;let Im:=z3.resolve_left (qQ5 hk);let#[h1,h2,_]:=hs.place (aZ p.gates Im);exact E9 (VE.to (dM (fD (tE hr (cJ hr 1. aQ (qP s)) 5. h1) n.len) (iS (gB 8 0 Y Y) n.len)) (by rw[dW,dW])) (cJ hr (Fs (VE.to (cJ hr 0. aQ (wM p)) (by rw[yH])) ([kC]▸hp.ln) Y md) 5. (x5 Im))
    .rw[qQ0 c1,Bool.false_and,qQ2 ⋯,oZ,cA];exact gW (aS (bE (VT.to (jJ (VT.to (eW pD Gh 8. eD (eM _)) Y) (λ_=>E9 (gB 8 1 Y Y) 2.)) (by rw[qQ0 c1];rfl)) a_)) XZ
  rw[cq];exact eJ 3 Y (aS (bL 3.))
end
theorem vT{α:Type}:∀{l:!(O×α)}{q:O×α},(l.map (·.1)).Nodup->q∈l->(l.find? λz=>decide (z.1=q.1))>>q
 | [],_,_,h=>by cases h
 |z::l,q,hn,h=>by
  let#[h1,h2]:=aO.mp hn;rw[c9];rcases au.mp h with rfl|h
  .rw[qQ1 Y]
  .rw[qQ0 λe=>h1 (ai.mpr #[q,h,e.symm])];exact vT h2 h
theorem Pu(hp:GK p)(hs:pA p n s)(h:q∈s.places):gO s q.1=q.2:=by unfold gO;rw[vT ([hs.nm]▸hp.pn) h];rfl
def Fco(s:Ws):J->Option J
 | .int g=>if(not (decide (g∈uG s)))=true then some (.int g)else none
 |_=>none
theorem W9(s:Ws)(g:Nat):decide ((g:Int)∈uG s)=decide (g∈s.met):=by
 rw[e8,decide_eq_true_iff,decide_eq_true_iff];constructor
 .intro h;let#[z,hz,e]:=ai.mp h;rwa[<-mL e]
 .exact λh=>ai.mpr #[g,h,Y]
theorem Sw(n:Nat)(s:Ws):(kH n).filterMap (Fco s)=il (yF n s):=by
 let go:∀l:!Nat,((l.map λ(i:Nat)=>dq i).filterMap (Fco s))=(l.filter λg=>not (decide (g∈s.met))).map λ(g:Nat)=>dq g:=by
  intro l;induction l with
  |nil=>rfl
  |cons g l ih=>
   rw[av,gA];let e:Fco s (.int g)=if(not (decide (g∈s.met)))=true then some (.int g)else none:=by show(if(not (decide ((g:Int)∈uG s)))=true then _ else _)=_;rw[W9]
   by_cases h:(not (decide (g∈s.met)))=true
   .rw[cI (e.trans (qQ3 h)),qQ3 h,ih];rfl
   .rw[dS (e.trans (qQ2 h)),qQ2 h,ih]
 exact go _
theorem Pw(h:∀t d gs,e=.take t d gs\/e=.put t d gs->om d):Lay (n+2) (qV e):=by
 let lg:∀l:!Nat,Lay (n+1) (.tuple (il l)):=λl=>kA λd hd=>by let#[g,_,rfl]:=ai.mp hd;exact bJ _ _
 cases e with
 |come t g=>
  refine kA λd hd=>?_;simp[au,bu,or_false]at hd;rcases hd with rfl|rfl|rfl
  .exact bo ∎
  .exact bJ _ _
  .exact bJ _ _
 |spoil t g=>
  refine kA λd hd=>?_;simp[au,bu,or_false]at hd;rcases hd with rfl|rfl|rfl
  .exact bo ∎
  .exact bJ _ _
  .exact bJ _ _
 |take t x gs=>
  refine kA λd hd=>?_;simp[au,bu,or_false]at hd;rcases hd with rfl|rfl|rfl|rfl
  .exact bo ∎
  .exact bJ _ _
  .exact bo (h t x gs (.inl Y))
  .exact lg gs
 |put t x gs=>
  refine kA λd hd=>?_;simp[au,bu,or_false]at hd;rcases hd with rfl|rfl|rfl|rfl
  .exact bo ∎
  .exact bJ _ _
  .exact bo (h t x gs (.inr Y))
  .exact lg gs
theorem A7(h:e∈qQ p s t):∃d∈p.desks,∃l,ie s d.name>>l/\l.2<=t/\rV p s d l.1=true/\e=.put t d.name l.1:=by
 let#[d,hd,he]:=jF.mp h;unfold tR at he;cases hL:ie s d.name with
 |none=>rw[hL]at he;cases he
 |some l=>
  rw[hL]at he;dsimp only at he;split at he
  .rename_i hc
   cases he;let#[c1,c2]:=df.mp hc;exact#[d,hd,l,hL,qQ4 c1,c2,Y]
  .cases he
theorem Px(hp:GK p)(s:Ws)(t:Int):Lay 20 (.list ((qQ p s t).map qV)):=oh λd hd=>by
 let#[e,he,rfl]:=ai.mp hd;let#[k,hk,l,_,_,_,rfl]:=A7 he;refine Pw λt' d gs h=>?_;rcases h with h|h
 .cases h
 .cases h;exact(hp.ok.desks k hk).1.ok.2
theorem Kl(l:!We):(not (cV (.list (l.map qV)) (.list [])))=not l.isEmpty:=by cases l<;>rfl
theorem UC(m:Int):lz (.int (m%8)) (.tuple [.int 3,.int 4,.int 5])=(decide (m%8=3)||(decide (m%8=4)||decide (m%8=5))):=by rcases(by omega:m%8=0\/m%8=1\/m%8=2\/m%8=3\/m%8=4\/m%8=5\/m%8=6\/m%8=7)with e|e|e|e|e|e|e|e<;>rw[e]<;>rfl
def Rwe(ds:!J)(d:J):Prop:=∃(p:Pl)(dy:!J)(s:Ws)(m t:Int),ds=[gG p,.list dy,Pr s,.int m,.int t]/\GK p/\pA p dy.length s/\d=XX (yG p dy.length s m t)
abbrev Nwe:!O:=["_law_h","_law_day_here","_law_state","_law_m","_law_t","_law_waiting","_law_name","_law_coming","_law_ripe_here"]
section
variable{K:aq}
theorem UD:bW Nwe ["_law_h","_law_day_here","_law_state","_law_m","_law_t"] (bt (top 58)):=by grind
theorem zeS{P:bU}{w:c0}{mg:O->Option M}{base:dF}{f:U}(F:jO K "_law_wild_entry" "_law_wild_entry" (top 58) f fd)(n:Na mg)(C1:bw P w K mg base 1 "_law_ripe" ["_law_h","_law_state","_law_t"] (gk K Rri))(C2:bw P w K mg base 2 "_law_wild_load" ["_law_h","_law_day_here","_law_state","_law_m","_law_t"] (gk K Rwl)):dR P w K mg base ju 3 f fd ["_law_h","_law_day_here","_law_state","_law_m","_law_t"] (gk K Rwe):=
 ik F UD (by ext) λ_ _ h=>by
  let#[p,dy,s,m,t,rfl,hp,hs,rfl]:=h;intro gj A outer s0 H E hr;let nd:Nwe.Nodup:=UD.nd;let eX:dB 1 _:=hr.mono ();let n30:=hs.n30;let few:=hs.few;let jX:s.places.length<=120:=by let:=qQ6 dX hs.nm;rw[ae,aR,ae]at this;let:=hp.ok.gn;let:=hp.ok.ln;omega
  refine aD (iT 5 (ds:=[]) (dQ cO) nd) ?_;refine aD (k7 (tgt:=.one 6) bZ Y (Ft (cJ hr 2. aQ (qP s))) (g6 6 nd) (λi=>[.val (gG p),.val (.list dy),.val (Pr s),.val (.int m),.val (.int t),.own (il ((s.places.take i).map (·.2)).flatten),.un,.un,.un]) s.places.length Y (by unfold cM;rw[ae,ae];exact aP _) (λi d hi hd=>?_) (.inl #[by unfold cM;rw[ae,ae],Y])) ?_
  .obtain⟨q,hq,rfl⟩:∃q,s.places[i]?>>q/\d=.str q.1:=by unfold cM at hd;rw[ax,ax,ao hi]at hd;cases hd;exact#[_,ao hi,Y]
   let hqm:=aH hq;let ZL:=(iB (s:=s) (x:=q.1) (ai.mpr #[q,hqm,Y])).1;rw[Pu hp hs hqm]at ZL;let e:((s.places.take (i+1)).map (·.2)).flatten=((s.places.take i).map (·.2)).flatten++q.2:=by rw[bO,hq,aI,kX];simp
   let MG:(((s.places.take i).map (·.2)).flatten).length<=30:=by
    let e2:(s.places.map (·.2)).flatten=((s.places.take i).map (·.2)).flatten++((s.places.drop i).map (·.2)).flatten:=by rw[<-kX,<-aI,fG]
    rw[e2,aR]at few;omega
   let MB:=uw hqm;rw[e];refine#[_,Y,?_];refine eJ 5 Y ?_;refine gW (aS (iT 5 (VO.to (lO 5. (tE hr (cJ hr 2. aQ (qP s)) 6. ZL) (small (by rw[dW,dW];omega))) (by unfold il;rw[aI])) nd)) #[.inr Y,.inr Y,.inr Y,.inr Y,.inr Y,.inr Y,.inl Y,.inl Y,.inl Y,trivial]
  rw[cq,show((s.places.map (·.2)).flatten)=fJ s from Y];refine eJ 5 Y ?_;let nc:(["_law_good","_law_state"]:!O).Nodup:=∎;refine aD (zv 7 (own:=["_law_good"]) (cap:=[2]) (tgt:=.one 0) (F:=Fco s) (ds:=kH dy.length) Y #[Y,∎,∎,Y,Y,?_] (oO (fD (ds:=dy) 1. n.len) n.rng () ()) (λf s3 H3=>g6 0 nc) Y (small (by rw[iG];omega)) (λd hd=>?_) nd) ?_
  .intro j hj;rcases au.mp hj with rfl|hj
   .exact#[(by show(2:Nat)<9;decide),(by left),Y]
   .cases hj
  .let#[i,hi,rfl]:=ai.mp hd;refine#[_,Y,λf s3 H3=>pJ (VT.to (HZ hr 0. (cJ hr 1. aQ (W7 s))) ?_),λr kL f s3 H3=>?_]
   .show _=(if(not (decide ((i:Int)∈uG s)))=true then some (dq (i:Int))else none).isSome;by_cases h:(not (decide ((i:Int)∈uG s)))=true
    .rw[qQ3 h,h];rfl
    .rw[qQ2 h,eT.mpr h];rfl
   .let kL:(if(not (decide ((i:Int)∈uG s)))=true then some (dq (i:Int))else none)>>r:=kL;split at kL
    .cases kL;exact mR 0 Y
    .cases kL
  rw[Sw];refine eJ 7 Y ?_;refine aD (cL 8 (bB C1 eX {0.,2.,4.} #[p,dy.length,s,t,Y,hp,hs,Y]) nd) ?_;let hrn:(qQ p s t).length<=60:=bA (iQ _ _) hp.ok.dn;let hlr:=Px hp s t;let wl:∀{δ:!Slot}{ex:bY},True:=λ{_ _}=>trivial;unfold yG;generalize hRW:qQ p s t=rs at *;by_cases c1:(decide (5<m%8) && not rs.isEmpty)=true
  .rw[qQ3 c1];let hl:1<=rs.length:=by cases rs with|nil=>simp at c1|cons _ _=>rw[a8];omega
   let#[Sv,_]:=iV (F:=qV) hl (m/8);exact cZ (dm (VT.to (jJ (Ca (cn 3. aB ⋯) aB) (λ_=>VT.to (gQ hr hlr jP 8. (VO.ve (dQ (ds:=[]) cO))) (Kl _))) c1) (aS (bL (VE.to (fU 8. (VE.to (cn (eE 3. aB #[⋯,⋯]) (fD 8. n.len) (by rw[ae];omega)) (by rw[ae])) Sv) Y)))) Y
  rw[qQ2 c1];refine aD (bE (VT.to (jJ (Ca (cn 3. aB ⋯) aB) (λ_=>VT.to (gQ hr hlr jP 8. (VO.ve (dQ (ds:=[]) cO))) (Kl _))) (eT.mpr c1)) a_) ?_;let hnn:(not (OY (XX (nY p s (m/8) t))))=(nY p s (m/8) t).isSome:=by
   cases nY p s (m/8) t with
   |none=>rfl
   |some e=>cases e<;>rfl
  let zaL:Lay 20 (.tuple [.int 3,.int 4,.int 5]):=kA (n:=19) λd hd=>by simp only[au,bu,or_false]at hd;rcases hd with rfl|rfl|rfl<;>exact bJ _ _
  by_cases c2:((decide (m%8=3)||(decide (m%8=4)||decide (m%8=5)))&&(nY p s (m/8) t).isSome)=true
  .rw[qQ3 c2];exact cZ (dm (VT.to (jJ (VT.to (JW hr Y (bJ 20 _) zaL (cn 3. aB ⋯) (fc (cR aB (cR aB (cR aB cO))))) (UC m)) (λ_=>VT.to (eW pD Gh (bB C2 (hr.mono ()) {0.,1.,2.,eE 3. aB #[⋯,⋯],4.} #[p,dy.length,s,.list dy,m/8,t,Y,hp,hs,Y]) eD (eM _)) hnn)) c2) (aS (bL (bB C2 (hr.mono ()) {0.,1.,2.,eE 3. aB #[⋯,⋯],4.} #[p,dy.length,s,.list dy,m/8,t,Y,hp,hs,Y])))) Y
  rw[qQ2 c2];refine aD (bE (VT.to (jJ (VT.to (JW hr Y (bJ 20 _) zaL (cn 3. aB ⋯) (fc (cR aB (cR aB (cR aB cO))))) (UC m)) (λ_=>VT.to (eW pD Gh (bB C2 (hr.mono ()) {0.,1.,2.,eE 3. aB #[⋯,⋯],4.} #[p,dy.length,s,.list dy,m/8,t,Y,hp,hs,Y]) eD (eM _)) hnn)) (eT.mpr c2)) a_) ?_;by_cases c3:(decide (m%32=2) && not (fJ s).isEmpty)=true
  .rw[qQ3 c3];let hl:1<=(fJ s).length:=by cases h:fJ s with|nil=>rw[h]at c3;simp at c3|cons _ _=>rw[a8];omega
   let#[Sv,_]:=iV hl (m/32);exact cZ (dm (VT.to (jJ (VT.to (fB hr (bJ 20 _) (bJ 20 _) (cn 3. aB ⋯) aB) (jw _ _)) (λ_=>VT.to (gQ hr (tU _) jP 5. (VO.ve (dQ (ds:=[]) cO))) (Gg _))) c3) (aS (bL (VE.to (fc {aQ,4.,fU 5. (VE.to (cn (eE 3. aB #[⋯,⋯]) (fD 5. n.len) (by rw[dW];omega)) (by rw[dW])) Sv}) Y)))) Y
  rw[qQ2 c3];refine aD (bE (VT.to (jJ (VT.to (fB hr (bJ 20 _) (bJ 20 _) (cn 3. aB ⋯) aB) (jw _ _)) (λ_=>VT.to (gQ hr (tU _) jP 5. (VO.ve (dQ (ds:=[]) cO))) (Gg _))) (eT.mpr c3)) a_) ?_;by_cases c4:(not (yF dy.length s).isEmpty)=true
  .rw[qQ3 c4];let hl:1<=(yF dy.length s).length:=by cases h:yF dy.length s with|nil=>rw[h]at c4;simp at c4|cons _ _=>rw[a8];omega
   let#[Sv,_]:=iV hl (m/8);exact cZ (dm (VT.to (gQ hr (tU _) jP 7. (VO.ve (dQ (ds:=[]) cO))) ((Gg _).trans c4)) (aS (bL (VE.to (fc {aQ,4.,fU 7. (VE.to (cn (eE 3. aB #[⋯,⋯]) (fD 7. n.len) (by rw[dW];omega)) (by rw[dW])) Sv}) Y)))) Y
  rw[qQ2 c4];refine aD (bE (VT.to (gQ hr (tU _) jP 7. (VO.ve (dQ (ds:=[]) cO))) ((Gg _).trans (eT.mpr c4))) a_) ?_;by_cases c5:(not rs.isEmpty)=true
  .rw[qQ3 c5];let hl:1<=rs.length:=by cases rs with|nil=>simp at c5|cons _ _=>rw[a8];omega
   let#[Sv,_]:=iV (F:=qV) hl (m/8);exact cZ (dm (VT.to (gQ hr hlr jP 8. (VO.ve (dQ (ds:=[]) cO))) ((Kl _).trans c5)) (aS (bL (VE.to (fU 8. (VE.to (cn (eE 3. aB #[⋯,⋯]) (fD 8. n.len) (by rw[ae];omega)) (by rw[ae])) Sv) Y)))) Y
  rw[qQ2 c5];exact aD (bE (VT.to (gQ hr hlr jP 8. (VO.ve (dQ (ds:=[]) cO))) ((Kl _).trans (eT.mpr c5))) a_) (aS (bL (bB C2 (hr.mono ()) {0.,1.,2.,eE 3. aB #[⋯,⋯],4.} #[p,dy.length,s,.list dy,m/8,t,Y,hp,hs,Y])))
end
end Mg
namespace Mg
open L2 PySem PyProof.Rows
variable{a:U}{H:Hp}{l:Option (!Nat×Int)}{K:aq}{x:O}{q:O×!Nat}{s:Ws}
def mw(s:Ws):!(O×!J):=s.places.map λq=>(q.1,il q.2)
def A8(s:Ws)(lv:!V):!(Key×V):=(s.loads.zip lv).map λz=>(aL z.1.1,z.2)
def Km(s:Ws):!(Key×V):=s.met.map λ(g:Nat)=>(iM (g:Int),V.bl true)
def L_(b c m:U)(t:Int):!(Key×V):=[(aL "places",.ref b),(aL "loads",.ref c),(aL "met",.ref m),(aL "time",.int t)]
structure sv(K:aq)(H0 H:Hp)(a b c m:U)(cs:!U)(lv:!V)(s:Ws):Prop where
 nd:(a::b::c::m::cs).Nodup
 st:H a>>(.dK (L_ b c m s.time))
 pl:H b>>(.dK (o_ (mw s) cs))
 ls:XE K H0 H (mw s) cs
 ld:H c>>(.dK (A8 s lv))
 lv:b_ K H0 lv (s.loads.map λq=>mM q.2)
 me:H m>>(.dK (Km s))
def rW(K:aq)(a:U)(s:Ws):OR:=λH0 H as=>∃b c m cs lv,as=a::b::c::m::cs/\sv K H0 H a b c m cs lv s
theorem rW.mono:fq (rW K a s):=by
 rintro H0 H Ha Hb as ⟨b,c,m,cs,lv,rfl,h⟩ sm hb;refine#[b,c,m,cs,lv,Y,h.nd,?_,?_,#[h.ls.1,λi x q h1 h2=>?_],?_,h.lv.mono sm,?_]
 .rw[hb a ∅];exact h.st
 .rw[hb b ∅];exact h.pl
 .let#[xs,z1,z2]:=h.ls.2 i x q h1 h2;exact#[xs,[hb x (by simp[aH h1])]▸z1,z2.mono sm]
 .rw[hb c ∅];exact h.ld
 .rw[hb m ∅];exact h.me
theorem xk(sm:cz H0 C):∀{kl:!(O×!J)}{cs:!U},XE K H0 H kl cs->(∀x∈cs,C x=H x)->b_ K C ((o_ kl cs).map (·.2)) (kl.map λq=>lG q.2)/\(o_ kl cs).map (·.1)=kl.map λq=>(aL q.1:Key)
 | [],cs,_,_=>#[.nil,Y]
 |q::kl,[],h,_=>by cases h.1
 |q::kl,x::cs,h,hc=>by let#[xs,z1,z2]:=h.2 0 x q Y Y;let h':XE K H0 H kl cs:=#[by let:=h.1;simpa using this,λi y r e1 e2=>h.2 (i+1) y r ↑e1 ↑e2];let#[i1,i2]:=xk sm h' λy hy=>hc y (ay _ hy);let e:o_ (q::kl) (x::cs)=(aL q.1,.ref x)::o_ kl cs:=Y;rw[e];exact#[.cons (.lst (jW.of ((hc x aJ).trans z1)) (z2.mono sm)) i1,by rw[av,i2];rfl]
theorem ux{s:Ws}:∀{ls:!(O×Option (!Nat×Int))}{lv:!V},lv.length=ls.length->((ls.zip lv).map λz=>((aL z.1.1:Key),z.2)).map (·.1)=ls.map (λq=>(aL q.1:Key))/\((ls.zip lv).map λz=>((aL z.1.1:Key),z.2)).map (·.2)=lv
 | [],[],_=>#[Y,Y]
 | [],_::_,h=>by cases h
 |_::_,[],h=>by cases h
 |q::ls,v::lv,h=>by let#[i1,i2]:=ux (s:=s) ↑h;exact#[by rw[cg,av,av,i1];rfl,by rw[cg,av,av,i2]]
theorem rW.known(Ha Hb:Hp)(as:!U)(sb:cz Ha Hb)(h:rW K a s Ha Hb as)(ho:∀x∈as,Ha x=none):∃b ws,b∈as/\Hb b>>(.dK ws)/\∀o,Rep K (gK as (upd Hb b (.oJ o (.dK ws))) Ha) (.ref a) (Pr s):=by
 let#[b,c,m,cs,lv,rfl,w]:=h;refine#[b,_,∅,w.pl,λo=>?_];let nd:=w.nd;simp[aO,au,not_or]at nd;let#[#[ab,ac,am,Sx],#[bc,bm,Qm],#[cm,Sy],UE,Pj]:=nd;let sm:cz Ha (gK (a::b::c::m::cs) (upd Hb b (.oJ o (.dK (o_ (mw s) cs)))) Ha):=λx u e=>by
  let hx:x∉a::b::c::m::cs:=λy=>by rw[ho x y]at e;cases e
  rwa[gf hx]
 let at':∀x,x∈a::b::c::m::cs->x≠b->gK (a::b::c::m::cs) (upd Hb b (.oJ o (.dK (o_ (mw s) cs)))) Ha x=Hb x:=λx hx hb=>by rw[f7 hx,L hb]
 let ll:=w.lv.length;rw[ae]at ll;let#[k1,k2]:=ux (s:=s) ll;let#[r1,r2]:=xk sm w.ls λx hx=>at' x (by simp[hx]) λy=>Qm (y▸hx);let eb:gK (a::b::c::m::cs) (upd Hb b (.oJ o (.dK (o_ (mw s) cs)))) Ha b>>(.oJ o (.dK (o_ (mw s) cs))):=by rw[f7 ∅,aM]
 let ec:=(at' c ∅ (bF bc)).trans w.ld;let em:=(at' m ∅ (bF bm)).trans w.me;let IY:=w.lv.mono sm;generalize gK (a::b::c::m::cs) _ Ha=C at *;let p1:Rep K C (.ref b) (wG (cM s)):=by
  refine .QY eb ?_ ?_
  .let:=qQ6 (pC k6) r2;rw[aj,aj]at this;unfold cM;rw[aj,aj];unfold mw at this;rw[aj]at this;exact this.symm
  .unfold cM;rw[aj,aj];unfold mw at r1;rwa[aj]at r1
 let p2:Rep K C (.ref c) (iO (dN s)):=by refine oi ec (by rw[show(A8 s lv).map (·.1)=_ from k1];unfold dN;rw[aj];rfl) ?_;rw[show(A8 s lv).map (·.2)=lv from k2];unfold dN;rwa[aj]
 let p3:Rep K C (.ref m) (xT (uG s)):=by
  unfold xT uG;refine .dct em ?_ ?_
  .unfold Km;rw[aj,aj,aj];rfl
  .unfold Km;rw[aj,aj,aj];let go:∀l:!Nat,b_ K C (l.map ((λ(p:Key×V)=>p.2)∘λ(g:Nat)=>(iM g,V.bl true))) (l.map ((λ(p:J×J)=>p.2)∘(λ(g:Int)=>(dq g,iC true))∘λ(g:Nat)=>g)):=by
    intro l;induction l with
    |nil=>exact .nil
    |cons g l ih=>exact .cons (.bl true) ih
   exact go s.met
 exact oi ((at' a ∅ ab).trans w.st) Y (.cons p1 (.cons p2 (.cons p3 (.cons (.int _) .nil))))
theorem rW.tV(Ha Hb:Hp)(as:!U)(h:rW K a s Ha Hb as):∀x∈as,rm Hb x:=by
 let#[b,c,m,cs,lv,rfl,w]:=h;intro x hx xs;simp only[au]at hx;rcases hx with rfl|rfl|rfl|rfl|hx
 .rw[w.st];exact#[nofun,λo z=>by cases z]
 .rw[w.pl];exact#[nofun,λo z=>by cases z]
 .rw[w.ld];exact#[nofun,λo z=>by cases z]
 .rw[w.me];exact#[nofun,λo z=>by cases z]
 .let#[i,hi,e]:=eZ.mp hx;let#[ys,z1,_]:=w.ls.2 i x _ ([<-e]▸ao hi) (ao ([<-w.ls.1]▸hi));rw[z1];exact#[nofun,λo z=>by cases z]
def nV(gs:!Nat):!V:=gs.map λ(g:Nat)=>V.int (g:Int)
theorem Ef:∀(gs:!Nat),b_ K H (nV gs) (il gs)
 | []=>.nil
 |g::gs=>.cons (.int _) (Ef gs)
theorem uy:∀{gs:!Nat}{xs:!V},b_ K H xs (il gs)->xs=nV gs
 | [],xs,r=>by cases r;rfl
 |g::gs,xs,r=>by
  let r':=r;cases r' with
  |cons a t=>cases a;rw[uy t];rfl
def oX(s:Ws)(x:O)(f:!Nat->!Nat):Ws:={ s with places:=s.places.map λq=>if q.1=x then(q.1,f q.2)else q }
def uH(s:Ws)(x:O)(l:Option (!Nat×Int)):Ws:={ s with loads:=s.loads.map λq=>if q.1=x then(q.1,l)else q }
def jE(s:Ws)(t:Int):Ws:={ s with time:=t }
def IZ(s:Ws)(g:Nat):Ws:={ s with met:=s.met ++ [g] }
theorem uz{α:Type}(x:O)(f:α->α)(l:!(O×α)):(l.map λq=>if q.1=x then(q.1,f q.2)else q).map (·.1)=l.map (·.1):=by rw[aj];refine dI λq _=>?_;show(if q.1=x then(q.1,f q.2)else q).1=q.1;split<;>rfl
theorem Py{α:Type}{f:α->α}{l:!(O×α)}{i:Nat}{q:O×α}(h:(l.map λq=>if q.1=x then(q.1,f q.2)else q)[i]?>>q):∃z,l[i]?>>z/\q=if z.1=x then(z.1,f z.2)else z:=by
 rw[ax]at h;cases e:l[i]? with
 |none=>rw[e]at h;cases h
 |some z=>rw[e]at h;exact#[z,Y,(cv h).symm]
section
variable{K:aq}{H0 H:Hp}{a b c m:U}{cs:!U}{lv:!V}{s:Ws}
theorem sv.apart(w:sv K H0 H a b c m cs lv s):(a≠b/\a≠c/\a≠m/\a∉cs)/\(b≠c/\b≠m/\b∉cs)/\(c≠m/\c∉cs)/\m∉cs/\cs.Nodup:=by let nd:=w.nd;simp[aO,au,not_or]at nd;exact nd
theorem sv.at(w:sv K H0 H a b c m cs lv s)(hn:(s.places.map (·.1)).Nodup)(hq:q∈s.places):∃(j:Nat)(p:U),s.places[j]?>>q/\cs[j]?>>p/\p∈cs/\gD (o_ (mw s) cs) (aL q.1)>>(.ref p)/\H p>>(.lst (nV q.2)):=by
 let#[j,hj,e]:=eZ.mp hq;let hj':s.places[j]?>>q:=by rw[ao hj,e]
 let hl:cs.length=s.places.length:=by let:=w.ls.1;unfold mw at this;rwa [ae]at this
 let hc:cs[j]?>>cs[j]:=ao ();let hk:(mw s)[j]?>>(q.1,il q.2):=by unfold mw;rw[ax,hj'];rfl
 let#[xs,z1,z2]:=w.ls.2 j _ _ hc hk;rw[uy z2]at z1;let MA:((mw s).map (·.1)).Nodup:=by unfold mw;rw[aj];exact hn
 exact#[j,_,hj',hc,cN _,DW MA hk hc,z1]
theorem sv.set(w:sv K H0 H a b c m cs lv s)(hn:(s.places.map (·.1)).Nodup){j:Nat}{p:U}(hj:s.places[j]?>>q)(hp:cs[j]?>>p)(f:!Nat->!Nat):sv K H0 (upd H p (.lst (nV (f q.2)))) a b c m cs lv (oX s q.1 f):=by
 let#[#[ab,ac,am,Sx],#[bc,bm,Qm],#[cm,Sy],UE,Pj]:=w.apart;let pm:=aH hp;refine#[w.nd,?_,?_,#[?_,λi y r h1 h2=>?_],?_,w.lv,?_]
 .rw[L (λz:a=p=>Sx ([z]▸pm))];exact w.st
 .rw[L (λz:b=p=>Qm ([z]▸pm)),w.pl]
  congr 2
  refine(Ar ?_).symm;let e:∀l:!(O×!Nat),(l.map λq=>(q.1,il q.2)).map (·.1)=l.map (·.1):=λl=>by rw[aj];rfl
  unfold mw oX;rw[e,e];exact uz q.1 f s.places
 .let:=w.ls.1;unfold mw at this ⊢;rw[ae]at this ⊢;unfold oX;rwa[ae]
 .let Pz:((oX s q.1 f).places.map λq=>(q.1,il q.2))[i]?>>r:=h2;rw[ax]at Pz;cases e:(oX s q.1 f).places[i]? with
  |none=>rw[e]at Pz;cases Pz
  |some z=>
   rw[e]at Pz;let er:=cv Pz;let#[u,hu,ez]:=Py e;by_cases hi:i=j
   .subst hi;rw[hj]at hu;cases hu;rw[hp]at h1;cases h1;rw[qQ3 Y]at ez;refine#[_,aM,?_];rw[<-er,ez];exact Ef _
   .let hyp:y≠p:=λz=>hi ((j7 (by let:=(aF.mp h1).1;exact this) Pj).mp (by rw[h1,hp,z]));let sj:¬u.1=q.1:=λz=>by
     let e1:(s.places.map (·.1))[i]?>>u.1:=by rw[ax,hu];rfl
     let e2:(s.places.map (·.1))[j]?>>q.1:=by rw[ax,hj];rfl
     exact hi ((j7 (aF.mp e1).1 hn).mp (by rw[e1,e2,z]))
    rw[qQ2 sj]at ez;rw[L hyp];exact w.ls.2 i y r h1 (by unfold mw;rw[ax,hu,<-er,ez];rfl)
 .rw[L (λz:c=p=>Sy ([z]▸pm))];exact w.ld
 .rw[L (λz:m=p=>UE ([z]▸pm))];exact w.me
theorem sv.keep(w:sv K H0 H a b c m cs lv s){Ha Hb:Hp}(g:cP H0 H Ha Hb):sv K Ha Hb a b c m cs lv s:=
 #[w.nd,g.big _ _ w.st,g.big _ _ w.pl,#[w.ls.1,λi x q h1 h2=>by let#[xs,z1,z2]:=w.ls.2 i x q h1 h2;exact#[xs,g.big _ _ z1,z2.mono g.eV]],g.big _ _ w.ld,w.lv.mono g.eV,g.big _ _ w.me]
theorem sv.other(w:sv K H0 H a b c m cs lv s){x:U}{o:HO}(hx:x∉cs):XE K H0 (upd H x o) (mw s) cs:=#[w.ls.1,λi y q h1 h2=>by let#[xs,z1,z2]:=w.ls.2 i y q h1 h2;exact#[xs,by rw[L (λz:y=x=>hx ([<-z]▸aH h1))];exact z1,z2]]
theorem PB(b c m:U)(t t':Int):putK (L_ b c m t) (aL "time":Key) (.int t')=L_ b c m t':=by rfl
theorem sv.timed(w:sv K H0 H a b c m cs lv s)(t:Int):sv K H0 (upd H a (.dK (putK (L_ b c m s.time) (aL "time") (.int t)))) a b c m cs lv (jE s t):=by let#[#[ab,ac,am,Sx],_]:=w.apart;exact#[w.nd,aM,[L ab.symm]▸w.pl,w.other Sx,[L ac.symm]▸w.ld,w.lv,[L am.symm]▸w.me]
theorem Sz(h:g∉s.met):putK (Km s) (iM (g:Int):Key) (.bl true)=Km (IZ s g):=by
 unfold putK;let e:((Km s).any λkv=>decide (kv.1=(iM g:Key)))=false:=by rw[yd];intro z hz;let#[y,hy,rfl]:=ai.mp hz;rw[decide_eq_true_iff];intro q;let e:=mL (EC q);rw[e]at hy;exact h hy
 rw[e,qQ2 ⋯];unfold Km IZ;rw[aI];rfl
theorem sv.zaM(w:sv K H0 H a b c m cs lv s){g:Nat}(h:g∉s.met):sv K H0 (upd H m (.dK (putK (Km s) (iM (g:Int)) (.bl true)))) a b c m cs lv (IZ s g):=by let#[#[ab,ac,am,Sx],#[bc,bm,Qm],#[cm,Sy],UE,Pj]:=w.apart;rw[Sz h];exact#[w.nd,[L am]▸w.st,[L bm]▸w.pl,w.other UE,[L cm]▸w.ld,w.lv,aM]
theorem Gi(v:V)(x:O)(l:Option (!Nat×Int)):∀{ls:!(O×Option (!Nat×Int))}{lv:!V},lv.length=ls.length->((ls.zip lv).map λz=>((aL z.1.1:Key),z.2)).map (λkv=>if kv.1=aL x then(kv.1,v)else kv)=((ls.map λq=>if q.1=x then(q.1,l)else q).zip ((ls.zip lv).map λz=>if z.1.1=x then v else z.2)).map λz=>((aL z.1.1:Key),z.2)
 | [],[],_=>rfl
 | [],_::_,h=>by cases h
 |_::_,[],h=>by cases h
 |q::ls,u::lv,h=>by
  rw[cg,av,av,av,av,cg,av,Gi v x l ↑h]
  congr 1
  by_cases e:q.1=x
  .rw[qQ3 e,qQ3 e,qQ3 (show((aL q.1))=aL x by rw[e])]
  .rw[qQ2 e,qQ2 e,qQ2 (λz=>e (jh z))]
end
section
variable{K:aq}{H0 H:Hp}{a b c m:U}{cs:!U}{lv:!V}{s:Ws}
theorem Gj(r:Rep K H v (mM l)):∀{ls:!(O×Option (!Nat×Int))}{lv:!V},b_ K H lv (ls.map λq=>mM q.2)->b_ K H ((ls.zip lv).map λz=>if z.1.1=x then v else z.2) ((ls.map λq=>if q.1=x then(q.1,l)else q).map λq=>mM q.2)
 | [],_,h=>by cases h;exact .nil
 |q::ls,_,h=>by
  cases h with
  |cons a t=>
   rw[cg,av,av,av];refine .cons ?_ (Gj r t);by_cases e:q.1=x
   .rwa[qQ3 e,qQ3 e]
   .rwa[qQ2 e,qQ2 e]
theorem sv.loaded(w:sv K H0 H a b c m cs lv s){v:V}(r:Rep K H0 v (mM l))(hx:x∈s.loads.map (·.1)):sv K H0 (upd H c (.dK (putK (A8 s lv) (aL x) v))) a b c m cs ((s.loads.zip lv).map λz=>if z.1.1=x then v else z.2) (uH s x l):=by
 let#[#[ab,ac,am,Sx],#[bc,bm,Qm],#[cm,Sy],UE,Pj]:=w.apart;let ll:=w.lv.length;rw[ae]at ll;let e:putK (A8 s lv) (aL x) v=A8 (uH s x l) ((s.loads.zip lv).map λz=>if z.1.1=x then v else z.2):=by
  unfold putK;rw[qQ3]
  .exact Gi v x l ll
  .let#[q,hq,rfl]:=ai.mp hx;let:(aL q.1)∈(A8 s lv).map (·.1):=by rw[show(A8 s lv).map (·.1)=_ from(ux (s:=s) ll).1];exact ai.mpr #[q,hq,Y]
   let#[z,hz,e]:=ai.mp this;exact kJ.mpr #[z,hz,qQ1 e]
 rw[e];exact#[w.nd,[L ac]▸w.st,[L bc]▸w.pl,w.other Sy,aM,Gj r w.lv,[L (bF cm)]▸w.me]
theorem W_(v:U):∀{kl:!(O×!J)}{cs:!U}{j:Nat}{q:O×!J}{c:U},(kl.map (·.1)).Nodup->kl[j]?>>q->cs[j]?>>c->putK (o_ kl cs) (aL q.1:Key) (.ref v)=o_ kl (cs.set j v)
 |kl,cs,j,q,c,nd,h1,h2=>by
  let any:((o_ kl cs).any λkv=>decide (kv.1=(aL q.1)))=true:=by let hz:(q,c)∈kl.zip cs:=aH ([Dh]▸#[h1,h2]);exact kJ.mpr #[_,ai.mpr #[_,hz,Y],qQ1 Y]
  unfold putK;rw[qQ3 any];clear any;induction kl generalizing cs j with
  |nil=>simp at h1
  |cons p kl ih=>
   cases cs with
   |nil=>simp at h2
   |cons b cs=>
    let#[n1,n2]:=aO.mp nd;let e:o_ (p::kl) (b::cs)=(aL p.1,V.ref b)::o_ kl cs:=Y;rw[e,av];cases j with
    |zero=>
     cases h1;rw[qQ3 Y]
     congr 1
     refine(dI λkv hkv=>?_).trans (List.map_id _);let#[z,hz,rfl]:=ai.mp hkv;rw[qQ2 λy=>n1 (by let:z.1.1=q.1:=jh y;exact ai.mpr #[z.1,(lD hz).1,this])];rfl
    |succ j=>
     let Oq:kl[j]?>>q:=by simpa using h1
     rw[ih cs j n2 Oq ↑h2,qQ2 λy=>n1 (by let:p.1=q.1:=jh y;exact ai.mpr #[q,aH Oq,this.symm])];rfl
theorem sv.zaN(w:sv K H0 H a b c m cs lv s)(hn:(s.places.map (·.1)).Nodup){j:Nat}{p p':U}(hj:s.places[j]?>>q)(hp:cs[j]?>>p)(Qi:p'∉a::b::c::m::cs){f:!Nat->!Nat}(hl:H p'>>(.lst (nV (f q.2)))):sv K H0 (upd H b (.dK (putK (o_ (mw s) cs) (aL q.1) (.ref p')))) a b c m (cs.set j p') lv (oX s q.1 f):=by
 let#[#[ab,ac,am,Sx],#[bc,bm,Qm],#[cm,Sy],UE,Pj]:=w.apart;simp[au,not_or]at Qi;let#[pa,pb,pc,pm,pcs]:=Qi;let hk:(mw s)[j]?>>(q.1,il q.2):=by unfold mw;rw[ax,hj];rfl
 let BF:∀x,x∈cs.set j p'->x=p'\/x∈cs:=λx hx=>(kO hx).symm;let hjl:=(aF.mp hp).1;refine#[?_,[L ab]▸w.st,?_,#[?_,λi y r h1 h2=>?_],[L (bF bc)]▸w.ld,w.lv,[L (bF bm)]▸w.me]
 .let no:∀x,x≠p'->x∉cs->x∉cs.set j p':=λx h1 h2 h=>(BF x h).elim h1 h2;let n2:(cs.set j p').Nodup:=by
   rw[List.nodup_iff_pairwise_ne,iD]at Pj ⊢;intro i k hi hk hik;rw[oB]at hi hk;rw[List.getElem_set,List.getElem_set];split
   .split
    .omega
    .exact λz=>pcs ([z]▸cN _)
   .split
    .exact λz=>pcs ([<-z]▸cN _)
    .exact Pj i k hi hk hik
  simp;exact#[#[ab,ac,am,no a (bF pa) Sx],#[bc,bm,no b (bF pb) Qm],#[cm,no c (bF pc) Sy],no m (bF pm) UE,n2]
 .rw[aM,W_ p' (by unfold mw;rw[aj];exact hn) hk hp]
  congr 2
  refine(Ar ?_).symm;let e:∀l:!(O×!Nat),(l.map λq=>(q.1,il q.2)).map (·.1)=l.map (·.1):=λl=>by rw[aj];rfl
  unfold mw oX;rw[e,e];exact uz q.1 f s.places
 .let:=w.ls.1;unfold mw oX at *;simpa using this
 .let Pz:((oX s q.1 f).places.map λq=>(q.1,il q.2))[i]?>>r:=h2;rw[ax]at Pz;let hyb:y≠b:=λz=>by
   rcases BF y (aH h1)with y'|y'
   .exact pb (y'.symm.trans z)
   .exact Qm ([<-z]▸y')
  rw[L hyb];cases e:(oX s q.1 f).places[i]? with
  |none=>rw[e]at Pz;cases Pz
  |some z=>
   rw[e]at Pz;let er:=cv Pz;let#[u,hu,ez]:=Py e;by_cases hi:i=j
   .subst hi;rw[hj]at hu;cases hu;rw[a7 hjl]at h1;cases h1;rw[qQ3 Y]at ez;refine#[_,hl,?_];rw[<-er,ez];exact Ef _
   .let sj:¬u.1=q.1:=λz=>by
     let e1:(s.places.map (·.1))[i]?>>u.1:=by rw[ax,hu];rfl
     let e2:(s.places.map (·.1))[j]?>>q.1:=by rw[ax,hj];rfl
     exact hi ((j7 (aF.mp e1).1 hn).mp (by rw[e1,e2,z]))
    rw[qQ2 sj]at ez;rw[aY (bF hi)]at h1;exact w.ls.2 i y r h1 (by unfold mw;rw[ax,hu,<-er,ez];rfl)
def WsB(K:aq)(a b:U)(s:Ws):OR:=λH0 H as=>∃c m cs lv,as=a::b::c::m::cs/\sv K H0 H a b c m cs lv s
theorem WsB.mono:fq (WsB K a b s):=λH0 H Ha Hb as #[c,m,cs,lv,e,h] sm hb=>by
 let#[b',c',m',MJ,IY,e',h']:=rW.mono H0 H Ha Hb as #[b,c,m,cs,lv,e,h] sm hb;let:b'=b:=by rw[e]at e';injection e' with _ e';injection e' with e' _;exact e'.symm
 subst this;exact#[c',m',MJ,IY,e',h']
abbrev KW(K:aq)(GJ:!U)(a b:U)(s:Ws):OR:=yt GJ (WsB K a b s)
theorem KW.mono:fq (KW K GJ a b s):=yt.mono WsB.mono
theorem Ws.put(G:OF K B0 B (KW K GJ a b s) H0 H σ δ):∃c m cs lv,sv K H0 H a b c m cs lv s/\∀{Ha Hb:Hp}(_:cP H0 H Ha Hb){x:U}{o:HO}{s':Ws}{IY:!V},x∈a::b::c::m::cs->(sv K Ha Hb a b c m cs lv s->sv K Ha (upd Hb x o) a b c m cs IY s')->OF K B0 B (KW K GJ a b s') Ha (upd Hb x o) σ δ:=by let#[as,#[h1,oj,h2,c,m,cs,lv,rfl,w],put]:=G.puts KW.mono;exact#[c,m,cs,lv,w,λ{Ha Hb}g{x o s' IY}hx k=>put g (h2 x hx) #[as,λ_ z=>z,h1,_,h2,c,m,cs,IY,Y,k (w.keep g)]]
theorem KW.look(Ha Hb:Hp)(as:!U)(sb:cz Ha Hb)(h:KW K GJ a b s Ha Hb as):Rep K (gK as Hb Ha) (.ref b) (iO (cM s)):=by
 let#[_,oj,h2,c,m,cs,lv,rfl,w]:=h;let BF:∀x,x∈cs->x∈as:=λx hx=>h2 x (by simp[hx]);refine oi ((f7 (h2 b ∅)).trans w.pl) ?_ ?_
 .rw[Fu w.ls.1];unfold mw cM;rw[aj,aj];rfl
 .rw[Fv w.ls.1];let e:(cM s).map (·.2)=(mw s).map λq=>lG q.2:=by unfold mw cM;rw[aj,aj];rfl
  rw[e];refine xQ w.ls.1 λi x q e1 e2=>?_;let#[ys,y1,y2]:=w.ls.2 i x q e1 e2;exact .lst (jW.of ((f7 (BF x (aH e1))).trans y1)) (y2.mono (kS sb))
end
end Mg
namespace Mg
open L2 PySem PyProof.Rows
seal L2.VE L2.VS L2.vz L2.VT L2.VO L2.Fd
variable{fd:fW}{gs:!Nat}{s:Ws}
theorem vU:∀{l:!Dk},(l.map (·.name)).Nodup->d∈l->(l.filter λz=>decide (z.name=d.name))=[d]
 | [],_,h=>by cases h
 |z::l,hn,h=>by
  let#[h1,h2]:=aO.mp hn;rw[gA];rcases au.mp h with rfl|h
  .rw[qQ1 Y,qQ3 Y,GF.mpr λy hy=>by rw[decide_eq_true_iff];exact λe=>h1 (ai.mpr #[y,hy,e])]
  .rw[qQ0 λe=>h1 (ai.mpr #[d,h,e.symm]),qQ2 ⋯];exact vU h2 h
def Fdk(x:O):J->Option J
 | .tuple (.str n::r)=>if n=x then some (.tuple (.str n::r))else none
 |_=>none
theorem SD(x:O)(l:!Dk):(l.map dE).filterMap (Fdk x)=(l.filter λz=>decide (z.name=x)).map dE:=by
 induction l with
 |nil=>rfl
 |cons q l ih=>
  rw[av,gA];let e:Fdk x (dE q)=if q.name=x then some (dE q)else none:=Y
  by_cases h:q.name=x
  .rw[cI (e.trans (qQ3 h)),ih,qQ1 h,qQ3 Y];rfl
  .rw[dS (e.trans (qQ2 h)),ih,qQ0 h,qQ2 ⋯]
def zaP(ds:!J)(d:J):Prop:=∃(p:Pl)(z:Dk),ds=[gG p,.str z.name]/\nM p/\(p.desks.map (·.name)).Nodup/\z∈p.desks/\d=dE z
section
variable{P:bU}{w:c0}{K:aq}{mg:O->Option M}{base:dF}{f:U}
theorem W':bW ["_law_h","_law_name"] ["_law_h","_law_name"] (bt (top 59)):=by grind
theorem zaQ(F:jO K "_law_desk" "_law_desk" (top 59) f fd):dR P w K mg base ju 1 f fd ["_law_h","_law_name"] (gk K zaP):=
 ik F W' (by ext) λ_ _ h=>by
  let#[p,z,rfl,ok,dn,hz,rfl]:=h;intro gj A outer s0 H E hr;let nc:(["_law_desk_here","_law_name"]:!O).Nodup:=∎;let Fq:=ok.dn;refine aS (bL (fU (ds:=[dE z]) (VE.to (VO.ve (eI (own:=["_law_desk_here"]) (cap:=[1]) (tgt:=.one 0) Y #[Y,∎,∎,Y,Y,?_] (eG (cJ hr 0. aQ (tH p))) (λf s3 H3=>g6 0 nc) Y (small (by rw[ae];omega)) (λd hd=>?_))) (by rw[SD,vU dn hz];rfl)) aB (cB Y)))
  .intro j hj;rcases au.mp hj with rfl|hj
   .exact#[(by show(1:Nat)<2;decide),(by left),Y]
   .cases hj
  .let#[q,hq,rfl]:=ai.mp hd;let e:Fdk z.name (dE q)=if q.name=z.name then some (dE q)else none:=Y
   refine#[_,Y,λf s3 H3=>pJ (VT.to (fB hr (bo (ok.desks q hq).1.ok.2) (bo (ok.desks z hz).1.ok.2) (gB 0 0 Y Y) 1.) ?_),λr kL f s3 H3=>?_]
   .rw[bG,e];by_cases h:q.name=z.name
    .rw[qQ3 h,qQ1 h];rfl
    .rw[qQ2 h,qQ0 h];rfl
   .rw[e]at kL;split at kL
    .cases kL;exact mR 0 Y
    .cases kL
def flt(gs l:!Nat):!Nat:=l.filter λg=>not (decide (g∈gs))
def tX(s:Ws)(gs:!Nat)(k:Nat):Ws:={ s with places:=((s.places.take k).map λq=>(q.1,flt gs q.2))++s.places.drop k }
def xl(s:Ws)(gs:!Nat):Ws:={ s with places:=s.places.map λq=>(q.1,flt gs q.2) }
theorem A9(s:Ws)(gs:!Nat)(k:Nat):(tX s gs k).places.map (·.1)=s.places.map (·.1):=by show(((s.places.take k).map λq=>(q.1,flt gs q.2))++s.places.drop k).map (·.1)=_;rw[aI,aj];show(s.places.take k).map (·.1)++_=_;rw[<-aI,fG]
theorem SF(h:s.places[k]?>>q):(tX s gs k).places[k]?>>q:=by let hk:=(aF.mp h).1;show(((s.places.take k).map λq=>(q.1,flt gs q.2))++s.places.drop k)[k]?=_;rw[bM (by rw[ae,a9];omega),ae,a9,lH,iL ()];simpa using h
theorem Mb(hn:(s.places.map (·.1)).Nodup)(h:s.places[k]?>>q):oX (tX s gs k) q.1 (flt gs)=tX s gs (k+1):=by
 unfold oX
 congr 1
 refine gP λi=>?_;let hk:=(aF.mp h).1;let ot:∀j,j<s.places.length->j≠k->∀z,s.places[j]?>>z->¬z.1=q.1:=λj hj sj z hz e=>by
  let e1:(s.places.map (·.1))[j]?>>z.1:=by rw[ax,hz];rfl
  let e2:(s.places.map (·.1))[k]?>>q.1:=by rw[ax,h];rfl
  exact sj ((j7 (aF.mp e1).1 hn).mp (by rw[e1,e2,e]))
 show((((s.places.take k).map λq=>(q.1,flt gs q.2))++s.places.drop k).map _)[i]?=(((s.places.take (k+1)).map λq=>(q.1,flt gs q.2))++s.places.drop (k+1))[i]?;rw[ax];by_cases h1:i<k
 .rw[bN (by rw[ae,a9];omega),bN (by rw[ae,a9];omega),ax,ax,lb h1,lb ()];let hi:s.places[i]?>>s.places[i]:=ao ();rw[hi];show some (if(s.places[i]).1=q.1 then _ else _)=_;rw[qQ2 (ot i () () _ hi)];rfl
 .rw[bM (by rw[ae,a9];omega),ae,a9,lH,iL (),show k+(i-k)=i by omega];by_cases h2:i=k
  .subst h2;rw[bN (by rw[ae,a9];omega),ax,lb (),h];show some (if q.1=q.1 then _ else _)=_;rw[qQ3 Y];rfl
  .rw[bM (by rw[ae,a9];omega),ae,a9,lH];by_cases h3:i<s.places.length
   .rw[iL (),show k+1+(i-(k+1))=i by omega];let hi:=ao h3;rw[hi];show some (if(s.places[i]).1=q.1 then _ else _)=_;rw[qQ2 (ot i () h2 _ hi)]
   .rw[eP (),eP ()];rfl
theorem CM(hn:(s.places.map (·.1)).Nodup)(h:q∈s.places):gJ (cM s) q.1>>(.list (il q.2)):=by rw[(iB (ai.mpr #[q,h,Y])).1];unfold gO;rw[vT hn h];rfl
theorem qR(g:Nat):∀gs:!Nat,lz (.int (g:Int)) (.list (il gs))=decide (g∈gs)
 | []=>rfl
 |x::gs=>by
  show(cV _ _||lz _ (.list (il gs)))=_;rw[qR g gs,jw,e8,Bj,decide_eq_true_iff,decide_eq_true_iff,decide_eq_true_iff,au];constructor
  .rintro(h|h)
   .exact .inl (mL h).symm
   .exact .inr h
  .rintro(h|h)
   .exact .inl (by rw[h])
   .exact .inr h
def Fdr(gs:!Nat):J->Option J
 | .int g=>if(not (lz (.int g) (.list (il gs))))=true then some (.int g)else none
 |_=>none
theorem zF(gs:!Nat):∀l:!Nat,(il l).filterMap (Fdr gs)=il (flt gs l)
 | []=>rfl
 |g::l=>by
  let e:Fdr gs (.int g)=if(not (decide (g∈gs)))=true then some (.int g)else none:=by show(if(not (lz _ _))=true then _ else _)=_;rw[qR]
  show(dq g::il l).filterMap _=il ((g::l).filter _);rw[gA];by_cases h:(not (decide (g∈gs)))=true
  .rw[cI (e.trans (qQ3 h)),qQ3 h,zF gs l];rfl
  .rw[dS (e.trans (qQ2 h)),qQ2 h,zF gs l];rfl
theorem Kn:∀d∈il l,yo d=true:=λd hd=>by let#[g,_,rfl]:=ai.mp hd;rfl
abbrev Ndo:!O:=["_law_h","_law_day_here","_law_state","_law_entry","_law_places","_law_goods","_law_works","_law_work","_law_name"]
theorem PD:bW Ndo ["_law_h","_law_day_here","_law_state","_law_entry"] (bt (top 60)):=by grind
def orElse:jT->!jT
 | .If _ _ e _=>e
 |_=>[]
def Xa:!jT:=orElse ((orElse ((jN (top 60)).getD 2 (.Pass #[0,0,0,0]))).getD 0 (.Pass #[0,0,0,0]))
theorem Ko(n:Na mg){gj A outer s0 H E}(hr:dB 1 (A.deeper (envOfC "_law_do" (bt (top 60)) s0.heap.objs.size f gj))){as:!U}{a b:U}{dh dy de:J}{B0 B Ha Hb:Hp}{σ:L2.St}{D:Ends}
  (G:OF K B0 B (KW K as a b s) Ha Hb σ [.val dh,.val dy,.ref a,.val de,.ref b,.val (.list (il gs)),.un,.un,.un])(hn:(s.places.map (·.1)).Nodup)(hl:s.places.length<=120)(Eg:∀q∈s.places,q.2.length<=30)
  (q:∀σ' cY H',OF K B0 B (KW K as a b (xl s gs)) cY H' σ' [.val dh,.val dy,.ref a,.val de,.ref b,.val (.list (il gs)),.un,.un,.un]->D.nx σ' H'):
  zt (EV ju P w K mg base Ndo "_law_do" (bt (top 60)) f gj A outer s0 H E).Vd (Xa.drop 2) D σ Hb:=by
 let nd:Ndo.Nodup:=PD.nd;let nc:(["_law_good","_law_goods"]:!O).Nodup:=∎;let e0:tX s gs 0=s:=by unfold tX;rfl
 let eL:tX s gs s.places.length=xl s gs:=by unfold tX xl;rw[cq,List.drop_length,cA]
 refine bK (Wz (tgt:=.one 8) (λk=>KW K as a b (tX s gs k)) (λ_=>KW.mono) ([e0]▸G) bZ Y (λQ q=>OF.list (i:=4) G Y KW.look (i_ (j_ Y) wF {4.} n.lst Y) (λd hd=>by let#[z,_,rfl]:=ai.mp hd;rfl) q) (g6 8 nd) (λk d hd=>?_) λσ2 H2 fA G2=>q σ2 H2 fA (by
  let e:((cM s).map λq=>aN q.1).length=s.places.length:=by unfold cM;rw[ae,ae]
  rw[e,eL]at G2;exact G2));obtain⟨z,hz,rfl⟩:∃z,s.places[k]?>>z/\d=.str z.1:=by
  unfold cM at hd;rw[ax,ax]at hd;cases e:s.places[k]? with
  |none=>rw[e]at hd;cases hd
  |some z=>rw[e]at hd;cases hd;exact#[z,Y,Y]
 let hz':=SF (gs:=gs) hz;let MA:((tX s gs k).places.map (·.1)).Nodup:=[A9]▸hn;let hv:=CM MA (aH hz');refine#[_,Y,Y,λD C0 σ' cY H' G1 post=>?_];refine bK (RB (κ:=aL z.1) KW.mono G1 hr 4 Y KW.look (VO.to (eI (own:=["_law_good"]) (cap:=[5]) (tgt:=.one 0) Y #[Y,∎,∎,Y,Y,?_] (eG (cJ hr 4. 8. hv)) (λf s3 H3=>g6 0 nc) Y (small (by rw[dW];let:=Eg z (aH hz);omega)) (λd hd=>?_)) (zF gs z.2)) Kn 8. ?_ (λH2 fA G2=>post _ _ _ (G2.forget KW.mono #[.inr Y,.inr Y,.inr Y,.inr Y,.inr Y,.inr Y,.inl Y,.inl Y,.inl Y,trivial] Y)))
 .intro j hj;rcases au.mp hj with rfl|hj
  .exact#[(by show(5:Nat)<9;decide),(by left),Y]
  .cases hj
 .let#[g,hg,rfl]:=ai.mp hd;refine#[_,Y,λf s3 H3=>pJ (VT.to (Ab hr Y (bJ 20 _) (tU _) 0. 1.) ?_),λr kL f s3 H3=>?_]
  .show _=(if(not (lz _ _))=true then some (dq (g:Int))else none).isSome;cases lz _ _<;>rfl
  .let kL:(if(not (lz _ _))=true then some (dq (g:Int))else none)>>r:=kL;split at kL
   .cases kL;exact mR 0 Y
   .cases kL
 .rintro Ha Hb as' ⟨h1,oj,h2,c,m,cs,lv,rfl,w⟩;let#[j,pp,hj,hc,_,_,_]:=w.at MA (aH hz');refine#[_,h2 b ∅,w.pl,?_,λp' xs Qi hx r=>#[p'::as',λx hx=>au.mp hx,λx hx=>ay _ (h1 x hx),_,λx hx=>?_,c,m,cs.set j p',lv,Y,?_]]
  .let hlen:(o_ (mw (tX s gs k)) cs).length<=s.places.length:=by unfold o_ mw;rw[ae,jM,ae];let:=qQ6 dX (A9 s gs k);rw[ae,ae]at this;omega
   exact fh ()
  .let:x=p'\/x∈a::b::c::m::cs:=by
    simp only[au]at hx ⊢;rcases hx with h|h|h|h|h
    .exact .inr (.inl h)
    .exact .inr (.inr (.inl h))
    .exact .inr (.inr (.inr (.inl h)))
    .exact .inr (.inr (.inr (.inr (.inl h))))
    .rcases kO h with h|h
     .exact .inr (.inr (.inr (.inr (.inr h))))
     .exact .inl h
   rcases this with h|h
   .exact au.mpr (.inl h)
   .exact ay _ (h2 x h)
  .rw[<-Mb hn hz];exact w.zaN MA hj hc (λy=>Qi (h2 _ y)) (by rw[hx,uy r])
end
def yI(p:Pl)(x y:O):Int:=((p.times.find? λq=>decide ((q.1,q.2.1)=(x,y))).map (·.2.2)).getD 1
theorem CN(p:Pl)(x y:O):(gJ (mq p) (x,y)).getD (.int 1)=.int (yI p x y):=by
 unfold yI mq gJ;induction p.times with
 |nil=>rfl
 |cons q l ih=>
  rw[av,c9,c9];by_cases h:(q.1,q.2.1)=(x,y)
  .rw[qQ1 h];rfl
  .rwa[qQ0 h]
def Fwk:J->Option ((O×O)×J)
 | .tuple [.str a,.str b,d]=>some ((a,b),d)
 |_=>none
theorem SG(p:Pl):(p.times.map Az).filterMap Fwk=mq p:=by rw[bX];exact filterMap_some λq _=>rfl
def pT(day:!o5)(g:Nat):O:=(day.getD g (0,"","","")).2.1
def Gk(day:!o5)(g:Nat):O:=(day.getD g (0,"","","")).2.2.1
theorem Eh{day:!o5}{g:Nat}(h:g<day.length):(day.map jU)[g]?>>(jU (day.getD g (0,"","",""))):=by rw[ax,aG,ao h];rfl
def Fe:!Int->Int
 | []=>0
 | [x]=>x
 |x::y::l=>if Fe (y::l)<=x then x else Fe (y::l)
theorem Ei:∀{l:!Int},l≠[]->Fe l∈l/\∀z∈l,z<=Fe l
 | [],h=>qQ7 Y h
 | [x],_=>#[aK.mpr Y,λz hz=>[aK.mp hz]▸vj _]
 |x::y::l,_=>by
  let#[h1,h2]:=Ei (l:=y::l) ∅;unfold Fe;split
  .rename_i h
   refine#[aJ,λz hz=>?_];rcases au.mp hz with rfl|hz
   .exact vj _
   .exact sE (h2 z hz) h
  .rename_i h
   refine#[ay _ h1,λz hz=>?_];rcases au.mp hz with rfl|hz
   .omega
   .exact h2 z hz
def CP(p:Pl)(day:!o5)(d:O)(gs:!Nat):Int:=Fe (gs.map λg=>yI p d (Gk day g))
def PF(p:Pl)(d:O):O:=((p.desks.find? λz=>decide (z.name=d)).map (·.to)).getD ""
theorem I0(hn:(p.desks.map (·.name)).Nodup)(hz:z∈p.desks):PF p z.name=z.to:=by unfold PF;rw[<-List.head?_filter,vU hn hz];rfl
def qW(p:Pl)(day:!o5)(s:Ws):We->Ws
 | .come t g=>oX (IZ (jE s t) g) (pT day g) λl=>l ++ [g]
 | .spoil t g=>xl (jE s t) [g]
 | .take t d gs=>xl (uH (jE s t) d (some (gs,t+CP p day d gs))) gs
 | .put t d gs=>if PF p d="" then uH (jE s t) d none else oX (uH (jE s t) d none) (PF p d) λl=>l++gs
def okE(p:Pl)(day:!o5)(s:Ws):We->Prop
 | .come _ g=>g<day.length/\g∉s.met/\pT day g∈p.gates
 | .spoil _ _=>True
 | .take _ d gs=>d∈p.desks.map (·.name)/\gs≠[]/\gs.length<=3/\∀g∈gs,g<day.length
 | .put _ d gs=>d∈p.desks.map (·.name)/\gs.length<=3
def Xb(s:Ws)(d1 d2:!J)(s':Ws):Prop:=∃(p:Pl)(day:!o5)(e:We),d1=[gG p,.list (day.map jU)]/\d2=[qV e]/\GK p/\kI p/\pA p day.length s/\okE p day s e/\s'=qW p day s e
def We.time:We->Int
 | .come t _=>t
 | .spoil t _=>t
 | .take t _ _=>t
 | .put t _ _=>t
def We.word:We->O
 | .come _ _=>"come"
 | .spoil _ _=>"spoil"
 | .take _ _ _=>"take"
 | .put _ _ _=>"put"
def We.rest:We->!J
 | .come _ g=>[.int (g:Int)]
 | .spoil _ g=>[.int (g:Int)]
 | .take _ d gs=>[.str d,.tuple (il gs)]
 | .put _ d gs=>[.str d,.tuple (il gs)]
theorem I_(e:We):qV e=.tuple (.str e.word :: .int e.time::e.rest):=by cases e<;>rfl
def Fwo(p:Pl)(day:!o5)(d:O):J->Option J
 | .int g=>some (.int (yI p d (Gk day g.toNat)))
 |_=>none
theorem Kp(p:Pl)(day:!o5)(d:O)(gs:!Nat):(il gs).filterMap (Fwo p day d)=(gs.map λg=>yI p d (Gk day g)).map .int:=by unfold il;rw[bX,aj];exact filterMap_some λg _=>rfl
section
theorem zaS(b c m:U)(t:Int):gD (L_ b c m t) (aL "places")>>(.ref b):=kQ Y
theorem UG(b c m:U)(t:Int):gD (L_ b c m t) (aL "loads")>>(.ref c):=(jA (show ¬(aL "places":Key)=(aL "loads":Key) by symm)).trans (kQ Y)
theorem zaT(b c m:U)(t:Int):gD (L_ b c m t) (aL "met")>>(.ref m):=(jA (show ¬(aL "places":Key)=(aL "met":Key) by symm)).trans ((jA (show ¬(aL "loads":Key)=(aL "met":Key) by symm)).trans (kQ Y))
end
section
variable{K:aq}
theorem A_(e:We):Lay 20 (.str e.word):=by refine bo ?_;cases e<;>(dsimp[We.word,om];symm)
theorem zeV{P:bU}{w:c0}{mg:O->Option M}{base:dF}{f:U}(F:jO K "_law_do" "_law_do" (top 60) f fd)(n:Na mg)(md:mg "dict"=none)(C1:bw P w K mg base 1 "_law_desk" ["_law_h","_law_name"] (gk K zaP)):dR P w K mg base ju 2 f fd ["_law_h","_law_day_here","_law_state","_law_entry"] (DX K Ws (rW K) 2 Xb):=by
 refine F.ok PD (λvs H Q E h=>?_) (λgj A outer s0 H vs Q E hr h=>?_)
 .let#[H0,a,v1,v2,as,s,s',d1,d2,rfl,hl,sm,r1,r2,own,W,#[pl,day,e,rfl,rfl,_],q]:=h;rw[aR,a8,r1.length,r2.length];rfl
 .let#[H0,a,v1,v2,as,s,s',d1,d2,rfl,hl,sm,r1,r2,own,W,#[pl,day,e,rfl,rfl,hp,gd,hs,he,rfl],q]:=h;let#[b,c,m,cs,lv,eas,w0]:=W;refine#[_,ly,?_];let nd:Ndo.Nodup:=PD.nd;cases r1 with
  |cons q1 t1=>
  cases t1 with
  |cons q2 t2=>
  cases t2;cases r2 with
  |cons q3 t3=>
  cases t3
  rename_i u1 u2 u3
  let f0:fM K H0 H H0 H (start Ndo [u1,u2,.ref a,u3]) [.val (gG pl),.val (.list (day.map jU)),.ref a,.val (qV e),.un,.un,.un,.un,.un]:=by
   refine#[.refl sm,Y,λi sl hi=>?_,λi j a b p' _ h1=>?_]
   .match i,hi with
    |0,hi=>cases hi;exact#[_,Y,q1]
    |1,hi=>cases hi;exact#[_,Y,q2]
    |2,hi=>cases hi;exact Y
    |3,hi=>cases hi;exact#[_,Y,q3]
    |4,hi=>cases hi;exact trivial
    |5,hi=>cases hi;exact trivial
    |6,hi=>cases hi;exact trivial
    |7,hi=>cases hi;exact trivial
    |8,hi=>cases hi;exact trivial
    |i+9,hi=>simp at hi
   .exact qQ7 h1 (fK (δ:=[.val (gG pl),.val (.list (day.map jU)),.ref _,.val (qV e),.un,.un,.un,.un,.un]) Y i _)
  let G0:=DY (R:=WsB K a b s) own #[c,m,cs,lv,eas,w0] f0 Y;let eX:dB 1 _:=hr;let Kq:(s.places.map (·.1)).Nodup:=[hs.nm]▸gd.pn;let n30:=hs.n30;let few:=hs.few;let jX:s.places.length<=120:=by let:=qQ6 dX hs.nm;rw[ae,aR,ae]at this;let:=hp.ok.gn;let:=hp.ok.ln;omega
  let X1:s.loads.length<=60:=by let:=qQ6 dX hs.ld;rw[ae,ae]at this;let:=hp.ok.dn;omega
  let Eg:∀z∈s.places,z.2.length<=30:=λz hz=>bA (uw hz) few;let fin:∀{σ':L2.St}{Ha Hb:Hp}{δ':!Slot},OF K H0 (pj as H) (KW K as a b (qW pl day s e)) Ha Hb σ' δ'->Q .non Hb:=λG=>by let#[z1,z2,z3,z4,as',z5,c,m,cs,lv,e,w]:=Ow G;exact q _ _ as' z1 z2 z3 z5 z4 #[b,c,m,cs,lv,e,w]
  let lld:∀{ls:!(O×Option (!Nat×Int))}{lv:!V},((ls.zip lv).map λz=>((aL z.1.1:Key),z.2)).length<=ls.length:=λ{ls lv}=>by rw[ae,jM];omega
  let#[c,m,cs,lv,w,put]:=Ws.put G0;refine bT (Rx (κ:=aL "time") G0.own eX 2 Y w.st aQ (di (VE.to 3. (I_ e)) aB (cB (j:=1) Y)) (fh (by show 4<=_;omega)) λv Ha Hb g r=>?_);cases r;let G1:=put g (x:=a) ∅ λw=>w.timed e.time;clear put w;let#[c,m,cs,lv,w,put]:=Ws.put G1;refine bT (Ry (y:="places") G1.own eX 2 4 Y w.st (zaS b c m _) nd λf2=>?_);let G2:=G1.go KW.mono f2 Y;clear put w;let vw:∀{x:O}{X:Cx}{δ:!Slot}{aa bb:bY}{pp:Pos},VE X aa δ (.str e.word)->VE X bb δ (.str x)->Lay 20 (.str x)->dB 1 X.A->VT X (.Compare aa [.Eq] [bb] pp) δ (decide (e.word=x)):=λh1 h2 hx hr=>VT.to (fB hr (A_ e) hx h1 h2) (bG _ _);cases e with
  |come t g=>
   let#[PH,HC,Wy]:=he;refine bK (wI KW.mono G2 (vw (gB 3 0 Y Y) aQ bP eX) λHa Hb G3=>?_);let#[c,m,cs,lv,w,put]:=Ws.put G3;refine bT (DU (y:="met") (κ:=iM (g:Int)) G3.own eX 2 Y w.st (zaT b c m _) w.me (gB 3 2 Y Y) B_ (fh (by unfold Km;rw[ae];let:=hs.mn;show s.met.length<=_;omega)) λv Ha Hb gr r=>?_);cases r;let G4:=put gr (x:=m) ∅ λw=>w.zaM HC;clear put w;let#[c,m,cs,lv,w,put]:=Ws.put G4;let hq:=(iB (s:=s) (x:=pT day g) ([hs.nm]▸bH _ Wy)).2;let#[j,pp,hj,hc,hm,hv,hH]:=w.at (s:=IZ (jE s t) g) Kq hq;refine bK (Ww (κ:=aL (pT day g)) G4.own eX 4 Y w.pl (di (fU 1. (gB 3 2 Y Y) (cB (Eh PH))) aB (cB (j:=1) Y)) hv hH (gB 3 2 Y Y) (fh (by unfold nV;rw[ae];let:=Eg _ hq;omega)) λv Ha Hb gr r=>?_);cases r;let e:nV (gO s (pT day g)) ++ [V.int (g:Int)]=nV (gO s (pT day g) ++ [g]):=by unfold nV;rw[aI];rfl
   rw[e];exact fin (put gr (x:=pp) (by simp[hm]) λw=>w.set Kq hj hc λl=>l ++ [g])
  |spoil t g=>refine bK (nW KW.mono G2 (vw (gB 3 0 Y Y) aQ bP eX) λHa Hb G3=>?_);refine bK (nW KW.mono G3 (vw (gB 3 0 Y Y) aQ bP eX) λHa Hb G4=>?_);refine bT (mX KW.mono G4 (cL 5 (d:=.list (il [g])) (VE.to (VO.ve (dQ {gB 3 2 Y Y})) Y) nd) Y λσ5 H5 TJ G5=>?_);refine bT (nW KW.mono G5 (vw (gB 3 0 Y Y) aQ bP eX) λHa Hb G6=>?_);refine rj ?_;exact Ko n eX G6 Kq jX Eg λσ' Hc Hd G7=>fin G7
  |take t d gs=>
   let#[PH,HC,Wy,he4]:=he;refine bK (nW KW.mono G2 (vw (gB 3 0 Y Y) aQ bP eX) λHa Hb G3=>?_);refine bK (nW KW.mono G3 (vw (gB 3 0 Y Y) aQ bP eX) λHa Hb G4=>?_);refine bT (mX KW.mono G4 (cL 5 (d:=.list [.str d]) (VO.ve (dQ {gB 3 2 Y Y})) nd) Y λσ5 H5 TJ G5=>?_);refine bT (wI KW.mono G5 (vw (gB 3 0 Y Y) aQ bP eX) λHa Hb G6=>?_);refine bT (mX KW.mono G6 (cL 5 (d:=.list (il gs)) (VO.ve (i_ lM DK {gB 3 3 Y Y} n.lst Y)) nd) Y λσ7 H7 H7' G7=>?_);let nc:(["_law_desk_here","_law_kind","_law_work"]:!O).Nodup:=∎;let htn:=hp.ok.tn;refine bT (mX KW.mono G7 (cL 6 (d:=DJ (mq pl)) (Oj eX (l:=mq pl) ?_ ([wY]▸gd.tn) Y md) nd) Y λσ8 H8 H8' G8=>?_)
   .rw[<-SG];refine Rr (own:=["_law_desk_here","_law_kind","_law_work"]) (cap:=[]) (cl:=[]) (tgt:=.tup [0,1,2]) (Rt.mono) Y #[Y,∎,∎,Y,Y,∅] (eG (cJ eX 0. aQ (FN pl))) (λf s3 H3=>g7 Y (bS (g6 0 nc) (bS (g6 1 nc) (bS (g6 2 nc) fP)))) Y
     (small (by rw[ae];omega)) (λd hd=>?_);let#[z,hz,rfl]:=ai.mp hd;refine#[_,Y,λf s3 H3=>lP,λr kL f s3 H3=>?_];cases kL;exact Oi 0. 1. 2.
   let n4:(["_law_good","_law_day_here","_law_entry","_law_works"]:!O).Nodup:=∎;let#[Z3,Z4]:=Ei (l:=gs.map λg=>yI pl d (Gk day g)) ↑HC;refine bT (mX KW.mono G8 (cL 7 (d:=.int (CP pl day d gs)) (gF (xJ Y) (NM Z3 Z4) {VO.ve (VO.to (eI (own:=["_law_good"]) (cap:=[1,3,6]) (tgt:=.one 0) (F:=Fwo pl day d) (ds:=il gs) Y #[Y,∎,∎,Y,Y,?_] (eG 5.) (λf s3 H3=>g6 0 n4) Y (small (by rw[dW];omega)) (λd hd=>?_)) (Kp pl day d gs))} n.max Y) nd) Y λσ9 H9 H9' G9=>?_)
   .intro j hj;rcases au.mp hj with rfl|hj
    .exact#[(by show(1:Nat)<9;decide),(by left),Y]
    rcases au.mp hj with rfl|hj
    .exact#[(by show(3:Nat)<9;decide),(by left),Y]
    rcases au.mp hj with rfl|hj
    .exact#[(by show(6:Nat)<9;decide),(by left),Y]
    .cases hj
   .let#[g,hg,rfl]:=ai.mp hd;exact Cb Y Y λf s3 H3=>VE.to (Cm eX 3. (gB 2 2 Y Y) (di (fU 1. 0. (cB (Eh (he4 g hg)))) aB (cB (j:=2) Y)) aB) (CN pl d (Gk day g))
   let#[c,m,cs,lv,w,put]:=Ws.put G9;refine bK (DU (y:="loads") (κ:=aL d) G9.own eX 2 Y w.st (UG b c m _) w.ld (gB 3 2 Y Y) (VE.to (fc {gB 3 3 Y Y,dM (gB 3 1 Y Y) 7.}) Y) (fh (bA lld (by show s.loads.length<=_;omega))) λv Ha Hb gr r=>?_);let G10:=put gr (x:=c) ∅ λw=>w.loaded (x:=d) (l:=some (gs,t+CP pl day d gs)) r (by show d∈s.loads.map (·.1);rw[hs.ld];exact PH);exact Ko n eX (G10.forget KW.mono #[.inr Y,.inr Y,.inr Y,.inr Y,.inr Y,.inr Y,.inl Y,.inl Y,.inl Y,trivial] Y) Kq jX Eg λσ' Hc Hd G7=>fin G7
  |put t d gs=>
   let#[PH,Wy]:=he;let#[z,hz,rfl]:=ai.mp PH;let Im:=I0 gd.dn hz;let zto:om z.to:=by
    rcases(hp.ok.desks z hz).2.1 with h|h
    .rw[h];show cj (.str ("":O))=true;symm
    .exact h.ok.2
   refine bK (nW KW.mono G2 (vw (gB 3 0 Y Y) aQ bP eX) λHa Hb G3=>?_);refine bK (wI KW.mono G3 (vw (gB 3 0 Y Y) aQ bP eX) λHa Hb G4=>?_);let#[c,m,cs,lv,w,put]:=Ws.put G4;refine bT (DU (y:="loads") (κ:=aL z.name) (d:=mM none) G4.own eX 2 Y w.st (UG b c m _) w.ld (gB 3 2 Y Y) (VE.to eD Y) (fh (bA lld (by show s.loads.length<=_;omega))) λv Ha Hb gr r=>?_);let G5:=put gr (x:=c) ∅ λw=>w.loaded (x:=z.name) (l:=none) r (by show z.name∈s.loads.map (·.1);rw[hs.ld];exact PH);clear put w;let vt:∀{X:Cx}{δ:!Slot}{aa bb:bY}{pp:Pos},VE X aa δ (.str z.to)->VE X bb δ (.str "")->dB 1 X.A->VT X (.Compare aa [.NotEq] [bb] pp) δ (not (decide (z.to=""))):=λh1 h2 hr=>VT.to (gQ hr (bo zto) bP h1 h2) (by rw[bG]);by_cases h0:z.to=""
   .let ed:qW pl day s (.put t z.name gs)=uH (jE s t) z.name none:=by unfold qW;dsimp only;rw[Im,qQ3 h0]
    rw[ed]at fin;refine bK (nW KW.mono G5 (VT.to (vt (di (bB C1 eX {0.,gB 3 2 Y Y} #[pl,z,Y,hp.ok,gd.dn,hz,Y]) aB (cB (j:=1) Y)) aQ eX) (by rw[qQ1 h0];rfl)) λHa Hb G6=>rj (fin G6))
   .let ed:qW pl day s (.put t z.name gs)=oX (uH (jE s t) z.name none) z.to λl=>l++gs:=by unfold qW;dsimp only;rw[Im,qQ2 h0]
    rw[ed]at fin;refine bK (wI KW.mono G5 (VT.to (vt (di (bB C1 eX {0.,gB 3 2 Y Y} #[pl,z,Y,hp.ok,gd.dn,hz,Y]) aB (cB (j:=1) Y)) aQ eX) (by rw[qQ0 h0];rfl)) λHa Hb G6=>?_);let#[c,m,cs,lv,w,put]:=Ws.put G6;let hq:=(iB (s:=s) (x:=z.to) ([hs.nm]▸aZ _ ((hp.dp z hz).2.2.resolve_left h0))).2;let#[j,pp,hj,hc,hm,hv,hH]:=w.at (s:=uH (jE s t) z.name none) Kq hq;refine bK (Wx (κ:=aL z.to) (ds:=il gs) G6.own eX 4 Y w.pl (di (bB C1 eX {0.,gB 3 2 Y Y} #[pl,z,Y,hp.ok,gd.dn,hz,Y]) aB (cB (j:=1) Y)) hv hH (i_ lM DK {gB 3 3 Y Y} n.lst Y) (small (by unfold nV;rw[ae,dW];let:=Eg _ hq;omega)) λzs Ha Hb gr r=>?_);let e:nV (gO s z.to)++zs=nV (gO s z.to++gs):=by rw[uy r];unfold nV;rw[aI]
    rw[e];exact fin (put gr (x:=pp) (by simp[hm]) λw=>w.set Kq hj hc λl=>l++gs)
end
end Mg
namespace Mg
open L2 PySem PyProof.Rows
seal L2.VE L2.VS L2.vz L2.VT L2.VO L2.Fd L2.VD L2.VLU
def oA(p:Pl):Ws:=#[(p.gates++p.lines.map (·.1)).map λx=>(x,[]),p.desks.map λd=>(d.name,none),[],0]
theorem UH:∀{ls:!(O×Option (!Nat×Int))}{ws:!(Key×V)},ws.map (·.1)=ls.map (λq=>(aL q.1:Key))->(ls.zip (ws.map (·.2))).map (λz=>((aL z.1.1:Key),z.2))=ws
 | [],[],_=>rfl
 | [],_::_,h=>by cases h
 |_::_,[],h=>by cases h
 |q::ls,w::ws,h=>by let#[h1,h2]:=iy h;rw[av,cg,av,UH h2];let h1:w.1=aL q.1:=h1;rw[<-h1]
theorem SJ{j1 j2 j3 j4 j5}(G:OF X.K B0 B (DL X.K b (mw s)) H0 H σ δ)(i:Nat)(hi:δ[i]?>>(.ref b))(h:VD X e δ (dN s))(WZ:s.met=[])(hti:s.time=0)(q:∀v cY H',cP B0 B cY H'->WB (λa=>rW X.K a s) B v cY H'->D.rt v H')
  (hN:rT X i x:=by ac_rfl):
  cS X (.Return (some (.Dict [some (.Constant (.str "places") j1 q1),some (.Constant (.str "loads") j2 q2),some (.Constant (.str "met") j3 q3),some (.Constant (.str "time") j4 q4)] [.Name x px,e,.Dict [] [] pd,.Constant (.int 0) j5 q5] pd2)) pos) D σ H:=λpins s0 I=>by
 refine xE (JQ (sN vo (ud hN) (sN vo ck (sN vo qy (sN vo Dn JN)))) Y Y ∅ (by show 4<=15;decide)) pins s0 σ H D I λp hp=>?_;let G1:=G.go DL.mono (G.own.grow (.loose (o:=.dK []) G.fr.sub hp)) G.no;refine#[.ref b,G1.fr.slot i _ hi,?_];unfold VD at h;refine h H0 _ σ H0 _ _ G1.own λc ws H2 fA g hc Tn hcw e1 rs=>?_;intro m hm;let#[as,o1,cs,rfl,nd,hb,ls]:=G.ex;let gp:fA p>>(.dK []):=g.big _ _ aM;let mp:m≠p:=λz=>by rw[z,gp]at hm;cases hm
 let pm:p≠m:=bF mp;let cp:c≠p:=λz=>by rw[z,aM]at hc;cases hc
 let cH:H c=none:=by rw[L cp]at hc;exact hc
 let cm:c≠m:=bq hcw hm;let old:∀y∈b::cs,y≠p/\y≠c/\y≠m/\fA y=H y:=λy hy=>by
  let sj:=(o1 y hy).2.2;let yp:y≠p:=λz=>sj ([z]▸hp);let e:fA y=H y:=by
   cases z:H y with
   |none=>exact qQ7 z sj
   |some o=>exact g.big _ _ ([L yp]▸z)
  exact#[yp,λz=>sj ([z]▸cH),λz=>sj ([<-e,z]▸hm),e]
 refine#[[L pm]▸gp,L_ b c m 0,Y,(by show 4<=15;decide),?_];rw[xO (by show(([aL "places",aL "loads",aL "met",aL "time"]:!Key)).Nodup;symm),e9];let gg:=(G1.fr.ent.trans g).trans (.loose (o:=.dK []) g.sub hm);let Bp:B p=none:=G.fr.ent.big.free hp;let H2p:H2 p=none:=g.still (G.fr.sub.free hp) aM;refine q _ H2 _ #[λy u z=>[L (bq z Bp)]▸gg.big y u z,gg.eV,λy u z=>[L (bq z H2p)]▸gg.sub y u z,gg.new] #[p,p::b::c::m::cs,Y,λy hy=>?_,b,c,m,cs,ws.map (·.2),Y,?_,by rw[aM,hti],?_,#[ls.1,λi y r h1 h2=>?_],?_,?_,?_]
 .let ow:∀y∈b::cs,B y=none/\H2 y=none/\(upd (upd fA m (.dK [])) p (.dK (L_ b c m 0))) y≠none:=λy hy=>by
   let#[z1,z2,z3,z4]:=old y hy;let#[w1,w2,w3]:=o1 y hy;refine#[w2,?_,[L z1,L z3,z4]▸w3];cases z:H y with
   |none=>exact qQ7 z w3
   |some o=>exact g.still w1 ([L z1]▸z)
  simp only[au]at hy;rcases hy with rfl|rfl|rfl|rfl|hy
  .exact#[Bp,H2p,[aM]▸nofun]
  .exact ow _ ∅
  .exact#[G.fr.ent.big.free cH,Tn,[L cp,L cm,hcw]▸nofun]
  .exact#[G1.fr.ent.big.free (g.big.free hm),g.sub.free hm,[L mp,aM]▸nofun]
  .exact ow _ (by simp[hy])
 .let#[bp,bc,bm,_]:=old b ∅;let n2:=aO.mp nd;simp;exact#[#[bF bp,bF cp,pm,λz=>(old p (by simp[z])).1 Y],#[bc,bm,n2.1],#[cm,λz=>(old c (by simp[z])).2.1 Y],λz=>(old m (by simp[z])).2.2.1 Y,n2.2]
 .let#[bp,bc,bm,be]:=old b ∅;rwa[L bp,L bm,be]
 .let#[z1,z2,z3,z4]:=old y (by simp[aH h1]);let#[xs,y1,y2]:=ls.2 i y r h1 h2;exact#[xs,[L z1,L z3,z4]▸y1,y2.mono g.eV]
 .rw[L cp,L cm,hcw];unfold A8;rw[UH (by rw[e1];unfold dN;rw[aj];rfl)]
 .let:=rs;unfold dN at this;rwa[aj]at this
 .rw[L mp,aM];unfold Km;rw[WZ];rfl
def Fln:J->Option J
 | .tuple (d::_)=>some d
 |_=>none
theorem SK(p:Pl):(p.lines.map CB).filterMap Fln=(p.lines.map (·.1)).map .str:=by rw[bX,aj];exact filterMap_some λq _=>rfl
def Fbd:J->Option J
 | .tuple (d::_)=>some (.tuple [d,.none])
 |_=>none
theorem SM(p:Pl):(p.desks.map dE).filterMap Fbd=(dN (oA p)).map L2.pairD:=by show _=((p.desks.map λd=>(d.name,none)).map λq=>(q.1,mM q.2)).map L2.pairD;rw[bX,aj,aj];exact filterMap_some λq _=>rfl
def Fst:J->Option O
 | .str x=>some x
 |_=>none
theorem Kr:∀l:!O,(l.map aN).filterMap Fst=l
 | []=>rfl
 |x::l=>by rw[av,cI (f:=Fst) Y,Kr l]
section
variable{K:aq}
def Rbg(K:aq)(ds:!J)(Ua:UR):Prop:=∃p:Pl,ds=[gG p]/\nM p/\kI p/\Ua=WB λa=>rW K a (oA p)
theorem UI:bW ["_law_h","_law_places"] ["_law_h"] (bt (top 61)):=by grind
theorem zeZ{P:bU}{w:c0}{mg:O->Option M}{base:dF}{f:U}{fd:fW}(F:jO K "_law_begun" "_law_begun" (top 61) f fd)(md:mg "dict"=none):dR P w K mg base ju 1 f fd ["_law_h"] (Wu K (Rbg K)):=
 ZH F UI (by ext) λ_ _ h=>by
  let#[p,rfl,ok,gd,rfl]:=h;intro gj A outer s0 H E hr;let n1:(["_law_name"]:!O).Nodup:=∎;let n2:(["_law_line"]:!O).Nodup:=∎;let n3:(["_law_desk_here"]:!O).Nodup:=∎;let h1:=ok.gn;let h2:=ok.ln;let h3:=ok.dn;refine qC λB0 B σ H0 Hh D fr Xc=>?_;refine bT (Oy fr 1 ?_ gd.pn Y md UI.nd (λ_=>rfl) λb σ1 H1 c7 G1=>?_)
  .rw[<-Kr (p.gates++p.lines.map (·.1))];refine Oo (own:=["_law_name"]) (cap:=[]) (N:=["_law_name"]) (cl:=[]) (tgt:=.one 0) (F:=Fst) Y #[Y,∎,∎,Y,Y,∅] (eG (VE.to (VO.ve (lO (cJ hr 0. aQ (tG p)) (VO.ve (VO.to (eI (own:=["_law_line"]) (cap:=[]) (N:=["_law_line"]) (cl:=[]) (tgt:=.one 0) (F:=Fln) Y #[Y,∎,∎,Y,Y,∅] (eG (cJ hr 0. aQ (wM p))) (λf s3 H3=>g6 0 n2) Y (small (by rw[ae];omega)) (λd hd=>?_)) (SK p))) (small (by rw[ae,ae,ae];omega)))) (by rw[aI]))) (λf s3 H3=>g6 0 n1) Y (small (by rw[ae,aR,ae];omega)) (λd hd=>?_)
   .let#[z,hz,rfl]:=ai.mp hd;exact Cb Y Y λf s3 H3=>gB 0 0 Y Y
   .let#[z,hz,rfl]:=ai.mp hd;refine#[_,Y,λf s3 H3=>lP,λr kL f s3 H3=>?_];cases kL;exact Rw 0. (dQ (ds:=[]) cO)
  let ek:(p.gates++p.lines.map (·.1)).map (λr=>(r,([]:!J)))=mw (oA p):=by unfold mw oA;rw[aj];rfl
  rw[ek]at G1;refine bK (SJ (s:=oA p) G1 1 Y (Ox (VE.to (VO.ve (eI (own:=["_law_desk_here"]) (cap:=[]) (cl:=[]) (tgt:=.one 0) (F:=Fbd) Y #[Y,∎,∎,Y,Y,∅] (eG (cJ hr 0. aQ (tH p))) (λf s3 H3=>g6 0 n3) Y (small (by rw[ae];omega)) (λd hd=>?_))) (by rw[SM])) ?_ Y md) Y Y Xc)
  .let#[z,hz,rfl]:=ai.mp hd;exact Cb Y Y λf s3 H3=>VE.to (fc {gB 0 0 Y Y,eD}) Y
  .let e:(dN (oA p)).map (·.1)=p.desks.map (·.name):=by show((p.desks.map λd=>(d.name,none)).map λq=>(q.1,mM q.2)).map (·.1)=_;rw[aj,aj];rfl
   rw[e];exact gd.dn
end
end Mg
namespace Mg
open L2 PySem PyProof.Rows
theorem zG{α:Type}(F:α->!Nat){x:O}{a:α}:∀{l:!(O×α)},(l.map (·.1)).Nodup->(x,a)∈l->∃rest,((l.map λq=>F q.2).flatten).Perm (F a++rest)/\∀f:α->α,(((l.map λq=>if q.1=x then(q.1,f q.2)else q).map λq=>F q.2).flatten).Perm (F (f a)++rest)
 | [],_,h=>by cases h
 |q::l,hn,h=>by
  let#[n1,n2]:=aO.mp hn;rcases au.mp h with h|h
  .subst h;refine#[(l.map λq=>F q.2).flatten,.refl _,λf=>?_];rw[av,qQ3 Y];let e:(l.map λq=>if q.1=x then(q.1,f q.2)else q)=l:=(dI λz hz=>qQ2 λe=>n1 (ai.mpr #[z,hz,e])).trans (yf _);rw[e];exact .refl _
  .let#[rest,h1,h2]:=zG F n2 h;refine#[F q.2++rest,?_,λf=>?_]
   .rw[av,fx];exact(h1.append_left _).trans (Bx _ _ _)
   .rw[av,qQ2 (λe=>n1 (ai.mpr #[(x,a),h,e.symm])),av,fx];exact((h2 f).append_left _).trans (Bx _ _ _)
def Ba(l:Option (!Nat×Int)):!Nat:=(l.map (·.1)).getD []
def la(s:Ws):!Nat:=(s.loads.map λq=>Ba q.2).flatten
structure Jb(p:Pl)(n:Nat)(s:Ws):Prop where
 nm:s.places.map (·.1)=p.gates++p.lines.map (·.1)
 ld:s.loads.map (·.1)=p.desks.map (·.name)
 nd:(fJ s++la s).Nodup
 mt:∀g∈fJ s++la s,g∈s.met
 md:s.met.Nodup
 ml:∀g∈s.met,g<n
 l3:∀q∈s.loads,∀l,q.2>>l->l.1.length<=3
 n30:n<=30
theorem Jb.ok(h:Jb p n s):pA p n s:=by refine#[h.nm,h.ld,(bD.mp h.nd).1,λg hg=>h.ml g (h.mt g (bH _ hg)),λq hq l e=>#[h.l3 q hq l e,λg hg=>h.ml g (h.mt g (aZ _ ?_))],yE h.md h.ml,h.n30];refine hG.mpr #[_,ai.mpr #[q,hq,Y],?_];rwa[e]
def PJ(p:Pl)(day:!o5)(s:Ws):We->Prop
 | .come _ g=>g<day.length/\g∉s.met
 | .spoil _ g=>g∈fJ s
 | .take _ d gs=>d∈p.desks.map (·.name)/\ie s d=none/\gs≠[]/\gs.length<=3/\gs.Nodup/\∀g∈gs,g∈fJ s
 | .put _ d gs=>d∈p.desks.map (·.name)/\∃t,ie s d>>(gs,t)
theorem PJ.ok(hv:Jb p day.length s)(hg:∀g,g<day.length->pT day g∈p.gates):∀{e:We},PJ p day s e->okE p day s e
 | .come _ g,h=>#[h.1,h.2,hg g h.1]
 | .spoil _ _,_=>trivial
 | .take _ _ _,#[h1,_,h2,h3,_,h4]=>#[h1,h2,h3,λg hg=>hv.ok.pg g (h4 g hg)]
 | .put _ d gs,#[h1,t,h2]=>#[h1,(((hv.ok.load h1).2 _ h2).1)]
section
theorem Gm(hp:kI p)(nm:s.places.map (·.1)=p.gates++p.lines.map (·.1))(hx:x∈p.gates++p.lines.map (·.1))(gs:!Nat):(fJ (oX s x λl=>l++gs)).Perm (fJ s++gs):=by let#[rest,h1,h2]:=zG (λl:!Nat=>l) ([nm]▸hp.pn) ((iB ([nm]▸hx)).2);refine(h2 λl=>l++gs).trans ?_;rw[cw];refine((nA (l₁:=gs)).append_left _).trans ?_;rw[<-cw];exact h1.symm.append_right _
theorem CQ(hp:kI p)(ld:s.loads.map (·.1)=p.desks.map (·.name))(hd:d∈p.desks.map (·.name)):∃rest,(la s).Perm (Ba (ie s d)++rest)/\∀l,(la (uH s d l)).Perm (Ba l++rest):=by let#[rest,h1,h2]:=zG Ba ([ld]▸hp.dn) ((Kk ([ld]▸hd)).2);exact#[rest,h1,λl=>h2 λ_=>l]
theorem CT(s:Ws)(gs:!Nat):fJ (xl s gs)=flt gs (fJ s):=by unfold fJ xl flt;rw[List.filter_flatten,aj,aj];rfl
theorem zH:g∈flt gs l↔g∈l/\g∉gs:=by unfold flt;simp
theorem CV(s:Ws)(d:O)(l:Option (!Nat×Int)):(uH s d l).loads.map (·.1)=s.loads.map (·.1):=uz d (λ_=>l) s.loads
theorem x6(s:Ws)(x:O)(f:!Nat->!Nat):(oX s x f).places.map (·.1)=s.places.map (·.1):=uz x f s.places
theorem PK(h:∀q∈s.loads,∀l,q.2>>l->l.1.length<=3)(h0:(Ba l0).length<=3):∀q∈(uH s d l0).loads,∀l,q.2>>l->l.1.length<=3:=λq hq l e=>by
 let#[z,hz,rfl]:=ai.mp hq;by_cases c:z.1=d
 .rw[qQ3 c]at e;let e:l0>>l:=e;rwa[e]at h0
 .rw[qQ2 c]at e;exact h z hz l e
theorem Ks(hp:kI p)(h5:GK p)(hv:Jb p day.length s)(hg:∀g,g<day.length->pT day g∈p.gates):∀{e:We},PJ p day s e->Jb p day.length (qW p day s e)/\(match e with
  | .come _ g=>(∀x,x∈fJ (qW p day s e)↔x∈fJ s\/x=g)/\(qW p day s e).met=s.met ++ [g]
  | .spoil _ g=>(∀x,x∈fJ (qW p day s e)↔x∈fJ s/\x∉[g])/\(qW p day s e).met=s.met
  | .take _ _ gs=>(∀x,x∈fJ (qW p day s e)↔x∈fJ s/\x∉gs)/\(qW p day s e).met=s.met
  | .put _ d gs=>(∀x,x∈fJ (qW p day s e)↔x∈fJ s\/(PF p d≠""/\x∈gs))/\(qW p day s e).met=s.met/\gs.Nodup/\(∀x∈gs,x∈s.met/\x∉fJ s))
 | .come t g,#[h1,h2]=>by
  let pm:=Gm (s:=IZ (jE s t) g) hp hv.nm (bH _ (hg g h1)) [g];let ew:fJ (IZ (jE s t) g)=fJ s:=Y;rw[ew]at pm;let hm:∀x,x∈fJ _↔x∈fJ s\/x=g:=λx=>by rw[pm.mem_iff,aT,aK]
  let ec:la (qW p day s (.come t g))=la s:=Y;refine#[#[(x6 _ _ _).trans hv.nm,hv.ld,?_,λx hx=>?_,?_,λx hx=>?_,hv.l3,hv.n30],hm,Y]
  .let q:(fJ _++la s).Perm (g::(fJ s++la s)):=(pm.append_right _).trans ([cw]▸nP);rw[ec];exact q.nodup_iff.mpr (aO.mpr #[(λz=>h2 (hv.mt g z)),hv.nd])
  .show x∈s.met ++ [g];rcases aT.mp hx with hx|hx
   .rcases(hm x).mp hx with hx|hx
    .exact bH _ (hv.mt x (bH _ hx))
    .rw[hx];exact aZ _ (aK.mpr Y)
   .exact bH _ (hv.mt x (aZ _ hx))
  .show(s.met ++ [g]).Nodup;exact(nA (l₁:=s.met) (l₂:=[g])).nodup_iff.mpr (aO.mpr #[h2,hv.md])
  .let hx:=hx;rcases aT.mp hx with hx|hx
   .exact hv.ml x hx
   .rwa[aK.mp hx]
 | .spoil t g,h1=>by
  let ew:fJ (qW p day s (.spoil t g))=flt [g] _:=CT _ [g];let ec:la (qW p day s (.spoil t g))=la s:=Y;let sub:(flt [g] (fJ s)).Sublist _:=List.filter_sublist;refine#[#[?_,hv.ld,[ew,ec]▸hv.nd.sublist (sub.append_right _),λx hx=>?_,hv.md,hv.ml,hv.l3,hv.n30],λx=>[ew]▸zH,Y]
  .rw[<-hv.nm];exact aj
  .rw[ew,ec]at hx;exact hv.mt x ((sub.append_right _).subset hx)
 | .take t d gs,#[h1,h2,h3,h4,h5',h6]=>by
  let ew:fJ (qW p day s (.take t d gs))=flt gs _:=CT _ gs;let#[rest,c1,c2]:=CQ (s:=jE s t) hp hv.ld h1;let c2:=c2 (some (gs,t+CP p day d gs));let eL:ie (jE s t) d=none:=h2;rw[eL]at c1;let ec:=c2.trans (c1.symm.append_left _);let#[n1,n2,n3]:=bD.mp hv.nd;refine#[#[?_,(CV _ _ _).trans hv.ld,?_,λx hx=>?_,hv.md,hv.ml,PK hv.l3 h4,hv.n30],λx=>[ew]▸zH,Y]
  .rw[<-hv.nm];exact aj
  .rw[ew];refine(ec.append_left _).nodup_iff.mpr (bD.mpr #[n1.sublist List.filter_sublist,bD.mpr #[h5',n2,λx hx y hy=>n3 x (h6 x hx) y hy],λx hx y hy e=>?_]);let#[x1,x2]:=zH.mp hx;rcases aT.mp hy with hy|hy
   .exact x2 ([e]▸hy)
   .exact n3 x x1 y hy e
  .rw[ew]at hx;rcases aT.mp hx with hx|hx
   .exact hv.mt x (bH _ (zH.mp hx).1)
   .rcases aT.mp (ec.mem_iff.mp hx)with hx|hx
    .exact hv.mt x (bH _ (h6 x hx))
    .exact hv.mt x (aZ _ hx)
 | .put t d gs,#[h1,t',h2]=>by
  let#[rest,c1,c2]:=CQ (s:=jE s t) hp hv.ld h1;let eL:ie (jE s t) d>>(gs,t'):=h2;rw[eL]at c1;let c1:=c1.trans ((c2 none).symm.append_left _);let pm:(fJ (qW p day s (.put t d gs))).Perm (fJ s++if PF p d="" then []else gs):=by
   unfold qW;dsimp only;by_cases h0:PF p d=""
   .rw[qQ3 h0,qQ3 h0,cA];exact .refl _
   .rw[qQ2 h0,qQ2 h0];let#[z,hz,rfl]:=ai.mp h1;rw[I0 hp.dn hz]at h0 ⊢;exact Gm hp hv.nm (aZ _ ((h5.dp z hz).2.2.resolve_left h0)) gs
  let ec:la (qW p day s (.put t d gs))=la (uH (jE s t) d none):=by unfold qW;dsimp only;split<;>rfl
  let#[n1,n2,n3]:=bD.mp hv.nd;let#[m1,m2,m3]:=bD.mp (c1.nodup_iff.mp n2);let em:(qW p day s (.put t d gs)).met=s.met:=by unfold qW;dsimp only;split<;>rfl
  let BF:∀x∈(if PF p d="" then []else gs),x∈gs:=λx hx=>by
   split at hx
   .cases hx
   .exact hx
  let inC:∀x∈gs,x∈la s:=λx hx=>c1.mem_iff.mpr (bH _ hx);refine#[#[?_,?_,?_,λx hx=>?_,[em]▸hv.md,[em]▸hv.ml,?_,hv.n30],λx=>?_,em,m1,λx hx=>#[hv.mt x (aZ _ (inC x hx)),λy=>n3 x y x (inC x hx) Y]]
  .unfold qW;dsimp only;split
   .exact hv.nm
   .exact(x6 _ _ _).trans hv.nm
  .let e2:(qW p day s (.put t d gs)).loads=(uH (jE s t) d none).loads:=by unfold qW;dsimp only;split<;>rfl
   rw[e2];exact(CV _ _ _).trans hv.ld
  .rw[ec];refine(pm.append_right _).nodup_iff.mpr ?_;rw[cw];refine bD.mpr #[n1,bD.mpr #[?_,m2,λx hx y hy=>m3 x (BF x hx) y hy],λx hx y hy=>n3 x hx y ?_]
   .split
    .exact gL
    .exact m1
   .rcases aT.mp hy with hy|hy
    .exact inC y (BF y hy)
    .exact c1.mem_iff.mpr (aZ _ hy)
  .rw[em];rw[ec]at hx;rcases aT.mp hx with hx|hx
   .rcases aT.mp (pm.mem_iff.mp hx)with hx|hx
    .exact hv.mt x (bH _ hx)
    .exact hv.mt x (aZ _ (inC x (BF x hx)))
   .exact hv.mt x (aZ _ (c1.mem_iff.mpr (aZ _ hx)))
  .let e2:(qW p day s (.put t d gs)).loads=(uH (jE s t) d none).loads:=by unfold qW;dsimp only;split<;>rfl
   rw[e2];exact PK hv.l3 (bj _)
  .rw[pm.mem_iff,aT];by_cases h0:PF p d=""
   .simp[h0]
   .simp[h0]
end
end Mg
namespace Mg
open L2 PySem PyProof.Rows
seal L2.VE L2.VS L2.vz L2.VT L2.VO L2.Fd L2.VU
variable{day:!o5}{l:!J}{p:Pl}{s:Ws}
theorem PL(h:La≠[])(nd:La.Nodup)(m:Int):Ee La m≠[]/\(Ee La m).length<=3/\(Ee La m).Nodup/\∀g∈Ee La m,g∈La:=by
 unfold Ee;dsimp only
 generalize(m/8%La.length).toNat=a
 let hc:1<=(1+m/64%3).toNat/\(1+m/64%3).toNat<=3:=()
 generalize(1+m/64%3).toNat=c at hc
 let pm:(La.drop a++La.take a).Perm La:=nA.trans (by rw[fG]);let hL:=jg.mpr h;let sub:=ye c (La.drop a++La.take a);let h1:((La.drop a++La.take a).take c).length=min c La.length:=by rw[a9,pm.length_eq]
 let h2:=(pm.nodup_iff.mpr nd).sublist sub;let h3:∀g∈(La.drop a++La.take a).take c,g∈La:=λg hg=>pm.mem_iff.mp (sub.subset hg);let h4:(La.drop a++La.take a).take c≠[]:=λz=>by rw[z,dP]at h1;omega
 generalize(La.drop a++La.take a).take c=R at *
 split
 .exact#[by simpa using h4,by rw[List.length_reverse];omega,(List.reverse_perm R).nodup_iff.mpr h2,λg hg=>h3 g (List.mem_reverse.mp hg)]
 .exact#[h4,(),h2,h3]
section
theorem Jc(hv:Jb p n s)(hx:x∈p.gates++p.lines.map (·.1))(hg:g∈gO s x):g∈fJ s:=by exact hG.mpr #[_,ai.mpr #[_,(iB ([hv.nm]▸hx)).2,Y],hg]
theorem vV(hp:kI p)(hv:Jb p n s):∀{ps:!O},ps.Nodup->(∀x∈ps,x∈p.gates++p.lines.map (·.1))->(gT s ps).Nodup/\∀g∈gT s ps,g∈fJ s
 | [],_,_=>#[gL,λg hg=>by cases hg]
 |x::ps,hn,BF=>by
  let#[n1,n2]:=aO.mp hn;let#[i1,i2]:=vV hp hv n2 λy hy=>BF y (ay _ hy);let hm:=(iB ([hv.nm]▸BF x aJ)).2;let#[rest,h1,h2]:=zG (λl:!Nat=>l) ([hv.nm]▸hp.pn) hm;let#[w1,_,w3]:=bD.mp (h1.nodup_iff.mp (bD.mp hv.nd).1);refine#[bD.mpr #[w1,i1,λg hg g' hg' ee=>?_],λg hg=>?_]
  .subst ee;let#[l,hl,Ub]:=hG.mp hg';let#[y,hy,rfl]:=ai.mp hl;let hmy:=(iB ([hv.nm]▸BF y (ay _ hy))).2;let:g∈rest:=(h2 λ_=>[]).mem_iff.mp (hG.mpr #[_,ai.mpr #[(y,gO s y),ai.mpr #[_,hmy,qQ2 λz:y=x=>n1 ([<-z]▸hy)],Y],Ub]);exact w3 g hg g this Y
  .rcases aT.mp hg with hg|hg
   .exact Jc hv (BF x aJ) hg
   .exact i2 g hg
theorem Gn(hp:kI p)(h5:GK p)(hv:Jb p n s)(h:nY p s m t>>e):PJ p day s e:=by
 unfold nY at h;cases hI:xi p s with
 |nil=>rw[hI]at h;cases h
 |cons d ds=>rw[hI]at h;let e1:=(cv h).symm;let hm:pickOf (d::ds) d m∈xi p s:=[hI]▸(iV (F:=dE) (by rw[a8];omega) m).2;generalize pickOf (d::ds) d m=z at *;let#[hz,hf]:=jK.mp hm;let#[f1,f2]:=df.mp hf;let#[k1,k2]:=vV hp hv ((uc.mp hp.dj).1 _ (ai.mpr #[z,hz,Y])) (h5.dp z hz).1;let#[r1,r2,r3,r4]:=PL (λy=>by rw[y]at f2;cases f2) k1 m;rw[e1];exact#[ai.mpr #[z,hz,Y],Option.isNone_iff_eq_none.mp f1,r1,r2,r3,λg hg=>k2 g (r4 g hg)]
theorem Ej(hp:kI p)(h5:GK p)(hv:Jb p day.length s)(h:yG p day.length s m t>>e):PJ p day s e:=by
 let rip:∀j,(qQ p s t).isEmpty=false->PJ p day s (A6 _ j):=λj sj=>by let#[d,hd,l,h1,_,_,h2]:=A7 (iV (F:=qV) (by cases hh:qQ p s t with|nil=>rw[hh]at sj;cases sj|cons _ _=>rw[a8];omega) j).2;unfold A6;rw[h2];exact#[ai.mpr #[d,hd,Y],l.2,h1]
 let no:∀{b:Bool},(not b)=true->b=false:=λ{b}h=>by cases b<;>simp_all
 unfold yG at h;split at h
 .rename_i c
  cases h;exact rip _ (no (df.mp c).2)
 split at h
 .exact Gn hp h5 hv h
 split at h
 .rename_i c
  cases h;let c2:=no (df.mp c).2;exact(iV (F:=λ(g:Nat)=>dq g) (by cases hh:fJ s with|nil=>rw[hh]at c2;cases c2|cons _ _=>rw[a8];omega) _).2
 split at h
 .rename_i c
  cases h;let c2:=no c;let:=(iV (l:=yF day.length s) (F:=λ(g:Nat)=>dq g) (d:=0) (by cases hh:yF day.length s with|nil=>rw[hh]at c2;cases c2|cons _ _=>rw[a8];omega) (m/8)).2;let#[c3,c4]:=jK.mp this;exact#[cG.mp c3,qQ5 (no c4)]
 split at h
 .rename_i c
  cases h;exact rip _ (no c)
 .exact Gn hp h5 hv h
end
def Gp(m:Int):Int:=if m%4=2 then 1 else if m%4=3 then m/7%9 else 0
theorem PN(m:Int):uN [dq 0,.int 0,.int 1,.int (m/7%9)] (m%4)>>(.int (Gp m)):=by unfold Gp;rcases(by omega:m%4=0\/m%4=1\/m%4=2\/m%4=3)with e|e|e|e<;>rw[e]<;>rfl
def mW(cells:!Int)(k:Nat):Int:=dw (cells.getD k 0) k
def tW(cells:!Int):Nat->Int
 |0=>0
 |k+1=>tW cells k+Gp (mW cells k)
def Gq(p:Pl)(day:!o5)(q:Ws×!We):Option We->Ws×!We
 |none=>q
 |some e=>(qW p day q.1 e,q.2 ++ [e])
def Gr(p:Pl)(day:!o5)(cells:!Int)(s:Ws)(k:Nat):Option We:=yG p day.length s (mW cells k/50) (tW cells (k+1))
def Bm(p:Pl)(day:!o5)(cells:!Int):Nat->Ws×!We
 |0=>(oA p,[])
 |k+1=>Gq p day (Bm p day cells k) (Gr p day cells (Bm p day cells k).1 k)
inductive Reach(p:Pl)(day:!o5):Ws->!We->Prop
 |nil:Reach p day (oA p) []
 |snoc {s:Ws} {l:!We} {e:We}:Reach p day s l->PJ p day s e->Reach p day (qW p day s e) (l ++ [e])
structure MP(p:Pl)(day:!o5):Prop where
 gd:kI p
 p5:GK p
 gt:∀g,g<day.length->pT day g∈p.gates
 dl:day.length<=30
theorem UJ(h:n<=30):Jb p n (oA p):=by
 let e1:fJ (oA p)=[]:=by unfold fJ oA;rw[aj];exact EG.mpr λl hl=>by let#[_,_,rfl]:=ai.mp hl;rfl
 let e2:la (oA p)=[]:=by unfold la oA;rw[aj];exact EG.mpr λl hl=>by let#[_,_,rfl]:=ai.mp hl;rfl
 refine#[?_,?_,[e1,e2]▸gL,λg hg=>(by rw[e1,e2]at hg;cases hg),gL,λg hg=>(by cases hg),λq hq l e=>?_,h]
 .unfold oA;rw[aj];exact yf _
 .unfold oA;rw[aj];rfl
 .let#[z,_,rfl]:=ai.mp hq;cases e
theorem Reach.V(ok:MP p day){l:!We}(h:Reach p day s l):Jb p day.length s:=by
 induction h with
 |nil=>exact UJ ok.dl
 |snoc _ he ih=>exact(Ks ok.gd ok.p5 ih ok.gt he).1
theorem x8(ok:MP p day)(cells:!Int):∀k,Reach p day (Bm p day cells k).1 (Bm p day cells k).2/\(Bm p day cells k).2.length<=k
 |0=>#[.nil,aP _]
 |k+1=>by
  let#[i1,i2]:=x8 ok cells k;let e1:Bm p day cells (k+1)=Gq p day _ _:=Y;rw[e1];cases e:Gr p day cells (Bm p day cells k).1 k with
  |none=>exact#[i1,Nat.le_succ_of_le i2]
  |some x=>exact#[.snoc i1 (Ej ok.gd ok.p5 (i1.V ok) e),by show((Bm p day cells k).2 ++ [x]).length<=_;rw[aR,nz];omega]
def Rwi(ds:!J)(d:J):Prop:=∃(p:Pl)(day:!o5)(cells:!Int),ds=[gG p,.list (day.map jU),oQ cells]/\MP p day/\cells.length<=63/\d=.list ((Bm p day cells cells.length).2.map qV)
abbrev Nwi:!O:=["_law_h","_law_day_here","_law_cells","_law_state","_law_book","_law_t","_law_k","_law_cell","_law_m","_law_entry"]
section
variable{K:aq}
theorem PQ{a b:U}(Ha Hb:Hp)(as:!U)(sb:cz Ha Hb)(h:nX K (rW K a s) b l Ha Hb as)(ho:∀x∈as,Ha x=none):∃c ws,c∈as/\Hb c>>(.dK ws)/\∀o,Rep K (gK as (upd Hb c (.oJ o (.dK ws))) Ha) (.ref a) (Pr s):=by
 let#[oj,xs,rfl,h1,h2,h3,h4]:=h;let#[c,ws,c1,c2,c3]:=rW.known Ha Hb oj sb h2 λx hx=>ho x (by simp[hx]);refine#[c,ws,by simp[c1],c2,λo=>(c3 o).mono λx u e=>?_];by_cases hx:x∈oj
 .rw[f7 hx]at e;rwa[f7 (by simp[hx])]
 .rw[gf hx]at e;let:x∉b::oj:=λy=>by rw[ho x y]at e;cases e
  rwa[gf this]
theorem PV{a b:U}(Ha Hb:Hp)(as:!U)(h:nX K (rW K a s) b l Ha Hb as):∀x∈as,rm Hb x:=by
 let#[oj,xs,rfl,h1,h2,h3,h4]:=h;intro x hx;rcases au.mp hx with rfl|hx
 .intro ys;rw[h3];exact#[nofun,λo z=>by cases z]
 .exact rW.tV Ha Hb oj h2 x hx
theorem Xd{a b:U}{s': Ws}(Ha Hb:Hp)(as:!U)(h:nX K (rW K a s) b l Ha Hb as):∃a1 a2:!U,(∀a,a∈as↔a∈a1\/a∈a2)/\(∀a∈a1,a∉a2)/\rW K a s Ha Hb a1/\∀(Hc Hd:Hp)(a3:!U),cz Ha Hc->(∀a∈a2,Hd a=Hb a)->(∀a∈a2,a∉a3)->rW K a s' Hc Hd a3->∃a4:!U,(∀a∈a4,a∈a3\/a∈a2)/\nX K (rW K a s') b l Hc Hd a4:=by
 let#[oj,xs,rfl,h1,h2,h3,h4]:=h;refine#[oj,[b],λx=>by simp[or_comm],λx hx y=>h1 ([<-aK.mp y]▸hx),h2,λHc Hd a3 z1 z2 z3 z4=>#[_,λx hx=>?_,a3,xs,Y,z3 b ∅,z4,[z2 b ∅]▸h3,h4.mono z1]];rcases au.mp hx with hx|hx
 .exact .inr (by simp[hx])
 .exact .inl hx
theorem UK:bW Nwi ["_law_h","_law_day_here","_law_cells"] (bt (top 62)):=by grind
theorem ze0{P:bU}{w:c0}{mg:O->Option M}{base:dF}{f:U}{fd:fW}(F:jO K "_law_wild" "_law_wild" (top 62) f fd)(n:Na mg)(C0:bw P w K mg base 1 "_law_mix" ["_law_cell","_law_k"] (gk K FK))(C1:bw P w K mg base 1 "_law_begun" ["_law_h"] (Wu K (Rbg K)))(C2:bw P w K mg base 3 "_law_wild_entry" ["_law_h","_law_day_here","_law_state","_law_m","_law_t"] (gk K Rwe))(C3:bw P w K mg base 2 "_law_do" ["_law_h","_law_day_here","_law_state","_law_entry"] (DX K Ws (rW K) 2 Xb)):dR P w K mg base ju 4 f fd ["_law_h","_law_day_here","_law_cells"] (gk K Rwi):=
 ik F UK (by ext) λ_ _ h=>by
  let#[p,day,cells,rfl,ok,HR,rfl]:=h;intro gj A outer s0 H E hr;let nd:Nwi.Nodup:=UK.nd;let eX:dB 1 _:=hr.mono ();let mo:∀{a b:U}{s:Ws}{l:!J},fq (nX K (rW K a s) b l):=nX.mono rW.mono;refine qC λB0 B σ H0 Hh D fr Xc=>?_;refine bT (Ia fr 3 (zz C1 eX wJ {0.} #[p,Y,ok.p5.ok,ok.gd,Y]) nd (λ_=>rfl) λa σ1 H1 c7 G1=>?_);refine bT (RG rW.mono G1 4 nd (λ_=>rfl) λb σ2 fA G2=>?_);refine bT (mX mo G2 (cL 5 (d:=.int 0) aB nd) Y λσ3 H3 uD G3=>?_);refine bT (N8 (tgt:=.tup [6,7]) (λi=>nX K (rW K a (Bm p day cells i).1) b ((Bm p day cells i).2.map qV)) (λi=>[.val (gG p),.val (.list (day.map jU)),.val (oQ cells),.ref a,.ref b,.val (.int (tW cells i)),.un,.un,.un,.un]) (λ_=>mo) G3 bZ Y (nr 2. n.NQ)
   (g7 Y (bS (g6 6 nd) (bS (g6 7 nd) fP))) (λi dd hd=>?_) (λσ5 H5 TJ G5=>?_))
  .let#[x,hx,rfl]:=ja hd;let hi:i<cells.length:=by let:=(aF.mp hx).1;rw[ae]at this;exact this
   obtain rfl:x=.int (cells.getD i 0):=by rw[ax,ao hi]at hx;rw[aG,ao hi];cases hx;rfl
   let#[re,hlen]:=x8 ok cells i;let hV:=re.V ok;let e1:Bm p day cells (i+1)=Gq p day (Bm p day cells i) _:=Y;refine#[_,Y,Y,λD' C0' σ' cY H' G post=>?_];rw[e1]at post;generalize Bm p day cells i=q at *;refine bT (mX mo G (cL 8 (bB C0 eX {7.,6.} #[cells.getD i 0,i,Y,(),(),Y]) nd) Y λσ6 H6 H6' G6=>?_);refine bT (mX mo G6 (cL 5 (dM 5. (fU (VO.ve (dQ {aB,aB,aB,cn (eE 8. aB #[⋯,⋯]) aB ⋯})) (cn 8. aB ⋯) (PN _))) nd) Y λσ7 H7 H7' G7=>?_);refine bT (RA mo G7 3 9 Y PQ PV (bB C2 (hr.mono ()) {0.,1.,3.,eE 8. aB #[⋯,⋯],5.} #[p,day.map jU,q.1,mW cells i/50,tW cells (i+1),Y,ok.p5,[ae]▸hV.ok,Y]) (W8 _) Y (λσ8 H8 H8' G8=>?_) nd);rw[ae,show yG p day.length q.1 (mW cells i/50) (tW cells (i+1))=Gr p day cells q.1 i from Y]at G8;cases he:Gr p day cells q.1 i with
   |none=>rw[he]at G8 post;refine bK (nW mo G8 (VT.to (eW pD Gh 9. eD (eM _)) Y) λH9 H9' G9=>rj (post _ _ _ (G9.forget mo #[.inr Y,.inr Y,.inr Y,.inr Y,.inr Y,.inr Y,.inl Y,.inl Y,.inl Y,.inl Y,trivial] Y)))
   |some e=>
    rw[he]at G8 post;let hk:=Ej ok.gd ok.p5 hV he;let hb:(not (OY (XX (some e))))=true:=by cases e<;>rfl
    refine bK (wI mo G8 (VT.to (eW pD Gh 9. eD (eM _)) hb) λH9 H9' G9=>?_);refine bT (RH rW.mono G9 4 Y 9. (fh (by rw[ae];omega)) λHa Hb Ga=>?_);let ea:q.2.map qV ++ [XX (some e)]=(Gq p day q (some e)).2.map qV:=by show _=(q.2 ++ [e]).map qV;rw[aI];rfl
    rw[ea]at Ga;exact bK (Ou (PR:=rW K) (s:=q.1) C3 (hr.mono ()) Ga mo 3 Y 0. 1. 9. #[p,day,e,Y,Y,ok.p5,ok.gd,hV.ok,hk.ok hV ok.gt,Y] Xd λHc Hd Gc=>(post _ _ _ (Gc.forget mo #[.inr Y,.inr Y,.inr Y,.inr Y,.inr Y,.inr Y,.inl Y,.inl Y,.inl Y,.inl Y,trivial] Y)))
  .let e:(Ac (cells.map dq)).length=cells.length:=by rw[dC,ae]
   rw[e]at G5;exact bK (TY G5 4 Y nX.rep Xc)
end
end Mg
namespace Mg
open L2 PySem PyProof.Rows
variable{l:!We}{e:We}
def Xe(p:Pl)(s:Ws):We->Prop
 | .take _ d gs=>∃z∈p.desks,z.name=d/\∀g∈gs,g∈gT s z.places
 | .put t d gs=>∃z∈p.desks,z.name=d/\∃e,ie s d>>(gs,e)/\e<=t/\rV p s z gs=true
 |_=>True
section
variable{p:Pl}{day:!o5}{s:Ws}
theorem Kt(hp:kI p)(h5:GK p)(hv:Jb p n s)(h:nY p s m t>>e):Xe p s e/\e.time=t:=by
 unfold nY at h;cases hI:xi p s with
 |nil=>rw[hI]at h;cases h
 |cons d ds=>rw[hI]at h;let e1:=(cv h).symm;let hm:pickOf (d::ds) d m∈xi p s:=[hI]▸(iV (F:=dE) (by rw[a8];omega) m).2;generalize pickOf (d::ds) d m=z at *;let#[hz,hf]:=jK.mp hm;let#[f1,f2]:=df.mp hf;let#[k1,k2]:=vV hp hv ((uc.mp hp.dj).1 _ (ai.mpr #[z,hz,Y])) (h5.dp z hz).1;let#[r1,r2,r3,r4]:=PL (λy=>by rw[y]at f2;cases f2) k1 m;rw[e1];exact#[#[z,hz,Y,r4],Y]
theorem Xf(hp:kI p)(h5:GK p)(hv:Jb p day.length s)(h:yG p day.length s m t>>e):Xe p s e/\e.time=t:=by
 let rip:∀j,(qQ p s t).isEmpty=false->Xe p s (A6 _ j)/\(A6 _ j).time=t:=λj sj=>by let#[d,hd,l,h1,h3,h4,h2]:=A7 (iV (F:=qV) (d:=We.come 0 0) (by cases hh:qQ p s t with|nil=>rw[hh]at sj;cases sj|cons _ _=>rw[a8];omega) j).2;unfold A6;rw[h2];exact#[#[d,hd,Y,l.2,h1,h3,h4],Y]
 let no:∀{b:Bool},(not b)=true->b=false:=λ{b}h=>by cases b<;>simp_all
 unfold yG at h;split at h
 .rename_i c
  cases h;exact rip _ (no (df.mp c).2)
 split at h
 .exact Kt hp h5 hv h
 split at h
 .cases h;exact#[trivial,Y]
 split at h
 .cases h;exact#[trivial,Y]
 split at h
 .rename_i c
  cases h;exact rip _ (no c)
 .exact Kt hp h5 hv h
theorem SN(e:We):(qW p day s e).time=e.time:=by
 cases e with
 |come t g=>rfl
 |spoil t g=>rfl
 |take t d gs=>rfl
 |put t d gs=>show(if PF p d="" then uH _ d none else oX _ _ λl=>l++gs).time=t;split<;>rfl
inductive tY(p:Pl)(day:!o5):Ws->!We->Prop
 |nil:tY p day (oA p) []
 |snoc {s:Ws} {l:!We} {e:We}:tY p day s l->PJ p day s e->Xe p s e->s.time<=e.time->tY p day (qW p day s e) (l ++ [e])
theorem tY.V(ok:MP p day)(h:tY p day s l):Jb p day.length s:=by
 induction h with
 |nil=>exact UJ ok.dl
 |snoc _ he _ _ ih=>exact(Ks ok.gd ok.p5 ih ok.gt he).1
theorem PX(ok:MP p day)(cells:!Int):∀k,tY p day (Bm p day cells k).1 (Bm p day cells k).2/\(Bm p day cells k).1.time<=tW cells k
 |0=>#[.nil,vj _]
 |k+1=>by
  let#[i1,i2]:=PX ok cells k;let e1:Bm p day cells (k+1)=Gq p day _ _:=Y;let ht:tW cells k<=tW cells (k+1):=by
   show tW cells k<=tW cells k+Gp _;unfold Gp;split
   .omega
   .split<;>omega
  rw[e1];cases e:Gr p day cells (Bm p day cells k).1 k with
  |none=>exact#[i1,sE i2 ht]
  |some x=>let#[x1,x2]:=Xf ok.gd ok.p5 (i1.V ok) e;refine#[.snoc i1 (Ej ok.gd ok.p5 (i1.V ok) e) x1 ([x2]▸sE i2 ht),?_];show(qW p day (Bm p day cells k).1 x).time<=_;rw[SN,x2];exact vj _
def rR(p:Pl)(day:!o5)(l:!We):Ws:=l.foldl (qW p day) (oA p)
theorem tY.run(h:tY p day s l):s=rR p day l:=by
 induction h with
 |nil=>rfl
 |snoc _ _ _ _ ih=>unfold rR;rw[eB,<-rR,<-ih];rfl
theorem tY.at(h:tY p day s l):∀{j:Nat}{e:We},l[j]?>>e->tY p day (rR p day (l.take j)) (l.take j)/\PJ p day (rR p day (l.take j)) e/\Xe p (rR p day (l.take j)) e/\(rR p day (l.take j)).time<=e.time:=by
 induction h with
 |nil=>intro j e hj;simp at hj
 |snoc hr h1 h2 h3 ih=>
  rename_i s l x
  intro j e hj;by_cases oE:j<l.length
  .rw[bN oE]at hj;rw[zL ()];exact ih hj
  .let hj':j=l.length:=by let:=(aF.mp hj).1;rw[aR,nz]at this;omega
   subst hj';rw[bM (),GU]at hj;cases hj;rw[zL (),cq,<-hr.run];exact#[hr,h1,h2,h3]
theorem tY.cut(h:tY p day s l)(j:Nat):tY p day (rR p day (l.take j)) (l.take j):=by
 by_cases hj:j<l.length
 .exact(h.at (ao hj)).1
 .rw[da (),<-h.run];exact h
theorem PY(l:!We)(e:We):rR p day (l ++ [e])=qW p day (rR p day l) e:=by unfold rR;rw[eB];rfl
theorem Gs(h:l[j]?>>e):rR p day (l.take (j+1))=qW p day (rR p day (l.take j)) e:=by rw[List.take_succ,h];exact PY _ _
end
end Mg
namespace Mg
open L2 PySem PyProof.Rows
seal L2.VE L2.VS L2.vz L2.VT L2.VO L2.Fd
variable{fd:fW}
theorem tZ:∀{fs:!(O×J)}{i:Nat}{x:O}{d:J},(fs.map (·.1)).Nodup->fs[i]?>>(x,d)->gJ fs x>>d
 | [],_,_,_,_,h=>by simp at h
 |q::l,0,x,d,_,h=>by
  let e:q=(x,d):=by simpa using h
  subst e;exact fE Y
 |q::l,i+1,x,d,hn,h=>by
  let#[n1,n2]:=aO.mp hn;let h':l[i]?>>(x,d):=by simpa using h
  exact(cQ λz=>n1 (by show q.1∈_;rw[z];exact ai.mpr #[_,aH h',Y])).trans (tZ n2 h')
def Md(p:Pl):!(O×J):=p.desks.map λd=>(d.name,dE d)
abbrev rpN:!O:=["plant","day","time","came","places","by_name","loads"]
def Ku(p:Pl)(day:!o5)(s:Ws):!(O×J):=[("plant",fV p),("day",.list (day.map jU)),("time",.int s.time),("came",xT (uG s)),("places",iO (cM s)),("by_name",iO (Md p)),("loads",iO (dN s))]
def Ek(C:U)(p:Pl)(day:!o5)(s:Ws):J:=Lx C (Ku p day s)
theorem zaY(p:Pl)(day:!o5)(s:Ws):((Ku p day s).map (·.1)).Nodup:=show rpN.Nodup by symm
theorem Bb(p:Pl)(day:!o5)(s:Ws)(h:m∉rpN):m∉(Ku p day s).map (·.1):=h
theorem Kv(hn:(p.desks.map (·.name)).Nodup)(hz:z∈p.desks):gJ (Md p) z.name>>(dE z):=by let#[i,hi,e]:=eZ.mp hz;refine tZ (i:=i) (by unfold Md;rw[aj];exact hn) ?_;unfold Md;rw[ax,ao hi,e];rfl
section
theorem jd(i:Nat)(h:VE X o δ (Ek C p day s))(hf:(Ku p day s)[i]?>>(f,d))(hb:vn X o f:=by rfl):VE X (.Attribute o f pos) δ d:=RK h (tZ (zaY p day s) hf) hb
end
section
variable{P:bU}{w:c0}{K:aq}{mg:O->Option M}{base:dF}{f:U}{C:U}
abbrev qk(i:Nat):jT:=inClass (top 40) i
theorem zaZ:bW ["self","good"] ["self","good"] (bt (qk 3)):=by grind
def Rcc(C:U)(ds:!J)(d:J):Prop:=∃(p:Pl)(day:!o5)(s:Ws)(g:Nat),ds=[Ek C p day s,.int (g:Int)]/\g<day.length/\g∉s.met/\d=.bool true
theorem ze1(F:jO K "can_come" "Replay.can_come" (qk 3) f fd)(n:Na mg):dR P w K mg base ju 1 f fd ["self","good"] (gk K (Rcc C)):=
 ik F zaZ (by ext) λ_ _ h=>by
  let#[p,day,s,g,rfl,hg,hm,rfl]:=h;intro gj A outer s0 H E hr;let e1:decide (0<=(g:Int))=true:=qQ1 ();let e3:(not (decide ((g:Int)∈uG s)))=true:=by rw[Bool.not_eq_true',decide_eq_false_iff_not];intro z;let#[y,hy,e]:=ai.mp z;exact hm ([<-mL e]▸hy)
  refine aS (bL (VE.to (k8 (k1:=true) (VE.to (Ay zR Td (yW 0 (g:Int)) (yW (g:Int) ((day.map jU).length:Int)) aB 1. (λ_=>fD (ds:=day.map jU) (jd 1 0. Y) n.len)) (by rw[e1,qQ1 (by rw[ae];omega)];rfl)) (λ_=>jb (Ib hr 1. (jd 3 0. Y)))) (by rw[e3];rfl)))
abbrev Ngi:!O:=["self","names","goods","name"]
theorem UL:bW Ngi ["self","names"] (bt (qk 6)):=by grind
def Rgi(C:U)(ds:!J)(d:J):Prop:=∃(p:Pl)(day:!o5)(s:Ws)(ps:!O)(n:Nat)(dn:J),ds=[Ek C p day s,dn]/\(dn=.list (ps.map .str)\/dn=.tuple (ps.map .str))/\pA p n s/\(∀x∈ps,x∈p.gates++p.lines.map (·.1))/\ps.length<=120/\d=.list (il (gT s ps))
theorem ze3(F:jO K "goods_in" "Replay.goods_in" (qk 6) f fd):dR P w K mg base ju 1 f fd ["self","names"] (gk K (Rgi C)):=
 ik F UL (by ext) λ_ _ h=>by
  let#[p,day,s,ps,n,dn,rfl,Fq,hs,hk,hl,rfl]:=h;intro gj A outer s0 H E hr;let nd:=UL.nd;refine aD (iT 2 (dQ cO) nd) ?_;refine aD (k7 (tgt:=.one 3) bZ Y (by
   rcases Fq with rfl|rfl
   .exact eG 1.
   .exact p_ 1.) (g6 3 nd) (λi=>[.val _,.val dn,.own (il (gT s (ps.take i))),.un]) ps.length Y ([ae]▸aP _) (λi d hi hd=>?_) (.inl #[by rw[ae],Y])) ?_
  .obtain⟨x,hx,rfl⟩:∃x,ps[i]?>>x/\d=.str x:=by rw[ax,ao hi]at hd;cases hd;exact#[_,ao hi,Y]
   let#[h1,h2,_]:=hs.place (hk x (aH hx));let e:il (gT s (ps.take (i+1)))=il (gT s (ps.take i))++il (gO s x):=by unfold gT il;rw[bO,hx,aI,kX,aI];simp
   let hfl:=(tS hs (ps:=ps.take i) λy hy=>hk y (eK hy)).1;rw[a9]at hfl;rw[e];exact#[_,Y,(gW (aS (Ie 2 Y (cJ hr (jd 4 0. Y) 3. h1) (small (by rw[dW,dW];omega)))) #[.inr Y,.inr Y,.inr Y,.inl Y,trivial])]
  rw[cq];exact eJ 2 Y (aS (bL 2.))
end
theorem SQ(gs:!Nat):il gs=(gs.map λ(g:Nat)=>(g:Int)).map dq:=by unfold il;rw[aj];rfl
theorem zI(l:!Nat):Lay 20 (.tuple (il l)):=kA λd hd=>by let#[g,_,rfl]:=ai.mp hd;exact bJ _ _
theorem PZ(h:nM p)(hz:z∈p.desks):om z.to:=by
 rcases(h.desks z hz).2.1 with h|h
 .rw[h];show cj _=true;symm
 .exact h.ok.2
section
variable{P:bU}{w:c0}{K:aq}{mg:O->Option M}{base:dF}{f:U}{C:U}
abbrev Ntk:!O:=["self","desk","goods","waiting_there"]
theorem UM:bW Ntk ["self","desk","goods"] (bt (qk 4)):=by grind
def Rtk(C:U)(ds:!J)(d:J):Prop:=∃(p:Pl)(day:!o5)(s:Ws)(n:Nat)(z:Dk)(gs:!Nat),ds=[Ek C p day s,dE z,.tuple (il gs)]/\GK p/\pA p n s/\z∈p.desks/\ie s z.name=none/\gs.length<=3/\gs.Nodup/\(∀g∈gs,g∈gT s z.places)/\d=.str ""
theorem ze4(F:jO K "take_fault" "Replay.take_fault" (qk 4) f fd)(n:Na mg)(ms:mg "set"=none)(C1:qD P w K mg base 1 C "goods_in" ["self","names"] (gk K (Rgi C))):dR P w K mg base ju 2 f fd ["self","desk","goods"] (gk K (Rtk C)):=
 ik F UM (by ext) λ_ _ h=>by
  let#[p,day,s,m,z,gs,rfl,h5,hs,hz,X1,hl,MH,hf,rfl]:=h;intro gj A outer s0 H E hr;let nd:Ntk.Nodup:=UM.nd;let nc:(["good","waiting_there"]:!O).Nodup:=∎;let X2:=h5.dp z hz;let hni:(gs.map λ(g:Nat)=>(g:Int)).Nodup:=kN _ (λa b h e=>h (mL e)) MH;refine aD (cL 3 (rn C1 hr 0. (Bb p day s ∎) {gB 1 3 Y Y} #[p,day,s,z.places,m,_,Y,.inr Y,hs,X2.1,by let:=X2.2;omega,Y]) nd) ?_;let hfl:=(tS hs X2.1).1;refine aD (bE (VT.to (iz (VT.to (yl (FC (VE.to 2. (by rw[SQ])) hni (by rw[ae];omega) Y n.len ms) (iS 2. n.len)) (qQ0 (by rw[ae,dW];omega))) (λ_=>VT.to (p8 (gV (gF (lQ Y) wB {VO.ve (VO.to (eI (own:=["good"]) (cap:=[3]) (tgt:=.one 0) Y #[Y,∎,∎,Y,Y,?_] (p_ 2.) (λf s3 H3=>g6 0 nc) Y (small (by rw[dW];omega)) (λd hd=>?_)) (um _))} n.all Y) Y)) (by rw[qG];rfl))) Y) a_) ?_
  .intro j hj;rcases au.mp hj with rfl|hj
   .exact#[(by show(3:Nat)<4;decide),(by left),Y]
   .cases hj
  .let#[g,hg,rfl]:=ai.mp hd;exact Cb Y Y λf s3 H3=>VE.to (NR hr Y (bJ 20 _) (tU _) 0. 1.) (by rw[qR,qQ1 (hf g hg)])
  .let hv:=(hs.load (ai.mpr #[z,hz,Y])).1;rw[X1]at hv;exact aS (bL (sS (VT.to (eW iZ lB (cJ hr (jd 6 0. Y) (gB 1 0 Y Y) hv) eD (eM _)) Y) (λ_=>aQ) (λz=>by cases z)))
abbrev Nfm:!O:=["plant","places","to","goods"]
theorem za0:bW Nfm Nfm (bt (top 23)):=by grind
def Rfm(ds:!J)(d:J):Prop:=∃(p:Pl)(s:Ws)(n:Nat)(z:Dk)(gs:!Nat),ds=[fV p,iO (cM s),.str z.to,.tuple (il gs)]/\om z.to/\pA p n s/\(z.to≠""->z.to∈p.lines.map (·.1))/\rV p s z gs=true/\d=.bool true
theorem ze5(F:jO K "finds_room" "finds_room" (top 23) f fd)(n:Na mg):dR P w K mg base ju 1 f fd Nfm (gk K Rfm):=
 ik F za0 (by ext) λ_ _ h=>by
  let#[p,s,m,z,gs,rfl,ot,hs,ht,hf,rfl]:=h;intro gj A outer s0 H E hr;by_cases h0:z.to=""
  .exact aS (bL (VE.to (sX (k2:=false) (VE.to (oN hr (bo ot) bP 2. aQ) (by rw[bG,qQ1 h0])) (λz=>by cases z)) Y))
  .let hv:=(hs.place (aZ _ (ht h0))).1;refine aS (bL (VE.to (sX (VE.to (oN hr (bo ot) bP 2. aQ) (by rw[bG,qQ0 h0])) (λ_=>jb (Y7 (dM (fD (cJ hr 1. 2. hv) n.len) (iS 3. n.len)) (cJ hr (lR 0. (tN p)) 2. (x5 (ht h0)))))) ?_));unfold rV at hf;rw[qQ0 h0,Ew]at hf;rw[dW,dW,Ew,hf]
abbrev Npf:!O:=["self","desk","time","goods","load"]
theorem UN:bW Npf ["self","desk","time","goods"] (bt (qk 5)):=by grind
def Rpf(C:U)(ds:!J)(d:J):Prop:=∃(p:Pl)(day:!o5)(s:Ws)(n:Nat)(z:Dk)(t e:Int)(gs:!Nat),ds=[Ek C p day s,dE z,.int t,.tuple (il gs)]/\GK p/\pA p n s/\z∈p.desks/\ie s z.name>>(gs,e)/\e<=t/\rV p s z gs=true/\d=.str ""
theorem ze6(F:jO K "put_fault" "Replay.put_fault" (qk 5) f fd)(n:Na mg)(C1:bw P w K mg base 1 "finds_room" Nfm (gk K Rfm)):dR P w K mg base ju 2 f fd ["self","desk","time","goods"] (gk K (Rpf C)):=
 ik F UN (by ext) λ_ _ h=>by let#[p,day,s,m,z,t,e,gs,rfl,h5,hs,hz,X1,he,hf,rfl]:=h;intro gj A outer s0 H E hr;let nd:=UN.nd;let hv:=(hs.load (ai.mpr #[z,hz,Y])).1;rw[X1]at hv;refine aD (cL 4 (cJ hr (jd 6 0. Y) (gB 1 0 Y Y) hv) nd) ?_;refine aD (bE (VT.to (iz (VT.to (eW iZ lB 4. eD (eM _)) Y) (λ_=>VT.to (gQ hr (zI gs) (zI gs) (gB 4 0 Y Y) 3.) (by rw[o9 _ (zI gs).1];rfl))) Y) a_) ?_;refine aD (bE (VT.to (yl 2. (di 4. aB (cB Y))) (qQ0 ())) a_) ?_;exact aS (bL (sS (gV (bB C1 hr {jd 0 0. Y,jd 4 0. Y,di 1. aB (cB Y),3.} #[p,s,m,z,gs,Y,PZ h5.ok hz,hs,λh=>(h5.dp z hz).2.2.resolve_left h,hf,Y]) Y) (λ_=>aQ) (λz=>by cases z)))
end
section
variable{P:bU}{w:c0}{K:aq}{mg:O->Option M}{base:dF}{f:U}{C:U}
def Rwk(ds:!J)(d:J):Prop:=∃(p:Pl)(x y:O),ds=[fV p,.str x,.str y]/\d=.int (yI p x y)
theorem za1:bW ["plant","desk","kind"] ["plant","desk","kind"] (bt (top 22)):=by grind
theorem ze7(F:jO K "work_of" "work_of" (top 22) f fd):dR P w K mg base ju 1 f fd ["plant","desk","kind"] (gk K Rwk):=
 ik F za1 (by ext) λ_ _ h=>by let#[p,x,y,rfl,rfl]:=h;intro gj A outer s H E hr;exact aS (bL (VE.to (Cm hr (lR 0. (F3 p)) 1. 2. aB) (CN p x y)))
theorem Xg:bW ["self","name","goods"] ["self","name","goods"] (bt (qk 9)):=by grind
def za2(C:U)(ds:!J)(d:J):Prop:=∃(p:Pl)(day:!o5)(s:Ws)(x:O)(gs:!Nat),ds=[Ek C p day s,.str x,.tuple (il gs)]/\gs≠[]/\gs.length<=3/\(∀g∈gs,g<day.length)/\d=.int (CP p day x gs)
theorem za3(F:jO K "work_on" "Replay.work_on" (qk 9) f fd)(n:Na mg)(C1:bw P w K mg base 1 "work_of" ["plant","desk","kind"] (gk K Rwk)):dR P w K mg base ju 2 f fd ["self","name","goods"] (gk K (za2 C)):=
 ik F Xg (by ext) λ_ _ h=>by
  let#[p,day,s,x,gs,rfl,sj,hl,hg,rfl]:=h;intro gj A outer s0 H E hr;let n3:(["good","self","name"]:!O).Nodup:=∎;let#[Z3,Z4]:=Ei (l:=gs.map λg=>yI p x _) ↑sj;refine aS (bL (gF (xJ Y) (NM Z3 Z4) {VO.ve (VO.to (eI (own:=["good"]) (cap:=[0,1]) (tgt:=.one 0) Y #[Y,∎,∎,Y,Y,?_] (p_ 2.) (λf s3 H3=>g6 0 n3) Y (small (by rw[dW];omega)) (λd hd=>?_)) (Kp p day x gs))} n.max Y))
  .intro j hj;rcases au.mp hj with rfl|hj
   .exact#[(by show(0:Nat)<3;decide),(by left),Y]
   rcases au.mp hj with rfl|hj
   .exact#[(by show(1:Nat)<3;decide),(by left),Y]
   .cases hj
  .let#[g,hgm,rfl]:=ai.mp hd;exact Cb Y Y λf s3 H3=>bB C1 hr {jd 0 1. Y,2.,di (fU (jd 1 1. Y) 0. (cB (Eh (hg g hgm)))) aB (cB Y)} #[p,x,_,Y,Y]
theorem za4:bW ["self","entry"] ["self","entry"] (bt (qk 1)):=by grind
def Rrf(C:U)(ds:!J)(d:J):Prop:=∃(p:Pl)(day:!o5)(s:Ws)(e:We),ds=[Ek C p day s,qV e]/\GK p/\kI p/\pA p day.length s/\PJ p day s e/\Xe p s e/\s.time<=e.time/\d=.str ""
theorem P0:∀{a b:!Nat},il a=il b->a=b
 | [],[],_=>rfl
 | [],_::_,h=>by cases h
 |_::_,[],h=>by cases h
 |x::a,y::b,h=>by
  unfold il at h;injection h with h1 h2
  injection h1 with h1
  rw[mL h1,P0 h2]
theorem Mf(hs:pA p n s)(hn:(s.places.map (·.1)).Nodup):gT s (s.places.map (·.1))=fJ s:=by
 unfold gT fJ
 congr 1
 rw[aj];refine dI λq hq=>?_;let h1:=(iB (ai.mpr #[q,hq,Y])).1;rw[CM hn hq]at h1;injection h1 with h1
 injection h1 with h1
 exact(P0 h1).symm
theorem ze8(F:jO K "fault_of" "Replay.fault_of" (qk 1) f fd)(n:Na mg)(C1:qD P w K mg base 1 C "can_come" ["self","good"] (gk K (Rcc C)))(C2:qD P w K mg base 1 C "goods_in" ["self","names"] (gk K (Rgi C)))(C3:qD P w K mg base 2 C "take_fault" ["self","desk","goods"] (gk K (Rtk C)))(C4:qD P w K mg base 2 C "put_fault" ["self","desk","time","goods"] (gk K (Rpf C))):dR P w K mg base ju 3 f fd ["self","entry"] (gk K (Rrf C)):=
 ik F za4 (by ext) λ_ _ h=>by
  let#[p,day,s,e,rfl,h5,gd,hs,hv,hx,ht,rfl]:=h;intro gj A outer s0 H E hr;let eX:dB 1 _:=hr.mono ();let X1:s.loads.map (·.1)=p.desks.map (·.name):=hs.ld;let vw:∀{x:O}{X:Cx}{δ:!Slot}{aa bb:bY}{pp:Pos},VE X aa δ (.str e.word)->VE X bb δ (.str x)->Lay 20 (.str x)->dB 1 X.A->VT X (.Compare aa [.Eq] [bb] pp) δ (decide (e.word=x)):=λh1 h2 hx hr=>VT.to (fB hr (A_ e) hx h1 h2) (bG _ _);refine aD (bE (VT.to (yl (di (VE.to 1. (I_ e)) aB (cB (j:=1) Y)) (jd 2 0. Y)) (qQ0 ())) a_) ?_;cases e with
  |come t g=>exact cZ (dm (vw (gB 1 0 Y Y) aQ bP eX) (aS (bL (sS (k:=true) (gV (rn C1 eX 0. (Bb p day s ∎) {gB 1 2 Y Y} #[p,day,s,g,Y,hv.1,hv.2,Y]) Y) (λ_=>aQ) (λz=>by cases z))))) Y
  |spoil t g=>
   refine aD (bE (vw (gB 1 0 Y Y) aQ bP eX) a_) ?_;let jX:(s.places.map (·.1)).length<=120:=by rw[hs.nm,aR,ae];let:=h5.ok.gn;let:=h5.ok.ln;omega
   refine cZ (dm (vw (gB 1 0 Y Y) aQ bP eX) (aS (bL (sS (k:=true) (VT.to (JW eX Y (bJ 20 _) (tU _) (gB 1 2 Y Y) (rn C2 eX 0. (Bb p day s ∎) {VO.ve (i_ (j_ Y) wF {jd 4 0. Y} n.lst Y)} #[p,day,s,s.places.map (·.1),day.length,_,Y,.inl ?_,hs,λx hx=>[<-hs.nm]▸hx,jX,Y])) ?_) (λ_=>aQ) (λz=>by cases z))))) Y
   .unfold cM;rw[aj,aj];rfl
   .rw[qR,Mf hs ([hs.nm]▸gd.pn)];exact qQ1 hv
  |take t d gs=>let#[z,hz,rfl,hf]:=hx;let#[_,v2,v3,v4,v5,_]:=hv;let hb:=Kv gd.dn hz;refine aD (bE (vw (gB 1 0 Y Y) aQ bP eX) a_) ?_;refine aD (bE (vw (gB 1 0 Y Y) aQ bP eX) a_) ?_;exact aD (bE (VT.to (Ck eX (gB 1 2 Y Y) (jd 5 0. Y)) (by rw[hb];rfl)) a_) (cZ (dm (vw (gB 1 0 Y Y) aQ bP eX) (aS (bL (rn C3 hr 0. (Bb p day s ∎) {cJ eX (jd 5 0. Y) (gB 1 2 Y Y) hb,gB 1 3 Y Y} #[p,day,s,day.length,z,gs,Y,h5,hs,hz,v2,v4,v5,hf,Y])))) Y)
  |put t d gs=>let#[z,hz,rfl,e,hl,he,hf]:=hx;let hb:=Kv gd.dn hz;refine aD (bE (vw (gB 1 0 Y Y) aQ bP eX) a_) ?_;refine aD (bE (vw (gB 1 0 Y Y) aQ bP eX) a_) ?_;refine aD (bE (VT.to (Ck eX (gB 1 2 Y Y) (jd 5 0. Y)) (by rw[hb];rfl)) a_) ?_;exact aD (bE (vw (gB 1 0 Y Y) aQ bP eX) a_) (aS (bL (rn C4 hr 0. (Bb p day s ∎) {cJ eX (jd 5 0. Y) (gB 1 2 Y Y) hb,gB 1 1 Y Y,gB 1 3 Y Y} #[p,day,s,day.length,z,t,e,gs,Y,h5,hs,hz,hl,he,hf,Y])))
end
end Mg
namespace Mg
open L2 PySem PyProof.Rows
variable{x:U}{H Ha Hb:Hp}{K:aq}
theorem P1(h:x≠y):upd (upd H x a) y b=upd (upd H y b) x a:=by
 funext z;by_cases hx:z=x
 .subst hx;rw[L h,aM,aM]
 .by_cases hy:z=y
  .subst hy;rw[aM,L hx,aM]
  .rw[L hy,L hx,L hx,L hy]
theorem CW:upd (upd H x a) x b=upd H x b:=by
 funext z;by_cases hx:z=x
 .subst hx;rw[aM,aM]
 .rw[L hx,L hx,L hx]
theorem Kw(em:C m>>(.dK (Km s))):Rep K C (.ref m) (xT (uG s)):=by
 unfold xT uG;refine .dct em ?_ ?_
 .unfold Km;rw[aj,aj,aj];rfl
 .unfold Km;rw[aj,aj,aj];let go:∀l:!Nat,b_ K C (l.map ((λ(p:Key×V)=>p.2)∘λ(g:Nat)=>(iM g,V.bl true))) (l.map ((λ(p:J×J)=>p.2)∘(λ(g:Int)=>(dq g,iC true))∘λ(g:Nat)=>g)):=by
   intro l;induction l with
   |nil=>exact .nil
   |cons g l ih=>exact .cons (.bl true) ih
  exact go s.met
theorem sv.parts{H0 C: Hp}{a b c m:U}{cs:!U}{lv:!V}{s:Ws}(w:sv K H0 H a b c m cs lv s)(sm:cz H0 C)(at_:∀x,x∈b::c::m::cs->C x=H x):Rep K C (.ref b) (iO (cM s))/\Rep K C (.ref c) (iO (dN s))/\Rep K C (.ref m) (xT (uG s)):=by
 let ll:=w.lv.length;rw[ae]at ll;let#[k1,k2]:=ux (s:=s) ll;let#[r1,r2]:=xk sm w.ls λx hx=>at_ x (by simp[hx]);let ec:=(at_ c ∅).trans w.ld;let em:=(at_ m ∅).trans w.me;refine#[oi ((at_ b ∅).trans w.pl) ?_ ?_,oi ec (by rw[show(A8 s lv).map (·.1)=_ from k1];unfold dN;rw[aj];rfl) ?_,?_]
 .rw[r2];unfold mw cM;rw[aj,aj];rfl
 .unfold cM;rw[aj];unfold mw at r1;rwa[aj]at r1
 .rw[show(A8 s lv).map (·.2)=lv from k2];unfold dN;rw[aj];exact w.lv.mono sm
 .exact Kw em
structure SR(K:aq)(C:U):Prop where
 cl:uM K C
 na:∀f∈rpN,gw K C f
def fsR(pv:V)(ad ac ap ab al:U)(t:Int):!(O×V):=[("plant",pv),("day",.ref ad),("time",.int t),("came",.ref ac),("places",.ref ap),("by_name",.ref ab),("loads",.ref al)]
def byV(p:Pl)(bv:!V):!(Key×V):=(p.desks.zip bv).map λz=>(aL z.1.name,z.2)
structure Gu(K:aq)(C:U)(p:Pl)(day:!o5)(H0 H:Hp)(r dx:U)(pv:V)(ad ab ap al ac:U)(cs:!U)(dv bv lv:!V)(s:Ws):Prop where
 nd:(ad::ab::r::ap::al::ac::cs).Nodup
 ws:sv K H0 (upd H r (.dK (L_ ap al ac s.time))) r ap al ac cs lv s
 ins:H r>>(.ins C dx (fsR pv ad ac ap ab al s.time))
 pl:Rep K H0 pv (fV p)
 dy:H ad>>(.lst dv)
 dr:b_ K H0 dv (day.map jU)
 bh:H ab>>(.dK (byV p bv))
 br:b_ K H0 bv (p.desks.map dE)
def CY(K:aq)(C:U)(p:Pl)(day:!o5)(r:U)(s:Ws):OR:=λH0 H as=>∃dx pv ad ab ap al ac cs dv bv lv,as=ad::ab::r::ap::al::ac::cs/\Gu K C p day H0 H r dx pv ad ab ap al ac cs dv bv lv s
section
variable{K:aq}{C:U}{p:Pl}{day:!o5}{H0 H:Hp}{r dx:U}{pv:V}{ad ab ap al ac:U}{cs:!U}{dv bv lv:!V}{s:Ws}
theorem Gu.apart(w:Gu K C p day H0 H r dx pv ad ab ap al ac cs dv bv lv s):(ad≠ab/\ad≠r/\∀x∈ap::al::ac::cs,ad≠x)/\(ab≠r/\∀x∈ap::al::ac::cs,ab≠x)/\∀x∈ap::al::ac::cs,x≠r:=by let nd:=w.nd;rw[aO,aO,aO]at nd;let#[n1,n2,n3,_]:=nd;refine#[#[λe=>n1 (by simp[e]),λe=>n1 (by simp[e]),λx hx e=>n1 ([e]▸ay _ (ay _ hx))],#[λe=>n2 (by simp[e]),λx hx e=>n2 ([e]▸ay _ hx)],λx hx e=>n3 ([<-e]▸hx)]
theorem sv.mono{a b c m:U}(w:sv K H0 H a b c m cs lv s)(sm:cz H0 Ha)(e:∀x∈a::b::c::m::cs,Hb x=H x):sv K Ha Hb a b c m cs lv s:=
 #[w.nd,[e a ∅]▸w.st,[e b ∅]▸w.pl,#[w.ls.1,λi x q h1 h2=>by let#[xs,z1,z2]:=w.ls.2 i x q h1 h2;exact#[xs,[e x (by simp[aH h1])]▸z1,z2.mono sm]],[e c ∅]▸w.ld,w.lv.mono sm,[e m ∅]▸w.me]
theorem Gu.keep(w:Gu K C p day H0 H r dx pv ad ab ap al ac cs dv bv lv s)(sm:cz H0 Ha)(e:∀x∈ad::ab::r::ap::al::ac::cs,Hb x=H x):Gu K C p day Ha Hb r dx pv ad ab ap al ac cs dv bv lv s:=by
 refine#[w.nd,w.ws.mono sm λx hx=>?_,[e r ∅]▸w.ins,w.pl.mono sm,[e ad ∅]▸w.dy,w.dr.mono sm,[e ab ∅]▸w.bh,w.br.mono sm];by_cases h:x=r
 .subst h;rw[aM,aM]
 .rw[L h,L h,e x (ay _ (ay _ hx))]
theorem CY.mono:fq (CY K C p day r s):=by rintro H0 H Ha Hb as ⟨dx,pv,ad,ab,ap,al,ac,cs,dv,bv,lv,rfl,w⟩ sm e;exact#[dx,pv,ad,ab,ap,al,ac,cs,dv,bv,lv,Y,w.keep sm e]
theorem Gu.at_(w:Gu K C p day H0 H r dx pv ad ab ap al ac cs dv bv lv s)(hx:x∈ap::al::ac::cs){o:HO}:upd H r o x=H x:=L (w.apart.2.2 x hx)
theorem Kx{p:Pl}:∀{ds:!Dk}{bv:!V},bv.length=ds.length->((ds.zip bv).map λz=>((aL z.1.name:Key),z.2)).map (·.1)=ds.map (λd=>(aL d.name:Key))/\((ds.zip bv).map λz=>((aL z.1.name:Key),z.2)).map (·.2)=bv
 | [],[],_=>#[Y,Y]
 | [],_::_,h=>by cases h
 |_::_,[],h=>by cases h
 |q::ds,v::bv,h=>by let#[i1,i2]:=Kx (p:=p) ↑h;exact#[by rw[cg,av,av,i1];rfl,by rw[cg,av,av,i2]]
theorem CY.rep(c:SR K C)(Ha Hb:Hp)(as:!U)(sb:cz Ha Hb)(h:CY K C p day r s Ha Hb as):Rep K (gK as Hb Ha) (.ref r) (Ek C p day s):=by let#[dx,pv,ad,ab,ap,al,ac,cs,dv,bv,lv,rfl,w]:=h;let sm:=kS (as:=ad::ab::r::ap::al::ac::cs) sb;let mm:∀x∈ad::ab::r::ap::al::ac::cs,gK (ad::ab::r::ap::al::ac::cs) Hb Ha x=Hb x:=λx hx=>f7 hx;generalize gK (ad::ab::r::ap::al::ac::cs) Hb Ha=Ma at *;let#[p1,p2,p3]:=w.ws.parts sm λx hx=>[w.at_ hx]▸mm x (ay _ (ay _ (ay _ hx)));let ll:=w.br.length;rw[ae]at ll;let#[k1,k2]:=Kx (p:=p) ll;refine Rep.VL (fs:=fsR pv ad ac ap ab al s.time) ((mm r ∅).trans w.ins) c.cl c.na Y (.cons (w.pl.mono sm) (.cons (.lst (jW.of ((mm ad ∅).trans w.dy)) (w.dr.mono sm)) (.cons (.int _) (.cons p3 (.cons p1 (.cons ?_ (.cons p2 .nil)))))));refine oi ((mm ab ∅).trans w.bh) (by rw[show(byV p bv).map (·.1)=_ from k1];unfold Md;rw[aj];rfl) ?_;rw[show(byV p bv).map (·.2)=bv from k2];unfold Md;rw[aj];exact w.br.mono sm
theorem CY.tV(Ha Hb:Hp)(as:!U)(h:CY K C p day r s Ha Hb as):∀x∈as,rm Hb x:=by
 let#[dx,pv,ad,ab,ap,al,ac,cs,dv,bv,lv,rfl,w]:=h;intro x hx xs;rcases au.mp hx with rfl|hx
 .rw[w.dy];exact#[nofun,λo z=>by cases z]
 rcases au.mp hx with rfl|hx
 .rw[w.bh];exact#[nofun,λo z=>by cases z]
 rcases au.mp hx with rfl|hx
 .rw[w.ins];exact#[nofun,λo z=>by cases z]
 .let:=rW.tV Ha _ _ #[ap,al,ac,cs,lv,Y,w.ws] x (ay _ hx) xs;rwa[w.at_ hx]at this
theorem Gu.step(w:Gu K C p day H0 H r dx pv ad ab ap al ac cs dv bv lv s){o:HO}{MJ:!U}{IY:!V}{s':Ws}(hx:x∈ap::al::ac::cs)(nd:(ad::ab::r::ap::al::ac::MJ).Nodup)(h:sv K H0 (upd (upd H r (.dK (L_ ap al ac s.time))) x o) r ap al ac MJ IY s')(ht:s'.time=s.time:=by rfl):Gu K C p day H0 (upd H x o) r dx pv ad ab ap al ac MJ dv bv IY s':=by let#[#[_,_,a3],#[_,b2],c1]:=w.apart;refine#[nd,[ht,<-P1 (c1 x hx).symm]▸h,[L (c1 x hx).symm,ht]▸w.ins,w.pl,[L (a3 x hx)]▸w.dy,w.dr,[L (b2 x hx)]▸w.bh,w.br]
theorem Mh(pv:V)(ad ac ap ab al:U)(t t':Int):nB "time" (.int t') (fsR pv ad ac ap ab al t)=fsR pv ad ac ap ab al t':=by rfl
theorem Gu.timed(w:Gu K C p day H0 H r dx pv ad ab ap al ac cs dv bv lv s)(t:Int):Gu K C p day H0 (upd H r (.ins C dx (fsR pv ad ac ap ab al t))) r dx pv ad ab ap al ac cs dv bv lv (jE s t):=by let#[#[_,a2,_],#[b1,_],_]:=w.apart;refine#[w.nd,?_,aM,w.pl,[L a2]▸w.dy,w.dr,[L b1]▸w.bh,w.br];let:=w.ws.timed t;rw[PB,CW]at this;rwa[CW]
def KR(K:aq)(C:U)(p:Pl)(day:!o5)(GJ:!U)(r:U)(s:Ws):OR:=λH0 H as=>(∀a∈as,rm H a/\H a≠none)/\yt GJ (CY K C p day r s) H0 H as
theorem KR.mono:fq (KR K C p day GJ r s):=λH0 H Ha Hb as #[h1,h2] sm e=>#[λa ha=>by unfold rm;rw[e a ha];exact h1 a ha,yt.mono CY.mono H0 H Ha Hb as h2 sm e]
theorem KR.tV(Ha Hb:Hp)(as:!U)(h:KR K C p day GJ r s Ha Hb as):∀a∈as,rm Hb a:=λa ha=>(h.1 a ha).1
theorem KR.rep(c:SR K C)(Ha Hb:Hp)(as:!U)(sb:cz Ha Hb)(h:KR K C p day GJ r s Ha Hb as):Rep K (gK as Hb Ha) (.ref r) (Ek C p day s):=by
 let#[_,_,oj,h2,h3]:=h;refine(CY.rep c Ha Hb oj sb h3).mono λx u e=>?_;by_cases hx:x∈oj
 .rw[f7 hx]at e;rwa[f7 (h2 x hx)]
 .rw[gf hx]at e;by_cases hy:x∈as
  .rw[f7 hy];exact sb x u e
  .rwa[gf hy]
theorem KR.ins(hm:m∉rpN)(Ha Hb:Hp)(as:!U)(h:KR K C p day GJ r s Ha Hb as):∃dx fs,Hb r>>(.ins C dx fs)/\fs.lookup m=none:=by let#[_,_,oj,h2,dx,pv,ad,ab,ap,al,ac,cs,dv,bv,lv,rfl,w]:=h;exact#[dx,_,w.ins,vE hm]
theorem Bc(own:∀a∈as,H0 a=none/\H a≠none)(h:CY K C p day r s H0 H as)(f:fM K H0 H H0 H σ δ)(hn:noOwn δ=true):OF K H0 (pj as H) (KR K C p day as r s) H0 H σ δ:=by let#[f',n',as',h1,h2]:=DY own h f hn;refine#[f',n',as,λa ha=>#[(own a ha).1,pM ha,(own a ha).2],λa ha=>#[h.tV _ _ _ a ha,(own a ha).2],λ_ z=>z,as,λ_ z=>z,h]
def isT:HO->Bool
 | .tup _=>true
 | .oJ _ (.tup _)=>true
 |_=>false
theorem Rp.put(G:OF K B0 B (KR K C p day GJ r s) H0 H σ δ):∃dx pv ad ab ap al ac cs dv bv lv,Gu K C p day H0 H r dx pv ad ab ap al ac cs dv bv lv s/\∀{Ha Hb:Hp}(_:cP H0 H Ha Hb){x:U}{o:HO}{s':Ws}{IY:!V},x∈r::ap::al::ac::cs->isT o=false->(Gu K C p day Ha Hb r dx pv ad ab ap al ac cs dv bv lv s->Gu K C p day Ha (upd Hb x o) r dx pv ad ab ap al ac cs dv bv IY s')->OF K B0 B (KR K C p day GJ r s') Ha (upd Hb x o) σ δ:=by
 let#[as,#[h0,h1,oj,h2,dx,pv,ad,ab,ap,al,ac,cs,dv,bv,lv,rfl,w],put]:=G.puts KR.mono;refine#[dx,pv,ad,ab,ap,al,ac,cs,dv,bv,lv,w,λ{Ha Hb}g{x o s' IY}hx ho k=>put g (h2 x (ay _ (ay _ hx))) #[as,λ_ z=>z,λa ha=>?_,h1,_,h2,dx,pv,ad,ab,ap,al,ac,cs,dv,bv,IY,Y,k (w.keep g.eV λy hy=>?_)]]
 .by_cases e:a=x
  .subst e;rw[aM];refine#[λxs=>?_,nofun];rw[aM];exact#[λz=>(by rw[cv z]at ho;cases ho),λu z=>(by rw[cv z]at ho;cases ho)]
  .unfold rm;rw[L e,g.big.eq (h0 a ha).2];exact h0 a ha
 .exact g.big.eq (h0 y (h2 y hy)).2
theorem Jd(G:OF K H0 (pj as H) (KR K C p day as r s) Ha Hb σ δ):cz H0 Ha/\cz Ha Hb/\(∀a,Ha a≠none->H0 a≠none\/H a=none)/\(∀b o,H b>>o->b∉as->Hb b>>o)/\(∀a∈as,rm Hb a/\Hb a≠none)/\∃as',(∀a∈as',Ha a=none/\Hb a≠none/\(a∈as\/H a=none))/\CY K C p day r s Ha Hb as':=by let#[z1,z2,z3,z4,z5]:=Ow (G.imp λ_ z=>z.2);let#[bs,_,h0,h1,_]:=G.ex;exact#[z1,z2,z3,z4,λa ha=>h0 a (h1 a ha),z5]
theorem KR.cut(Ha Hb:Hp)(as:!U)(h:KR K C p day GJ r s Ha Hb as):∃oj,(∀a∈oj,a∈as)/\CY K C p day r s Ha Hb oj/\∀Hc Hd a3,cz Ha Hc->(∀a∈as,a∉oj->Hd a=Hb a)->(∀a∈oj,rm Hd a/\Hd a≠none)->(∀a∈a3,Hd a≠none)->CY K C p day r s' Hc Hd a3->KR K C p day GJ r s' Hc Hd (a3++as):=by
 let#[h0,h1,oj,h2,h3]:=h;refine#[oj,h2,h3,λHc Hd a3 sm k1 k2 k3 rr=>#[λa ha=>?_,λa ha=>aZ _ (h1 a ha),a3,λa ha=>bH _ ha,rr]];rcases aT.mp ha with ha|ha
 .exact#[rr.tV _ _ _ a ha,k3 a ha]
 .by_cases hn:a∈oj
  .exact k2 a hn
  .unfold rm;rw[k1 a ha hn];exact h0 a ha
end
end Mg
namespace Mg
open L2 PySem PyProof.Rows
seal L2.VE L2.VS L2.vz L2.VT L2.VO L2.Fd
variable{D:Ends}{fd:fW}{σ:L2.St}{gs:!Nat}{δ:!Slot}{ps:!O}{x:O}{s:Ws}
def oY(s:Ws)(ps:!O)(gs:!Nat):Ws:=ps.foldl (λs x=>oX s x (flt gs)) s
theorem Je{k:Nat}(h:ps[k]?>>x):oY s (ps.take (k+1)) gs=oX (oY s (ps.take k) gs) x (flt gs):=by unfold oY;rw[bO,h,eB];rfl
theorem t_(s:Ws)(gs:!Nat):∀ps:!O,(oY s ps gs).places.map (·.1)=s.places.map (·.1):=λps=>by
 unfold oY;induction ps generalizing s with
 |nil=>rfl
 |cons x ps ih=>rw[lF,ih,x6]
theorem SV(gs l:!Nat):(flt gs l).length<=l.length:=List.length_filter_le _ _
theorem Mj(h:∀q∈s.places,q.2.length<=30):∀ps:!O,∀q∈(oY s ps gs).places,q.2.length<=30:=λps=>by
 unfold oY;induction ps generalizing s with
 |nil=>exact h
 |cons x ps ih=>
  refine ih λq hq=>?_;let#[z,hz,rfl]:=ai.mp hq;split
  .exact bA (SV _ _) (h z hz)
  .exact h z hz
def za7(s:Ws)(d2:!J)(s':Ws):Prop:=∃(ps:!O)(gs:!Nat)(dn:J),d2=[dn,.tuple (il gs)]/\(dn=.list (ps.map .str)\/dn=.tuple (ps.map .str))/\(s.places.map (·.1)).Nodup/\s.places.length<=120/\(∀q∈s.places,q.2.length<=30)/\(∀x∈ps,x∈s.places.map (·.1))/\s'=oY s ps gs
section
variable{K:aq}{C:U}{pl:Pl}{day:!o5}
abbrev Ncf:!O:=["self","names","goods","name"]
theorem UO:bW Ncf ["self","names","goods"] (bt (qk 7)):=by grind
theorem Xh(g:Nat)(gs:!Nat):lz (.int (g:Int)) (.tuple (il gs))=decide (g∈gs):=(qR g gs)
theorem ze9{P:bU}{w:c0}{mg:O->Option M}{base:dF}{f:U}(F:jO K "clear_from" "Replay.clear_from" (qk 7) f fd)(c:SR K C):dR P w K mg base ju 1 f fd ["self","names","goods"] (vF K Ws (CY K C pl day) za7):=by
 refine F.ok UO (λvs H Q E h=>?_) (λgj A outer s0 H vs Q E hr h=>?_)
 .let#[H0,a,v2,as,s,s',d2,rfl,sm,r2,own,W,#[ps,gs,dn,rfl,_],q]:=h;rw[a8,r2.length];rfl
 .let#[H0,r,v2,as,s,s',d2,rfl,sm,r2,own,W,#[ps,gs,dn,rfl,Fq,hn,za8,Eg,BF,rfl],q]:=h;refine#[_,ly,?_];let nc:(["good","goods"]:!O).Nodup:=∎;cases r2 with
  |cons q1 t1=>
  cases t1 with
  |cons q2 t2=>
  cases t2
  rename_i u1 u2
  let f0:fM K H0 H H0 H (start Ncf [.ref r,u1,u2]) [.ref r,.val dn,.val (.tuple (il gs)),.un]:=by
   refine#[.refl sm,Y,λi sl hi=>?_,λi j a b p' _ h1=>?_]
   .match i,hi with
    |0,hi=>cases hi;exact Y
    |1,hi=>cases hi;exact#[_,Y,q1]
    |2,hi=>cases hi;exact#[_,Y,q2]
    |3,hi=>cases hi;exact trivial
    |i+4,hi=>simp at hi
   .exact qQ7 h1 (fK (δ:=[.ref r,.val dn,.val (.tuple (il gs)),.un]) Y i _)
  let G0:=Bc own W f0 Y;let eX:dB 0 _:=hr;refine bK (yr (tgt:=.one 3) (ds:=ps.map .str) (λk=>KR K C pl day as r (oY s (ps.take k) gs)) (λ_=>KR.mono) G0 bZ Y (by
   rcases Fq with rfl|rfl
   .exact eG 1.
   .exact p_ 1.) (g6 3 UO.nd) (λk d hd=>?_) λσ2 H2 fA G2=>?_)
  .obtain⟨x,hx,rfl⟩:∃x,ps[k]?>>x/\d=.str x:=by
    rw[ax]at hd;cases e:ps[k]? with
    |none=>rw[e]at hd;cases hd
    |some z=>rw[e]at hd;cases hd;exact#[z,Y,Y]
   generalize hS:oY s _ gs=S;let MA:(S.places.map (·.1)).Nodup:=[<-hS,t_]▸hn;let hxm:x∈S.places.map (·.1):=[<-hS,t_]▸BF x (aH hx);let hl':S.places.length<=120:=by let:=qQ6 dX (t_ s gs (ps.take k));rw[ae,ae,hS]at this;omega
   let#[z1,z2]:=iB hxm;let z30:(gO S x).length<=30:=by rw[<-hS]at z2 ⊢;exact Mj Eg _ _ z2
   rw[Je hx,hS];refine#[_,Y,Y,λD C0 σ' cY H' G1 post=>?_];let#[dx,pv,ad,ab,ap,al,ac,cs,dv,bv,lv,w1,_]:=Rp.put G1;refine bK (WG (κ:=aL x) KR.mono G1 eX 0 Y (KR.rep c) w1.ins c.cl (c.na _ ∎) Y (VO.to (eI (own:=["good"]) (cap:=[2]) (tgt:=.one 0) Y #[Y,∎,∎,Y,Y,?_] (eG (cJ eX (jd 4 0. Y) 3. z1)) (λf s3 H3=>g6 0 nc) Y (small (by rw[dW];omega)) (λd hd=>?_)) (zF gs _)) Kn (lA 3.) ?_ (λH2 fA G2=>post _ _ _ (G2.forget KR.mono #[.inr Y,.inr Y,.inr Y,.inl Y,trivial] Y)))
   .intro j hj;rcases au.mp hj with rfl|hj
    .exact#[(by show(2:Nat)<4;decide),(by left),Y]
    .cases hj
   .let#[g,hg,rfl]:=ai.mp hd;refine#[_,Y,λf s3 H3=>pJ (VT.to (Ab eX Y (bJ 20 _) (zI _) 0. 1.) ?_),λr kL f s3 H3=>?_]
    .show _=(if(not (lz _ _))=true then some (dq g)else none).isSome;rw[Xh,qR];cases decide (g∈gs)<;>rfl
    .let kL:(if(not (lz _ _))=true then some (dq g)else none)>>r:=kL;split at kL
     .cases kL;exact mR 0 Y
     .cases kL
   .rintro Ha Hb as' ⟨h0,h1,oj,h2,dx',pv',ad',ab',ap',al',ac',MJ,dv',bv',IY,rfl,w⟩ hi;let XH:=w.ins;rw[hi]at XH;let ef:=qQ6 (λo:Option HO=>match o with|some (.ins _ _ f)=>f.lookup ("places":O)|_=>none) XH;let eap:ap=ap':=by let e:=ef;cases e;rfl
    subst eap;let#[j,pp,hj,hc,hm,_,_]:=w.ws.at MA z2;refine#[_,h2 ap ∅,[<-w.at_ ∅]▸w.ws.pl,?_,λp' xs Qi Qj rr=>?_]
    .let hlen:(o_ (mw S) MJ).length<=S.places.length:=by unfold o_ mw;rw[ae,jM,ae];omega
     exact fh ()
    .let O4:=λy=>Qi (h2 _ y);let hlw:upd Hb r (.dK (L_ ap al' ac' S.time)) p'>>(.lst (nV (flt gs (gO S x)))):=by rw[L (λz=>O4 (by rw[z];simp)),Qj,uy rr]
     let wn:=w.ws.zaN MA hj hc (λy=>O4 (ay _ (ay _ y))) hlw;let z_:∀z∈r::ap::al'::ac'::MJ.set j p',z=p'\/z∈r::ap::al'::ac'::MJ:=λz hz=>by
      simp only[au]at hz ⊢;rcases hz with h|h|h|h|h
      .exact .inr (.inl h)
      .exact .inr (.inr (.inl h))
      .exact .inr (.inr (.inr (.inl h)))
      .exact .inr (.inr (.inr (.inr (.inl h))))
      .rcases kO h with h|h
       .exact .inr (.inr (.inr (.inr (.inr h))))
       .exact .inl h
     let n0:=w.nd;rw[aO,aO]at n0;let#[n1,n2,_]:=n0;let nd':(ad'::ab'::r::ap::al'::ac'::MJ.set j p').Nodup:=by
      refine aO.mpr #[λh=>?_,aO.mpr #[λh=>?_,wn.nd]]
      .rcases au.mp h with h|h
       .exact n1 (by rw[h];simp)
       .rcases z_ _ h with h|h
        .exact O4 (by rw[<-h];simp)
        .exact n1 (ay _ h)
      .rcases z_ _ h with h|h
       .exact O4 (by rw[<-h];simp)
       .exact n2 h
     refine#[p'::as',λz hz=>au.mp hz,λz hz=>?_,λz hz=>ay _ (h1 z hz),_,λz hz=>?_,dx',pv',ad',ab',ap,al',ac',_,dv',bv',IY,Y,w.step ∅ nd' wn]
     .unfold rm;by_cases e:z=ap
      .rw[e,aM];exact#[λxs=>#[λz=>(by cases z),λo z=>(by cases z)],λz=>by cases z]
      .rw[L e];rcases au.mp hz with h|h
       .rw[h,Qj];exact#[λxs=>#[λz=>(by cases z),λo z=>(by cases z)],λz=>by cases z]
       .exact h0 z h
     .rcases au.mp hz with h|hz
      .rw[h];exact ay _ (h2 _ ∅)
      rcases au.mp hz with h|hz
      .rw[h];exact ay _ (h2 _ ∅)
      rcases z_ z hz with h|h
      .rw[h];simp
      .exact ay _ (h2 _ (ay _ (ay _ h)))
  .rw[ae,cq]at G2;let#[z1,z2,z3,z4,z6,as',z5,w]:=Jd G2;exact q _ _ as' z1 z2 z3 z5 z4 z6 w
end
theorem SW(gs l:!Nat):flt gs (flt gs l)=flt gs l:=by unfold flt;rw[List.filter_filter];simp
theorem P2(h:∀g∈gs,g∉l):flt gs l=l:=by unfold flt;rw[List.filter_eq_self];intro x hx;rw[qQ0 λz=>h x z hx];rfl
theorem Gv(gs:!Nat):∀(ps:!O)(s:Ws),oY s ps gs={ s with places:=s.places.map λq=>if q.1∈ps then(q.1,flt gs q.2)else q }
 | [],s=>by unfold oY;cases s;simp
 |x::ps,s=>by
  let e:oY s (x::ps) gs=oY _ ps gs:=Y;rw[e,Gv gs ps];unfold oX;rw[aj]
  congr 1
  refine dI λq _=>?_;show(if(if q.1=x then(q.1,flt gs q.2)else q).1∈ps then((if q.1=x then(q.1,flt gs q.2)else q).1,flt gs (if q.1=x then(q.1,flt gs q.2)else q).2) else(if q.1=x then(q.1,flt gs q.2)else q))=_;by_cases h:q.1=x
  .rw[qQ3 h,qQ3 (show q.1∈x::ps by rw[h];simp)];split
   .show(q.1,flt gs _)=_;rw[SW]
   .rfl
  .rw[qQ2 h];by_cases h2:q.1∈ps
   .rw[qQ3 h2,qQ3 (ay _ h2)]
   .rw[qQ2 h2,qQ2 λz=>(au.mp z).elim h h2]
theorem CZ(h:∀q∈s.places,q.1∉ps->∀g∈gs,g∉q.2):oY s ps gs=xl s gs:=by
 rw[Gv]
 congr 1
 refine dI λq hq=>?_;by_cases h1:q.1∈ps
 .rw[qQ3 h1]
 .rw[qQ2 h1,P2 (h q hq h1)]
theorem P4(hs:pA p n s)(hk:∀x∈ps,x∈p.gates++p.lines.map (·.1))(hg:g∈gT s ps):∀q∈s.places,q.1∉ps->g∉q.2:=by
 intro q hq hn hgq;let#[l,hl,Ub]:=hG.mp hg;let#[y,hy,rfl]:=ai.mp hl;let hm:=(iB ([hs.nm]▸hk y hy)).2;let#[i,hi,ei]:=eZ.mp hq;let#[j,hj,ej]:=eZ.mp hm;let Bl:i≠j:=λz=>by subst z;rw[ei]at ej;exact hn ([ej]▸hy)
 let pw:=(uc.mp hs.pn).2;rw[iD]at pw;let li:i<(s.places.map (·.2)).length:=[ae]▸hi;let lj:j<(s.places.map (·.2)).length:=[ae]▸hj;rcases Nat.lt_or_gt_of_ne Bl with h|h
 .exact pw i j li lj h g ([kK,ei]▸hgq) g ([kK,ej]▸Ub) Y
 .exact pw j i lj li h g ([kK,ej]▸Ub) g ([kK,ei]▸hgq) Y
theorem Ml(a b:!Nat):nV (a++b)=nV a++nV b:=by unfold nV;rw[aI]
def zbb(s:Ws)(d2:!J)(s':Ws):Prop:=∃(to:O)(gs:!Nat),d2=[.str to,.tuple (il gs)]/\om to/\gs.length<=3/\(s.places.map (·.1)).Nodup/\(∀q∈s.places,q.2.length<=30)/\(to≠""->to∈s.places.map (·.1))/\s'=if to="" then s else oX s to λl=>l++gs
section
variable{P:bU}{w:c0}{K:aq}{mg:O->Option M}{base:dF}{f:U}{C:U}{pl:Pl}{day:!o5}
theorem zbc:bW ["self","line","goods"] ["self","line","goods"] (bt (qk 8)):=by grind
theorem zfa(F:jO K "put_behind" "Replay.put_behind" (qk 8) f fd)(c:SR K C):dR P w K mg base ju 1 f fd ["self","line","goods"] (vF K Ws (CY K C pl day) zbb):=by
 refine F.ok zbc (λvs H Q E h=>?_) (λgj A outer s0 H vs Q E hr h=>?_)
 .let#[H0,a,v2,as,s,s',d2,rfl,sm,r2,own,W,#[to,gs,rfl,_],q]:=h;rw[a8,r2.length];rfl
 .let#[H0,r,v2,as,s,s',d2,rfl,sm,r2,own,W,#[to,gs,rfl,ot,h3,hn,Eg,BF,rfl],q]:=h;refine#[_,ly,?_];cases r2 with
  |cons q1 t1=>
  cases t1 with
  |cons q2 t2=>
  cases t2
  rename_i u1 u2
  let f0:fM K H0 H H0 H (start ["self","line","goods"] [.ref r,u1,u2]) [.ref r,.val (.str to),.val (.tuple (il gs))]:=by
   refine#[.refl sm,Y,λi sl hi=>?_,λi j a b p' _ h1=>?_]
   .match i,hi with
    |0,hi=>cases hi;exact Y
    |1,hi=>cases hi;exact#[_,Y,q1]
    |2,hi=>cases hi;exact#[_,Y,q2]
    |i+3,hi=>simp at hi
   .exact qQ7 h1 (fK (δ:=[.ref r,.val _,.val _]) Y i _)
  let G0:=Bc own W f0 Y;let eX:=hr;let fin:∀{s':Ws}{σ':L2.St}{Ha Hb:Hp}{δ':!Slot},OF K H0 _ (KR K C pl day as r s') Ha Hb σ' δ'->(s'=if to="" then s else oX s to λl=>l++gs)->Q .non Hb:=λG e=>by subst e;let#[z1,z2,z3,z4,z6,as',z5,w]:=Jd G;exact q _ _ as' z1 z2 z3 z5 z4 z6 w
  by_cases h0:to=""
  .exact bK (nW KR.mono G0 (VT.to (gQ eX (bo ot) bP 1. aQ) (by rw[bG,qQ1 h0];rfl)) λHa Hb G1=>(rj (fin G1 (by rw[qQ3 h0]))))
  .refine bK (wI KR.mono G0 (VT.to (gQ eX (bo ot) bP 1. aQ) (by rw[bG,qQ0 h0];rfl)) λHa Hb G1=>?_);let#[dx,pv,ad,ab,ap,al,ac,cs,dv,bv,lv,w,put]:=Rp.put G1;let#[_,hq]:=iB (BF h0);let#[j,pp,hj,hc,hm,hv,hH]:=w.ws.at hn hq;let hpp:pp∈ap::al::ac::cs:=by simp[hm]
   rw[w.at_ hpp]at hH;let jX:=w.ws.pl;rw[w.at_ ∅]at jX;refine bK (ZP (κ:=aL to) KR.mono G1 eX 0 Y w.ins c.cl (c.na _ ∎) Y jX (lA 1.) hv hH (lA 2.) (small (by unfold nV;rw[ae,dW];let:=Eg _ hq;omega)) λzs Ha Hb gr r=>?_);rw[uy r,<-Ml];let G2:=put gr (by simp[hm]) Y λw=>w.step hpp w.nd (w.ws.set hn hj hc λl=>l++gs);exact fin G2 (by rw[qQ2 h0])
theorem zbe:bW ["self","entry"] ["self","entry"] (bt (qk 2)):=by grind
def zbf(p:Pl)(day:!o5)(s:Ws)(d2:!J)(s':Ws):Prop:=∃e:We,d2=[qV e]/\MP p day/\Jb p day.length s/\PJ p day s e/\Xe p s e/\s'=qW p day s e
theorem P5(l:!O):xS (.tuple (l.map .str)):=.tup λd hd=>by let#[x,_,rfl]:=ai.mp hd;exact .str x
theorem zfb(F:jO K "enter" "Replay.enter" (qk 2) f fd)(n:Na mg)(c:SR K C)(C1:qD P w K mg base 1 C "clear_from" ["self","names","goods"] (vF K Ws (CY K C pl day) za7))(C2:qD P w K mg base 1 C "put_behind" ["self","line","goods"] (vF K Ws (CY K C pl day) zbb))(C3:qD P w K mg base 2 C "work_on" ["self","name","goods"] (gk K (za2 C))):dR P w K mg base ju 3 f fd ["self","entry"] (vF K Ws (CY K C pl day) (zbf pl day)):=by
 refine F.ok zbe (λvs H Q E h=>?_) (λgj A outer s0 H vs Q E hr h=>?_)
 .let#[H0,a,v2,as,s,s',d2,rfl,sm,r2,own,W,#[e,rfl,_],q]:=h;rw[a8,r2.length];rfl
 .let#[H0,r,v2,as,s,s',d2,rfl,sm,r2,own,W,#[e,rfl,ok,hV,hv,hx,rfl],q]:=h;refine#[_,ly,?_];cases r2 with
  |cons q1 t1=>
  cases t1
  rename_i u1
  let f0:fM K H0 H H0 H (start ["self","entry"] [.ref r,u1]) [.ref r,.val (qV e)]:=by
   refine#[.refl sm,Y,λi sl hi=>?_,λi j a b p' _ h1=>?_]
   .match i,hi with
    |0,hi=>cases hi;exact Y
    |1,hi=>cases hi;exact#[_,Y,q1]
    |i+2,hi=>simp at hi
   .exact qQ7 h1 (fK (δ:=[.ref r,.val (qV e)]) Y i _)
  let G0:=Bc own W f0 Y;let eX:dB 1 _:=hr.mono ();let hs:=hV.ok;let hp:=ok.p5;let gd:=ok.gd;let Kq:(s.places.map (·.1)).Nodup:=[hs.nm]▸gd.pn;let n30:=hs.n30;let jX:s.places.length<=120:=by let:=qQ6 dX hs.nm;rw[ae,aR,ae]at this;let:=hp.ok.gn;let:=hp.ok.ln;omega
  let X1:s.loads.length<=60:=by let:=qQ6 dX hs.ld;rw[ae,ae]at this;let:=hp.ok.dn;omega
  let Eg:∀z∈s.places,z.2.length<=30:=λz hz=>bA (uw hz) hs.few;let fin:∀{s':Ws}{σ':L2.St}{Ha Hb:Hp}{δ':!Slot},OF K H0 (pj as H) (KR K C pl day as r s') Ha Hb σ' δ'->s'=qW pl day s e->Q .non Hb:=λG e=>by subst e;let#[z1,z2,z3,z4,z6,as',z5,w]:=Jd G;exact q _ _ as' z1 z2 z3 z5 z4 z6 w
  let lld:∀{ls:!(O×Option (!Nat×Int))}{lv:!V},((ls.zip lv).map λz=>((aL z.1.1:Key),z.2)).length<=ls.length:=λ{ls lv}=>by rw[ae,jM];omega
  let#[dx,pv,ad,ab,ap,al,ac,cs,dv,bv,lv,w,put]:=Rp.put G0;refine bT (Oz G0 0 Y w.ins c.cl (c.na _ ∎) (by show 7<1000;decide) (lA (di (VE.to 1. (I_ e)) aB (cB (j:=1) Y))) λv Ha Hb g rr=>?_);cases rr;rw[Mh];let G1:=put g (x:=r) ∅ Y λw=>w.timed e.time;clear put w;let vw:∀{x:O}{X:Cx}{δ:!Slot}{aa bb:bY}{pp:Pos},VE X aa δ (.str e.word)->VE X bb δ (.str x)->Lay 20 (.str x)->dB 1 X.A->VT X (.Compare aa [.Eq] [bb] pp) δ (decide (e.word=x)):=λh1 h2 hx hr=>VT.to (fB hr (A_ e) hx h1 h2) (bG _ _);cases e with
  |come t g=>
   let#[PH,HC]:=hv;let Wy:=ok.gt g PH;refine bK (wI KR.mono G1 (vw (gB 1 0 Y Y) aQ bP eX) λHa Hb G2=>?_);let#[dx,pv,ad,ab,ap,al,ac,cs,dv,bv,lv,w,put]:=Rp.put G2;let WZ:=w.ws.me;rw[w.at_ ∅]at WZ;refine bT (Fz (κ:=iM (g:Int)) KR.mono G2 eX 0 Y w.ins c.cl (c.na _ ∎) Y WZ (lA (gB 1 2 Y Y)) (lA B_) (fh (by unfold Km;rw[ae];let:=hs.mn;show s.met.length<=_;omega)) λv Ha Hb gr rr=>?_);cases rr;let G3:=put gr (x:=ac) ∅ Y λw=>w.step ∅ w.nd (w.ws.zaM HC);clear put w WZ;let#[dx,pv,ad,ab,ap,al,ac,cs,dv,bv,lv,w,put]:=Rp.put G3;let hq:=(iB (s:=s) (x:=pT day g) ([hs.nm]▸bH _ Wy)).2;let#[j,pp,hj,hc,hm,hvv,hH]:=w.ws.at Kq hq;let hpp:pp∈ap::al::ac::cs:=by simp[hm]
   rw[w.at_ hpp]at hH;let zbg:=w.ws.pl;rw[w.at_ ∅]at zbg;refine bK (ZO (κ:=aL (pT day g)) KR.mono G3 eX 0 Y w.ins c.cl (c.na _ ∎) Y zbg (DZ 0 Y (KR.rep c) KR.tV (di (fU (jd 1 0. Y) (gB 1 2 Y Y) (cB (Eh PH))) aB (cB (j:=1) Y)) (.str _)) hvv hH (lA (gB 1 2 Y Y)) (fh (by unfold nV;rw[ae];let:=Eg _ hq;omega)) λv Ha Hb gr rr=>?_);cases rr;let e:nV (gO s (pT day g)) ++ [V.int (g:Int)]=nV (gO s (pT day g) ++ [g]):=by unfold nV;rw[aI];rfl
   rw[e];let G4:=put gr (x:=pp) (by simp[hm]) Y λw=>w.step hpp w.nd (w.ws.set Kq hj hc λl=>l ++ [g]);exact fin G4 Y
  |spoil t g=>
   refine bK (nW KR.mono G1 (vw (gB 1 0 Y Y) aQ bP eX) λHa Hb G2=>?_);refine bK (wI KR.mono G2 (vw (gB 1 0 Y Y) aQ bP eX) λHa Hb G3=>?_);refine bK (D1 (s:=jE s t) C1 eX G3 KR.mono (KR.ins ∎) 0 Y (rq KR.mono (WD 0 Y (KR.rep c) (i_ (j_ Y) wF {jd 4 0. Y} n.lst Y) (λd hd=>by let#[z,_,rfl]:=ai.mp hd;rfl)) (rq KR.mono (lA (VE.to (fc {gB 1 2 Y Y}) Y)) D0)) #[s.places.map (·.1),[g],_,Y,.inl ?_,Kq,jX,Eg,λx hx=>hx,?_] KR.cut λcY H' G4=>fin G4 Y)
   .unfold cM;rw[aj,aj];rfl
   .exact(CZ λq hq hn=>qQ7 (ai.mpr #[q,hq,Y]) hn).symm
  |take t d gs=>
   let#[z,hz,rfl,hf]:=hx;let#[_,v2,v3,v4,v5,v6]:=hv;let hb:=Kv gd.dn hz;let X2:=hp.dp z hz;refine bK (nW KR.mono G1 (vw (gB 1 0 Y Y) aQ bP eX) λHa Hb G2=>?_);refine bK (nW KR.mono G2 (vw (gB 1 0 Y Y) aQ bP eX) λHa Hb G3=>?_);refine bK (wI KR.mono G3 (vw (gB 1 0 Y Y) aQ bP eX) λHa Hb G4=>?_);refine bT (D1 (s:=jE s t) (s':=xl (jE s t) gs) C1 eX G4 KR.mono (KR.ins ∎) 0 Y (rq KR.mono (DZ 0 Y (KR.rep c) KR.tV (di (cJ eX (jd 5 0. Y) (gB 1 2 Y Y) hb) aB (cB (j:=3) Y)) (P5 _)) (rq KR.mono (lA (gB 1 3 Y Y)) D0)) #[z.places,gs,_,Y,.inr Y,Kq,jX,Eg,λx hx=>(by show x∈s.places.map (·.1);rw[hs.nm];exact X2.1 x hx),?_] KR.cut λcY H' G5=>?_)
   .exact(CZ (s:=jE s t) λq hq hn g hg=>P4 hs X2.1 (hf g hg) q hq hn).symm
   let#[dx,pv,ad,ab,ap,al,ac,cs,dv,bv,lv,w,put]:=Rp.put G5;let OU:=w.ws.ld;rw[w.at_ ∅]at OU;let Ub:∀g∈gs,g<day.length:=λg hg=>hV.ml g (hV.mt g (bH _ (v6 g hg)));refine bK (Fz (κ:=aL z.name) (d:=mM (some (gs,t+CP pl day z.name gs))) KR.mono G5 eX 0 Y w.ins c.cl (c.na _ ∎) Y OU (lA (gB 1 2 Y Y)) (DZ 0 Y (KR.rep c) KR.tV (VE.to (fc {gB 1 3 Y Y,dM (gB 1 1 Y Y) (rn C3 hr 0. (Bb pl day _ ∎) {gB 1 2 Y Y,gB 1 3 Y Y} #[pl,day,_,z.name,gs,Y,v3,v4,Ub,Y])}) Y) (.tup λd hd=>?_)) (fh (bA lld (by show s.loads.length<=_;omega))) λv Ha Hb gr rr=>?_)
   .rcases au.mp hd with rfl|hd
    .exact IX gs
    .rw[aK.mp hd];exact .int _
   let G6:=put gr (x:=al) ∅ Y λw=>w.step ∅ w.nd (w.ws.loaded (x:=z.name) rr (by show z.name∈s.loads.map (·.1);rw[hs.ld];exact ai.mpr #[z,hz,Y]));exact fin G6 Y
  |put t d gs=>let#[z,hz,rfl,e,hl,he,hf]:=hx;let hb:=Kv gd.dn hz;let Im:=I0 gd.dn hz;let h3:=((hs.load (ai.mpr #[z,hz,Y])).2 _ hl).1;refine bK (nW KR.mono G1 (vw (gB 1 0 Y Y) aQ bP eX) λHa Hb G2=>?_);refine bK (nW KR.mono G2 (vw (gB 1 0 Y Y) aQ bP eX) λHa Hb G3=>?_);refine bK (nW KR.mono G3 (vw (gB 1 0 Y Y) aQ bP eX) λHa Hb G4=>?_);let#[dx,pv,ad,ab,ap,al,ac,cs,dv,bv,lv,w,put]:=Rp.put G4;let OU:=w.ws.ld;rw[w.at_ ∅]at OU;refine bT (Fz (κ:=aL z.name) (d:=mM none) KR.mono G4 eX 0 Y w.ins c.cl (c.na _ ∎) Y OU (lA (gB 1 2 Y Y)) (lA (VE.to eD Y)) (fh (bA lld (by show s.loads.length<=_;omega))) λv Ha Hb gr rr=>?_);let G5:=put gr (x:=al) ∅ Y λw=>w.step ∅ w.nd (w.ws.loaded (x:=z.name) (l:=none) rr (by show z.name∈s.loads.map (·.1);rw[hs.ld];exact ai.mpr #[z,hz,Y]));clear put w;refine bK (D1 (s:=uH (jE s t) z.name none) C2 eX G5 KR.mono (KR.ins ∎) 0 Y (rq KR.mono (DZ 0 Y (KR.rep c) KR.tV (di (cJ eX (jd 5 0. Y) (gB 1 2 Y Y) hb) aB (cB (j:=1) Y)) (.str _)) (rq KR.mono (lA (gB 1 3 Y Y)) D0)) #[z.to,gs,Y,PZ hp.ok hz,h3,Kq,Eg,λh=>(by show z.to∈s.places.map (·.1);rw[hs.nm];exact aZ _ ((hp.dp z hz).2.2.resolve_left h)),?_] KR.cut λcY H' G6=>fin G6 Y);show(if PF pl z.name="" then _ else _)=_;rw[Im]
end
def BR(C r dx:U)(fs:!(O×V))(os:!(U×HO))(T:Hp->Prop):OR:=λH0 H as=>as=r::os.map (·.1)/\as.Nodup/\H r>>(.ins C dx fs)/\(∀q∈os,H q.1>>q.2)/\T H0
def TM(T:Hp->Prop):Prop:=∀Ha Hb,cz Ha Hb->T Ha->T Hb
section
variable{K:aq}{C r dx l x:U}{fs fs':!(O×V)}{os o1 o2:!(U×HO)}{T T':Hp->Prop}{B0 B H0 H Ha Hb:Hp}{σ:L2.St}{δ:!Slot}{o o' on:HO}
theorem BR.mono(m:TM T):fq (BR C r dx fs os T):=by rintro H0 H Ha Hb as ⟨rfl,nd,h1,h2,t⟩ sm e;exact#[Y,nd,[e r ∅]▸h1,λq hq=>[e q.1 (ay _ (ai.mpr #[q,hq,Y]))]▸h2 q hq,m _ _ sm t]
theorem BR.at(G:OF K B0 B (BR C r dx fs os T) H0 H σ δ):H r>>(.ins C dx fs)/\(∀q∈os,H q.1>>q.2)/\T H0/\(r::os.map (·.1)).Nodup:=by let#[_,_,as,_,rfl,h2,h3,h4,h5]:=G;exact#[h3,h4,h5,h2]
theorem BR.set(m:TM T)(G:OF K B0 B (BR C r dx fs os T) H0 H σ δ)(g:cP H0 H Ha Hb)(t:T' Ha):OF K B0 B (BR C r dx fs' os T') Ha (upd Hb r (.ins C dx fs')) σ δ:=by let#[as,#[rfl,nd,h1,h2,_],put]:=G.puts (BR.mono m);refine put g ∅ #[_,λ_ z=>z,Y,nd,aM,λq hq=>?_,t];rw[L λz=>(aO.mp nd).1 ([<-z]▸ai.mpr #[q,hq,Y])];exact g.big _ _ (h2 q hq)
theorem BR.new(m:TM T)(G:OF K B0 B (BR C r dx fs os T) H0 H σ δ)(g:cP H0 H Ha Hb)(h1:H l=none)(h2:Ha l=none)(h3:Hb l>>o)(t:T' Ha):OF K B0 B (BR C r dx fs' (os ++ [(l,o)]) T') Ha (upd Hb r (.ins C dx fs')) σ δ:=by
 let#[as,#[rfl,nd,_,_,_],put]:=G.T7 (BR.mono m);refine put g h1 h2 h3 ∅ λhl #[_,_,w1,w2,_]=>#[_,λa ha=>?_,Y,?_,aM,λq hq=>?_,t]
 .rw[aI,fL]at ha;rcases au.mp ha with h|h
  .exact .inr (by rw[h];simp)
  .rcases aT.mp h with h|h
   .exact .inr (ay _ h)
   .exact .inl (aK.mp h)
 .rw[aI,fL,<-List.cons_append,bD];exact#[nd,∅,λa ha b hb e=>hl ([<-show a=l from e.trans (aK.mp hb)]▸ha)]
 .let hn:q.1≠r:=λz=>by
   rcases aT.mp hq with h|h
   .exact(aO.mp nd).1 ([<-z]▸ai.mpr #[q,h,Y])
   .rw[aK.mp h]at z;exact hl (by rw[show l=r from z];simp)
  rw[L hn];rcases aT.mp hq with h|h
  .exact w2 q h
  .rwa[aK.mp h]
theorem mem_mid(h:q∈a++(x,o')::b):q=(x,o')\/q∈a++b:=by
 rcases aT.mp h with h|h
 .exact .inr (bH _ h)
 .rcases au.mp h with h|h
  .exact .inl h
  .exact .inr (aZ _ h)
theorem BR.chg(m:TM T)(G:OF K B0 B (BR C r dx fs (o1++(x,o)::o2) T) H0 H σ δ)(g:cP H0 H Ha Hb)(t:T' Ha):OF K B0 B (BR C r dx fs (o1++(x,o')::o2) T') Ha (upd Hb x o') σ δ:=by
 let#[as,#[rfl,nd,h1,h2,_],put]:=G.puts (BR.mono m);let e:∀y:HO,(o1++(x,y)::o2).map (·.1)=o1.map (·.1)++x::o2.map (·.1):=λy=>by rw[aI,av]
 rw[e]at nd put;refine put g ∅ #[_,λ_ z=>z,by rw[e],nd,?_,λq hq=>?_,t]
 .rw[L λz=>(aO.mp nd).1 (by rw[z];simp)];exact g.big _ _ h1
 .rcases mem_mid hq with h|h
  .rw[h];exact aM
  .let hm:q.1∈o1.map (·.1)++o2.map (·.1):=[<-aI]▸ai.mpr #[q,h,Y];let hn:q.1≠x:=λz=>by let:=(nP.nodup_iff.mp ((aO.mp nd).2));exact(aO.mp this).1 ([<-z]▸hm)
   rw[L hn];exact g.big _ _ (h2 q (by rcases aT.mp h with h|h<;>simp[h]))
theorem BR.zfc(m:TM T)(G:OF K B0 B (BR C r dx fs (o1++(x,o)::o2) T) H0 H σ δ)(g:cP H0 H Ha Hb)(h1:H l=none)(h2:Ha l=none)(h3:Hb l>>on)(t:T' Ha):OF K B0 B (BR C r dx fs (o1++(x,o')::(o2 ++ [(l,on)])) T') Ha (upd Hb x o') σ δ:=by
 let#[as,#[rfl,nd,_,_,_],put]:=G.T7 (BR.mono m);let e:∀(y:HO)(c:!(U×HO)),(o1++(x,y)::c).map (·.1)=o1.map (·.1)++x::c.map (·.1):=λy c=>by rw[aI,av]
 rw[e]at nd put;refine put g h1 h2 h3 ∅ λhl #[_,_,w1,w2,_]=>#[_,λa ha=>?_,Y,?_,?_,λq hq=>?_,t]
 .rw[e,aI,fL]at ha;simp[au,aT,bu,or_false]at ha ⊢;rcases ha with h|h|h|h|h
  .exact .inr (.inl h)
  .exact .inr (.inr (.inl h))
  .exact .inr (.inr (.inr (.inl h)))
  .exact .inr (.inr (.inr (.inr h)))
  .exact .inl h
 .let e3:r::(o1.map (·.1)++x::(o2.map (·.1) ++ [l]))=(r::(o1.map (·.1)++x::o2.map (·.1))) ++ [l]:=∅
  rw[e,aI,fL];show(r::(o1.map (·.1)++x::(o2.map (·.1) ++ [l]))).Nodup;rw[e3,bD];exact#[nd,∅,λa ha b hb e=>hl ([<-show a=l from e.trans (aK.mp hb)]▸ha)]
 .rwa[L λz=>(aO.mp nd).1 (by rw[z];simp)]
 .let hx2:l≠x:=λz=>hl (by rw[z];simp);rcases mem_mid hq with h|h
  .rw[h];exact aM
  .rw[<-cw]at h;rcases aT.mp h with h|h
   .let hm:q.1∈o1.map (·.1)++o2.map (·.1):=[<-aI]▸ai.mpr #[q,h,Y];let hn:q.1≠x:=λz=>by let:=(nP.nodup_iff.mp ((aO.mp nd).2));exact(aO.mp this).1 ([<-z]▸hm)
    rw[L hn];exact w2 q (by rcases aT.mp h with h|h<;>simp[h])
   .rw[aK.mp h];rwa[L hx2]
end
theorem P6{kvs:!(Key×V)}{k:Key}(h:k∉kvs.map (·.1)):gD kvs k=none:=by unfold gD;rw[List.find?_eq_none.mpr λx hx=>by rw[decide_eq_true_iff];exact λe=>h (ai.mpr #[x,hx,e])];rfl
def uI(ns:!O)(vs:!V):!(Key×V):=(ns.zip vs).map λz=>(aL z.1,z.2)
theorem El(ns:!O)(vs:!V):(uI ns vs).length<=ns.length:=by unfold uI;rw[ae,jM];omega
theorem Em(hl:vs.length=ns.length)(hx:x∉ns):putK (uI ns vs) (aL x) v=uI (ns ++ [x]) (vs ++ [v]):=by
 rw[qw]
 .unfold uI;rw[List.zip_append hl.symm,aI];rfl
 .refine P6 λh=>?_;unfold uI at h;rw[aj]at h;let#[z,hz,e]:=ai.mp h;exact hx ([<-(jh e)]▸(lD hz).1)
theorem Jf{α:Type}(f:α->O):∀(l:!α)(vs:!V),(l.zip vs).map (λz=>((aL (f z.1):Key),z.2))=uI (l.map f) vs
 | [],_=>rfl
 |_::_,[]=>rfl
 |a::l,v::vs=>by unfold uI;rw[av,cg,cg,av,av,Jf f l vs];rfl
theorem UQ:∀(kl:!(O×!J))(cs:!U),o_ kl cs=uI (kl.map (·.1)) (cs.map V.ref)
 | [],_=>rfl
 |_::_,[]=>rfl
 |q::kl,c::cs=>by let ih:=UQ kl cs;unfold o_ uI at ih ⊢;rw[av,av,cg,cg,av,av,ih]
theorem Bd{α:Type}{l:!α}(hn:l.Nodup){k:Nat}{x:α}(h:l[k]?>>x):x∉l.take k:=λz=>by let#[i,hi,e]:=eZ.mp z;rw[a9]at hi;rw[List.getElem_take]at e;let:=(j7 () hn).mp ((ao ()).trans ((qQ6 some e).trans h.symm));omega
def zbh(K:aq)(C:U)(p:Pl)(day:!o5):Sp:=λvs H Q _=>∃(H0:Hp)(r dx:U)(v1 v2:V),vs=[.ref r,v1,v2]/\cz H0 H/\H0 r=none/\H r>>(.ins C dx [])/\Rep K H0 v1 (fV p)/\Rep K H0 v2 (.list (day.map jU))/\MP p day/\
 ∀(cY H':Hp)(as':!U),cz H0 cY->cz cY H'->(∀a,cY a≠none->H0 a≠none\/H a=none)->(∀a∈as',cY a=none/\H' a≠none/\(a=r\/H a=none))->(∀b o,H b>>o->b≠r->H' b>>o)->CY K C p day r (oA p) cY H' as'->Q .non H'
section
variable{K:aq}{C:U}{pl:Pl}{day:!o5}
abbrev SX:!O:=["self","plant","day","name","desk"]
theorem P7:bW SX ["self","plant","day"] (bt (qk 0)):=by grind
theorem zbi{P:bU}{w:c0}{mg:O->Option M}{base:dF}{f:U}(F:jO K "__init__" "Replay.__init__" (qk 0) f fd)(n:Na mg)(c:SR K C):dR P w K mg base ju 1 f fd ["self","plant","day"] (zbh K C pl day):=by
 refine F.ok P7 (λvs H Q E h=>?_) (λgj A outer s0 H vs Q E hr h=>?_)
 .let#[H0,r,dx,v1,v2,rfl,_]:=h;rfl
 .let#[H0,r,dx,v1,v2,rfl,sm,hr0,zbj,q1,q2,ok,q]:=h;refine#[_,ly,?_];let nd:SX.Nodup:=P7.nd;let f0:fM K H0 H H0 H (start SX [.ref r,v1,v2]) [.ref r,.val (fV pl),.val (.list (day.map jU)),.un,.un]:=by
   refine#[.refl sm,Y,λi sl hi=>?_,λi j a b p' _ h1=>?_]
   .match i,hi with
    |0,hi=>cases hi;exact Y
    |1,hi=>cases hi;exact#[_,Y,q1]
    |2,hi=>cases hi;exact#[_,Y,q2]
    |3,hi=>cases hi;exact trivial
    |4,hi=>cases hi;exact trivial
    |i+5,hi=>simp at hi
   .exact qQ7 h1 (fK (δ:=[.ref r,.val (fV pl),.val (.list (day.map jU)),.un,.un]) Y i _)
  let own:∀a∈[r],H0 a=none/\H a≠none:=λa ha=>[aK.mp ha,zbj]▸#[hr0,nofun];let b0:BR C r dx [] [] (λ_=>True) H0 H [r]:=#[Y,∅,zbj,λq hq=>(by cases hq),trivial];let G0:OF K H0 (pj [r] H) (BR C r dx [] [] (λ_=>True)) H0 H (start SX [.ref r,v1,v2]) [.ref r,.val (fV pl),.val (.list (day.map jU)),.un,.un]:=by let#[f',n',_]:=DY own b0 f0 Y;exact#[f',n',[r],λa ha=>#[(own a ha).1,pM ha,(own a ha).2],b0]
  let eX:dB 0 _:=hr;let gn:=ok.p5.ok.gn;let ln:=ok.p5.ok.ln;let dn:=ok.p5.ok.dn;let t0:TM λ_:Hp=>True:=λ_ _ _ _=>trivial;refine bT (Oz G0 0 Y (BR.at G0).1 c.cl (c.na _ ∎) (by show 0<1000;decide) (lA 1.) λpv Ha Hb g rp=>?_);rw[show nB "plant" pv ([]:!(O×V))=[(("plant":O),pv)]from jD (show("plant":O)∉([]:!O) by symm)];let G1:=BR.set (T':=λh=>Rep K h pv (fV pl)) (fs':=[(("plant":O),pv)]) t0 G0 g rp;let t1:TM λh=>Rep K h pv (fV pl):=λ_ _ s h=>h.mono s;refine bT (Av G1 0 Y (BR.at G1).1 c.cl (c.na _ ∎) (by show 1<1000;decide) (J8 G1.own (i_ lM NC {2.} n.lst Y)) λad o Ha Hb g z1 z2 z3 #[dv,eo,rd]=>?_);subst eo;rw[show nB "day" (.ref ad) [(("plant":O),pv)]=[(("plant":O),pv),("day",.ref ad)]from jD (show("day":O)∉(["plant"]:!O) by symm)];let G2:=BR.new (T':=λh=>Rep K h pv (fV pl)/\b_ K h dv (day.map jU)) (fs':=[(("plant":O),pv),("day",.ref ad)]) t1 G1 g z1 z2 z3 #[(BR.at G1).2.2.1.mono g.eV,rd];clear z1 z2 z3 g;let t2:TM λh=>Rep K h pv (fV pl)/\b_ K h dv (day.map jU):=λ_ _ s h=>#[h.1.mono s,h.2.mono s];refine bT (Oz G2 0 Y (BR.at G2).1 c.cl (c.na _ ∎) (by show 2<1000;decide) (lA aB) λtv Ha Hb g rt=>?_);cases rt;let G3:=BR.set (T':=λh=>Rep K h pv (fV pl)/\b_ K h dv (day.map jU)) (fs':=[(("plant":O),pv),("day",.ref ad),("time",.int 0)]) t2 G2 g (t2 _ _ g.eV (BR.at G2).2.2.1);clear g;refine bT (Av G3 0 Y (BR.at G3).1 c.cl (c.na _ ∎) (by show 3<1000;decide) (zA G3.fr.sub) λac o Ha Hb g z1 z2 z3 eo=>?_);subst eo;let G4:=BR.new (T':=λh=>Rep K h pv (fV pl)/\b_ K h dv (day.map jU)) (fs':=[(("plant":O),pv),("day",.ref ad),("time",.int 0),("came",.ref ac)]) t2 G3 g z1 z2 z3 (t2 _ _ g.eV (BR.at G3).2.2.1);clear z1 z2 z3 g;refine bT (Av G4 0 Y (BR.at G4).1 c.cl (c.na _ ∎) (by show 4<1000;decide) (zA G4.fr.sub) λap o Ha Hb g z1 z2 z3 eo=>?_);subst eo;rw[show nB "places" (.ref ap) [(("plant":O),pv),("day",.ref ad),("time",.int 0),("came",.ref ac)]=[(("plant":O),pv),("day",.ref ad),("time",.int 0),("came",.ref ac),("places",.ref ap)]from jD (show("places":O)∉(["plant","day","time","came"]:!O) by symm)];let G5:=BR.new (T':=λh=>Rep K h pv (fV pl)/\b_ K h dv (day.map jU)) (fs':=[(("plant":O),pv),("day",.ref ad),("time",.int 0),("came",.ref ac),("places",.ref ap)]) t2 G4 g z1 z2 z3 (t2 _ _ g.eV (BR.at G4).2.2.1);clear z1 z2 z3 g;generalize Hz:pl.gates++pl.lines.map (·.1)=ns;let nsn:ns.Nodup:=[<-Hz]▸ok.gd.pn;let nsl:ns.length<=120:=by rw[<-Hz,aR,ae];omega
  generalize hT:(λh=>Rep K h pv (fV pl)/\b_ K h dv (day.map jU))=T2 at *;generalize Xi:[(("plant":O),pv),("day",V.ref ad),("time",V.int 0),("came",V.ref ac),("places",V.ref ap)]=Qn at *;let tT:TM T2:=t2;clear t0 t1 t2 G0 G1 G2 G3 G4;let RLm:∀k,fq (λH0 H as=>∃cs:!U,cs.length=k/\BR C r dx Qn ([(ad,HO.lst dv),(ac,HO.dK [])]++(ap,.dK (uI (ns.take k) (cs.map V.ref)))::cs.map λc=>(c,HO.lst [])) T2 H0 H as):=λk H0 H Ha Hb as #[cs,e,h] sm hb=>#[cs,e,BR.mono tT _ _ _ _ _ h sm hb];refine bT (yr (tgt:=.one 3) (ds:=ns.map .str) (λk H0 H as=>∃cs:!U,cs.length=k/\BR C r dx Qn ([(ad,HO.lst dv),(ac,HO.dK [])]++(ap,.dK (uI (ns.take k) (cs.map V.ref)))::cs.map λc=>(c,HO.lst [])) T2 H0 H as) RLm (G5.imp λas h=>#[[],Y,h]) bZ Y (eG (VE.to (VO.ve (lO (lR 1. (F2 pl)) (VO.ve (i_ (j_ Y) wF {lR 1. (tN pl)} n.lst Y)) (small (by unfold jS;rw[ae,ae,ae];omega)))) (by rw[<-Hz,aI];unfold jS;rw[aj,aj];rfl))) (g6 3 nd) (λk d hd=>?_) λσ2 H2 fA G6=>?_)
  .obtain⟨x,hx,rfl⟩:∃x,ns[k]?>>x/\d=.str x:=by
    rw[ax]at hd;cases e:ns[k]? with
    |none=>rw[e]at hd;cases hd
    |some z=>rw[e]at hd;cases hd;exact#[z,Y,Y]
   let hk:=(aF.mp hx).1;refine#[_,Y,Y,λD C0 σ' cY H' G1 post=>?_];let#[f1,n1,oj,p1,cs,JF,b1]:=G1;let Mm:OF K C0 (pj [r] H) _ cY H' σ' _:=#[f1,n1,oj,p1,b1];let M6:(ns.take k).length=k:=by rw[a9];omega
   refine bK (WK (κ:=aL x) (BR.mono tT) Mm eX 0 Y (BR.at Mm).1 c.cl (c.na _ ∎) (by rw[<-Xi];rfl) ((BR.at Mm).2.1 (ap,.dK (uI (ns.take k) (cs.map V.ref))) ∅) 3. (J8 Mm.own (dQ (ds:=[]) cO)) (fh (bA (El _ _) ())) (λl o Ha Hb g z1 z2 z3 #[xs,eo,rx]=>?_) (λHa Hb o s #[xs,e,rx]=>#[xs,e,rx.mono s]));cases rx;subst eo;rw[Em (by rw[ae,JF,M6]) (Bd nsn hx)];let G2:=BR.zfc (o':=.dK (uI (ns.take k ++ [x]) (cs.map V.ref ++ [.ref l]))) tT Mm g z1 z2 z3 (tT _ _ g.eV (BR.at Mm).2.2.1);refine post _ _ _ (OF.forget (RLm (k+1)) (G2.imp λas h=>#[cs ++ [l],by rw[aR,JF];rfl,?_]) #[.inr Y,.inr Y,.inr Y,.inl Y,.inr Y,trivial] Y);let e1:ns.take (k+1)=ns.take k ++ [x]:=by rw[bO,hx];rfl
   rw[e1,aI,aI];exact h
  rw[ae]at G6;let#[f6,n6,as6,p6,cs,JF,b6]:=G6;rw[cq]at b6;generalize hO:([(ad,HO.lst dv),(ac,HO.dK [])]++(ap,.dK (uI ns (cs.map V.ref)))::cs.map λc=>(c,HO.lst []))=O5 at b6;let G6':OF K H0 (pj [r] H) (BR C r dx Qn O5 T2) H2 fA σ2 _:=#[f6,n6,as6,p6,b6];clear f6 n6 as6 p6 b6;let hl5:Qn.length=5:=by rw[<-Xi];rfl
  refine bT (Av G6' 0 Y (BR.at G6').1 c.cl (c.na _ ∎) (by rw[hl5];decide) (zA G6'.fr.sub) λab o Ha Hb g z1 z2 z3 eo=>?_);subst eo;rw[show nB "by_name" (.ref ab) Qn=Qn ++ [(("by_name":O),V.ref ab)]from jD (by rw[<-Xi];show("by_name":O)∉(["plant","day","time","came","places"]:!O);symm)];let G7:=BR.new (T':=T2) (fs':=Qn ++ [(("by_name":O),V.ref ab)]) tT G6' g z1 z2 z3 (tT _ _ g.eV (BR.at G6').2.2.1);clear z1 z2 z3 g;refine bT (Av G7 0 Y (BR.at G7).1 c.cl (c.na _ ∎) (by rw[aR,hl5];show 5+1<1000;decide) (zA G7.fr.sub) λal o Ha Hb g z1 z2 z3 eo=>?_);subst eo;rw[show nB "loads" (.ref al) _=Qn ++ [(("by_name":O),V.ref ab)] ++ [(("loads":O),V.ref al)]from jD (by rw[<-Xi];show("loads":O)∉(["plant","day","time","came","places","by_name"]:!O);symm)];let G8:=BR.new (T':=T2) (fs':=Qn ++ [(("by_name":O),V.ref ab)] ++ [(("loads":O),V.ref al)]) tT G7 g z1 z2 z3 (tT _ _ g.eV (BR.at G7).2.2.1);clear z1 z2 z3 g;generalize Xj:Qn ++ [(("by_name":O),V.ref ab)] ++ [(("loads":O),V.ref al)]=fs7 at *;generalize Fq:pl.desks.map (·.name)=ds;let dsn:ds.Nodup:=[<-Fq]▸ok.gd.dn;let X3:∀bv:!V,∀k,TM λh=>T2 h/\b_ K h bv ((pl.desks.take k).map dE):=λbv k _ _ s h=>#[tT _ _ s h.1,h.2.mono s];let RDm:∀k,fq (λH0 H as=>∃bv:!V,bv.length=k/\BR C r dx fs7 (O5++(ab,.dK (uI (ds.take k) bv)) :: [(al,HO.dK (uI (ds.take k) (aW k V.non)))]) (λh=>T2 h/\b_ K h bv ((pl.desks.take k).map dE)) H0 H as):=λk H0 H Ha Hb as #[bv,e,h] sm hb=>#[bv,e,BR.mono (X3 bv k) _ _ _ _ _ h sm hb];let G8':OF K H0 (pj [r] H) (λH0 H as=>∃bv:!V,bv.length=0/\BR C r dx fs7 (O5++(ab,.dK (uI (ds.take 0) bv)) :: [(al,HO.dK _)]) (λh=>T2 h/\b_ K h bv ((pl.desks.take 0).map dE)) H0 H as) _ _ _ _:=G8.imp λas h=>#[[],Y,by
   rw[cw]at h;exact#[h.1,h.2.1,h.2.2.1,h.2.2.2.1,h.2.2.2.2,.nil]];let fin:∀{σ':L2.St}{Ha Hb:Hp}{δ':!Slot}{bv:!V},bv.length=pl.desks.length->OF K H0 (pj [r] H) (BR C r dx fs7 (O5++(ab,.dK (uI ds bv)) :: [(al,HO.dK (uI ds (aW pl.desks.length V.non)))]) (λh=>T2 h/\b_ K h bv (pl.desks.map dE))) Ha Hb σ' δ'->Q .non Hb:=by
   intro σ' Ha Hb δ' bv hbv G;let#[z1,z2,z3,z4,as',z5,rfl,nd',w1,w2,tt,rb]:=Ow (G.imp λas h=>#[λa ha=>by rw[aK.mp ha,h.1];simp,as,λ_ z=>z,h]);subst hO;subst hT;let hm:r::(([(ad,HO.lst dv),(ac,HO.dK [])]++(ap,HO.dK (uI ns (cs.map V.ref)))::cs.map λc=>(c,HO.lst []))++(ab,HO.dK (uI ds bv)) :: [(al,HO.dK (uI ds (aW pl.desks.length V.non)))]).map (·.1)=r::ad::ac::ap::(cs ++ [ab,al]):=by
    simp
    congr 5
    exact yf _
   rw[hm]at nd' z5;let pm:(r::ad::ac::ap::(cs ++ [ab,al])).Perm (ad::ab::r::ap::al::ac::cs):=by refine List.perm_iff_count.mpr λx=>?_;simp only[List.count_cons,List.count_append,List.count_nil];omega
   let nd6:=pm.nodup_iff.mp nd';let nd4:(r::ap::al::ac::cs).Nodup:=(aO.mp (aO.mp nd6).2).2;refine q Ha Hb (ad::ab::r::ap::al::ac::cs) z1 z2 z3 (λa ha=>?_) (λb o e hb=>z4 b o e λz=>hb (aK.mp z)) #[dx,pv,ad,ab,ap,al,ac,cs,dv,bv,aW pl.desks.length V.non,Y,nd6,?_,?_,tt.1,w2 (ad,.lst dv) ∅,tt.2,?_,rb]
   .let#[y1,y2,y3]:=z5 a (pm.mem_iff.mpr ha);exact#[y1,y2,y3.imp aK.mp id]
   .let ne:∀x∈ap::al::ac::cs,x≠r:=λx hx e=>(aO.mp nd4).1 ([<-e]▸hx);let XI:(mw (oA pl)).map (·.1)=ns:=by rw[<-Hz];unfold mw oA;rw[aj,aj];exact yf _
    refine#[nd4,aM,?_,#[by rw[JF,<-XI,ae],λi y qq e1 e2=>?_],?_,?_,?_]
    .rw[L (ne ap ∅),UQ,XI];exact w2 (ap,.dK (uI ns (cs.map V.ref))) ∅
    .let hy:=aH e1;refine#[[],[L (ne y (by simp[hy]))]▸w2 (y,.lst []) (by simp[hy]),?_];unfold mw oA at e2;rw[aj,ax]at e2;cases e3:(pl.gates++pl.lines.map (·.1))[i]? with
     |none=>rw[e3]at e2;cases e2
     |some v=>rw[e3]at e2;cases e2;exact .nil
    .let hl:A8 (oA pl) (aW pl.desks.length V.non)=uI ds (aW pl.desks.length V.non):=by unfold A8;rw[Jf (λq:O×Option (!Nat×Int)=>q.1),<-Fq];unfold oA;rw[aj];rfl
     rw[L (ne al ∅),hl];exact w2 (al,.dK _) ∅
    .let go:∀l:!Dk,b_ K Ha (aW l.length V.non) ((l.map λd=>(d.name,none)).map λq=>mM q.2):=λl=>by
      induction l with
      |nil=>exact .nil
      |cons d l ih=>exact .cons .non ih
     exact go pl.desks
    .rw[L (ne ac ∅)];exact w2 (ac,.dK []) ∅
   .rw[w1,<-Xj,<-Xi];rfl
   .let hb:byV pl bv=uI ds bv:=by unfold byV;rw[Jf (λd:Dk=>d.name),Fq]
    rw[hb];exact w2 (ab,.dK (uI ds bv)) ∅
  refine bK (yr (tgt:=.one 4) (λk H0 H as=>∃bv:!V,bv.length=k/\BR C r dx fs7 (O5++(ab,.dK (uI (ds.take k) bv)) :: [(al,HO.dK _)]) (λh=>T2 h/\b_ K h bv ((pl.desks.take k).map dE)) H0 H as) RDm G8' bZ Y (eG (lR 1. (AV pl))) (g6 4 nd) (λk d hd=>?_) λσ3 H3 uD G9=>?_)
  .obtain⟨z,hz,rfl⟩:∃z,pl.desks[k]?>>z/\d=dE z:=by
    rw[ax]at hd;cases e:pl.desks[k]? with
    |none=>rw[e]at hd;cases hd
    |some z=>rw[e]at hd;cases hd;exact#[z,Y,Y]
   let hk:=(aF.mp hz).1;let EB:ds[k]?>>z.name:=by rw[<-Fq,ax,hz];rfl
   let NX:ds.length=pl.desks.length:=by rw[<-Fq,ae]
   let M6:(ds.take k).length=k:=by rw[a9];omega
   let e1:ds.take (k+1)=ds.take k ++ [z.name]:=by rw[bO,EB];rfl
   let e2:pl.desks.take (k+1)=pl.desks.take k ++ [z]:=by rw[bO,hz];rfl
   refine#[_,Y,Y,λD C0 σ' cY H' G1 post=>?_];let#[f1,n1,oj,p1,bv,hbv,b1]:=G1;let Mm:OF K C0 (pj [r] H) _ cY H' σ' _:=#[f1,n1,oj,p1,b1];refine bT (Fz (κ:=aL z.name) (BR.mono (X3 bv k)) Mm eX 0 Y (BR.at Mm).1 c.cl (c.na _ ∎) (by rw[<-Xj,<-Xi];rfl) ((BR.at Mm).2.1 (ab,.dK (uI (ds.take k) bv)) ∅) (lA (gB 4 0 Y Y)) (lA 4.) (fh (bA (El _ _) ())) λv Ha Hb g rv=>?_);rw[Em (by rw[hbv,M6]) (Bd dsn EB)];let G2:=BR.chg (o':=.dK (uI (ds.take k ++ [z.name]) (bv ++ [v]))) (T':=λh=>T2 h/\b_ K h (bv ++ [v]) ((pl.desks.take (k+1)).map dE)) (X3 bv k) Mm g #[tT _ _ g.eV (BR.at Mm).2.2.1.1,[e2,aI]▸((BR.at Mm).2.2.1.2.mono g.eV).append (.cons rv .nil)];let e3:∀y:HO,O5++(ab,.dK _) :: [(al,y)]=(O5 ++ [(ab,.dK (uI (ds.take k ++ [z.name]) (bv ++ [v])))])++(al,y) :: []:=λy=>by rw[cw];rfl
   rw[e3]at G2;refine bK (Fz (κ:=aL z.name) (BR.mono (X3 (bv ++ [v]) (k+1))) G2 eX 0 Y (BR.at G2).1 c.cl (c.na _ ∎) (by rw[<-Xj,<-Xi];rfl) ((BR.at G2).2.1 (al,.dK (uI (ds.take k) (aW k V.non))) ∅) (lA (gB 4 0 Y Y)) (lA eD) (fh (bA (El _ _) ())) λu Ha Hb g ru=>?_);cases ru;rw[Em (by rw[du,M6]) (Bd dsn EB)];let G3:=BR.chg (o':=.dK (uI (ds.take k ++ [z.name]) (aW k V.non ++ [V.non]))) (T':=λh=>T2 h/\b_ K h (bv ++ [v]) ((pl.desks.take (k+1)).map dE)) (X3 (bv ++ [v]) (k+1)) G2 g (X3 _ _ _ _ g.eV (BR.at G2).2.2.1);rw[<-e3]at G3;refine post _ _ _ (OF.forget (RDm (k+1)) (G3.imp λas h=>#[bv ++ [v],by rw[aR,hbv];rfl,?_]) #[.inr Y,.inr Y,.inr Y,.inr Y,.inl Y,trivial] Y);rw[e1,List.replicate_succ'];exact h
  .rw[ae]at G9;let#[f9,n9,as9,p9,bv,hbv,b9]:=G9;rw[cq,show ds.take pl.desks.length=ds by rw[<-Fq,<-ae (f:=(·.name)),cq]]at b9;exact fin hbv #[f9,n9,as9,p9,b9]
end
def P8(K:aq)(s:Ws)(t:U):OR:=λH0 H as=>∃ap al cs lv,as=t::ap::al::cs/\as.Nodup/\H t>>(.tup [.ref ap,.ref al])/\H ap>>(.dK (o_ (mw s) cs))/\XE K H0 H (mw s) cs/\H al>>(.dK (A8 s lv))/\b_ K H0 lv (s.loads.map λq=>mM q.2)
section
variable{P:bU}{w:c0}{K:aq}{mg:O->Option M}{base:dF}{C:U}{pl:Pl}{day:!o5}
structure RpK(P:bU)(w:c0)(K:aq)(mg:O->Option M)(base:dF)(C:U):Prop where
 c:SR K C
 at_:mg "Replay"=some (.ref C)
 mi:∃fi fd,Mk K C fi/\(∀pl day,dR P w K mg base ju 1 fi fd ["self","plant","day"] (zbh K C pl day))/\Binds K fd ["self","plant","day"] []
 fo:qD P w K mg base 3 C "fault_of" ["self","entry"] (gk K (Rrf C))
 en:∀pl day,qD P w K mg base 3 C "enter" ["self","entry"] (vF K Ws (CY K C pl day) (zbf pl day))
theorem Xk{X:Cx}{B0 B H0 H:Hp}{e1 e2:bY}{px pk pos p0:Pos}{y:O}(R:RpK X.prog X.w X.K X.mg X.base C)(hr:dB 2 X.A)(fr:fM X.K B0 B H0 H σ δ)(K2:noOwn δ=true)(i:Nat)(h1:VE X e1 δ (fV pl))(h2:VE X e2 δ (.list (day.map jU)))(ok:MP pl day)(hn:∀r,noOwn (δ.set i (.ref r))=true)
  (q:∀r cY H',OF X.K B0 B (KR X.K C pl day [] r (oA pl)) cY H' (σ.set i (some (.ref r))) (δ.set i (.ref r))->D.nx (σ.set i (some (.ref r))) H')
  (hN:X.N.Nodup)(hi:X.N[i]?>>y:=by rfl)(hx:Loc X.env.scope y:=by left)(hs:zN X pos (.Call (.Name "Replay" p0) [e1,e2] [] pk) (.Name y px):=by rfl)(hf:Dl X y:=by left)
  (hg:Gl X "Replay":=by rfl)(he:j8 X e1 [e2]:=by rfl)(HC:j8 X e2 []:=by rfl)(jX:qg X pk [e2]:=by rfl):cS X (.Assign [.Name y px] (.Call (.Name "Replay" p0) [e1,e2] [] pk) pos) D σ H:=by
 let#[fi,fd,Ma,F,hb]:=R.mi;refine RL i Ma (F pl day) hr R.at_ hb fr (cR h1 (cR h2 cO HC) he) (λr dx vs Ha Hb E g rs eX hdx sj=>?_) hN hi hx hs hf hg ⋯ he jX;cases rs with
 |cons a1 t1=>
 cases t1 with
 |cons a2 t2=>
 cases t2
 rename_i v1 v2
 let hr0:=g.sub.free eX;refine#[Ha,r,dx,v1,v2,Y,λb u e=>?_,hr0,aM,a1,a2,ok,λcY H' as' z1 z2 z3 z5 z4 W=>#[Y,?_]]
 .rw[L (bq e hr0),L (bq e (g.sub.free hdx))];exact g.sub b u e
 let free:∀a,upd (upd Hb dx (.own r)) r (.ins C dx []) a=none->Hb a=none:=λa z=>by
  by_cases h:a=r
  .rw[h];exact eX
  .rw[L h]at z;by_cases h2:a=dx
   .rw[h2];exact hdx
   .rw[L h2]at z;exact z
 let gg:cP Ha Hb cY H':=#[(λb u e=>z4 b u ([L (bq e eX),L (bq e hdx)]▸e) (bq e eX)),z1,z2,λa z=>(z3 a z).imp id (free a)];refine q r cY H' #[((fr.grow g).grow gg).xK Y Y,hn r,as',λa ha=>?_,λa ha=>#[W.tV _ _ _ a ha,(z5 a ha).2.1],λa ha=>(by cases ha),as',λ_ z=>z,W];let#[y1,y2,y3]:=z5 a ha;refine#[y1,(fr.grow g).ent.big.free ?_,y2];rcases y3 with h|h
 .rwa[h]
 .exact free a h
abbrev Nrd:!O:=["plant","day","book","replay","number","entry","word"]
theorem UT:bW Nrd ["plant","day","book"] (bt (top 41)):=by grind
def Rrd(K:aq)(ds:!J)(Ua:UR):Prop:=∃(p:Pl)(day:!o5)(book:!We)(s:Ws),ds=[fV p,.list (day.map jU),.list (book.map qV)]/\MP p day/\tY p day s book/\book.length<=63/\Ua=WB (P8 K s)
theorem SY{X:Cx}{B0 B H0 H:Hp}{r:U}{p1 p2 p3 p4 p5 pos:Pos}{j}(c:SR X.K C)(G:OF X.K B0 B (KR X.K C pl day [] r s) H0 H σ δ)(i:Nat)(hi:δ[i]?>>(.ref r))(q:∀v cY H',cP B0 B cY H'->WB (P8 X.K s) B v cY H'->D.rt v H')
  (hN:rT X i x:=by ac_rfl)
  (hb1:vn X (.Name x p1) "places":=by rfl)(Zq:vn X (.Name x p3) "loads":=by rfl)
  (PH:starEach [.Attribute (.Name x p1) "places" p2,.Attribute (.Name x p3) "loads" p4] X.env=(false,eval (.Attribute (.Name x p1) "places" p2) X.env)::starEach [.Attribute (.Name x p3) "loads" p4] X.env:=by rfl)(HC:starEach [.Attribute (.Name x p3) "loads" p4] X.env=(false,eval (.Attribute (.Name x p3) "loads" p4) X.env)::starEach [] X.env:=by rfl):
  cS X (.Return (some (.Tuple [.Attribute (.Name x p1) "places" p2,.Attribute (.Name x p3) "loads" p4] j p5)) pos) D σ H:=λpins s0 I=>by
 refine xE (sI (cy (mU (ud hN) hb1) (cy (mU (ud hN) Zq) dU HC) PH)) pins s0 σ H D I ?_;let#[as,own,h0,_,oj,h2,dx,pv,ad,ab,ap,al,ac,cs,dv,bv,lv,rfl,w]:=G.ex;refine#[_,G.fr.slot i _ hi,r,C,dx,_,_,Y,w.ins,c.cl,c.na _ ∎,Y,?_];refine#[_,G.fr.slot i _ hi,r,C,dx,_,_,Y,w.ins,c.cl,c.na _ ∎,Y,?_];refine#[by show 2<=sizeLine;rw[dD];decide,λt ht=>?_];let tn:∀x∈ad::ab::r::ap::al::ac::cs,x≠t:=λx hx e=>(own x (h2 x hx)).2.2 ([e]▸ht);let hm:∀x∈ap::al::cs,x∈ad::ab::r::ap::al::ac::cs:=λx hx=>by
  simp only[au]at hx ⊢;rcases hx with h|h|h
  .exact .inr (.inr (.inr (.inl h)))
  .exact .inr (.inr (.inr (.inr (.inl h))))
  .exact .inr (.inr (.inr (.inr (.inr (.inr h)))))
 let at4:∀x∈ap::al::ac::cs,∀o,upd H r o x=H x:=λx hx o=>w.at_ hx;refine q _ H0 _ (G.fr.ent.trans (.loose (o:=.tup [.ref ap,.ref al]) G.fr.sub ht)) #[t,_,Y,λx hx=>?_,ap,al,cs,lv,Y,?_,aM,?_,#[w.ws.ls.1,λi y qq e1 e2=>?_],?_,w.ws.lv]
 .rcases au.mp hx with h|h
  .rw[h];exact#[G.fr.ent.big.free ht,G.fr.sub.free ht,[aM]▸nofun]
  .let#[y1,y2,y3]:=own x (h2 x (hm x h));exact#[y2,y1,[L (tn x (hm x h))]▸y3]
 .refine aO.mpr #[λh=>tn t (hm t h) Y,?_];let n1:=(aO.mp (aO.mp (aO.mp w.nd).2).2).2;rw[aO,aO,aO]at n1;let#[a1,a2,a3,a4]:=n1;exact aO.mpr #[λh=>a1 (by rcases au.mp h with h|h<;>simp[h]),aO.mpr #[λh=>a2 (ay _ h),a4]]
 .rw[L (tn ap ∅),<-at4 ap ∅];exact w.ws.pl
 .let hy:=aH e1;let#[xs,y1,y2]:=w.ws.ls.2 i y qq e1 e2;exact#[xs,[L (tn y (by simp[hy])),<-at4 y (by simp[hy])]▸y1,y2]
 .rw[L (tn al ∅),<-at4 al ∅];exact w.ws.ld
theorem zff(F:jO K "replayed" "replayed" (top 41) f fd)(n:Na mg)(R:RpK P w K mg base C):dR P w K mg base ju 4 f fd ["plant","day","book"] (Wu K (Rrd K)):=
 ZH F UT (by ext) λ_ _ h=>by
  let#[p,day,book,s,rfl,ok,re,VZ,rfl]:=h;intro gj A outer s0 H E hr;let nd:Nrd.Nodup:=UT.nd;let eX:dB 1 _:=hr.mono ();refine qC λB0 B σ H0 Hh D fr Xc=>?_;refine bT (Xk R (hr.mono ()) fr Y 3 0. 1. ok (λ_=>rfl) (λr H1 c7 G1=>?_) nd);refine bT (yr (tgt:=.tup [4,5]) (ds:=Ac (book.map qV)) (λk=>KR K C p day [] r (rR p day (book.take k))) (λ_=>KR.mono) G1 bZ Y (nr 2. n.NQ) (g7 Y (bS (g6 4 nd) (bS (g6 5 nd) fP))) (λk d hd=>?_) λσ2 H2 fA G2=>?_)
  .let#[x,hx,rfl]:=ja hd;obtain⟨e,he,rfl⟩:∃e,book[k]?>>e/\x=qV e:=by
    rw[ax]at hx;cases z:book[k]? with
    |none=>rw[z]at hx;cases hx
    |some e=>rw[z]at hx;cases hx;exact#[e,Y,Y]
   let#[r1,r2,r3,r4]:=re.at he;let hV:=r1.V ok;rw[Gs he];refine#[_,Y,Y,λD C0 σ' cY H' G post=>?_];refine bT (N7 KR.mono G 3 6 Y (KR.rep R.c) (rn R.fo hr 3. (Bb p day _ ∎) {5.} #[p,day,_,e,Y,ok.p5,ok.gd,hV.ok,r2,r3,r4,Y]) Y Y (λσ3 H3 uD G3=>?_) nd);refine bT (nW KR.mono G3 (VT.to (gQ eX bP bP 6. aQ) (by rw[bG];symm)) λHa Hb G4=>?_);refine rj ?_;refine bK (D1 (R.en p day) hr G4 KR.mono (KR.ins ∎) 3 Y (rq KR.mono (lA 5.) D0) #[e,Y,ok,hV,r2,r3,Y] KR.cut λH5 TJ G5=>?_);exact post _ _ _ (G5.forget KR.mono #[.inr Y,.inr Y,.inr Y,.inr Y,.inl Y,.inl Y,.inl Y,trivial] Y)
  .rw[dC,ae,cq,<-re.run]at G2;exact bK (SY R.c G2 3 Y Xc)
end
def X4(s:Ws):!(O×J):=[("places",wG (cM s)),("loads",wG (dN s)),("met",xT (uG s)),("time",.int s.time)]
theorem P9(s:Ws):((X4 s).map (·.1)).Nodup:=show(["places","loads","met","time"]:!O).Nodup by symm
theorem Xl(l:!Nat)(h:l.length<=1000):Ue 2 (.list (il l)):=.inr #[_,.inr Y,[dW]▸h,λe he=>by let#[g,_,rfl]:=ai.mp he;exact .inl trivial]
theorem P_(h:∀q,l>>q->q.1.length<=1000):Ue 2 (mM l):=by
 cases l with
 |none=>exact .inl trivial
 |some q=>
  refine .inr #[_,.inl Y,by show 2<=1000;omega,λe he=>?_];rcases au.mp he with rfl|he
  .exact .inr #[_,.inl Y,[dW]▸h q Y,λe he=>by let#[g,_,rfl]:=ai.mp he;exact trivial]
  .rw[aK.mp he];exact .inl trivial
open Classical in
noncomputable def S0 (l:!O):!O:=if h:∃ss:!O,ss.Perm l/\sortedS ss=true then h.choose else []
theorem Ky(h1:ss.Perm l)(h2:sortedS ss=true):ss=S0 l:=by let h:∃ss:!O,ss.Perm l/\sortedS ss=true:=#[ss,h1,h2];unfold S0;rw[dif_pos h];exact Ig (h1.trans h.choose_spec.1.symm) h2 h.choose_spec.2
section
variable{K:aq}
abbrev Nis:!O:=["_law_found","_law_state","_law_told","_law_due"]
theorem UU:bW Nis ["_law_found","_law_state"] (bt (top 63)):=by grind
def Ris(ds:!J)(d:J):Prop:=∃(p:Pl)(n:Nat)(s:Ws),ds=[.tuple [iO (cM s),iO (dN s)],iO (X4 s)]/\nM p/\kI p/\pA p n s/\d=.bool true
theorem zfg{P:bU}{w:c0}{mg:O->Option M}{base:dF}{f:U}(F:jO K "_law_is_state" "_law_is_state" (top 63) f fd)(n:Na mg)(md:mg "dict"=none)(kt:Ka K)(kd:dz K (.type "dict") (.type "dict")>>true)(C:bw P w K mg base 3 "_law_alike" RV (gk K (Z5 2))):dR P w K mg base ju 4 f fd ["_law_found","_law_state"] (gk K Ris):=
 ik F UU (by ext) λ_ _ h=>by
  let#[p,m,s,rfl,GL,gd,hs,rfl]:=h;intro gj A outer s0 H E hr;let nd:Nis.Nodup:=UU.nd;let nc:(["_law_name","_law_told","_law_due"]:!O).Nodup:=∎;let eX:dB 1 _:=hr.mono ();let O4:((cM s).map (·.1)).Nodup:=by
   let e:(cM s).map (·.1)=s.places.map (·.1):=by unfold cM;rw[aj];rfl
   rw[e,hs.nm];exact gd.pn
  let WV:((dN s).map (·.1)).Nodup:=by
   let e:(dN s).map (·.1)=s.loads.map (·.1):=by unfold dN;rw[aj];rfl
   rw[e,hs.ld];exact gd.dn
  let za8:(cM s).length<=120:=by let:=qQ6 dX hs.nm;rw[ae,aR,ae]at this;unfold cM;rw[ae];let:=GL.gn;let:=GL.ln;omega
  let h60:(dN s).length<=60:=by let:=qQ6 dX hs.ld;rw[ae,ae]at this;unfold dN;rw[ae];let:=GL.dn;omega
  let lyp:Lay 20 (.list ((cM s).map λq=>aN q.1)):=oh (n:=19) λd hd=>by
   let#[q,hq,rfl]:=ai.mp hd;refine bo ?_;let#[z,hz,rfl]:=ai.mp hq;let hm:z.1∈p.gates++p.lines.map (·.1):=[<-hs.nm]▸ai.mpr #[z,hz,Y];rcases aT.mp hm with h|h
   .exact(GL.gates _ h).ok.2
   .let#[y,hy,e]:=ai.mp h;show om z.1;rw[<-e];exact(GL.lines y hy).1.ok.2
  let lyz:Lay 20 (.list ((S0 ((dN s).map (·.1))).map aN)):=oh (n:=19) λd hd=>by
   let#[q,hq,rfl]:=ai.mp hd;refine bo ?_;let hm:q∈(dN s).map (·.1):=by
    unfold S0 at hq;split at hq
    .rename_i h;exact h.choose_spec.1.mem_iff.mp hq
    .cases hq
   let e:(dN s).map (·.1)=s.loads.map (·.1):=by unfold dN;rw[aj];rfl
   rw[e,hs.ld]at hm;let#[y,hy,rfl]:=ai.mp hm;exact(GL.desks y hy).1.ok.2
  let jX:=tZ (i:=0) (P9 s) Y;let OU:=tZ (i:=1) (P9 s) Y;refine aD (bE (VT.to (iz (VT.to (p8 (gV (jv 0. Y kt.tt Y n.BG n.tup Y) Y)) Y) (λ_=>VT.to (gQ eX (bJ 20 _) (bJ 20 _) (iS 0. n.len) aB) (by rw[jw];rfl))) Y) a_) ?_;refine aD (bE (VT.to (iz (VT.to (p8 (gV (Ax (gB 0 0 Y Y) kd Y n.BG md Y) Y)) Y) (λ_=>VT.to (p8 (gV (Ax (gB 0 1 Y Y) kd Y n.BG md Y) Y)) Y)) Y) a_) ?_;refine aD (bE (VT.to (iz (k1:=false) (VT.to (gQ eX lyp lyp (VO.ve (i_ (j_ Y) wF {gB 0 0 Y Y} n.lst Y)) (VO.ve (i_ (za Y) RM {cJ eX 1. aQ jX} n.lst Y))) (by rw[o9 _ lyp.1];rfl)) (λ_=>VT.to (gQ eX lyz lyz (VO.ve (Fb (qE Y) (Ly (λss h1 h2=>Ky h1 h2) ()) {gB 0 1 Y Y} n.srt Y)) (VO.ve (Fb (qE Y) (Lz (λss h1 h2=>Ky h1 h2) ()) {cJ eX 1. aQ OU} n.srt Y))) (by rw[o9 _ lyz.1];rfl))) Y) a_) ?_;let hpo:∀q∈cM s,Ue 2 q.2:=λq hq=>by let#[z,hz,rfl]:=ai.mp hq;exact Xl _ (bA (bA (uw hz) hs.few) ())
  let hlo:∀q∈dN s,Ue 2 q.2:=λq hq=>by let#[z,hz,rfl]:=ai.mp hq;exact P_ λl e=>by let:=(hs.lg z hz l e).1;omega
  refine aD (k7 (tgt:=.tup [2,3]) bZ Y (eG (VO.ve (dQ {fc {gB 0 0 Y Y,cJ eX 1. aQ jX},fc {gB 0 1 Y Y,cJ eX 1. aQ OU}}))) (g7 Y (bS (g6 2 nd) (bS (g6 3 nd) fP))) (λ_=>[.val _,.val (iO (X4 s)),.un,.un]) 2 Y (aP _) (λi d hi hd=>?_) (.inl #[Y,Y])) (aS (bL B_));obtain⟨kv,rfl,hkn,hko,XI⟩:∃kv:!(O×J),d=.tuple [iO kv,wG kv]/\(kv.map (·.1)).Nodup/\(∀q∈kv,Ue 2 q.2)/\kv.length<=120:=by
   match i,hi,hd with
   |0,_,hd=>cases hd;exact#[_,Y,O4,hpo,za8]
   |1,_,hd=>cases hd;exact#[_,Y,WV,hlo,()]
  refine#[_,Y,?_];refine gW (aS (bE (VT.to (p8 (gV (gF (lQ Y) wB {VO.ve (VO.to (eI (own:=["_law_name"]) (cap:=[2,3]) (tgt:=.one 0) (F:=XJ) Y #[Y,∎,∎,Y,Y,?_] (Ft 3.) (λf s3 H3=>g6 0 nc) Y (small (by rw[ae];omega)) (λd hd=>?_)) (um _))} n.all Y) Y)) (by rw[qG];rfl)) a_)) #[.inr Y,.inr Y,.inl Y,.inl Y,trivial]
  .intro j hj;rcases au.mp hj with rfl|hj
   .exact#[(by show(2:Nat)<4;decide),(by left),Y]
   rcases au.mp hj with rfl|hj
   .exact#[(by show(3:Nat)<4;decide),(by left),Y]
   .cases hj
  .let#[q,hq,rfl]:=ai.mp hd;let hv:=A2 hkn (show(q.1,q.2)∈kv from hq);exact Cb Y Y λf s3 H3=>bB C hr {cJ eX 1. 0. hv,tE eX 2. 0. hv} #[q.2,Y,hko q hq,Y]
end
end Mg
namespace Mg
open L2 PySem PyProof.Rows
seal L2.VE L2.VS L2.vz L2.VT L2.VO L2.Fd L2.VU
variable{t:U}{day:!o5}{book:!We}{k:Nat}{p:Pl}
section
variable{K:aq}{B0 B H0 H:Hp}{σ:L2.St}{δ:!Slot}{s:Ws}
theorem S1(G:OF X.K B0 B (rW X.K a s) H0 H σ δ)(i:Nat)(hi:δ[i]?>>(.ref a))(q:∀Ha Hb,fM X.K B0 B Ha Hb σ (δ.set i (.val (iO (X4 s))))->zt X rest D σ Hb):zt X rest D σ H:=by
 let#[as,own,b,c,m,cs,lv,rfl,w]:=G.ex;let#[#[ab,ac,am,Sx],#[bc,bm,Qm],#[cm,Sy],UE,Pj]:=w.apart;refine J' w.pl λo1=>J' ((L (bF bc)).trans w.ld) λo2=>?_;let at_:∀x,x≠b->x≠c->upd (upd H b (.oJ o1 (.dK (o_ (mw s) cs)))) c (.oJ o2 (.dK (A8 s lv))) x=H x:=λx h1 h2=>by rw[L h2,L h1]
 let eb:upd (upd H b (.oJ o1 (.dK (o_ (mw s) cs)))) c (.oJ o2 (.dK (A8 s lv))) b>>(.oJ o1 (.dK (o_ (mw s) cs))):=by rw[L bc,aM]
 let ec:upd (upd H b (.oJ o1 (.dK (o_ (mw s) cs)))) c (.oJ o2 (.dK (A8 s lv))) c>>_:=aM;generalize upd _ c _=H2 at *;let out:∀x,x∉a::b::c::m::cs->H2 x=H x:=λx hx=>at_ x (λz=>hx (by rw[z];simp)) λz=>hx (by rw[z];simp);let sm:cz H0 (gK (a::b::c::m::cs) H2 H0):=λx u e=>by
  let hx:x∉a::b::c::m::cs:=λy=>by rw[(own x y).1]at e;cases e
  rwa[gf hx]
 let sb:cz (gK (a::b::c::m::cs) H2 H0) H2:=λx u e=>by
  by_cases hx:x∈a::b::c::m::cs
  .rwa[f7 hx]at e
  .rw[gf hx]at e;rw[out x hx];exact G.fr.sub x u e
 let gr:cP B0 B (gK (a::b::c::m::cs) H2 H0) H2:=by
  refine#[λx u e=>?_,G.fr.ent.eV.trans sm,sb,λx e=>?_]
  .let hx:x∉a::b::c::m::cs:=λy=>by rw[(own x y).2.1]at e;cases e
   rw[out x hx];exact G.fr.ent.big x u e
  .by_cases hx:x∈a::b::c::m::cs
   .exact .inr (own x hx).2.1
   .rw[gf hx]at e;exact G.fr.ent.new x e
 let im:∀x∈a::b::c::m::cs,gK (a::b::c::m::cs) H2 H0 x=H2 x:=λx hx=>f7 hx;generalize gK (a::b::c::m::cs) H2 H0=C at *;let ll:=w.lv.length;rw[ae]at ll;let#[k1,k2]:=ux (s:=s) ll;let#[r1,r2]:=xk sm w.ls λx hx=>(im x (by simp[hx])).trans (at_ x (λz=>Qm (z▸hx)) λz=>Sy (z▸hx));let p1:Rep X.K C (.ref b) (wG (cM s)):=by
  refine .QY ((im b ∅).trans eb) ?_ ?_
  .let:=qQ6 (pC k6) r2;rw[aj,aj]at this;unfold cM;rw[aj,aj];unfold mw at this;rw[aj]at this;exact this.symm
  .unfold cM;rw[aj,aj];unfold mw at r1;rwa[aj]at r1
 let p2:Rep X.K C (.ref c) (wG (dN s)):=by
  refine .QY ((im c ∅).trans ec) ?_ ?_
  .let e1:(A8 s lv).map (λp=>k6 p.1)=((A8 s lv).map (·.1)).map k6:=by rw[aj];rfl
   rw[e1,show(A8 s lv).map (·.1)=_ from k1];unfold dN;rw[aj,aj,aj];rfl
  .rw[show(A8 s lv).map (·.2)=lv from k2];unfold dN;rw[aj,aj];exact w.lv.mono sm
 let f:fM X.K B0 B C H2 σ δ:=by
  refine#[gr,G.fr.len,λj sl e=>?_,G.fr.apart];let qq:=G.fr.slot j sl e;cases sl with
  |un=>trivial
  |ref _=>exact qq
  |val d=>let#[v,g1,g2]:=qq;exact#[v,g1,g2.mono sm]
  |own ds=>exact qQ7 e (fK G.no j ds)
 let f1:=f.xK (i:=i) (v:=.ref a) (sl:=.val (iO (X4 s))) #[_,Y,oi (kvs:=L_ b c m s.time) ((im a ∅).trans ((at_ a ab ac).trans w.st)) Y (.cons p1 (.cons p2 (.cons (Kw ((im m ∅).trans ((at_ m (bF bm) (bF cm)).trans w.me))) (.cons (.int _) .nil))))] Y;let hs:=G.fr.slot i _ hi;let e:σ.set i (some (.ref a))=σ:=by
  apply gP;intro j;by_cases h:j=i
  .subst h;rw[a7 (aF.mp hs).1,hs]
  .rw[aY (bF h)]
 rw[e]at f1;exact q C H2 f1
theorem P8.mono:fq (P8 K s t):=by
 rintro H0 H Ha Hb as ⟨ap,al,cs,lv,rfl,nd,h1,h2,h3,h4,h5⟩ sm e;exact#[ap,al,cs,lv,Y,nd,[e t ∅]▸h1,[e ap ∅]▸h2,#[h3.1,λi x q e1 e2=>by let#[xs,z1,z2]:=h3.2 i x q e1 e2;exact#[xs,[e x (by simp[aH e1])]▸z1,z2.mono sm]],[e al ∅]▸h4,h5.mono sm]
theorem P8.rep(Ha Hb:Hp)(as:!U)(sb:cz Ha Hb)(h:P8 K s t Ha Hb as):Rep K (gK as Hb Ha) (.ref t) (.tuple [iO (cM s),iO (dN s)]):=by
 let#[ap,al,cs,lv,rfl,nd,h1,h2,h3,h4,h5]:=h;let sm:=kS (as:=t::ap::al::cs) sb;let mm:∀x∈t::ap::al::cs,gK (t::ap::al::cs) Hb Ha x=Hb x:=λx hx=>f7 hx;generalize gK (t::ap::al::cs) Hb Ha=Ma at *;let ll:=h5.length;rw[ae]at ll;let#[k1,k2]:=ux (s:=s) ll;let#[r1,r2]:=xk sm h3 λx hx=>mm x (by simp[hx]);refine .tup (oC.of ((mm t ∅).trans h1)) (.cons (oi ((mm ap ∅).trans h2) ?_ ?_) (.cons (oi ((mm al ∅).trans h4) (by rw[show(A8 s lv).map (·.1)=_ from k1];unfold dN;rw[aj];rfl) ?_) .nil))
 .rw[r2];unfold mw cM;rw[aj,aj];rfl
 .unfold cM;rw[aj];unfold mw at r1;rwa[aj]at r1
 .rw[show(A8 s lv).map (·.2)=lv from k2];unfold dN;rw[aj];exact h5.mono sm
def Kz(s:Ws)(t:U)(k:Nat):OR:=λ_ H as=>∃ap al cs ws,as=t::ap::al::cs/\as.Nodup/\H t>>(.tup [.ref ap,.ref al])/\H ap>>(.dK (o_ (mw s) cs))/\cs.length=s.places.length/\(∀c∈cs,∃xs,H c>>(.lst xs)/\xs.length<=30+k)/\H al>>(.dK ws)
theorem Kz.mono:fq (Kz s t k):=by rintro H0 H Ha Hb as ⟨ap,al,cs,ws,rfl,nd,h1,h2,h3,h4,h5⟩ sm e;exact#[ap,al,cs,ws,Y,nd,[e t ∅]▸h1,[e ap ∅]▸h2,h3,λc hc=>[e c (by simp[hc])]▸h4 c hc,[e al ∅]▸h5]
theorem P8.q(Eg:∀q∈s.places,q.2.length<=30){as:!U}(h:P8 K s t H0 H as):Kz s t 0 H0 H as:=by
 let#[ap,al,cs,lv,rfl,nd,h1,h2,h3,h4,h5]:=h;let hl:cs.length=s.places.length:=by let:=h3.1;unfold mw at this;rwa [ae]at this
 refine#[ap,al,cs,_,Y,nd,h1,h2,hl,λc hc=>?_,h4];let#[i,hi,e]:=eZ.mp hc;let XH:i<s.places.length:=();let hq:(mw s)[i]?>>(s.places[i].1,il s.places[i].2):=by unfold mw;rw[ax,ao XH];rfl
 let#[xs,z1,z2]:=h3.2 i c _ ([<-e]▸ao hi) hq;refine#[xs,z1,?_];rw[z2.length,dW];let:=Eg _ (cN XH);omega
theorem Kz.at(G:OF K B0 B (Kz s t k) H0 H σ δ)(hn:(s.places.map (·.1)).Nodup){x:O}(hx:x∈s.places.map (·.1)):∃ap al c xs cs,H t>>(.tup [.ref ap,.ref al])/\H ap>>(.dK (o_ (mw s) cs))/\gD (o_ (mw s) cs) (aL x)>>(.ref c)/\H c>>(.lst xs)/\xs.length<=30+k/\∀{Ha Hb:Hp}(_:cP H0 H Ha Hb){v:V},OF K B0 B (Kz s t (k+1)) Ha (upd Hb c (.lst (xs ++ [v]))) σ δ:=by
 let#[as,#[ap,al,cs,ws,rfl,nd,h1,h2,h3,h4,h5],put]:=G.puts Kz.mono;let#[q,hq,rfl]:=ai.mp hx;let#[j,hj,e]:=eZ.mp hq;let hjc:j<cs.length:=();let hc:=ao hjc;let hm:=aH hc;let hk:(mw s)[j]?>>(q.1,il q.2):=by unfold mw;rw[ax,ao hj,e];rfl
 let#[xs,z1,z2]:=h4 _ hm;let n1:=aO.mp nd;let n2:=aO.mp n1.2;let n3:=aO.mp n2.2;let et:t≠cs[j]:=λz=>n1.1 (by rw[z];simp[hm]);let ep:ap≠cs[j]:=λz=>n2.1 (by rw[z];simp[hm]);let el:al≠cs[j]:=λz=>n3.1 ([z]▸hm);refine#[ap,al,cs[j],xs,cs,h1,h2,DW (by unfold mw;rw[aj];exact hn) hk hc,z1,z2,λ{Ha Hb}g{v}=>put g (by simp[hm]) #[_,λ_ z=>z,ap,al,cs,ws,Y,nd,[L et]▸g.big _ _ h1,[L ep]▸g.big _ _ h2,h3,λc hc=>?_,[L el]▸g.big _ _ h5]];by_cases ec:c=cs[j]
 .rw[ec,aM];exact#[_,Y,by rw[aR];show xs.length+1<=_;omega]
 .rw[L ec];let#[ys,y1,y2]:=h4 c hc;exact#[ys,g.big _ _ y1,()]
theorem Kz.end(G:OF K B0 B (Kz s t k) H0 H σ δ):∃ap al ws,H t>>(.tup [.ref ap,.ref al])/\H al>>(.dK ws)/\fM K B0 B H0 (upd H al (.dK [])) σ δ:=by let#[as,own,ap,al,cs,ws,rfl,nd,h1,h2,h3,h4,h5]:=G.ex;let#[y1,y2,y3]:=own al ∅;exact#[ap,al,ws,h1,h5,G.fr.touch y1 y2 (fK G.no)]
theorem Xm{a:U}{s':Ws}(Ha Hb:Hp)(as:!U)(h:rW K a s Ha Hb as):∃a1 a2:!U,(∀x,x∈as↔x∈a1\/x∈a2)/\(∀x∈a1,x∉a2)/\rW K a s Ha Hb a1/\∀(Hc Hd:Hp)(a3:!U),cz Ha Hc->(∀x∈a2,Hd x=Hb x)->(∀x∈a2,x∉a3)->rW K a s' Hc Hd a3->∃a4:!U,(∀x∈a4,x∈a3\/x∈a2)/\rW K a s' Hc Hd a4:=
 #[as,[],λx=>∅,λx _=>∅,h,λHc Hd a3 _ _ _ w=>#[a3,λx hx=>.inl hx,w]]
end
theorem Xn(ns:!Int):GK (eC ns):=by let gd:=x4 ns;refine#[zD ns,λd hd=>?_,(bD.mp gd.pn).2.1,gd.pn];let#[h1,h2,h3]:=gd.dk d hd;exact#[h2,h1.2.2.2.2.1,h3.imp_right λ#[r,h,_]=>ai.mpr #[_,h,Y]]
def x9(c m:Int):!Int:=(cF (1+m%30).toNat).map λ(k:Nat)=>c+(k:Int)*(k:Int)
theorem Jg(c m:Int):(x9 c m).length<=30:=by unfold x9;rw[ae,eS];omega
def Fck(c:Int):J->Option J
 | .int k=>some (.int (c+k*k))
 |_=>none
theorem S2(c m:Int):(kH (1+m%30).toNat).filterMap (Fck c)=(x9 c m).map .int:=by unfold kH x9;rw[bX,aj];exact filterMap_some λq _=>rfl
theorem Mp(h:g<(wN p cells).length):(wN p cells).getD g (0,"","","")=Io p cells g:=by unfold wN at h ⊢;rw[ae,eS]at h;rw[aG,ax,kW h];rfl
theorem Mq(p:Pl)(cells:!Int):(wN p cells).length=cells.length:=by unfold wN;rw[ae,eS]
theorem Xo(ns:!Int)(h:cells.length<=30):MP (eC ns) (wN (eC ns) cells):=by refine#[x4 ns,Xn ns,λg hg=>?_,[Mq]▸h];unfold pT;rw[Mp hg];exact(iV (F:=aN) (jg.mpr (rQ ns).2) _).2
theorem Mr(m:Int):om (qH m):=by
 let h:∀x∈([("":O),"p","q","pp","r"]:!O),om x:=λx hx=>by simp[au,bu,or_false]at hx;rcases hx with rfl|rfl|rfl|rfl|rfl<;>exact hZ
 unfold qH;rw[aG];cases e:([("":O),"p","q","pp","r"])[(m/10000%5).toNat]? with
 |none=>exact hZ
 |some x=>exact h x (aH e)
theorem P'(ns cells:!Int):Lay 19 (.list ((wN (eC ns) cells).map jU)):=oh λd hd=>by
 let#[g,hg,rfl]:=ai.mp hd;let#[k,hk,rfl]:=ai.mp hg;let ok:=zD ns;refine kA λz hz=>?_;simp[au,bu,or_false]at hz;rcases hz with rfl|rfl|rfl|rfl
 .exact bJ _ _
 .exact bo (ok.gates _ (iV (F:=aN) (jg.mpr (rQ ns).2) _).2).ok.2
 .exact bo (ok.kinds _ (iV (F:=λ(q:O×Option Int)=>aN q.1) (jg.mpr (rQ ns).1) _).2).1.ok.2
 .exact bo (Mr _)
theorem Jh{α:Type}(l:!α)(lo hi:Option Int):(L2.cutD l lo hi).length<=l.length:=by unfold L2.cutD;rw[a9,cX];omega
theorem Ms(ok:MP p day)(re:tY p day s book):Lay 19 (.list (book.map qV)):=oh λd hd=>by
 let#[e,he,rfl]:=ai.mp hd;let#[k,hk]:=ub.mp he;let#[_,okv,_]:=re.at hk;refine Pw λt d gs h=>?_;let hd:d∈p.desks.map (·.name):=by
  rcases h with rfl|rfl
  .exact okv.1
  .exact okv.1
 let#[z,hz,rfl]:=ai.mp hd;exact(ok.p5.ok.desks z hz).1.ok.2
structure LawC(P:bU)(w:c0)(K:aq)(mg:O->Option M)(base:dF):Prop where
 n:Na mg
 ca:bw P w K mg base 1 "_law_cell_at" ["_law_script","_law_k"] (gk K Ke)
 mx:bw P w K mg base 1 "_law_mix" ["_law_cell","_law_k"] (gk K FK)
 pl:bw P w K mg base 4 "_law_plant" ["_law_script"] (gk K Rpl)
 pt:bw P w K mg base 3 "_law_plant_text" ["_law_h"] (gk K Rpt)
 rp:bw P w K mg base 9 "read_plant" ["text"] (gk K Rrp)
 dy:bw P w K mg base 2 "_law_day" ["_law_h","_law_cells"] (HJ K Rdy)
 wi:bw P w K mg base 4 "_law_wild" ["_law_h","_law_day_here","_law_cells"] (gk K Rwi)
 bg:bw P w K mg base 1 "_law_begun" ["_law_h"] (Wu K (Rbg K))
 dO:bw P w K mg base 2 "_law_do" ["_law_h","_law_day_here","_law_state","_law_entry"] (DX K Ws (rW K) 2 Xb)
 is:bw P w K mg base 4 "_law_is_state" ["_law_found","_law_state"] (gk K Ris)
 rd:bw P w K mg base 4 "replayed" ["plant","day","book"] (Wu K (Rrd K))
abbrev sl0(ns:!Int)(p:Pl)(m:Int)(day:!o5)(book:!We)(cu:!Nat):!Slot:=[.val (oQ ns),.val (gG p),.val (.int m),.val (fV p),.val (.list (day.map jU)),.val (.list (book.map qV)),.val (.list (il cu)),.un,.un,.un,.un,.un,.un,.un]
section
variable{P:bU}{w:c0}{K:aq}{mg:O->Option M}{base:dF}{f:U}
abbrev Qa:!O:=["_law_script","_law_h","_law_m","_law_plant_here","_law_day_here","_law_book","_law_cuts","_law_cut","_law_state","_law_entry","_law_handed","_law_days","_law_found","_law_name"]
theorem Ji:bW Qa ["_law_script"] (bt (top 64)):=by grind
def zbm(ds:!J)(d:J):Prop:=∃ns:!Int,ds=[oQ ns]/\ns.length<=63/\d=.bool true
def S3:!jT:=match(jN (top 64)).getD 6 (.Pass #[0,0,0,0]) with
 | .For _ _ b _ _=>b
 |_=>[]
theorem Xp(C:LawC P w K mg base){gj A outer s0 H E}(hr:dB 9 (A.deeper (envOfC "law" (bt (top 64)) s0.heap.objs.size f gj))){ns:!Int}{m:Int}{cu:!Nat}{s:Ws}(ok:MP p day)(rx:tY p day s book)(VZ:book.length<=63)(hLd:Lay 19 (.list (day.map jU)))(c:Nat)(hc:c<=book.length):
  vz (EV ju P w K mg base Qa "law" (bt (top 64)) f gj A outer s0 H E).Vd S3 ((sl0 ns p m day book cu).set 7 (.val (.int (c:Int)))) (.nx (sl0 ns p m day book cu)):=by
 let n:=C.n;let nd:Qa.Nodup:=Ji.nd;let eX:dB 1 _:=hr.mono ();let Qk:dB 2 _:=hr.mono ();let Xq:dB 4 _:=hr.mono ();let GL:=ok.p5.ok;let rc:=rx.cut c;let hV:=rc.V ok;let hbc:(book.take c).length<=63:=by rw[a9];omega
 let hLb:Lay 20 (.list ((book.take c).map qV)):=(Ms ok rc).mono ⋯;let Xr:Lay 20 (.list (day.map jU)):=hLd.mono ⋯;let D8:L2.cutD (book.map qV) none (some (c:Int))=(book.take c).map qV:=by rw[sW,wa]
 let Eg:∀q∈(rR p day (book.take c)).places,q.2.length<=30:=λq hq=>bA (uw hq) hV.ok.few;let Kq:((rR p day (book.take c)).places.map (·.1)).Nodup:=[hV.nm]▸ok.gd.pn;refine qC λB0 B σ H0 Hh D fr Xc=>?_;let f0:=fr.re Y (.refl fr.sub);refine bT (Ia f0 8 (zz C.bg eX wJ {1.} #[p,Y,GL,ok.gd,Y]) nd (λ_=>rfl) λa σ1 H1 c7 G1=>?_);refine bT (yr (tgt:=.one 9) (ds:=(book.take c).map qV) (λk=>rW K a (rR p day ((book.take c).take k))) (λ_=>rW.mono) G1 bZ Y (eG (VE.to (VO.ve (gE 5. .no (.yes 7.))) (by rw[D8]))) (g6 9 nd) (λk d hd=>?_) λσ2 H2 fA G2=>?_)
 .obtain⟨e,he,rfl⟩:∃e,(book.take c)[k]?>>e/\d=qV e:=by
   rw[ax]at hd;cases z:(book.take c)[k]? with
   |none=>rw[z]at hd;cases hd
   |some e=>rw[z]at hd;cases hd;exact#[e,Y,Y]
  let#[r1,r2,r3,r4]:=rc.at he;let hVk:=r1.V ok;rw[Gs he];refine#[_,Y,Y,λD C0 σ' cY H' G post=>?_];refine bK (Ou (PR:=rW K) C.dO Qk G rW.mono 8 Y 1. 4. 9. #[p,day,e,Y,Y,ok.p5,ok.gd,hVk.ok,r2.ok hVk ok.gt,Y] Xm λHc Hd Gc=>?_);exact post _ _ _ (Gc.forget rW.mono #[.inr Y,.inr Y,.inr Y,.inr Y,.inr Y,.inr Y,.inr Y,.inr Y,.inr Y,.inl Y,.inl Y,.inl Y,.inl Y,.inl Y,trivial] Y)
 rw[ae,cq]at G2;refine bT (mX rW.mono G2 (NP 10 11 (VE.to (VO.ve (gE 5. .no (.yes 7.))) (by rw[D8])) (VO.ve (i_ lM NC {4.} n.lst Y)) Y nd ⋯) Y λσ3 H3 uD G3=>?_);refine S1 G3 8 Y λH4 Ze f4=>?_;refine bT (Ia f4 12 (zz C.rd Xq wJ {3.,11.,10.} #[p,day,book.take c,_,Y,ok,rc,hbc,Y]) nd (λ_=>rfl) λt σ5 H5 TJ G5=>?_);refine bT (ZI (kb:=false) P8.mono G5 12 Y P8.rep (VT.to (HF (k1:=false) (k2:=false) (k3:=false) (VT.to (p8 (gV (bB C.is Xq {12.,8.} #[p,day.length,_,Y,GL,ok.gd,hV.ok,Y]) Y)) Y) (λ_=>VT.to (gQ eX hLb hLb 10. (VE.to (VO.ve (gE 5. .no (.yes 7.))) (by rw[D8]))) (by rw[o9 _ hLb.1];rfl)) (λ_ _=>VT.to (gQ eX Xr Xr 11. 4.) (by rw[o9 _ Xr.1];rfl))) Y) (λh=>nomatch h) λ_ H6 G6=>rj ?_);refine bT (yr (tgt:=.one 13) (λk=>Kz (rR p day (book.take c)) t k) (λ_=>Kz.mono) (G6.imp λas h=>h.q Eg) bZ Y (eG (cJ eX 1. aQ (tG p))) (g6 13 nd) (λk d hd=>?_) λσ7 H7 H7' G7=>?_)
 .obtain⟨x,hx,rfl⟩:∃x,p.gates[k]?>>x/\d=.str x:=by
   rw[ax]at hd;cases e:p.gates[k]? with
   |none=>rw[e]at hd;cases hd
   |some z=>rw[e]at hd;cases hd;exact#[z,Y,Y]
  let hk:=(aF.mp hx).1;let hgn:=GL.gn;refine#[_,Y,Y,λD C0 σ' cY H' G post=>?_];let#[ap,al,cc,xs,cs,h1,h2,h3,h4,h5,put]:=Kz.at G Kq (x:=x) ([hV.nm]▸bH _ (aH hx));refine bK (WL (j:=0) (κ:=aL x) G.own eX 12 Y h1 Y h2 13. h3 h4 aB (fh ()) λv Ha Hb g r=>?_);exact post _ _ _ ((put g).forget Kz.mono #[.inr Y,.inr Y,.inr Y,.inr Y,.inr Y,.inr Y,.inr Y,.inr Y,.inr Y,.inl Y,.inr Y,.inr Y,.inr Y,.inl Y,trivial] Y)
 let#[ap,al,ws,h1,h5,fe]:=Kz.end G7;refine bT (OD (j:=1) G7.own 12 Y h1 Y h5 ?_);let f8:=have hf:MF [.val (oQ ns),.val (gG p),.val (.int m),.val (fV p),.val (.list (day.map jU)),.val (.list (book.map qV)),.val (.list (il cu)),.val (.int (c:Int)),.val _,.un,.val (.list ((book.take c).map qV)),.val (.list (day.map jU)),.ref t,.un] [.val (oQ ns),.val (gG p),.val (.int m),.val (fV p),.val (.list (day.map jU)),.val (.list (book.map qV)),.val (.list (il cu)),.val (.int (c:Int)),.val _,.un,.val (.list ((book.take c).map qV)),.val (.list (day.map jU)),.un,.un]:=#[.inr Y,.inr Y,.inr Y,.inr Y,.inr Y,.inr Y,.inr Y,.inr Y,.inr Y,.inl Y,.inr Y,.inr Y,.inl Y,.inl Y,trivial]
  fe.forget hf.len hf.at;refine bK (Oc f8 (VT.to (p8 (gV (bB C.is Xq {RD (zz C.rd Xq wJ {3.,11.,10.} #[p,day,book.take c,_,Y,ok,rc,hbc,Y]) (λt=>P8.rep),8.} #[p,day.length,_,Y,GL,ok.gd,hV.ok,Y]) Y)) Y) λH9 H9' g9=>rj ?_);let hf:MF [.val (oQ ns),.val (gG p),.val (.int m),.val (fV p),.val (.list (day.map jU)),.val (.list (book.map qV)),.val (.list (il cu)),.val (.int (c:Int)),.val (iO (X4 (rR p day (book.take c)))),.un,.val (.list ((book.take c).map qV)),.val (.list (day.map jU)),.un,.un] (sl0 ns p m day book cu):=#[.inr Y,.inr Y,.inr Y,.inr Y,.inr Y,.inr Y,.inr Y,.inl Y,.inl Y,.inl Y,.inl Y,.inl Y,.inl Y,.inl Y,trivial];let f9:=(f8.grow g9).forget hf.len hf.at;exact Xc _ _ _ f9.ent.eV (f9.re Y (fr.ent.trans f9.ent))
theorem zbn(C:LawC P w K mg base){ds:!J}{d:J}(h:zbm ds d):wA P w K mg base Qa "law" (top 64) f 9 ds (.rt d):=by
 let#[ns,rfl,hn,rfl]:=h;intro gj A outer s H E hr;let n:=C.n;let nd:Qa.Nodup:=Ji.nd;let eX:dB 1 _:=hr.mono ();let Qk:dB 2 _:=hr.mono ();let hr3:dB 3 _:=hr.mono ();let Xq:dB 4 _:=hr.mono ();let GL:=zD ns;let gdp:=x4 ns;let#[hk0,hg0]:=rQ ns;let otx:=L9 ns;refine aD (cL 1 (bB C.pl Xq {0.} #[ns,Y,Y]) nd) ?_;refine aD (cL 2 (bB C.mx eX {bB C.ca eX {0.,aB} #[ns,3,Y,Y],aB} #[ns.getD 3 0,7,Y,⋯,⋯,Y]) nd) ?_;let hm0:=zB (ns.getD 3 0) 7;generalize dw (ns.getD 3 0) 7=m at *;refine aD (cL 3 (bB C.rp hr {bB C.pt hr3 {1.} #[eC ns,Y,GL,Y]} #[_,_,Y,otx,Gd GL hk0,zaH GL gdp,by rw[(Pq GL gdp).2]]) nd) ?_;let hcw:=Jg (ns.getD 4 0) m;let nk:(["_law_k","_law_script"]:!O).Nodup:=∎;refine aD (cL 4 (VO.ve (pK C.dy Qk {1.,VE.to (VO.ve (eI (own:=["_law_k"]) (cap:=[0]) (tgt:=.one 0) Y #[Y,∎,∎,Y,Y,?_] (oO (dM aB (cn 2. aB ⋯)) n.rng () ()) (λf s3 H3=>g6 0 nk) Y (small (by rw[iG];omega)) (λd hd=>?_))) (qQ6 lG (S2 _ m))} #[eC ns,x9 (ns.getD 4 0) m,Y,jg.mpr hg0,jg.mpr hk0,(),Y])) nd) ?_
 .intro j hj;obtain rfl:=aK.mp hj;exact#[(by show(0:Nat)<14;decide),(by left),Y]
 .let#[i,hi,rfl]:=ai.mp hd;exact Cb Y Y λf s3 H3=>dM (bB C.ca eX {1.,aB} #[ns,4,Y,Y]) (sP 0. 0. (.inl #[by let:=cG.mp hi;omega,by let:=cG.mp hi;omega]))
 let okw:=Xo ns hcw;let hLd:=P' ns (x9 (ns.getD 4 0) m);let HR:(L2.cutD ns (some 5) (some 63)).length<=63:=bA (Jh _ _ _) hn;generalize wN (eC ns) _=day at *;refine aD (cL 5 (bB C.wi Xq {1.,4.,VO.ve (VO.to (gE 0. (.yes aB) (.yes aB)) (pN _ _ _ _))} #[eC ns,day,_,Y,okw,HR,Y]) nd) ?_;let rx:=(PX okw (L2.cutD ns (some 5) (some 63)) (L2.cutD ns (some 5) (some 63)).length).1;let VZ:=bA ((x8 okw (L2.cutD ns (some 5) (some 63)) (L2.cutD ns (some 5) (some 63)).length).2) HR
 generalize(Bm (eC ns) day _ (L2.cutD ns (some 5) (some 63)).length).2=book at *
 generalize(Bm (eC ns) day _ (L2.cutD ns (some 5) (some 63)).length).1=s' at *
 generalize eC ns=p at *;let c1:=cx (m/30) (show((book.length:Int)+1)≠0 by omega);let c2:=c6 (m/30) (show(0:Int)<(book.length:Int)+1 by omega);let c3:=cx (m/1800) (show((book.length:Int)+1)≠0 by omega);let c4:=c6 (m/1800) (show(0:Int)<(book.length:Int)+1 by omega);let eL:((book.map qV).length:Int)=(book.length:Int):=by rw[ae]
 refine aD (cL 6 (d:=.list (il [0,(m/30%((book.length:Int)+1)).toNat,(m/1800%((book.length:Int)+1)).toNat,book.length])) (VE.to (VO.ve (dQ {aB,cn (eE 2. aB #[⋯,⋯]) (dM (VE.to (fD 5. n.len) (by rw[eL])) aB) (),cn (eE 2. aB #[⋯,⋯]) (dM (VE.to (fD 5. n.len) (by rw[eL])) aB) (),VE.to (fD 5. n.len) (by rw[eL])})) (by
  unfold il;rw[av,av,av,av,iK,v8 c1,v8 c3];rfl)) nd) ?_;generalize hcu:[0,(m/30%((book.length:Int)+1)).toNat,(m/1800%((book.length:Int)+1)).toNat,book.length]=cu;let hcb:∀c∈cu,c<=book.length:=λc hc=>by
  rw[<-hcu]at hc;simp only[au,bu,or_false]at hc;rcases hc with rfl|rfl|rfl|rfl<;>omega
 refine aD (k7 (tgt:=.one 7) bZ Y (eG 6.) (g6 7 nd) (λ_=>sl0 ns p m day book cu) cu.length Y ([dW]▸aP _) (λk d hk hd=>?_) (.inl #[by rw[dW],Y])) (aS (bL B_));obtain⟨c,hc,rfl⟩:∃c:Nat,cu[k]?>>c/\d=.int (c:Int):=by
  unfold il at hd;rw[ax]at hd;cases e:cu[k]? with
  |none=>rw[e]at hd;cases hd
  |some z=>rw[e]at hd;cases hd;exact#[z,Y,Y]
 exact#[_,Y,Xp C hr okw rx VZ hLd c (hcb c (aH hc))]
end
end Mg
namespace Mg
open L2 PySem PyProof.Rows
variable{C f g:U}{K1:Array (Option M)}{fd:fW}{h:dF}{ps:!O}{an od:Option U}{K:aq}{st:jT}{gj doc oc:M}
structure eO(K:aq)(mg:O->Option M)(g x:O)(st:jT)(ps:!O):Prop where
 ex:∃f fd,jO K x x st f fd/\mg g>>(.ref f)/\∀us:!M,us.length=ps.length->bindArgs fd #[us,[]]=pure (ps.zip us)
theorem Be{mg:O->Option M}{g x:O}{kV pm ct: M}(X:K.In h)(G:h.Ns mainGlobals mg)
  (hb:∀(kV doc pm:M)(an:Option U)(gj ct:M)(us:!M),us.length=ps.length->bindArgs (gy x x (nq st) (jN st) (bt st) .none kV doc pm an gj ct) #[us,[]]=pure (ps.zip us))
  (a:Dj K mainGlobals g>>(some (.ref f)))(l:K.lookup f>>#[oc,od,.func (gy x x (nq st) (jN st) (bt st) .none kV doc pm an gj ct),K1])
  (c:jZ K gj x=true)(k:fw K (.ref f)=true):eO K mg g x st ps:=
 #[f,_,Dz l c k,ni X G a,hb kV doc pm an gj ct]
section
variable{K:aq}{mg:O->Option M}{f:U}
theorem eO.call{P:bU}{w:c0}{base:dF}{k:Nat}{g x:O}{sp:Sp}(D:eO K mg g x st ps)(h:∀f fd,jO K x x st f fd->dR P w K mg base ju k f fd ps sp):bw P w K mg base k g ps sp:=by let#[f,fd,F,hm,hb]:=D.ex;exact#[f,fd,h f fd F,hm,F.kp,.all hb]
theorem my(l:K.lookup g>>#[.type "tuple",od,.seq its n,sl])(hs:its.size<=100)(hv:dJ (ws.map V.str) its.toList):N3 K g ws:=
 #[_,_,_,l,Y,Y,small (),hv]
theorem UW(nm:(g==sysModules)=false)(nd:(kvs.map (·.1)).Nodup)(l:K.lookup g>>#[.type "dict",none,.dict es ep,#[]])(ge:GE pr K es.toList kvs):GD pr K g kvs:=
 #[nm,nd,_,es,ep,l,#[Y,Y,Y],Y,ge]
structure S4(K:aq)(mg:O->Option M):Prop where
 ex:∃C fi fd,mg "Plant"=some (.ref C)/\uM K C/\(∀f∈fsN,gw K C f)/\Mk K C fi/\jO K "__init__" "Plant.__init__" CL fi fd/\Binds K fd ["self"] []
theorem zbo{kV pm ct: M}(X:K.In h)(G:h.Ns mainGlobals mg)(aC:Dj K mainGlobals "Plant"=some (some (.ref C)))
  (a1:bR K (.ref C) "__init__"=some (some (.ref f)))(i1:nZ K (.ref f)=true)(l:K.lookup f>>#[oc,od,.func (gy "__init__" "Plant.__init__" (nq CL) (jN CL) (bt CL) .none kV doc pm an gj ct),K1])(c:jZ K gj "Plant.__init__"=true)(k:fw K (.ref f)=true)
  (pg:kx K C fZ=true)(hd:lI K C=true)(po:pB K C=true)(sa:bR K (.ref C) "__setattr__"=some (some (.builtin "object.__setattr__")))(mk:rS K C=true)(kc:fw K (.ref C)=true)
  (z1:bR K (.ref C) "kinds"=some none)(z2:bR K (.ref C) "gates"=some none)(z3:bR K (.ref C) "lines"=some none)(z4:bR K (.ref C) "desks"=some none)(z5:bR K (.ref C) "times"=some none)(z6:bR K (.ref C) "hours"=some none)(z7:bR K (.ref C) "paces"=some none):S4 K mg:=by
 let F:=Dz l c k;refine#[C,f,_,ni X G aC,#[pg,hd,po,sa],λf hf=>?_,#[mk,a1,i1,kc],F,F.binds λ_ _ _ _ _ _ us hl=>match us,hl with | [_],_=>rfl];simp[au,bu,or_false]at hf;rcases hf with rfl|rfl|rfl|rfl|rfl|rfl|rfl
 .exact z1
 .exact z2
 .exact z3
 .exact z4
 .exact z5
 .exact z6
 .exact z7
theorem S4.pc(T:S4 K mg):PlC P w K mg base:=by let#[C,fi,fd,h1,h2,h3,h4,h5,h6]:=T.ex;exact#[C,fi,fd,h1,h2,h3,h4,zeE h5 h2 h3,h6]
structure BL(K:aq)(C:U)(m q:O)(st:jT)(ps:!O):Prop where
 ex:∃f fd,jO K m q st f fd/\Qy K C m f/\Binds K fd ps []
theorem Qb{m q:O}{kV pm ct: M}(hb:∀(kV doc pm:M)(an:Option U)(gj ct:M)(us:!M),us.length=ps.length->bindArgs (gy m q (nq st) (jN st) (bt st) .none kV doc pm an gj ct) #[us,[]]=pure (ps.zip us))
  (a:bR K (.ref C) m>>(some (.ref f)))(i:nZ K (.ref f)=true)(l:K.lookup f>>#[oc,od,.func (gy m q (nq st) (jN st) (bt st) .none kV doc pm an gj ct),K1])(c:jZ K gj q=true)(k:fw K (.ref f)=true):BL K C m q st ps:=
 #[f,_,Dz l c k,#[a,i,k],.all (hb kV doc pm an gj ct)]
theorem BL.call(Ma:BL K C m q st ps)(cl:uM K C)(h:∀f fd,jO K m q st f fd->dR P w K mg base ju k f fd ps sp):qD P w K mg base k C m ps sp:=by let#[f,fd,F,hm,hb]:=Ma.ex;exact#[f,fd,h f fd F,cl,hm,hb]
structure RpA(K:aq)(mg:O->Option M)(C:U):Prop where
 at_:mg "Replay"=some (.ref C)
 cl:uM K C
 na:∀f∈rpN,gw K C f
 m0:∃fi fd,Mk K C fi/\jO K "__init__" "Replay.__init__" (qk 0) fi fd/\Binds K fd ["self","plant","day"] []
 m1:BL K C "fault_of" "Replay.fault_of" (qk 1) ["self","entry"]
 m2:BL K C "enter" "Replay.enter" (qk 2) ["self","entry"]
 m3:BL K C "can_come" "Replay.can_come" (qk 3) ["self","good"]
 m4:BL K C "take_fault" "Replay.take_fault" (qk 4) ["self","desk","goods"]
 m5:BL K C "put_fault" "Replay.put_fault" (qk 5) ["self","desk","time","goods"]
 m6:BL K C "goods_in" "Replay.goods_in" (qk 6) ["self","names"]
 m7:BL K C "clear_from" "Replay.clear_from" (qk 7) ["self","names","goods"]
 m8:BL K C "put_behind" "Replay.put_behind" (qk 8) ["self","line","goods"]
 m9:BL K C "work_on" "Replay.work_on" (qk 9) ["self","name","goods"]
structure zbp(K:aq)(mg:O->Option M):Prop where
 ex:∃C,RpA K mg C
theorem zbq{kV pm ct: M}(X:K.In h)(G:h.Ns mainGlobals mg)(aC:Dj K mainGlobals "Replay"=some (some (.ref C)))
  (a1:bR K (.ref C) "__init__"=some (some (.ref f)))(i1:nZ K (.ref f)=true)(l:K.lookup f>>#[oc,od,.func (gy "__init__" "Replay.__init__" (nq (qk 0)) (jN (qk 0)) (bt (qk 0)) .none kV doc pm an gj ct),K1])(c:jZ K gj "Replay.__init__"=true)(k:fw K (.ref f)=true)
  (pg:kx K C fZ=true)(hd:lI K C=true)(po:pB K C=true)(sa:bR K (.ref C) "__setattr__"=some (some (.builtin "object.__setattr__")))(mk:rS K C=true)(kc:fw K (.ref C)=true)
  (z1:bR K (.ref C) "plant"=some none)(z2:bR K (.ref C) "day"=some none)(z3:bR K (.ref C) "time"=some none)(z4:bR K (.ref C) "came"=some none)(z5:bR K (.ref C) "places"=some none)(z6:bR K (.ref C) "by_name"=some none)(z7:bR K (.ref C) "loads"=some none)
  (y1:BL K C "fault_of" "Replay.fault_of" (qk 1) ["self","entry"])(y2:BL K C "enter" "Replay.enter" (qk 2) ["self","entry"])(y3:BL K C "can_come" "Replay.can_come" (qk 3) ["self","good"])(y4:BL K C "take_fault" "Replay.take_fault" (qk 4) ["self","desk","goods"])(y5:BL K C "put_fault" "Replay.put_fault" (qk 5) ["self","desk","time","goods"])(y6:BL K C "goods_in" "Replay.goods_in" (qk 6) ["self","names"])(y7:BL K C "clear_from" "Replay.clear_from" (qk 7) ["self","names","goods"])(y8:BL K C "put_behind" "Replay.put_behind" (qk 8) ["self","line","goods"])(y9:BL K C "work_on" "Replay.work_on" (qk 9) ["self","name","goods"]):zbp K mg:=by
 let F:=Dz l c k;refine#[C,ni X G aC,#[pg,hd,po,sa],λf hf=>?_,#[f,_,#[mk,a1,i1,kc],F,F.binds λ_ _ _ _ _ _ us hl=>match us,hl with | [_,_,_],_=>rfl],y1,y2,y3,y4,y5,y6,y7,y8,y9];simp[au,bu,or_false]at hf;rcases hf with rfl|rfl|rfl|rfl|rfl|rfl|rfl
 .exact z1
 .exact z2
 .exact z3
 .exact z4
 .exact z5
 .exact z6
 .exact z7
structure Defs(K:aq)(mg:O->Option M)(pr:GP):Prop where
 n:Np mg pr K
 nw:Nw mg
 kt:Ka K
 pa:S4 K mg
 rp:zbp K mg
 md:mg "dict"=none
 ms:mg "set"=none
 kd:dz K (.type "dict") (.type "dict")>>true
 d0:eO K mg "is_made_of" "is_made_of" (top 11) ["signs","longest","word"]
 d1:eO K mg "is_name" "is_name" (top 12) ["word"]
 d2:eO K mg "is_number" "is_number" (top 13) ["word"]
 d3:eO K mg "words_of" "words_of" (top 14) ["row"]
 d4:eO K mg "rows_of" "rows_of" (top 15) ["text"]
 d5:eO K mg "greatest_load" "greatest_load" (top 5) ["rule","many"]
 d6:eO K mg "read_plant" "read_plant" (top 21) ["text"]
 d7:eO K mg "fits" "fits" (top 24) ["shape","word"]
 d8:eO K mg "value_of" "value_of" (top 25) ["shape","word"]
 d9:eO K mg "values_of" "values_of" (top 26) ["shapes","words"]
 d10:eO K mg "entry_of" "entry_of" (top 27) ["words"]
 d11:eO K mg "desk_entry" "desk_entry" (top 28) ["words"]
 d12:eO K mg "rule_of" "rule_of" (top 29) ["words","many"]
 d13:eO K mg "are_places" "are_places" (top 30) ["names"]
 d14:eO K mg "fault_of" "fault_of" (top 31) ["plant","entry"]
 d15:eO K mg "tells_twice" "tells_twice" (top 32) ["plant","entry"]
 d16:eO K mg "lacks_name" "lacks_name" (top 33) ["plant","entry"]
 d17:eO K mg "lacks_room" "lacks_room" (top 34) ["plant","entry"]
 d18:eO K mg "is_place" "is_place" (top 35) ["plant","name"]
 d19:eO K mg "is_desk" "is_desk" (top 36) ["plant","name"]
 d20:eO K mg "takers_of" "takers_of" (top 37) ["plant","place"]
 d21:eO K mg "add_entry" "add_entry" (top 38) ["plant","entry"]
 d22:eO K mg "work_of" "work_of" (top 22) ["plant","desk","kind"]
 d23:eO K mg "finds_room" "finds_room" (top 23) ["plant","places","to","goods"]
 d24:eO K mg "replayed" "replayed" (top 41) ["plant","day","book"]
 d25:eO K mg "_law_cell_at" "_law_cell_at" (top 43) ["_law_script","_law_k"]
 d26:eO K mg "_law_mix" "_law_mix" (top 44) ["_law_cell","_law_k"]
 d27:eO K mg "_law_names" "_law_names" (top 45) ["_law_cell","_law_many"]
 d28:eO K mg "_law_rule" "_law_rule" (top 46) ["_law_m","_law_many"]
 d29:eO K mg "_law_greatest" "_law_greatest" (top 47) ["_law_rule_here","_law_many"]
 d30:eO K mg "_law_desks" "_law_desks" (top 48) ["_law_cell","_law_places","_law_lines"]
 d31:eO K mg "_law_plant" "_law_plant" (top 49) ["_law_script"]
 d32:eO K mg "_law_dash" "_law_dash" (top 50) ["_law_thing"]
 d33:eO K mg "_law_rule_text" "_law_rule_text" (top 51) ["_law_rule_here"]
 d34:eO K mg "_law_plant_text" "_law_plant_text" (top 52) ["_law_h"]
 d35:eO K mg "_law_day" "_law_day" (top 53) ["_law_h","_law_cells"]
 d36:eO K mg "_law_alike" "_law_alike" (top 54) ["_law_found","_law_due"]
 d37:eO K mg "_law_free" "_law_free" (top 55) ["_law_h","_law_state","_law_desk_here"]
 d38:eO K mg "_law_wild_load" "_law_wild_load" (top 56) ["_law_h","_law_day_here","_law_state","_law_m","_law_t"]
 d39:eO K mg "_law_ripe" "_law_ripe" (top 57) ["_law_h","_law_state","_law_t"]
 d40:eO K mg "_law_wild_entry" "_law_wild_entry" (top 58) ["_law_h","_law_day_here","_law_state","_law_m","_law_t"]
 d41:eO K mg "_law_desk" "_law_desk" (top 59) ["_law_h","_law_name"]
 d42:eO K mg "_law_do" "_law_do" (top 60) ["_law_h","_law_day_here","_law_state","_law_entry"]
 d43:eO K mg "_law_begun" "_law_begun" (top 61) ["_law_h"]
 d44:eO K mg "_law_wild" "_law_wild" (top 62) ["_law_h","_law_day_here","_law_cells"]
 d45:eO K mg "_law_is_state" "_law_is_state" (top 63) ["_law_found","_law_state"]
theorem Defs.all(D:Defs K mg w.params):LawC P w K mg base:=by let n:=D.n;let nw:=D.nw;let pc:=D.pa.pc (P:=P) (w:=w) (base:=base);let xm:=D.d0.call (P:=P) (w:=w) (base:=base) λ_ _ F=>zdX F nw;let yb:=D.d1.call λ_ _ F=>zdY F nw xm;let yJ:=D.d2.call λ_ _ F=>zdZ F nw xm;let Mt:=D.d4.call (P:=P) (w:=w) (base:=base) λ_ _ F=>zd1 F nw (D.d3.call (P:=P) (w:=w) (base:=base) λ_ _ F=>zd0 F);let S5:=D.d7.call (P:=P) (w:=w) (base:=base) λ_ _ F=>zaa F n.toNa yb yJ;let Xs:=D.d7.call (P:=P) (w:=w) (base:=base) λ_ _ F=>zeg F n.toNa yb yJ S5;let Jj:=D.d8.call (P:=P) (w:=w) (base:=base) λ_ _ F=>zeh F n.toNa;let ua:=D.d9.call (P:=P) (w:=w) (base:=base) λ_ _ F=>zek F n.toNa n.zip Xs Jj;let Mu:=D.d12.call (P:=P) (w:=w) (base:=base) λ_ _ F=>zae F n ua;let En:=D.d13.call (P:=P) (w:=w) (base:=base) λ_ _ F=>zem F n yb;let Eo:=D.d11.call (P:=P) (w:=w) (base:=base) λ_ _ F=>zeo F n ua Mu En;let Jk:=D.d10.call (P:=P) (w:=w) (base:=base) λ_ _ F=>zet F n ua Eo;let Bf:=D.d18.call (P:=P) (w:=w) (base:=base) λ_ _ F=>zex F;let C5:=D.d19.call (P:=P) (w:=w) (base:=base) λ_ _ F=>zey F;let Gw:=D.d20.call (P:=P) (w:=w) (base:=base) λ_ _ F=>zez F;let BM:=D.d15.call (P:=P) (w:=w) (base:=base) λ_ _ F=>zeB F n Bf C5 Gw;let Ep:=D.d16.call (P:=P) (w:=w) (base:=base) λ_ _ F=>zeC F n Bf C5;let Es:=D.d17.call (P:=P) (w:=w) (base:=base) λ_ _ F=>zat F n (D.d5.call (P:=P) (w:=w) (base:=base) λ_ _ F=>zeA F);let Jl:=D.d14.call λ_ _ F=>zeD F BM Ep Es;let Et:=D.d6.call (P:=P) (w:=w) (base:=base) λ_ _ F=>zeM F n pc Mt Jk Jl (D.d21.call (P:=P) (w:=w) (base:=base) λ_ _ F=>zeG F);let Mv:=D.d22.call (P:=P) (w:=w) (base:=base) λ_ _ F=>ze7 F;let#[C,rp]:=D.rp.ex;let c:SR K C:=#[rp.cl,rp.na];let zfU:=rp.m3.call (P:=P) (w:=w) (mg:=mg) (base:=base) rp.cl λ_ _ F=>ze1 F n.toNa (C:=C);let zbs:=rp.m6.call (P:=P) (w:=w) (mg:=mg) (base:=base) rp.cl λ_ _ F=>ze3 F (C:=C);let zfV:=rp.m4.call (P:=P) (w:=w) (mg:=mg) (base:=base) rp.cl λ_ _ F=>ze4 F n.toNa D.ms zbs;let zfW:=rp.m5.call (P:=P) (w:=w) (mg:=mg) (base:=base) rp.cl λ_ _ F=>ze6 F n.toNa (D.d23.call (P:=P) (w:=w) (base:=base) λ_ _ F=>ze5 F n.toNa) (C:=C);let zfX:=rp.m9.call (P:=P) (w:=w) (mg:=mg) (base:=base) rp.cl λ_ _ F=>za3 F n.toNa Mv (C:=C);let zfY:=λpl day=>rp.m7.call (P:=P) (w:=w) (mg:=mg) (base:=base) rp.cl λ_ _ F=>ze9 F c (pl:=pl) (day:=day);let zfZ:=λpl day=>rp.m8.call (P:=P) (w:=w) (mg:=mg) (base:=base) rp.cl λ_ _ F=>zfa F c (pl:=pl) (day:=day);let zf0:=λpl day=>rp.m2.call (P:=P) (w:=w) (mg:=mg) (base:=base) rp.cl λ_ _ F=>zfb F n.toNa c (zfY pl day) (zfZ pl day) zfX;let#[fi,fdi,Mi,Fi,bi]:=rp.m0;let R:RpK P w K mg base C:=#[c,rp.at_,#[fi,fdi,Mi,λpl day=>zbi Fi n.toNa c,bi],rp.m1.call (P:=P) (w:=w) (mg:=mg) (base:=base) rp.cl λ_ _ F=>ze8 F n.toNa zfU zbs zfV zfW,zf0];let Jm:=D.d24.call λ_ _ F=>zff F n.toNa R;let va:=D.d25.call (P:=P) (w:=w) (base:=base) λ_ _ F=>WQ F n.len;let oG:=D.d26.call (P:=P) (w:=w) (base:=base) λ_ _ F=>Z0 F;let yK:=D.d27.call λ_ _ F=>zd3 F n.toNm oG;let Jn:=D.d28.call (P:=P) (w:=w) (base:=base) λ_ _ F=>zd4 F n.toNm;let Gx:=D.d30.call (P:=P) (w:=w) (base:=base) λ_ _ F=>zd6 F n.toNm oG yK Jn;let Gy:=D.d31.call (P:=P) (w:=w) (base:=base) λ_ _ F=>zd8 F n.toNm va oG yK (D.d29.call (P:=P) (w:=w) (base:=base) λ_ _ F=>zd5 F) Gx;let Bg:=D.d32.call (P:=P) (w:=w) (base:=base) λ_ _ F=>zec F n.toNa;let yc:=D.d34.call (P:=P) (w:=w) (base:=base) λ_ _ F=>zef F n.toNa Bg (D.d33.call (P:=P) (w:=w) (base:=base) λ_ _ F=>zee F n.toNa Bg);let Mw:=D.d35.call λ_ _ F=>zea F n.toNm oG;let zh:=D.d38.call (P:=P) (w:=w) (base:=base) λ_ _ F=>zeQ F n.toNa (D.d37.call (P:=P) (w:=w) (base:=base) λ_ _ F=>zaK F);let Jo:=D.d39.call (P:=P) (w:=w) (base:=base) λ_ _ F=>zeR F n.toNa D.md;let Jp:=D.d41.call (P:=P) (w:=w) (base:=base) λ_ _ F=>zaQ F;let Gz:=D.d42.call (P:=P) (w:=w) (base:=base) λ_ _ F=>zeV F n.toNa D.md Jp;let yL:=D.d43.call (P:=P) (w:=w) (base:=base) λ_ _ F=>zeZ F D.md;let Jq:=D.d44.call (P:=P) (w:=w) (base:=base) λ_ _ F=>ze0 F n.toNa oG yL (D.d40.call (P:=P) (w:=w) (base:=base) λ_ _ F=>zeS F n.toNa Jo zh) Gz;let a0:=D.d36.call (P:=P) (w:=w) (base:=base) λ_ _ F=>Z7 F n.toNa D.kt;let a1:=D.d36.call λ_ _ F=>Ui F n.toNa D.kt a0;let a2:=D.d36.call λ_ _ F=>Ui F n.toNa D.kt a1;exact#[n.toNa,va,oG,Gy,yc,Et,Mw,Jq,yL,Gz,D.d45.call λ_ _ F=>zfg F n.toNa D.md D.kt D.kd a2,Jm]
def Qc(K:aq):Sp:=λvs H Q _=>∃(a:U)(ns:!Int),vs=[.ref a]/\jW K H a (ns.map V.int)/\ns.length<=63/\∀H',Q (.bl true) H'
theorem C6:∀ns:!Int,b_ K H (ns.map V.int) (ns.map dq)
 | []=>.nil
 |n::ns=>.cons (.int n) (C6 ns)
theorem S6(F:dR P w K mg base ju k f fd ps (gk K zbm)):dR P w K mg base ju k f fd ps (Qc K):=F.imp λvs H Q E h=>by let#[a,ns,rfl,hS,hn,q]:=h;exact#[H,_,_,cz.refl _,.cons (.lst hS (C6 ns)) .nil,#[ns,Y,hn,Y],λv cY H' g r=>by cases r;exact q H']
theorem zbt(F:jO K "law" "law" (top 64) f fd)(C:LawC P w K mg base):dR P w K mg base ju 10 f fd ["_law_script"] (Qc K):=
 S6 (ik F Ji (by ext) λ_ _ h=>zbn C h)
end
theorem walk{l:PySem.W.OpenLaw}{q:bU}{loose:!O}{XP:(O->Option M)->dF->Prop}{YP:c0->dF->Prop}{d:DefRec}{K:GP->aq}(hn:l.most>>63)(YM:d.params.defaults=[])(Fq:d.name="law")
  (hY:∀(w:c0)(h:dF),YP w h->(K w.params).In h)
  (F:∀(w:c0)(mg:O->Option M)(h:dF),(K w.params).In h->h.Ns mainGlobals mg->Defs (K w.params) mg w.params/\eO (K w.params) mg "law" "law" (top 64) ["_law_script"]):
  PySem.W.WalkO q loose XP YP l.row.toRowW d [] (λf vs=>PySem.call f vs):=
 L2.QO (k:=10) (sp:=λw=>Qc (K w.params)) hn ⋯ YM #[Y,⋯,⋯] hY (λw mg fa h X G MC=>by let#[D,La]:=F w mg h X G;let#[f,fd,Fl,hm,hb]:=La.ex;rw[Fq]at MC;rw[hm]at MC;cases MC;exact#[fd,λs v=>.of_eq (hb [v] Y),λbase _ _=>zbt Fl D.all]) (λ_ _ a ns hl _ hS=>#[a,ns,Y,hS,hl,λ_=>rfl]) λ_ _ _ _ _ z=>z
end Mg
namespace PySem.W.Fast
def tw14719752082438048854:=0
def tw7285827918588145556:=0
def tw16299471401278599931:=0
def tw1971327939376070703:=0
def tw11326732036171130179:=0
def tw9108961785664598424:=0
def tw7889053273252104658:=0
def tw6243578233413022935:=0
def tw11298077753342873395:=0
def tw12579301560686357758:=0
def tw5824673739105791360:=0
def tw3194351560043815830:=0
def tw4441165834442492390:=0
def tw2372660419928737973:=0
def tw11754509384723980190:=0
def tw14274253213754827481:=0
def tw2492797772948225607:=0
def tw5143489330205476149:=0
def tw12474055058121043876:=0
def tw4342164685584763218:=0
def tw13374242454739670156:=0
def tw6860952211231519155:=0
def tw11784501556090292205:=0
def tw5517030605954655296:=0
def tw18018521002146671750:=0
def tw7380795707996026022:=0
def tw11254301430236995772:=0
def tw11715789029860086545:=0
def tw55702216586408320:=0
def tw17429437888050059844:=0
def tw12677690600571094491:=0
def tw1930429359049273445:=0
def tw3778145816649880828:=0
def tw14819501428143288914:=0
def tw12251939300159806408:=0
def tw10064333802881754455:=0
def tw6610752775962169339:=0
def tw10906414332505577916:=0
def tw14222308551797120414:=0
def tw3005572141538971350:=0
def tw5637409515541138833:=0
def tw10831523632580941931:=0
def tw17382356920872593224:=0
def tw13589290024109779663:=0
def tw15890107737868316642:=0
def tw11689952977655030437:=0
def tw10873831370945441426:=0
def tw304426970246489100:=0
def tw17633961265007027031:=0
def tw682071044536863275:=0
def tw1248684896781079771:=0
def tw2077729781739344988:=0
def tw9128994327825288402:=0
def tw1520708801550183008:=0
def tw10351708150861578344:=0
def tw433939334670211843:=0
def tw17912308266867955830:=0
def tw5311459655310145437:=0
def tw14821631185608450026:=0
def tw18414649381991590131:=0
def tw3409630219761483350:=0
def tw2736654977940127709:=0
def tw18380721545483777547:=0
def tw957029830558177489:=0
def tw9913621733137613430:=0
def tw18178436874910904726:=0
def tw9733563314294788424:=0
def tw5666734784579869617:=0
def tw2211955566446756985:=0
def tw11188097756904337350:=0
def tw11899925428708208962:=0
def tw6671236817365679197:=0
def tw2349891949679707551:=0
def tw12374638236444003596:=0
def tw11219117807531865706:=0
def tw2115732068084710838:=0
def tw9542235712953337138:=0
def tw8804611567696866840:=0
def tw9567893179476844397:=0
def tw6629614413298747785:=0
def tw948619536279833835:=0
def tw6357289241502580800:=0
def tw9736591649598372545:=0
def tw17222129685991836503:=0
def tw16091957568587940602:=0
def tw7487895981746000681:=0
def tw12586013002901321552:=0
def tw8863631491283907714:=0
def tw6715930216089901118:=0
def tw11352748668396463640:=0
def tw12794033428556249322:=0
def tw13146601774489023538:=0
def tw14848306865026500504:=0
def tw4900821905056349687:=0
def tw18123434909589621045:=0
def tw13215033712633717738:=0
def tw12511277799034638054:=0
def tw10648424224697990563:=0
def tw3594480042678051038:=0
def tw1156569307302217707:=0
def tw9133958797928808523:=0
def tw7560333388731057586:=0
def tw14637823702722180208:=0
def tw14526302602066627536:=0
def tw9826104574556853897:=0
def tw16848270583581471829:=0
def tw6976837738288287802:=0
def tw12695900699597873771:=0
def tw17126421607241300102:=0
def tw13165373542364028406:=0
def tw2277013601086172697:=0
def tw4991639629685631837:=0
def tw8343030135572108186:=0
def tw12005627888362434874:=0
def tw13487074685674572570:=0
def tw3727538517707809683:=0
def tw18217508483337758267:=0
def tw113781853380783623:=0
def tw3950588958712131043:=0
def tw10586944663679632395:=0
def tw17412337946264661158:=0
def tw4251969489544600422:=0
def tw14505971201195124274:=0
def tw12837736752514596410:=0
def tw5708671126750749718:=0
def tw6751737194931833590:=0
def tw11416838490280540581:=0
def tw2114109142868857046:=0
def tw2422048394862005187:=0
def tw8698217456728980279:=0
def tw9826234269206797379:=0
def tw1610965190112645138:=0
def tw16612255493214338011:=0
def tw11839556486043719700:=0
def tw9329367802425544949:=0
def tw13027730009202219214:=0
def tw12981230133398801011:=0
def tw15406487382614484784:=0
def tw8268426519115378327:=0
def tw15228856935627655865:=0
def tw3810083092112077487:=0
def tw15920513623190942213:=0
def tw12897750641489062429:=0
def tw6092761601523326578:=0
def tw6265870468213328349:=0
def tw10251280915396070366:=0
def tw9565353270238535844:=0
def tw5962067311197635176:=0
def tw4049137471067140708:=0
def tw10371519448666572801:=0
def tw13849037917120756692:=0
def tw16145282500744502635:=0
def tw5760668861875811307:=0
def tw14462397463108699607:=0
def tw2752864973702580695:=0
def tw2953204769511518451:=0
def tw8954699928113788576:=0
def tw10782419739527680154:=0
def tw5261941066527203205:=0
def tw6446603813264850819:=0
def tw583419346403996034:=0
def tw593774128536876749:=0
def tw11134752218859178388:=0
def tw517053926345018599:=0
def tw3897829686715708407:=0
def tw349172907567532554:=0
def tw8257471381050207196:=0
def tw7455562263872894379:=0
def tw11843229273123164456:=0
def tw12838402495453228187:=0
def tw18162550899577982621:=0
def tw4552275540474970157:=0
def tw10612785440023915706:=0
def tw3300855433493651544:=0
def tw6256767112297940749:=0
def tw16017973176832352507:=0
def tw9181176390645298839:=0
def tw3260119548800448632:=0
def tw11464209949743231487:=0
def tw5532883219785340050:=0
def tw17254732771816823536:=0
def tw13539500215002270194:=0
def tw10117203598923386845:=0
def tw1264049183619408967:=0
def tw2173511079910687761:=0
def tw4111950887507592050:=0
def tw14613800875768566517:=0
def tw12351333810107168867:=0
def tw32213216663411942:=0
def tw16497602601815152838:=0
def tw5089509007114755813:=0
def tw10922805963902381255:=0
def tw13270023733341630057:=0
def tw13341099244393384962:=0
def tw3776735637197876974:=0
def tw9719882491369395192:=0
def tw13594922326314501012:=0
def tw8602713945939947203:=0
def tw14372546874628491339:=0
def tw14156498740709031225:=0
def tw3519951283168216216:=0
def tw4568264704870720945:=0
def tw4768594936251893319:=0
def tw14093982504450842290:=0
def tw5092932644318112014:=0
def tw17768384854119666044:=0
def tw11418407330608129005:=0
def tw3814066094008831141:=0
def tw11619040657416308726:=0
def tw5915063376181050836:=0
def tw5624993073530773338:=0
def tw15623678355513561059:=0
def tw2644285424881755518:=0
def tw13682409428322391204:=0
def tw9173526497768884737:=0
def tw15127812108590924405:=0
def tw2801297204179781785:=0
def tw4345394925113544735:=0
def tw6658099752950651735:=0
def tw12213471984486312254:=0
def tw182386492564303027:=0
def tw7670184942186729546:=0
def tw3790158465367543332:=0
def tw14479798234269398569:=0
def tw7586748236079753245:=0
def tw14579555026245366415:=0
def tw9489333704828524700:=0
def tw1530264150416267640:=0
def tw13978589291914940948:=0
def tw17616398320055951214:=0
def tw10973472186126735290:=0
def tw17520221548680512736:=0
def tw3938193982753327731:=0
def tw18265682830803714724:=0
def tw16367694391625320962:=0
def tw6490512297665005026:=0
def tw9749478354438087768:=0
def tw3366675960957049814:=0
def tw458243626329844500:=0
def tw4876301617108742175:=0
def tw12565173680722072745:=0
def tw9783235925471655892:=0
def tw3955090270654836791:=0
def tw17210032541932054865:=0
def tw11463662712227975337:=0
def tw4478102353037113017:=0
def tw1890395551445620151:=0
def tw69548616835275459:=0
def tw2252742215844060907:=0
def tw17173753505258448532:=0
def tw10061411507386684009:=0
def tw17194019975529169904:=0
def tw316635166310507238:=0
def tw15067905275397398806:=0
def tw13716412972922916679:=0
def tw1817010503657490210:=0
def tw11960704082525908049:=0
def tw1255682513206347904:=0
def tw13072785024741467934:=0
def tw18238571413788862323:=0
def tw13901728287756307068:=0
def tw3244905541242439326:=0
def tw10081196771551865844:=0
def tw828983845384872004:=0
def tw14216130688169906364:=0
def tw1563864116226847902:=0
def tw15479088042946478829:=0
def tw6369949692889988075:=0
def tw7846042725006711187:=0
def tw9334211130485239683:=0
end PySem.W.Fast
end
open PySem PySem.W PyProof.Rows
theorem PySem.Challenge.cw_mergeline_k46_replayed_holds : PySem.Challenge.rw_mergeline_k46_replayed.Holds := by
 w_on;o_law;k_head;(case hw=>w_witness2)
 k_fill
 refine Mg.walk (l:=PySem.Challenge.rw_mergeline_k46_replayed) rfl rfl rfl (λw h Y=>PySem.W.kIn_of Y) ?F
 case F=>
  intro w mg h KX G;refine⟨⟨⟨⟨⟨?n1,?n2,?n3,?n4,?n5,?n6,?n7,?n8,?n9,?n10,?n11,?n12⟩,?n13,?n14⟩,?y1,?y2,?y3,?ymp,?yfo,?yru⟩,⟨?w1,?w2,?w3,?xa,?xb,?xc,?xd⟩,⟨?t0,?t1,?t2,?t3,?t4,?t5,?t6,?t7,?t8,?t9,?t10,?t11⟩,?ypl,?yrp,?md,?ms,?kd,?d0,?d1,?d2,?d3,?d4,?d5,?d6,?d7,?d8,?d9,?d10,?d11,?d12,?d13,?d14,?d15,?d16,?d17,?d18,?d19,?d20,?d21,?d22,?d23,?d24,?d25,?d26,?d27,?d28,?d29,?d30,?d31,?d32,?d33,?d34,?d35,?d36,?d37,?d38,?d39,?d40,?d41,?d42,?d43,?d44,?d45⟩,?law⟩
  case n1|n2|n3|n4|n5|n6|n7|n8|n9|n10|n11|n12|n13|n14|y1|y2|y3|w1|w2|w3|md|ms=>exact PySem.W.mg_none_of KX G (by k_is)
  case ymp|xa|xb|xc|xd=>exact⟨_,ni KX G (by k_is)⟩
  case yfo=>refine⟨_,ni KX G (by k_is),Mg.UW (by decide) (by symm) (by k_is) (.cons rfl (Mg.my (by k_is) (by decide) (.cons ⟨_,rfl⟩ (.cons ⟨_,rfl⟩ .nil))) (.cons rfl (Mg.my (by k_is) (by decide) (.cons ⟨_,rfl⟩ .nil)) (.cons rfl (Mg.my (by k_is) (by decide) (.cons ⟨_,rfl⟩ (.cons ⟨_,rfl⟩ .nil))) (.cons rfl (Mg.my (by k_is) (by decide) (.cons ⟨_,rfl⟩ (.cons ⟨_,rfl⟩ (.cons ⟨_,rfl⟩ .nil)))) (.cons rfl (Mg.my (by k_is) (by decide) (.cons ⟨_,rfl⟩ (.cons ⟨_,rfl⟩ (.cons ⟨_,rfl⟩ .nil)))) (.cons rfl (Mg.my (by k_is) (by decide) (.cons ⟨_,rfl⟩ (.cons ⟨_,rfl⟩ (.cons ⟨_,rfl⟩ (.cons ⟨_,rfl⟩ .nil))))) .nil))))))⟩
  case yru=>refine⟨_,ni KX G (by k_is),Mg.UW (by decide) (by symm) (by k_is) (.cons rfl (Mg.my (by k_is) (by decide) .nil) (.cons rfl (Mg.my (by k_is) (by decide) (.cons ⟨_,rfl⟩ .nil)) (.cons rfl (Mg.my (by k_is) (by decide) (.cons ⟨_,rfl⟩ .nil)) (.cons rfl (Mg.my (by k_is) (by decide) (.cons ⟨_,rfl⟩ (.cons ⟨_,rfl⟩ .nil))) (.cons rfl (Mg.my (by k_is) (by decide) .nil) .nil)))))⟩
  case t0|t1|t2|t3|t4|t5|t6|t7|t8|t9|t10|t11|kd=>kit_is
  case ypl=>refine' Mg.zbo KX G ?aC ?a1 ?i1 ?l ?c ?k ?pg ?hd ?po ?sa ?mk ?kc ?z1 ?z2 ?z3 ?z4 ?z5 ?z6 ?z7;(case aC|a1|i1|l|c|k|pg|hd|po|sa|mk|kc|z1|z2|z3|z4|z5|z6|z7=>k_is)
  case yrp=>
   refine' Mg.zbq KX G ?raC ?ra1 ?ri1 ?rl ?rc ?rk ?rpg ?rhd ?rpo ?rsa ?rmk ?rkc ?rz1 ?rz2 ?rz3 ?rz4 ?rz5 ?rz6 ?rz7 ?ry1 ?ry2 ?ry3 ?ry4 ?ry5 ?ry6 ?ry7 ?ry8 ?ry9
   case raC|ra1|ri1|rl|rc|rk|rpg|rhd|rpo|rsa|rmk|rkc|rz1|rz2|rz3|rz4|rz5|rz6|rz7=>k_is
   case ry1|ry2|ry3|ry6=>refine' Mg.Qb (λ_ _ _ _ _ _ us hl=>match us,hl with | [_,_],_=>rfl) ?a ?i ?l ?c ?k;(case a|i|l|c|k=>k_is)
   case ry4|ry7|ry8|ry9=>refine' Mg.Qb (λ_ _ _ _ _ _ us hl=>match us,hl with | [_,_,_],_=>rfl) ?a ?i ?l ?c ?k;(case a|i|l|c|k=>k_is)
   case ry5=>refine' Mg.Qb (λ_ _ _ _ _ _ us hl=>match us,hl with | [_,_,_,_],_=>rfl) ?a ?i ?l ?c ?k;(case a|i|l|c|k=>k_is)
  case d1|d2|d3|d4|d6|d10|d11|d13|d31|d32|d33|d34|d43|law=>refine' Mg.Be KX G (λ_ _ _ _ _ _ us hl=>match us,hl with | [_],_=>rfl) ?a ?l ?c ?k;(case a|l|c|k=>k_is)
  case d5|d7|d8|d9|d12|d14|d15|d16|d17|d18|d19|d20|d21|d25|d26|d27|d28|d29|d35|d36|d41|d45=>refine' Mg.Be KX G (λ_ _ _ _ _ _ us hl=>match us,hl with | [_,_],_=>rfl) ?a ?l ?c ?k;(case a|l|c|k=>k_is)
  case d0|d22|d24|d30|d37|d39|d44=>refine' Mg.Be KX G (λ_ _ _ _ _ _ us hl=>match us,hl with | [_,_,_],_=>rfl) ?a ?l ?c ?k;(case a|l|c|k=>k_is)
  case d23|d42=>refine' Mg.Be KX G (λ_ _ _ _ _ _ us hl=>match us,hl with | [_,_,_,_],_=>rfl) ?a ?l ?c ?k;(case a|l|c|k=>k_is)
  case d38|d40=>refine' Mg.Be KX G (λ_ _ _ _ _ _ us hl=>match us,hl with | [_,_,_,_,_],_=>rfl) ?a ?l ?c ?k;(case a|l|c|k=>k_is)
