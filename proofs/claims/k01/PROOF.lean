import PyProof.Rows.All
import Wide.All
import OpenK.AllK
import Wide.FinOn
import Lean
import PyProof.EqAt
import PyProof.EqKinds
import PyProof.TupleCall
import PyProof.Rows.SetFrom
import PyProof.TupleKey
import KE.KSortTup
import PyProof.ListRange
import PyProof.ConsumeS
import KE.KIntText
import PyProof.StrCalls2
import PyProof.StrOps2
import PyProof.SliceStr2
import PyProof.StrWalks
import PyProof.Rows.StrJoin2
import PyProof.ZipIter
import PyProof.TupleIter
import PyProof.ListMulRoad
import PyProof.WalksMore
import KE.KDictLaws
import KE.KDictList
import PyProof.IsiH_list
import PyProof.AttrMiss
import KE.KDictOf
import PyProof.StationsW
import PyProof.ExcInit
import PyProof.ExcClass2
import PyProof.ExcBaseAll.ValueError
import OpenK.KMake
import OpenK.KCls
import PyProof.Rows.FStr
import PyProof.LayNew
import PyProof.RulesAs
import PyProof.NsDelKeeps
import PyProof.ExcAttrAll.ValueError
import KE.KIsAll
import PyProof.CollectIter
import PyProof.TupleOfStr
import KE.KEqDict
import PyProof.DictWalks
import KE.KRevSl
import KE.KSortedL
import PyProof.DictItemsLoops
import KE.KPairComp
import PyProof.DictIter
import PySem.Challenge.RW_mergeline_k01_plants_read
set_option Elab.async false
set_option linter.all false
set_option maxRecDepth 100000
set_option maxHeartbeats 4000000
open Array renaming getElem?_eq_getElem→fq,getElem?_eq_some_iff→Ap,getElem?_toList→iY,length_toList→ck,mem_toList_iff→Fq,size_append→vU
open Bool renaming and_eq_true_iff→hU,and_eq_true→gy,eq_false_iff→o4,eq_iff_iff→f6,false_ne_true→kx,not_eq_true→yh,or_true→Fh,true_and→pL
open False renaming elim→gB
open ForInStep renaming yield→pJ
open Int renaming emod_lt_of_pos→cL,emod_nonneg→cU,eq_ofNat_of_zero_le→qU,toNat_natCast→c7,toNat_of_nonneg→jW
open List renaming all_eq_true→cO,all_map→Ff,any_cons→lY,any_eq_false→wZ,any_eq_true→lV,append_assoc→dw,append_nil→cn,drop_eq_nil_of_le→qZ,drop_succ_cons→uO,drop_zero→tM,eq_nil_of_length_eq_zero→mx,ext_getElem?→hG,filterMap_append→sM,filterMap_cons_none→fK,filterMap_cons_some→dB,filterMap_cons→nq,filterMap_map→cK,filter_append→vJ,filter_cons→iy,find?_cons→dW,flatten_cons→fc,foldl_append→eC,foldl_cons→fk,getD_eq_getElem?_getD→aR,getElem?_append_left→bO,getElem?_append_right→bK,getElem?_eq_getElem→aD,getElem?_eq_none→fz,getElem?_eq_some_iff→av,getElem?_map→aH,getElem?_range→jS,getElem?_replicate→cG,getElem?_set_ne→aS,getElem?_set_self→aY,getElem?_zipIdx→Hn,getElem?_zip_eq_some→oV,getElem_inj→qE,getElem_map→jH,getElem_mem→dM,head?_eq_getElem?→Fi,length_append→aX,length_cons→bH,length_drop→iu,length_eq_zero_iff→iw,length_filterMap_le→fL,length_map→ae,length_nil→cR,length_range→cP,length_replicate→dN,length_set→fZ,length_singleton→i_,length_take→cN,length_zip→ng,length→dU,lookup_cons→dJ,lookup→kz,map_append→aQ,map_congr_left→uP,map_cons→aq,map_drop→pM,map_map→aG,map_nil→d_,map_set→jG,map_singleton→fD,map_take→Dt,map→qH,mem_append_left→bP,mem_append_right→bD,mem_append→aV,mem_cons_of_mem→aM,mem_cons_self→aJ,mem_cons→ax,mem_filterMap→iP,mem_iff_getElem?→lJ,mem_map→au,mem_of_getElem?→aP,mem_of_mem_drop→mI,mem_of_mem_take→mB,mem_or_eq_of_mem_set→jJ,mem_range→fN,mem_replicate→iQ,mem_singleton→aF,mem_take_iff_getElem→oW,nil_append→m_,nodup_append→cJ,nodup_cons→cx,nodup_nil→gD,not_mem_nil→a9,of_mem_zip→ku,pairwise_iff_getElem→jK,range_succ→rn,range→cj,replicate_succ→ez,replicate→bp,set_comm→uS,size_toArray→bJ,sum_cons→pN,sum_nil→Fg,take_add_one→cB,take_append_drop→Fv,take_length→du,take_of_length_le→gq,take_sublist→w8,take_zero→AW,toArray→bE,zip_append→Af,zip_cons_cons→eM
open List.Pairwise renaming map→my
open List.Sublist renaming refl→mM,trans→AY
open List.cons renaming inj→iK
open Nat renaming eq_zero_or_pos→vP,le_add_right→qS,le_of_ble_eq_true→jg,le_of_lt→xN,le_of_not_lt→ef,le_refl→aE,le_succ→Ad,le_trans→bZ,lt_of_lt_of_le→bV,lt_succ_of_lt→pK,lt_succ_self→yF,lt_trans→xR,min_eq_left→nu,min_self→Fu,mul_le_mul→gF,ne_of_gt→fM,ne_of_lt→a8,one_le_iff_ne_zero→rq,sub_self→xV,succ_mul→Fs,toDigits_of_lt_base→kQ,toDigits→hV,zero_add→rh,zero_le→aW
open Ne renaming symm→bF
open Option renaming isSome_map→vH,map_eq_some_iff→qG,map_some→fe,toList_some→uN
open Option.some renaming injEq→eP,inj→b9
open Or renaming inl→iL
open PyProof.Rows renaming AllBare→tX,IntsAre→Aj,assignInOrder_cons→jd,assignInOrder_nil→Ah,callWith_type1→iB,slot_tuple_getitem→j_
open PyProof.Rows.F renaming entry_set_update_loop→Hj
open PyProof.Rows.IsTup renaming new→tL
open PySem renaming Addr→ay,Around→dz,Builtin→t_,CmpOp→Dm,DictEntry→fU,Expr→bw,FuncData→eE,GenState→sZ,Heap→cI,IsPair→BQ,IsPart→BL,NameKind→nW,Paired→yC,Params→BM,PassesOwn→wY,Program→bx,PyData→ai,Result→vM,Scope→jx,Shared→aK,Spec→eL,Stmt→eO,Value→aA,Within→Dy,World→b_,boot_len→tq,call_meetsIn→Ak,call_meets→jU,codeAny_builtin→kU,codeAny_mono→oY,length_partsBetween→xS,mem_of_lookup→iq,plainId_quiet→yf,sizeLine_eq→cM,tupleKind_room_in1→je,typeIs_str→tZ,wpAny_Call_Name_kw→pS,wpAny_attempt→q_,wpAny_bindName→pR,wpAny_bind→ao,wpAny_callSpecial?_slot→eZ,wpAny_call_entry→gM,wpAny_dictEntries→An,wpAny_dictEpoch→DB,wpAny_execs_nil→Dz,wpAny_field→eY,wpAny_holding→iA,wpAny_ite_false→kW,wpAny_loadPart'→fB,wpAny_mono→gS,wpAny_newObj_type→dE,wpAny_onRaise→yg,wpAny_passesOwn→oI,wpAny_pure→aU,wpAny_pyIter_keyiter→vT,wpAny_pyIter_list→lW,wpAny_pyIter_tuple→yD,wpAny_rule→tY,wpAny_seqItems→gT,wpAny_setField_rec→jf,wpAny_setField→vQ,wpAny_standAt→q5,wpAny_truthy_bool→ft,wpAny_typeNameOfWhole_keyiter→ja,wpAny_updateSeq_pair→vR
open PySem.Around renaming under→Dn
open PySem.AutoSeq1 renaming idx_int→Hr,sub_tuple_tuple→Ae
open PySem.Builtin.Dict renaming showsAll→yH
open PySem.Builtin.Dict_items renaming ownsTuple→qY
open PySem.Builtin.List renaming listFitsIndex→vI
open PySem.Builtin.Slice renaming sliceAdjust→lX,slicePlaces→iT
open PySem.Builtin.SmallTypes renaming nextOf→iD
open PySem.Builtin.Str renaming strSliceIndices→pO
open PySem.Calls renaming Name_function_global→Ag,callWith_builtin→kR,evalArgs_plain→tj,spliced_cons→kr,spliced_nil→vN
open PySem.Code renaming isFrame→Fd
open PySem.F renaming args_dict_get_3→AV,args_dict_keyiterator_next_1→Ao,args_str_split_2→xT,args_tuple_add_2→Ai,args_tuple_iterator_next_1→BP,called_set→jV,entry_dict_get→BO,entry_dict_keyiterator_next→AX,entry_str_split→yG,entry_tuple_add→AQ,entry_tuple_iterator_next→Ds,plainAttrs_dict→oZ,plainAttrs_list→di,plainAttrs_str→pT,slot_dict_clear→AU,slot_dict_getitem→nX,slot_dict_get→qR,slot_dict_keyiterator_next→gj,slot_dict_setdefault→xU,slot_list_append→eA,slot_list_getattribute→kA,slot_str_join→Dq,slot_str_split→Al,slot_tuple_add→BK,slot_tuple_iterator_next→jI,slot_tuple_mul→Am,slot_zip_next→tN,type_list_append→eB,type_str_join→Dr
open PySem.Heap renaming ExtBut→Hq,NewAttrErr→rj,SameBut→gk,get?_push_of_some→aB,get?_push_size→bh,get?_update_other→Fe,get?_update_self→sL,lt_size→aZ,size_push→gC
open PySem.Heap.SameBut renaming update→kZ
open PySem.MeetsSeq renaming plain_index_loop→rg
open PySem.NameKind renaming cell→kY,free→dH
open PySem.Obj renaming data_mapFields→oK,isFreed_of_fields→Ho,mapSeq→vO
open PySem.Paired renaming length→tW
open PySem.PassesOwn renaming never→cA
open PySem.PyData renaming bool→gR,canLay0→bX,canLayAll0→oJ,eqv→c9,int→eX,list→oM,str→aO,tuple→dg
open PySem.SeqAt renaming readOf→vS
open PySem.Str renaming empty→fE,join→bM,length_append→cD,ofString→xQ
open PySem.StrLaws renaming found_one→uU,join_split→ny,occ_length_le→Dp,split_free→ua
open PySem.Txt renaming slice_le→Ft,slice→g_,split→cv
open PySem.Value renaming isStrOf→uM,none→lI,ref→cC,type→uR
open PySem.W renaming Frag→aj,cellsFrom_some→BJ,codeIn→nr,emptyDict→fP,findIn→cZ,fnOf→iC,hasDictIn→oh,instObj→gK,keepIn→hZ,kia_one→gL,kitOne→bo,kitx_dict→Hs,lookIn→yE,makesIn→xP,mg_of→oN,plainGet→oX,plainOver→uT,takerIn→xO
open Sum renaming inl→xK,inr→bf
open Sum.inr renaming inj→j9
open True renaming intro→e8
def qQ0:=@decide_eq_false
def qQ1:=@decide_eq_true
def qQ2:=@if_neg
def qQ3:=@if_pos
def qQ4:=@of_decide_eq_true
def qQ5:=@of_decide_eq_false
def qQ6:=@congrArg
def qQ7:=@absurd
local macro_rules|`(tactic|symm)=>`(tactic|decide +kernel)
local macro_rules|`(tactic|left)=>`(tactic|first|exact Or.inl rfl|exact Or.inr rfl|exact Or.inr (Or.inl rfl)|exact Or.inr (Or.inr rfl)|assumption)
local macro_rules|`(tactic|ext)=>`(tactic|(intro _ _ h;(repeat obtain⟨_,h⟩:=h);subst_vars;rfl))
local macro_rules|`(tactic|ac_rfl)=>`(tactic|exact⟨rfl,by first|exact Or.inl rfl|exact Or.inr (Or.inl rfl)|exact Or.inr (Or.inr rfl),by decide,by decide⟩)
local macro_rules|`(tactic|grind)=>`(tactic|exact⟨rfl,rfl,rfl,by decide +kernel,rfl,by decide +kernel,by decide +kernel⟩)
section
local macro_rules|`(#[$a])=>`(⟨$a⟩)|`(#[$a,$b,*])=>`(⟨$a,$b,*⟩)
local macro_rules|`(∅)=>`(by omega)
local macro_rules|`(⋯)=>`(by decide)
local macro_rules|`(∎)=>`(by symm)
local macro_rules|`(↑$x)=>`(by simpa using $x)
open Lean Parser.Tactic in
def VZ:Nat->Term->MacroM (TSyntax `rcasesPat)
 |0,_=>Macro.throwUnsupported
 |n+1,x=>match x with
  |`(#[$a,*])=>do `(rcasesPat|⟨$(<-a.getElems.mapM λy=>do `(rcasesPatLo|$(<-VZ n y):rcasesPat)),*⟩)
  |`(_)=>`(rcasesPat|_)
  |`($y:ident)=>`(rcasesPat|$y:ident)
  |_=>Macro.throwUnsupported
open Lean in
local macro_rules|`(tactic|let $d:letDecl)=>match d with
 |`(letDecl|$x:term:=$h)=>do `(tactic|obtain $(<-VZ 9 x):rcasesPat:=$h)
 |_=>`(tactic|have $d:letDecl)
open Lean in
local macro_rules|`([$a,*]▸$b)=>do
  let r<-a.getElems.mapM λ(y:Term)=>match y with
   |`(<-$z)=>`(Parser.Tactic.rwRule|<-$(⟨z.raw[0]⟩):term)
   |_=>`(Parser.Tactic.rwRule|$y:term)
  `(by rw[$r,*];exact $b)
open Lean in
local macro_rules|`($n:scientific)=>`($(mkIdent `oO) $(quote n.getScientific.1) rfl)
open Lean in
local macro_rules(kind:=«term{_}»)|`({$a,*})=>do
 let r:Term<-a.getElems.foldrM (λx r=>`($(mkIdent `cY) $x $r)) (mkIdent `c5);return r
local macro_rules|`(!$a)=>`(List $a)
local macro_rules|`($a>>$b)=>`($a=some $b)
namespace L2
open PySem PySem.Spec PyProof.Rows
variable{C a it:ay}{A:dz}{g':Array sZ}{d':Drawn}{c e tg:bw}{fd:eE}{base h:cI}{g:Int->Int->Int}{pins:!(ay×Obj)}{kw:!(Str×aA)}{ch fp:!ay}{outer:!Env}{es:!bw}{body:!eO}{N ps:!Str}{us:!aA}{M:Model}{k t':Nat}{o:Obj}{P:bx}{K:aj}{scope:jx}{s s':aK}{kindOf:Str->Option nW}{mA mg:Str->Option aA}{u:aA}{E Q:aA->aK->Prop}{f:aA->aA->Sem aA}{w:b_}
abbrev Key:=Sum Int Str
def AZ:Key->aA->Bool
 | .inl k,v=>aA.isInt k v
 | .inr x,v=>uM x v
def Z_(w:b_):Key->Int
 | .inl k=>hashInt k
 | .inr x=>hashStr w x
theorem gi:∀{k:Key}{v:aA},AZ k v=true->(∃i t,k=xK i/\v=aA.int i t)\/(∃x t,k=bf x/\v=aA.str x t)
 | .inl i,v,h=>by let#[t,e]:=aA.isInt_shape h;exact .inl #[i,t,rfl,e]
 | .inr x,v,h=>by let#[t,e]:=aA.isStrOf_shape h;exact .inr #[x,t,rfl,e]
theorem IX(i:Int)(t:Tok):AZ (.inl i) (.int i t)=true:=by simp[AZ,aA.isInt]
theorem IY(x:Str)(t:Tok):AZ (.inr x) (.str x t)=true:=by simp[AZ,uM]
theorem Sl(a b:Int):decide ((xK a:Key)=xK b)=(a==b):=by
 by_cases e:a=b
 .subst e;simp
 .let h:¬(xK a:Key)=xK b:=λq=>e (xK.inj q);rw[qQ0 h];exact(beq_eq_false_iff_ne.mpr e).symm
theorem Sn(a b:Str):decide ((bf a:Key)=bf b)=decide (a=b):=by
 by_cases e:a=b
 .simp
 .let h:¬(bf a:Key)=bf b:=λq=>e (j9 q);rw[qQ0 h,qQ0 e]
theorem Sq(a:Int)(b:Str):decide ((xK a:Key)=bf b)=false:=qQ0 (λq=>nomatch q)
theorem Sr(a:Str)(b:Int):decide ((bf a:Key)=xK b)=false:=qQ0 (λq=>nomatch q)
def eG(prog:bx)(w:b_):PySem.KeyKind prog w Key where
 is:=AZ
 hash:=Z_ w
 inj:=λv a b ha hb=>by
  rcases gi ha with⟨i,t,rfl,rfl⟩|⟨x,t,rfl,rfl⟩
  ·rcases gi hb with⟨j,u,rfl,e⟩|⟨y,u,rfl,e⟩
   ·injection e with e1 _;rw[e1]
   ·exact nomatch e
  ·rcases gi hb with⟨j,u,rfl,e⟩|⟨y,u,rfl,e⟩
   ·exact nomatch e
   ·injection e with e1 _;rw[e1]
 byValue:=λk v h=>by
  rcases gi h with⟨i,t,rfl,rfl⟩|⟨x,t,rfl,rfl⟩<;>rfl
 pyHash:=λhv h=>by
  rcases gi hv with⟨i,t,rfl,rfl⟩|⟨x,t,rfl,rfl⟩
  ·exact wpAny_pyHash_int h
  ·exact wpAny_pyHash_str h
 eqBool:=λhu hv h=>by
  rcases gi hu with⟨i,t,rfl,rfl⟩|⟨x,t,rfl,rfl⟩
  ·rcases gi hv with⟨j,u,rfl,rfl⟩|⟨y,u,rfl,rfl⟩
   ·rw[Sl]at h;exact wpAny_eqBool_int h
   ·rw[Sq]at h;exact SeqAt.EqAt.int_str i t y u _ _ _ _ h
  ·rcases gi hv with⟨j,u,rfl,rfl⟩|⟨y,u,rfl,rfl⟩
   ·rw[Sr]at h;exact SeqAt.EqAt.str_int x t j u _ _ _ _ h
   ·rw[Sn]at h;exact wpAny_eqBool_str h
 «strs»:=λk x t v h=>by
  rcases gi h with⟨i,u,rfl,e⟩|⟨y,u,rfl,e⟩
  ·exact nomatch e
  ·injection e with e1 _
   subst e1;cases v<;>rfl
theorem DE(prog:bx)(w:b_)(i:Int)(t:Tok):(eG prog w).is (.inl i) (.int i t)=true:=IX i t
theorem rA(prog:bx)(w:b_)(x:Str)(t:Tok):(eG prog w).is (.inr x) (.str x t)=true:=IY x t
inductive V where
 |non|bl (b:Bool)|int (i:Int)|str (x:Str)|Vj (b:Array UInt8)|flt (b:UInt64)|ref (a:ay)|ty (n:String)
 deriving DecidableEq
variable{vs xs:!V}
def RelV:V->aA->Prop
 | .non,u=>u=lI
 | .bl b,u=>u=aA.bool b
 | .int i,u=>∃t,u=aA.int i t
 | .str x,u=>∃t,u=aA.str x t
 | .Vj b,u=>∃t,u=aA.bytes b t
 | .flt b,u=>∃t,u=aA.float b t
 | .ref a,u=>u=cC a
 | .ty n,u=>u=uR n
abbrev dA:!V->!aA->Prop:=yC RelV
theorem dA.length(r:dA xs us):xs.length=us.length:=tW r
theorem dA.get:∀{xs:!V}{us:!aA}{i:Nat}{x:V},dA xs us->xs[i]?>>x->∃u,us[i]?>>u/\RelV x u
 |_,_,_,_,.nil,e=>by simp at e
 |_,_,0,_,.cons r _,e=>by simp at e;subst e;exact#[_,rfl,r]
 |_,_,i+1,x,.cons _ t,e=>by obtain⟨u,h1,h2⟩:=dA.get t ↑e;exact#[u,by simpa using h1,h2]
theorem dA.set{x:V}(r:RelV x u):∀{xs:!V}{us:!aA}(i:Nat),dA xs us->dA (xs.set i x) (us.set i u)
 |_,_,_,.nil=>.nil
 |_,_,0,.cons _ t=>.cons r t
 |_,_,i+1,.cons q t=>.cons q (dA.set r i t)
theorem dA.append:∀{xs ys:!V}{us ws:!aA},dA xs us->dA ys ws->dA (xs++ys) (us++ws)
 |_,_,_,_,.nil,s=>s
 |_,_,_,_,.cons r t,s=>.cons r (dA.append t s)
theorem dA.take:∀{xs:!V}{us:!aA}(n:Nat),dA xs us->dA (xs.take n) (us.take n)
 |_,_,0,_=>.nil
 |_,_,_+1,.nil=>.nil
 |_,_,n+1,.cons r t=>.cons r (dA.take n t)
theorem dA.drop:∀{xs:!V}{us:!aA}(n:Nat),dA xs us->dA (xs.drop n) (us.drop n)
 |_,_,0,r=>r
 |_,_,_+1,.nil=>.nil
 |_,_,n+1,.cons _ t=>dA.drop n t
def tD:Option V->Option aA->Prop
 |some v,some u=>RelV v u
 |none,none=>True
 |_,_=>False
def KV{κ:Type}:!(κ×V)->!(κ×aA)->Prop:=yC λ(p:κ×V)(q:κ×aA)=>p.1=q.1/\RelV p.2 q.2
def kV:Key->V
 | .inl i=>.int i
 | .inr x=>.str x
inductive HO where
 |lst (xs:!V)
 |tup (xs:!V)
 |dK (kvs:!(Key×V))|dT (kvs:!(!Key×V))
 |set (S:Int->Bool) (n:Nat)
 |ins (C dx:ay) (fs:!(Str×V))
 |own (x:ay)
 |xd (fs:!(Str×V))
 |met (f x:ay)
 |rng (lo hi:Int)
 |ky (o:Obj) (u:HO)
 |Ss (ps:Array aA)
 |ext (φ:cI->Prop)
abbrev Hp:=ay->Option HO
variable{H:Hp}{R:V->V->Hp->Prop}
def upd(H:Hp)(a:ay)(o:HO):Hp:=λb=>if b=a then some o else H b
theorem aT{o:HO}:upd H a o a>>o:=by unfold upd;rw[qQ3 rfl]
theorem aI{b: ay}{o:HO}(h:b≠a):upd H a o b=H b:=by unfold upd;rw[qQ2 h]
theorem V0{b: ay}{o u:HO}(h:H a>>o)(h':H b>>u)(d:o≠u):a≠b:=by intro e;subst e;rw[h]at h';exact d (b9 h')
theorem bB{b: ay}{o:HO}(h:H a>>o)(h':H b=none):a≠b:=by intro e;subst e;rw[h]at h';cases h'
section
variable(P:bx)(w:b_)
def fV(H:Hp)(h:cI)(a:ay):HO->Prop
 | .lst xs=>xs.length<=sizeLine/\∃(its:!aA)(n:Nat),dA xs its/\h.get? a=some { cls:=.type "list",data:=.seq its.toArray n }
 | .tup xs=>xs.length<=sizeLine/\∃its:!aA,dA xs its/\IsTup h a its.toArray
 | .dK kvs=>kvs.length<=sizeLine/\(a==sysModules)=false/\∃vs,KV kvs vs/\h.DictOf (eG P w) a vs
 | .dT kvs=>kvs.length<=sizeLine/\(a==sysModules)=false/\∃xs:!(!Key×ay×aA),
   yC (λ(p:!Key×V)(q:!Key×ay×aA)=>p.1=q.1/\H q.2.1>>(.tup (p.1.map kV))/\RelV p.2 q.2.2) kvs xs/\
   ∃o es ep,h.get? a>>o/\o.ExactDict/\o.data=.dict es ep/\es.toList=xs.map (entryOfKey (tupleKind (eG P w)))/\(xs.map (·.1)).Nodup
 | .set S n=>h.SetOf (intKind P w) a S n
 | .ins C dx fs=>H dx>>(.own a)/\fs.length<=1000/\dx≠a/\h.get? a>>(gK C dx)/\
   ∃mA,h.Ns1 dx mA/\(∀f,tD (fs.lookup f) (mA f))/\Dy mA (fs.map (·.1))
 | .own _=>∃o,h.get? a>>o
 | .xd fs=>∃mA,h.Ns1 a mA/\∀f,tD (fs.lookup f) (mA f)
 | .rng lo hi=>∃t u v,h.get? a=some { cls:=.type "range",data:=.fields (bE [.int lo t,.int hi u,.int 1 v]) }
 | .ky o u=>h.get? a>>o/\fV H h a u
 | .Ss ps=>h.get? a=some { cls:=.none,data:=.fields ps }
 | .met f x=>h.get? a>>(PySem.W.methodObj (.ref f) (.ref x))
 | .ext φ=>φ h/\(∃o,h.get? a>>o)/\∀h1 h2:cI,φ h1->(∀o,h1.get? a>>o->h2.get? a>>o)->φ h2
def uQ(H:Hp)(h:cI):Prop:=∀a o,H a>>o->fV P w H h a o
end
section
variable{P:bx}{w:b_}{H H':Hp}{h h':cI}{a:ay}{o:HO}
theorem fV.lt(x:fV P w H h a o):a<h.objs.size:=by
 cases o with
 |lst xs=>let#[_,_,_,_,e]:=x;exact aZ e
 |tup xs=>let#[_,_,_,p]:=x;exact p.lt
 |dK kvs=>let#[_,_,_,_,o,_,_,e,_]:=x;exact aZ e
 |dT kvs=>let#[_,_,_,_,o,_,_,e,_]:=x;exact aZ e
 |set S n=>let#[o,_,_,_,e,_]:=x;exact aZ e
 |ins C dx fs=>let#[_,_,_,e,_]:=x;exact aZ e
 |own y=>let#[_,e]:=x;exact aZ e
 |xd fs=>let#[_,#[_,_,_,e,_],_]:=x;exact aZ e
 |rng lo hi=>let#[_,_,_,e]:=x;exact aZ e
 |ky ob u=>let#[e,_]:=x;exact aZ e
 |Ss ps=>exact aZ x
 |met f y=>exact aZ x
 |ext φ=>let#[_,#[_,e],_]:=x;exact aZ e
theorem yC.Oa{α β:Type}{F G:α->β->Prop}:∀{l₁:!α}{l₂:!β},yC F l₁ l₂->(∀a b,F a b->G a b)->yC G l₁ l₂
 |_,_,.nil,_=>.nil
 |_,_,.cons r t,f=>.cons (f _ _ r) (yC.Oa t f)
theorem fV.stay(x:fV P w H h a o)(k:∀b u,(b=a\/H b>>(.own a))->h.get? b>>u->h'.get? b>>u)
  (ho:∀b,H b>>(.own a)->H' b>>(.own a))(ht:∀b xs,H b>>(.tup xs)->H' b>>(.tup xs)):fV P w H' h' a o:=by
 induction o with
 |lst xs=>let#[z,its,n,r,e]:=x;exact#[z,its,n,r,k _ _ (.inl rfl) e]
 |tup xs=>let#[z,its,r,ob,e,c]:=x;exact#[z,its,r,ob,k _ _ (.inl rfl) e,c]
 |dK kvs=>let#[z,y,vs,r,ob,es,ep,e,c]:=x;exact#[z,y,vs,r,ob,es,ep,k _ _ (.inl rfl) e,c]
 |dT kvs=>let#[z,y,xs,r,ob,es,ep,e,c]:=x;exact#[z,y,xs,yC.Oa r λp q z=>#[z.1,ht _ _ z.2.1,z.2.2],ob,es,ep,k _ _ (.inl rfl) e,c]
 |set S n=>let#[ob,es,ep,t,e,c]:=x;exact#[ob,es,ep,t,k _ _ (.inl rfl) e,c]
 |ins C dx fs=>let#[d,z,ne,e,mA,#[od,es,ep,e2,c],r]:=x;exact#[ho _ d,z,ne,k _ _ (.inl rfl) e,mA,#[od,es,ep,k _ _ (.inr d) e2,c],r]
 |own y=>let#[ob,e]:=x;exact#[ob,k _ _ (.inl rfl) e]
 |xd fs=>let#[mA,#[od,es,ep,e,c],r]:=x;exact#[mA,#[od,es,ep,k _ _ (.inl rfl) e,c],r]
 |rng lo hi=>let#[t,u,v,e]:=x;exact#[t,u,v,k _ _ (.inl rfl) e]
 |ky ob u ih=>let#[e,q]:=x;exact#[k _ _ (.inl rfl) e,ih q]
 |Ss ps=>let e:=x;exact k a _ (.inl rfl) e
 |met f y=>let e:=x;exact k a _ (.inl rfl) e
 |ext φ=>let#[p,#[o,e],st]:=x;exact#[st _ _ p λo q=>k _ _ (.inl rfl) q,#[o,k _ _ (.inl rfl) e],st]
theorem uQ.lt(x:uQ P w H h)(e:H a>>o):a<h.objs.size:=(x a o e).lt
theorem uQ.fresh(x:uQ P w H h)(e:h.objs.size<=a):H a=none:=by
 cases q:H a with
 |none=>rfl
 |some u=>exact qQ7 (bV (x.lt q) e) ∅
theorem uQ.kept(x:uQ P w H h)(k:∀b u,h.get? b>>u->h'.get? b>>u):uQ P w H h':=λa o e=>(x a o e).stay (λb u _ q=>k b u q) (λ_ q=>q) λ_ _ q=>q
theorem uQ.laid(x:uQ P w H h)(k:∀b u,h.get? b>>u->h'.get? b>>u)(hp:h.objs.size<=a)(new:fV P w (upd H a o) h' a o):uQ P w (upd H a o) h':=λb u e=>by
 let hn:=x.fresh hp;by_cases hb:b=a
 .subst hb;rw[aT]at e;cases e;exact new
 .rw[aI hb]at e;exact(x b u e).stay (λc v _ q=>k c v q) (λc q=>[aI (bB q hn)]▸q) λc xs q=>[aI (bB q hn)]▸q
end
def Rd(H:Hp)(a:ay)(u:HO):Prop:=H a>>u\/∃o,H a>>(.ky o u)
theorem Rd.of{u:HO}(h:H a>>u):Rd H a u:=.inl h
theorem Rd.ok{u:HO}(r:Rd H a u)(x:uQ P w H h):fV P w H h a u:=by
 rcases r with r|⟨o,r⟩
 .exact x a u r
 .let#[_,q]:=x a _ r;exact q
def V1:Option HO->Prop
 |some (.lst _)=>True
 |some (.dK _)=>True
 |some (.dT _)=>True
 |some (.set _ _)=>True
 |some (.ins _ _ _)=>True
 |some (.ext _)=>True
 |_=>False
section
variable{P:bx}{w:b_}{H:Hp}{h h':cI}{x e:ay}{o':HO}
theorem uQ.write(ok:uQ P w H h)(mu:V1 (H x))(he:e=x\/H e>>(.own x))(k:∀b u,b≠e->h.get? b>>u->h'.get? b>>u)(QW:∃u,h'.get? e>>u)
  (new:fV P w (upd H x o') h' x o'):uQ P w (upd H x o') h':=λb u q=>by
 let V2:∀c y,H c>>(.own y)->c≠x:=λc y r z=>by subst z;rw[r]at mu;exact mu
 by_cases hb:b=x
 .subst hb;rw[aT]at q;cases q;exact new
 .rw[aI hb]at q;by_cases Sv:b=e
  .let q':H b>>(.own x):=by
    rcases he with z|z
    .exact qQ7 (Sv.trans z) hb
    .rw[Sv];exact z
   rw[q]at q';cases q';let#[v,hv]:=QW;exact#[v,[Sv]▸hv]
  .refine(ok b u q).stay (λc v hc r=>k c v ?_ r) (λc r=>[aI (V2 c b r)]▸r) λc xs r=>by rw[aI ((λc xs r z=>by subst z;rw[r]at mu;exact mu) c xs r)];exact r
   rcases hc with rfl|hc
   .exact Sv
   .rintro rfl;rcases he with z|z
    .exact V2 c b hc z
    .rw[hc]at z;cases z;exact hb rfl
end
structure Un(fs ex:!ay)(H H':Hp)(h h':cI):Prop where
 keep:∀b o,h.get? b>>o->H b=none->b∉fs->b∉ex->h'.get? b>>o
 slot:∀b o,h.get? b>>o->H b=none->b∈fs->b∉ex->∃sl,h'.get? b=some { o with slots:=sl }
 free:∀b o,h.get? b>>o->H b=none->b∉ex->H' b=none
 there:∀b o,h.get? b>>o->b∉ex->∃o',h'.get? b>>o'
 tups:∀b xs,H b>>(.tup xs)->H' b>>(.tup xs)
 ub:∀b o u,H b>>(.ky o u)->H' b>>(.ky o u)
 xW:∀b ps,H b>>(.Ss ps)->∃more,H' b>>(.Ss (ps++more))
section
variable{fs fs' ex ex':!ay}{H H1 H2:Hp}{h h1 h2 h':cI}{a x e:ay}{o:HO}
theorem Un.any(u:Un fs ex H H1 h h1){b:ay}{ob:Obj}(q:h.get? b>>ob)(n:H b=none)(hx:b∉ex):∃sl,h1.get? b=some { ob with slots:=sl }:=by
 by_cases hb:b∈fs
 .exact u.slot b ob q n hb hx
 .exact#[ob.slots,u.keep b ob q n hb hx]
theorem Un.kept(k:∀b u,h.get? b>>u->h'.get? b>>u):Un fs ex H H h h':=
 #[λb ob q _ _ _=>k b ob q,λb ob q _ _ _=>#[ob.slots,k b ob q],λ_ _ _ n _=>n,λb ob q _=>#[ob,k b ob q],λ_ _ q=>q,λ_ _ _ q=>q,λ_ ps q=>#[#[],by rw[q];simp]]
theorem Un.refl:Un fs ex H H h h:=Un.kept λ_ _ q=>q
theorem Un.laid(k:∀b u,h.get? b>>u->h'.get? b>>u)(hp:h.objs.size<=a)(hn:H a=none):Un fs ex H (upd H a o) h h' where
 keep:=λb u q _ _ _=>k b u q
 slot:=λb u q _ _ _=>#[u.slots,k b u q]
 free:=λb u q n _=>[aI (a8 (bV (aZ q) hp))]▸n
 there:=λb u q _=>#[u,k b u q]
 tups:=λb xs q=>[aI (bB q hn)]▸q
 ub:=λb u xs q=>[aI (bB q hn)]▸q
 xW:=λb ps q=>#[#[],by rw[aI (bB q hn),q];simp]
theorem Un.write(mu:V1 (H x))(he:e=x\/H e>>(.own x))(k:∀b u,b≠e->h.get? b>>u->h'.get? b>>u)(QW:∃u,h'.get? e>>u):Un fs ex H (upd H x o) h h':=by
 let hx:∀b,H b=none->b≠x:=λb n z=>by subst z;rw[n]at mu;exact mu
 let hb:∀b,H b=none->b≠e:=λb n z=>by
  subst z;rcases he with r|r
  .exact hx b n r
  .rw[n]at r;cases r
 let hm:∀b u,H b>>u->¬V1 (some u)->b≠x:=λb u q nm z=>by subst z;rw[q]at mu;exact nm mu
 refine#[λb u q n _ _=>k b u (hb b n) q,λb u q n _ _=>#[u.slots,k b u (hb b n) q],λb u q n _=>[aI (hx b n)]▸n,λb u q _=>?_,
  λb xs q=>[aI (hm b _ q λz=>z)]▸q,λb u xs q=>[aI (hm b _ q λz=>z)]▸q,λb ps q=>#[#[],by rw[aI (hm b _ q λz=>z),q];simp]];by_cases Sv:b=e
 .subst Sv;exact QW
 .exact#[u,k b u Sv q]
end
def trk(h:cI)(H:Hp):!ay:=(cj h.objs.size).filter λa=>(H a).isSome
def Fw(h:cI)(H:Hp):cI:=PySem.W.hideAll h (trk h H)
theorem IZ(h:cI)(H:Hp):(Fw h H).objs.size=h.objs.size:=PySem.W.hideAll_size _ _
theorem KL{b:ay}(e:h.get? b>>o)(n:H b=none):(Fw h H).get? b>>o:=
 PySem.W.hideAll_get _ e λhm=>by let q:=(List.mem_filter.mp hm).2;rw[n]at q;simp at q
theorem Ob{b:ay}(e:(Fw h H).get? b>>o):h.get? b>>o/\H b=none:=by
 let e':=PySem.W.of_hideAll _ e;refine#[e',?_];cases q:H b with
 |none=>rfl
 |some x=>let z:(Fw h H).get? b=none:=PySem.W.hideAll_none (trk h H) (List.mem_filter.mpr #[fN.mpr (aZ e'),by simp[q]]);rw[z]at e;cases e
structure Mod(K:aj)(mg:Str->Option aA)(base:cI):Prop where
 V3:K.In base
 glob:base.Ns mainGlobals mg
 blt:∃mb,base.Ns builtinsNs mb/\∀x:Str,x≠"__name__"->mb x=bootBuiltins x
 nolimit:base.NoLimit
structure Cx where
 prog:bx
 w:b_
 K:aj
 mg:Str->Option aA
 base:cI
 A:dz
 N:!Str
 s₀:aK
 H₀:Hp
 env:Env
 outer:!Env
 stack:!Env
 ex:!ay
 fn:Str->Bool
 calm:Bool
 pn:!(ay×Obj)
 xe:aA->aK->Prop
variable{X:Cx}
def Kt(l:!Env):!ay:=l.filterMap (·.frame)
abbrev Cx.fs(X:Cx):!ay:=Kt X.outer
def Z'(sc:jx)(x:Str):Prop:=sc.names.lookup x>>.local\/sc.names.lookup x>>.cell\/sc.names.lookup x>>.free
def Loc(sc:jx)(x:Str):Prop:=sc.names.lookup x>>.local\/sc.names.lookup x>>.cell
def Look(env:Env)(h:cI)(m:Str->Option aA)(x:Str)(u:aA):Prop:=
 (env.kindOf x>>.local/\m x>>u)\/((env.kindOf x>>.cell\/env.kindOf x>>.free)/\∃c,env.cells.lookup x>>c/\h.IsCell c (some u))
abbrev uc(x:Str):Prop:=(x==("__debug__":Str))=false
abbrev NCd(x:Str):Prop:=(x==("__classdict__":Str))=false
abbrev kB(X:Cx)(e:bw)(es:!bw):Prop:=starEach (e::es) X.env=(false,eval e X.env)::starEach es X.env
abbrev pU(X:Cx)(p:Pos)(es:!bw):Prop:=(backTo p (starEach es X.env)).any (·.1)=false
abbrev Ht(X:Cx)(p:Pos)(es:!bw):Prop:=((backTo p (starEach es X.env)).all (λx=>not x.1)&&(backToKw p (keywordEach [] X.env)).all (λx=>x.1.isSome)&&decide (es.length+([]:!Keyword).length+(if([]:!Keyword).isEmpty then 0 else 1)<30))=true
abbrev yi(X:Cx)(x:Str):Prop:=X.fn x=true\/X.env.scope.names.lookup x>>.local
abbrev Fx(X:Cx)(e:bw):Prop:=∀x,foldedSetIterable e X.env x=pure x
abbrev vK(X:Cx)(o:bw)(x:Str):Prop:=attributeBase o x X.env (eval o X.env)=eval o X.env
abbrev V4(X:Cx)(p:Pos)(e:bw):Prop:=swapsWith e none p.line X.env=pure false
abbrev A0(X:Cx)(p:Pos)(e t:bw):Prop:=swapsWith e (some t) p.line X.env=pure false
def tE(X:Cx)(i:Nat)(x:Str):Prop:=X.N[i]?>>x/\Z' X.env.scope x/\uc x/\NCd x
structure Cx.Ok(X:Cx):Prop where
 mod:Mod X.K X.mg X.base
 kind:X.env.scope.kind=.function
 glob:X.env.globals=mainGlobals
 blt:X.env.builtins=builtinsNs
 above:X.s₀.heap.objs.size<=X.env.locals
 inj:∀x y c,X.env.cells.lookup x>>c->X.env.cells.lookup y>>c->x=y
 has:∀x,(X.env.kindOf x>>.cell\/X.env.kindOf x>>.free)->∃c,X.env.cells.lookup x>>c
 cab:∀x c,X.fn x=true->X.env.cells.lookup x>>c->X.s₀.heap.objs.size<=c
 hd:X.calm=true->X.A.handled=none
 frames:X.A.frames>>X.stack
 stk:X.stack=X.outer\/(X.stack=X.env::X.outer/\X.env.frame>>X.env.locals)
 exf:∀b∈X.ex,b≠X.env.locals/\∀x c,X.env.cells.lookup x>>c->c≠b
 bs:∀b o,X.base.get? b>>o->X.s₀.heap.get? b>>o/\X.H₀ b=none
 QX:X.base.objs.size<=X.s₀.heap.objs.size
 KN:∀b o,X.base.get? b>>o->b∉X.ex
 Oc:∀b∈X.ex,b∉X.fs
 xX:X.s₀.heap.FunFrames X.base X.outer
 Sw:∀b∈X.fs,X.H₀ b=none
structure Inv(X:Cx)(pins:!(ay×Obj))(σ:!(Option V))(H:Hp)(s:aK):Prop where
 ok:X.Ok
 os:s.os=X.s₀.os
 bare:tX s.gens
 base:Un X.fs X.ex X.H₀ H X.s₀.heap s.heap
 loc:∃m,s.heap.Ns X.env.locals m/\∀(i:Nat)(x:Str)(v:V),X.N[i]?>>x->σ[i]?>>(some v)->Z' X.env.scope x->∃u,RelV v u/\Look X.env s.heap m x u
 cell:∀x c,X.env.cells.lookup x>>c->∃v,s.heap.IsCell c v
 free:H X.env.locals=none
 nz:∀x c,X.env.cells.lookup x>>c->H c=none
 pin:∀p∈X.pn++pins,s.heap.get? p.1>>p.2/\H p.1=none/\p.1≠X.env.locals/\p.1∉X.fs/\∀v,p.2.data≠.cell v
 hok:uQ X.prog X.w H s.heap
 len:σ.length=X.N.length
section
variable{X:Cx}{pins:!(ay×Obj)}{σ:!(Option V)}{H H':Hp}{s:aK}{h':cI}
theorem Cx.Ok.zaa(ok:X.Ok){b:ay}(e:X.base.get? b>>o):b∉X.fs:=λhb=>by let:=(ok.xX.mem hb).1;rw[e]at this;cases this
theorem Inv.bs(I:Inv X pins σ H s):∀b o,X.base.get? b>>o->s.heap.get? b>>o/\H b=none:=λb o e=>#[I.base.keep b o (I.ok.bs b o e).1 (I.ok.bs b o e).2 (I.ok.zaa e) (I.ok.KN b o e),I.base.free b o (I.ok.bs b o e).1 (I.ok.bs b o e).2 (I.ok.KN b o e)]
theorem Inv.bk(I:Inv X pins σ H s):∀b o,X.base.get? b>>o->s.heap.get? b>>o:=λb o e=>(I.bs b o e).1
theorem Inv.mod(I:Inv X pins σ H s):Mod X.K X.mg X.base:=I.ok.mod
theorem Inv.Aq(I:Inv X pins σ H s):X.K.In s.heap:=I.ok.mod.V3.keeps I.bk
theorem Inv.lt(I:Inv X pins σ H s):X.env.locals<s.heap.objs.size:=let#[_,hn,_]:=I.loc;hn.lt
theorem Inv.sz(I:Inv X pins σ H s):X.s₀.heap.objs.size<=s.heap.objs.size:=bZ I.ok.above (xN I.lt)
theorem Inv.zab(I:Inv X pins σ H s)(h:s.heap.objs.size<=a):a∉X.fs:=λhb=>by let#[_,o,ho,_]:=I.ok.xX.mem hb;exact qQ7 (bV (aZ ho) (bZ I.sz h)) ∅
theorem Inv.Sx(I:Inv X pins σ H s):∀x c,X.env.cells.lookup x>>c->c≠X.env.locals:=λx c e z=>by let#[v,o,ho,hd]:=I.cell x c e;let#[m,#[o',es,ep,BR,V5,_],_]:=I.loc;rw[z,BR]at ho;cases ho;rw[V5]at hd;cases hd
theorem Inv.xX(I:Inv X pins σ H s):s.heap.FunFrames X.base X.outer:=by
 let all:∀(l:!Env),(∀b∈Kt l,b∈X.fs)->X.s₀.heap.FunFrames X.base l->s.heap.FunFrames X.base l:=by
  intro l;induction l with
  |nil=>intro _ _;trivial
  |cons env r ih=>intro hs hl;let#[hk,#[L,o,hf,hn,ho,hd],hr]:=hl;let hL:=hs L (by unfold Kt;rw[nq,hf];exact aJ);let#[sl,e]:=I.base.slot L o ho (I.ok.Sw L hL) hL λz=>I.ok.Oc L z hL;exact#[hk,#[L,_,hf,hn,e,hd],ih (λb hb=>hs b (by unfold Kt;rw[nq,hf];exact aM _ hb)) hr]
 exact all X.outer (λ_ hb=>hb) I.ok.xX
theorem Inv.stack(I:Inv X pins σ H s):s.heap.FunFrames X.base X.stack:=by
 rcases I.ok.stk with e|⟨e,hf⟩
 .rw[e];exact I.xX
 .rw[e];let#[m,hn,_]:=I.loc;exact .cons (by rw[I.ok.kind];decide) hf hn (cI.get?_none_of_le (bZ I.ok.QX I.ok.above)) I.xX
theorem Inv.BU(I:Inv X pins σ H s):∀b∈Kt X.stack,b∈X.env.locals::X.fs:=λb hb=>by
 rcases I.ok.stk with e|⟨e,hf⟩
 .rw[e]at hb;exact aM _ hb
 .rw[e]at hb;unfold Kt at hb;rwa[nq,hf]at hb
theorem Inv.Hu(I:Inv X pins σ H s):∀b∈Kt X.stack,H b=none:=λb hb=>by
 rcases ax.mp (I.BU b hb)with e|hb
 .rw[e];exact I.free
 .let#[_,o,ho,_]:=I.ok.xX.mem hb;exact I.base.free b o ho (I.ok.Sw b hb) λz=>I.ok.Oc b z hb
theorem Inv.step(I:Inv X pins σ H s)
  (Ku:∀b∈ch,(b∈X.ex\/X.s₀.heap.objs.size<=b)/\b≠X.env.locals/\(∀x c,X.env.cells.lookup x>>c->c≠b)/\∀p∈X.pn++pins,p.1≠b)
  (keep:∀b o,b≠X.env.locals->b∉X.fs->b∉ch->s.heap.get? b>>o->H b=none->h'.get? b>>o)
  (slot:∀b o,b≠X.env.locals->b∈X.fs->b∉ch->s.heap.get? b>>o->H b=none->∃sl,h'.get? b=some { o with slots:=sl })(free:∀b o,b∉ch->s.heap.get? b>>o->H b=none->H' b=none)
  (there:∀b o,b∉ch->s.heap.get? b>>o->∃o',h'.get? b>>o')
  (tups:∀b xs,H b>>(.tup xs)->H' b>>(.tup xs))(ub:∀b o u,H b>>(.ky o u)->H' b>>(.ky o u))(xW:∀b ps,H b>>(.Ss ps)->∃more,H' b>>(.Ss (ps++more)))
  (ns:∀m,s.heap.Ns X.env.locals m->h'.Ns X.env.locals m)(hok:uQ X.prog X.w H' h')(hg:tX g'):
  Inv X pins σ H' { s with heap:=h',gens:=g',drawn:=d',toks:=t' }:=by
 let neL:∀b o,X.s₀.heap.get? b>>o->b≠X.env.locals:=λb o e=>a8 (bV (aZ e) I.ok.above);let Vk:∀b o,X.s₀.heap.get? b>>o->b∉X.ex->b∉ch:=λb o e hx hb=>by
  rcases(Ku b hb).1 with z|z
  .exact hx z
  .exact qQ7 (bV (aZ e) z) ∅
 let cellK:∀x c,X.env.cells.lookup x>>c->∀v,s.heap.IsCell c v->h'.IsCell c v:=λx c e v #[o,ho,hd]=>by
  let V6:=λz=>(Ku c z).2.2.1 x c e rfl;by_cases hc:c∈X.fs
  .let#[sl,q]:=slot c o (I.Sx x c e) hc V6 ho (I.nz x c e);exact#[_,q,hd]
  .exact#[o,keep c o (I.Sx x c e) hc V6 ho (I.nz x c e),hd]
 refine#[I.ok,I.os,hg,#[λb o e n hb hx=>?_,λb o e n hb hx=>?_,λb o e n hx=>?_,λb o e hx=>?_,λb xs e=>tups b xs (I.base.tups b xs e),λb o xs e=>ub b o xs (I.base.ub b o xs e),λb ps e=>?_],?_,λx c e=>?_,?_,λx c e=>?_,λp hp=>?_,hok,I.len]
 .exact keep b o (neL b o e) hb (Vk b o e hx) (I.base.keep b o e n hb hx) (I.base.free b o e n hx)
 .let#[sl,e1]:=I.base.slot b o e n hb hx;let#[Sy,e2]:=slot b _ (neL b o e) hb (Vk b o e hx) e1 (I.base.free b o e n hx);exact#[Sy,e2]
 .let#[o',e1]:=I.base.there b o e hx;exact free b o' (Vk b o e hx) e1 (I.base.free b o e n hx)
 .let#[o',e1]:=I.base.there b o e hx;exact there b o' (Vk b o e hx) e1
 .let#[m1,e1]:=I.base.xW b ps e;let#[m2,e2]:=xW b _ e1;exact#[_,by rw[e2,Array.append_assoc]]
 .let#[m,hn,hl]:=I.loc;refine#[m,ns m hn,λi x v e1 e2 e3=>?_];let#[u,r,l]:=hl i x v e1 e2 e3;refine#[u,r,?_];rcases l with l|⟨k,c,e,z⟩
  .exact .inl l
  .exact .inr #[k,c,e,cellK x c e _ z]
 .let#[v,z]:=I.cell x c e;exact#[v,cellK x c e v z]
 .let#[m,#[o,_,_,ho,_],_]:=I.loc;exact free _ o (λz=>(Ku _ z).2.1 rfl) ho I.free
 .let#[v,o,ho,hd]:=I.cell x c e;exact free c o (λz=>(Ku c z).2.2.1 x c e rfl) ho (I.nz x c e)
 .let#[e,n,ne,nf,d]:=I.pin p hp;let V6:=λz=>(Ku p.1 z).2.2.2 p hp rfl;exact#[keep p.1 p.2 ne nf V6 e n,free p.1 p.2 V6 e n,ne,nf,d]
theorem Inv.un(I:Inv X pins σ H s)(u:Un X.fs [] H H' s.heap h')(hok:uQ X.prog X.w H' h'):Inv X pins σ H' { s with heap:=h',toks:=t' }:=by
 let#[m,#[o,es,ep,ho,r],_]:=id I.loc;let#[sl,hL]:=u.any ho I.free (by simp);exact I.step (ch:=[]) (λ_ z=>nomatch z) (λb o _ hb _ e n=>u.keep b o e n hb (by simp)) (λb o _ hb _ e n=>u.slot b o e n hb (by simp)) (λb o _ e n=>u.free b o e n (by simp)) (λb o _ e=>u.there b o e (by simp)) u.tups u.ub u.xW (λm' hm=>by let#[o',Vl,Vm,BR,r']:=hm;rw[ho]at BR;cases BR;exact#[_,Vl,Vm,hL,r']) hok I.bare
theorem Inv.call(I:Inv X pins σ H s)(u:Un (Kt X.stack) ch H H' s.heap h')(hok:uQ X.prog X.w H' h')(hg:tX g')
  (Ku:∀b∈ch,(b∈X.ex\/X.s₀.heap.objs.size<=b)/\b≠X.env.locals/\(∀x c,X.env.cells.lookup x>>c->c≠b)/\∀p∈X.pn++pins,p.1≠b):
  Inv X pins σ H' { s with heap:=h',gens:=g',drawn:=d',toks:=t' }:=by
 let#[m,#[o,es,ep,ho,r],_]:=id I.loc;let#[sl,hL]:=u.any ho I.free λz=>(Ku _ z).2.1 rfl;exact I.step Ku (λb o hL hb hc e n=>u.keep b o e n (λz=>(ax.mp (I.BU b z)).elim hL hb) hc) (λb o _ _ hc e n=>u.any e n hc) (λb o hc e n=>u.free b o e n hc) (λb o hc e=>u.there b o e hc) u.tups u.ub u.xW (λm' hm=>by let#[o',Vl,Vm,BR,r']:=hm;rw[ho]at BR;cases BR;exact#[_,Vl,Vm,hL,r']) hok hg
theorem Inv.turned(I:Inv X pins σ H s)(k:∀b o,b≠it->s.heap.get? b>>o->h'.get? b>>o)(hn:H it=none)(hL:it≠X.env.locals)
  (h1:it∈X.ex\/X.s₀.heap.objs.size<=it)(h2:∀x c,X.env.cells.lookup x>>c->c≠it)(h3:∀p∈X.pn++pins,p.1≠it):Inv X pins σ H { s with heap:=h',toks:=t' }:=by
 let V7:∀b u,H b>>u->b≠it:=λb u e z=>by rw[z,hn]at e;cases e
 refine I.step (ch:=[it]) (λb hb=>?_) (λb o _ _ hc e _=>k b o (λz=>hc (by simp[z])) e) (λb o _ _ hc e _=>#[o.slots,k b o (λz=>hc (by simp[z])) e]) (λ_ _ _ _ n=>n)
  (λb o hc e=>#[o,k b o (λz=>hc (by simp[z])) e]) (λ_ _ e=>e) (λ_ _ _ e=>e) (λb ps e=>#[#[],by rw[e];simp]) (λm hm=>?_) (λb u e=>?_) I.bare
 .let e:b=it:=by simpa using hb
  subst e;exact#[h1,hL,h2,h3]
 .let#[o,es,ep,ho,r]:=hm;exact#[o,es,ep,k _ o (bF hL) ho,r]
 .refine(I.hok b u e).stay (λc v hc q=>k c v ?_ q) (λ_ q=>q) λ_ _ q=>q;rcases hc with z|z
  .rw[z];exact V7 b u e
  .exact V7 c _ z
theorem Inv.tok(I:Inv X pins σ H s)(t:Nat):Inv X pins σ H { s with toks:=t }:=I.un Un.refl I.hok
theorem Inv.kept(I:Inv X pins σ H s)(k:∀b u,s.heap.get? b>>u->h'.get? b>>u):Inv X pins σ H { s with heap:=h',toks:=t' }:=I.un (Un.kept k) (I.hok.kept k)
theorem Inv.laid{o:HO}(I:Inv X pins σ H s)(k:∀b u,s.heap.get? b>>u->h'.get? b>>u)(hp:s.heap.objs.size<=a)(new:fV X.prog X.w (upd H a o) h' a o):
  Inv X pins σ (upd H a o) { s with heap:=h',toks:=t' }:=I.un (Un.laid k hp (I.hok.fresh hp)) (I.hok.laid k hp new)
theorem Inv.write{x e:ay}{o:HO}(I:Inv X pins σ H s)(mu:V1 (H x))(he:e=x\/H e>>(.own x))(k:∀b u,b≠e->s.heap.get? b>>u->h'.get? b>>u)(QW:∃u,h'.get? e>>u)
  (new:fV X.prog X.w (upd H x o) h' x o):Inv X pins σ (upd H x o) { s with heap:=h',toks:=t' }:=I.un (Un.write mu he k QW) (I.hok.write mu he k QW new)
theorem Inv.Hv{QY:!(ay×Obj)}(I:Inv X pins σ H s)(h:∀p∈QY,s.heap.get? p.1>>p.2/\H p.1=none/\p.1≠X.env.locals/\p.1∉X.fs/\∀v,p.2.data≠.cell v):Inv X QY σ H s:=
 #[I.ok,I.os,I.bare,I.base,I.loc,I.cell,I.free,I.nz,λp hp=>(aV.mp hp).elim (λz=>I.pin p (bP _ z)) (h p),I.hok,I.len]
theorem DF(hN:N.Nodup){i j:Nat}{x:Str}(a:N[i]?>>x)(b:N[j]?>>x):i=j:=by let#[h1,e1]:=av.mp a;let#[h2,e2]:=av.mp b;exact(qE hN).mp (e1.trans e2.symm)
theorem A1{i:Nat}{x:Str}{v:V}{Q:Unit->aK->Prop}(I:Inv X pins σ H s)(hN:X.N.Nodup)(hi:X.N[i]?>>x)(hx:Loc X.env.scope x)(r:RelV v u)
  (h:∀s',Inv X pins (σ.set i (some v)) H s'->(∃a,gk a s.heap s'.heap/\(a=X.env.locals\/X.env.cells.lookup x>>a))->Q () s')(hf:yi X x:=by left):wpAny M A (storeName X.env x u) Q E s:=by
 let#[m,hn,hl]:=id I.loc;let zac:(X.env.scope.kind == .class||(X.env.scope.kind == .module&&X.env.locals != X.env.globals))=false:=by rw[I.ok.kind];rfl
 let hiσ:i < σ.length:=[I.len]▸(av.mp hi).1;let Sx:=I.Sx;let tracked:∀{a:ay}{h':cI},(∃o,s.heap.get? a>>o/\H a=none)->gk a s.heap h'->uQ X.prog X.w H h':=λ{a h'}ha hs b ob e=>by
  let#[_,_,QZ]:=ha;refine(I.hok b ob e).stay (λc w' hc q=>(hs.2 c ?_).trans q) (λ_ q=>q) λ_ _ q=>q;rintro rfl;rcases hc with rfl|hc
  .rw[QZ]at e;cases e
  .rw[QZ]at hc;cases hc
 rcases hx with hk|hk
 .refine wpAny_storeName_local hk hn (λh' hn' hs=>?_) zac;let#[oL,_,_,hoL,_]:=id hn;refine h _ #[I.ok,I.os,I.bare,#[λb o e n hb hx=>?_,λb o e n hb hx=>?_,I.base.free,λb o e hx=>?_,I.base.tups,I.base.ub,I.base.xW],#[_,hn',λj y v' e1 e2 e3=>?_],λy c e=>?_,I.free,I.nz,λp hp=>?_,tracked #[oL,hoL,I.free] hs,by simpa using I.len] #[_,hs,.inl rfl]
  .exact(hs.2 b (a8 (bV (aZ e) I.ok.above))).trans (I.base.keep b o e n hb hx)
  .let#[sl,e1]:=I.base.slot b o e n hb hx;exact#[sl,(hs.2 b (a8 (bV (aZ e) I.ok.above))).trans e1]
  .let#[o',e1]:=I.base.there b o e hx;exact#[o',(hs.2 b (a8 (bV (aZ e) I.ok.above))).trans e1]
  .by_cases hj:j=i
   .subst hj;rw[hi]at e1;cases e1;rw[aY hiσ]at e2;cases e2;exact#[u,r,.inl #[hk,by simp]]
   .rw[aS (bF hj)]at e2;let#[u',r',q]:=hl j y v' e1 e2 e3;refine#[u',r',?_];rcases q with⟨k,e⟩|⟨k,c,e,z⟩
    .refine .inl #[k,?_];let:y≠x:=λe=>hj (DF hN e1 (e▸hi));simp[this,e]
    .exact .inr #[k,c,e,z.sameBut hs (Sx y c e)]
  .let#[w',z]:=I.cell y c e;exact#[w',z.sameBut hs (Sx y c e)]
  .let#[e,n,ne,nf,d]:=I.pin p hp;exact#[(hs.2 p.1 ne).trans e,n,ne,nf,d]
 .let hfn:X.fn x=true:=by
   rcases hf with z|z
   .exact z
   .rw[z]at hk;cases hk
  let#[c,hc]:=I.ok.has x (.inl hk);let#[w',z]:=I.cell x c hc;refine wpAny_storeName_cell I.ok.kind hk hc z (λh' Vn hs=>?_);let#[oc,hoc,zae]:=id z;refine h { s with heap:=h' } #[I.ok,I.os,I.bare,#[λb o e n hb hx=>?_,λb o e n hb hx=>?_,I.base.free,λb o e hx=>?_,I.base.tups,I.base.ub,I.base.xW],#[m,hn.sameBut hs (bF (Sx x c hc)),λj y v' e1 e2 e3=>?_],λy c' e=>?_,I.free,I.nz,λp hp=>?_,tracked #[oc,hoc,I.nz x c hc] hs,by simpa using I.len] #[c,hs,.inr hc]
  .exact(hs.2 b (a8 (bV (aZ e) (I.ok.cab x c hfn hc)))).trans (I.base.keep b o e n hb hx)
  .let#[sl,e1]:=I.base.slot b o e n hb hx;exact#[sl,(hs.2 b (a8 (bV (aZ e) (I.ok.cab x c hfn hc)))).trans e1]
  .let#[o',e1]:=I.base.there b o e hx;exact#[o',(hs.2 b (a8 (bV (aZ e) (I.ok.cab x c hfn hc)))).trans e1]
  .by_cases hj:j=i
   .subst hj;rw[hi]at e1;cases e1;rw[aY hiσ]at e2;cases e2;exact#[u,r,.inr #[.inl hk,c,hc,Vn]]
   .rw[aS (bF hj)]at e2;let#[u',r',q]:=hl j y v' e1 e2 e3;refine#[u',r',?_];rcases q with q|⟨k,c',e,z'⟩
    .exact .inl q
    .refine .inr #[k,c',e,z'.sameBut hs ?_];rintro rfl;exact hj (DF hN e1 (I.ok.inj _ _ _ e hc▸hi))
  .by_cases Zr:c'=c
   .subst Zr;exact#[_,Vn]
   .let#[w2,z2]:=I.cell y c' e;exact#[w2,z2.sameBut hs Zr]
  .let#[e,n,ne,nf,d]:=I.pin p hp;refine#[(hs.2 p.1 ?_).trans e,n,ne,nf,d];intro q;rw[q,hoc]at e;exact d w' ([<-(b9 e)]▸zae)
theorem nA{i:Nat}{x:Str}{v:V}{Q:Unit->aK->Prop}(I:Inv X pins σ H s)(hN:X.N.Nodup)(hi:X.N[i]?>>x)(hx:Loc X.env.scope x)(r:RelV v u)
  (h:∀s',Inv X pins (σ.set i (some v)) H s'->Q () s')(hf:yi X x:=by left):wpAny M A (storeName X.env x u) Q E s:=
 A1 I hN hi hx r (λs' I' _=>h s' I') hf
theorem Inv.call'(I:Inv X pins σ H s)(ho:s'.os=s.os)(u:Un (Kt X.stack) ch H H' s.heap s'.heap)(hok:uQ X.prog X.w H' s'.heap)(hg:tX s'.gens)
  (Ku:∀b∈ch,(b∈X.ex\/X.s₀.heap.objs.size<=b)/\b≠X.env.locals/\(∀x c,X.env.cells.lookup x>>c->c≠b)/\∀p∈X.pn++pins,p.1≠b):Inv X pins σ H' s':=by let#[h',g',d',t',o']:=s';let e:=ho;subst e;exact I.call u hok hg Ku
end
abbrev XK:=aA->Option ay->Hp->Prop
abbrev St:=!(Option V)
variable{σ:St}
abbrev VK:=V->Hp->Prop
abbrev TE:=St->Hp->VK->Prop
variable{t:TE}
abbrev TT:=St->Hp->(Bool->Hp->Prop)->Prop
abbrev TA:=St->Hp->(!V->Hp->Prop)->Prop
structure Ends where
 nx:St->Hp->Prop
 rt:VK
 bk:St->Hp->Prop:=λ_ _=>False
 ct:St->Hp->Prop:=λ_ _=>False
abbrev TS:=Ends->St->Hp->Prop
def EP(X:Cx)(pins:!(ay×Obj))(σ:St)(Q:VK)(u:aA)(s':aK):Prop:=∃v H',Inv X pins σ H' s'/\RelV v u/\Q v H'
def TP(X:Cx)(pins:!(ay×Obj))(σ:St)(Q:Bool->Hp->Prop)(b:Bool)(s':aK):Prop:=∃H',Inv X pins σ H' s'/\Q b H'
def AP(X:Cx)(pins:!(ay×Obj))(σ:St)(Q:!V->Hp->Prop)(us:!aA)(s':aK):Prop:=∃vs H',Inv X pins σ H' s'/\dA vs us/\Q vs H'
def SP(X:Cx)(pins:!(ay×Obj))(D:Ends)(f:Flow)(s':aK):Prop:=
 match f with
 | .next=>∃σ' H',Inv X pins σ' H' s'/\D.nx σ' H'
 | .brk=>∃σ' H',Inv X pins σ' H' s'/\D.bk σ' H'
 | .cont=>∃σ' H',Inv X pins σ' H' s'/\D.ct σ' H'
 | .ret u=>∃v σ' H',Inv X pins σ' H' s'/\RelV v u/\D.rt v H'
def PE(X:Cx)(e:bw)(t:TE):Prop:=
 ∀(pins:!(ay×Obj))(s:aK)(σ:St)(H:Hp)(Q:VK),Inv X pins σ H s->t σ H Q->wpAny (model X.prog X.w) X.A (eval e X.env) (EP X pins σ Q) X.xe s
def PT(X:Cx)(e:bw)(t:TT):Prop:=
 ∀(pins:!(ay×Obj))(s:aK)(σ:St)(H:Hp)(Q:Bool->Hp->Prop),Inv X pins σ H s->t σ H Q->wpAny (model X.prog X.w) X.A (isTrue e X.env (eval e X.env)) (TP X pins σ Q) X.xe s
def PW(X:Cx)(e:bw)(t:TT):Prop:=
 ∀(whole:Sem aA)(pins:!(ay×Obj))(s:aK)(σ:St)(H:Hp)(Q:Bool->Hp->Prop),Inv X pins σ H s->t σ H Q->wpAny (model X.prog X.w) X.A (isTrue e X.env whole) (TP X pins σ Q) X.xe s
theorem PW.pt{t:TT}(h:PW X e t):PT X e t:=h _
def PA(X:Cx)(es:!bw)(t:TA):Prop:=
 ∀(pos:Pos)(pins:!(ay×Obj))(s:aK)(σ:St)(H:Hp)(Q:!V->Hp->Prop),Inv X pins σ H s->t σ H Q->wpAny (model X.prog X.w) X.A (spliced (backTo pos (starEach es X.env))) (AP X pins σ Q) X.xe s
def PS(X:Cx)(st:eO)(t:TS):Prop:=
 ∀(pins:!(ay×Obj))(s:aK)(σ:St)(H:Hp)(D:Ends),Inv X pins σ H s->t D σ H->wpAny (model X.prog X.w) X.A (exec st X.env) (SP X pins D) X.xe s
def Hw(X:Cx)(st:!eO)(t:TS):Prop:=
 ∀(pins:!(ay×Obj))(s:aK)(σ:St)(H:Hp)(D:Ends),Inv X pins σ H s->t D σ H->wpAny (model X.prog X.w) X.A (execs st X.env) (SP X pins D) X.xe s
theorem fF{α:Type}{t:Sem α}{Q Q':α->aK->Prop}(h:wpAny M A t Q E s)(hQ:∀a s,Q a s->Q' a s):wpAny M A t Q' E s:=gS h hQ λ_ _ x=>x
section
variable{X:Cx}
theorem bin{a b:bw}{ta tb:TE}(ha:PE X a ta)(hb:PE X b tb)(I:Inv X pins σ H s)(h:ta σ H λx H1=>tb σ H1 λy H2=>R x y H2)
  {α:Type}{Q:α->aK->Prop}{f:aA->aA->Sem α}
  (hf:∀v u s2 x y H2,Inv X pins σ H2 s2->RelV x v->RelV y u->R x y H2->wpAny (model X.prog X.w) X.A (f v u) Q X.xe s2):
  wpAny (model X.prog X.w) X.A (eval a X.env) (λv s₁=>wpAny (model X.prog X.w) X.A (eval b X.env) (λu s₂=>wpAny (model X.prog X.w) X.A (f v u) Q X.xe s₂) X.xe s₁) X.xe s:=by refine fF (ha pins s σ H _ I h) λv s1 #[x,H1,I1,r1,q1]=>?_;exact fF (hb pins s1 σ H1 _ I1 q1) λu s2 #[y,H2,I2,r2,q2]=>(hf v u s2 x y H2 I2 r1 r2 q2)
def Sz(i:Nat):TE:=λσ H Q=>∃v,σ[i]?>>(some v)/\Q v H
def tC(v:V):TE:=λ_ H Q=>Q v H
theorem SD{i:Nat}{x:Str}{pos:Pos}(hN:X.N[i]?>>x)(hv:Z' X.env.scope x)(hd:uc x:=by decide)(Od:NCd x:=by decide):PE X (.Name x pos) (Sz i):=by
 intro pins s σ H Q I h;let#[v,e,h]:=h;let#[m,hn,hl]:=I.loc;let#[u,r,l]:=hl i x v hN e hv;let fin:EP X pins σ Q u s:=#[v,H,I,r,h];rcases l with⟨hk,hm⟩|⟨hk,c,hc,Q0⟩
 .exact wpAny_Name (wpAny_loadName_local I.ok.kind hk hn hm fin) hd
 .rcases hk with hk|hk
  .exact wpAny_Name (wpAny_loadName_cell I.ok.kind hk hc Q0 fin) hd
  .exact wpAny_Name (wpAny_loadName_free I.ok.kind hk hc Q0 fin Od) hd
theorem vL{i:Nat}{x:Str}{pos:Pos}(h:tE X i x):PE X (.Name x pos) (Sz i):=SD h.1 h.2.1 h.2.2.1 h.2.2.2
theorem SF{i j pos}:PE X (.Constant (.int i) j pos) (tC (.int i)):=λ_ _ _ H _ I h=>wpAny_Constant_int #[.int i,H,I.tok _,#[_,rfl],h]
theorem V8{b j pos}:PE X (.Constant (.bool b) j pos) (tC (.bl b)):=λ_ _ _ H _ I h=>Constant_bool #[.bl b,H,I,rfl,h]
theorem SG{j pos}:PE X (.Constant .none j pos) (tC .non):=λ_ _ _ H _ I h=>Constant_none #[.non,H,I,rfl,h]
theorem SJ{x j pos}:PE X (.Constant (.str x) j pos) (tC (.str x)):=λ_ _ _ H _ I h=>Calls.Constant_str #[.str x,H,I.tok _,#[_,rfl],h]
def Gl(X:Cx)(x:Str):Prop:=X.env.kindOf x>>.globalImplicit
theorem BV{x:Str}{pos:Pos}(I:Inv X pins σ H s)(hg:Gl X x)(hm:X.mg x>>u)(h:Q u s)
  (hd:uc x:=by decide):wpAny (model X.prog X.w) X.A (eval (.Name x pos) X.env) Q E s:=
 Ag I.ok.kind hg (Calls.loadGlobal_global ([I.ok.glob]▸I.mod.glob.keeps I.bk) hm h) hd
theorem vV{x:Str}{pos:Pos}(I:Inv X pins σ H s)(hg:Gl X x)(hm:X.mg x=none)(hv:bootBuiltins x>>u)(h:Q u s)
  (hn:x≠"__name__":=by decide)(hd:uc x:=by decide):wpAny (model X.prog X.w) X.A (eval (.Name x pos) X.env) Q E s:=by let#[mb,h1,h2]:=I.mod.blt;exact Ag I.ok.kind hg (Calls.loadGlobal_builtin ([I.ok.glob]▸I.mod.glob.keeps I.bk) hm ([I.ok.blt]▸h1.keeps I.bk) ((h2 x hn).trans hv) h) hd
theorem yj{x:Str}{v:V}{pos:Pos}(hg:Gl X x)(hm:X.mg x>>u)(r:RelV v u)(hd:uc x:=by decide):PE X (.Name x pos) (tC v):=
 λ_ _ _ H _ I h=>BV I hg hm #[v,H,I,r,h] hd
theorem BW{x:Str}{v:V}{pos:Pos}(hg:Gl X x)(hm:X.mg x=none)(hv:bootBuiltins x>>u)(r:RelV v u)(hn:x≠"__name__":=by decide)(hd:uc x:=by decide):PE X (.Name x pos) (tC v):=
 λ_ _ _ H _ I h=>vV I hg hm hv #[v,H,I,r,h] hn hd
variable{a b:bw}{ta tb:TE}{pos:Pos}
def PC(X:Cx)(op:Dm)(a b:bw)(t:TE):Prop:=
 ∀(pins:!(ay×Obj))(s:aK)(σ:St)(H:Hp)(Q:VK),Inv X pins σ H s->t σ H Q->
  wpAny (model X.prog X.w) X.A (eval a X.env) (λv s₁=>wpAny (model X.prog X.w) X.A (eval b X.env) (λu s₂=>wpAny (model X.prog X.w) X.A (compareOp op v u) (EP X pins σ Q) X.xe s₂) X.xe s₁) X.xe s
def tB(t:TE):TT:=λσ H Q=>t σ H λx H1=>∃c,x=.bl c/\Q c H1
theorem Fy{op:Dm}(h:PC X op a b t)(h1:behindInMarks op b=false:=by first|exact KP _ (by decide) (by decide)|rfl):PE X (.Compare a [op] [b] pos) t:=λpins s σ H Q I hw=>wpAny_Compare1 (h pins s σ H Q I hw) h1
theorem SK{op:Dm}(h:PC X op a b t)(h1:behindInMarks op b=false:=by first|exact KP _ (by decide) (by decide)|rfl):PT X (.Compare a [op] [b] pos) (tB t):=by intro pins s σ H Q I hw;refine wpAny_isTrue_Compare1 (fF (h pins s σ H _ I hw) λv s1 h1=>fF h1 λu s2 h2=>fF h2 λc s3 #[x,H1,I1,r1,q1]=>?_) h1;let#[d,rfl,q]:=q1;cases r1;exact ft #[H1,I1,q]
variable{tA Zt:TT}{rest:!bw}
def zaf(t u:TT):TT:=λσ H Q=>t σ H λc H1=>if c=true then u σ H1 Q else Q false H1
def tOr(t u:TT):TT:=λσ H Q=>t σ H λc H1=>if c=true then Q true H1 else u σ H1 Q
def zag(t:TT):TT:=λσ H Q=>t σ H λc H1=>Q (not c) H1
theorem pw_and1(ha:PT X a tA):PW X (.BoolOp .And [a] pos) tA:=by
 intro wh pins s σ H Q I h;refine isTrue_and (fF (ha pins s σ H Q I h) λc s1 e=>?_);cases c with
 |true=>exact isTrue_and_nil e
 |false=>exact e
theorem pw_or1(ha:PT X a tA):PW X (.BoolOp .Or [a] pos) tA:=by
 intro wh pins s σ H Q I h;refine isTrue_or (fF (ha pins s σ H Q I h) λc s1 e=>?_);cases c with
 |false=>exact isTrue_or_nil e
 |true=>exact e
theorem pw_and(ha:PT X a tA)(hb:PW X (.BoolOp .And (b::rest) pos) Zt):PW X (.BoolOp .And (a::b::rest) pos) (zaf tA Zt):=by
 intro wh pins s σ H Q I h;refine isTrue_and (fF (ha pins s σ H _ I h) λc s1 #[H1,I1,q1]=>?_);cases c with
 |true=>exact hb wh pins s1 σ H1 Q I1 q1
 |false=>exact#[H1,I1,q1]
theorem pw_or(ha:PT X a tA)(hb:PW X (.BoolOp .Or (b::rest) pos) Zt):PW X (.BoolOp .Or (a::b::rest) pos) (tOr tA Zt):=by
 intro wh pins s σ H Q I h;refine isTrue_or (fF (ha pins s σ H _ I h) λc s1 #[H1,I1,q1]=>?_);cases c with
 |true=>exact#[H1,I1,q1]
 |false=>exact hb wh pins s1 σ H1 Q I1 q1
theorem SM(ha:PT X a tA):PT X (.UnaryOp .Not a pos) (zag tA):=by intro pins s σ H Q I h;exact isTrue_not (ha pins s σ H (λc H1=>Q (not c) H1) I h)
def V9(ta tb:TE):TE:=λσ H Q=>ta σ H λx H1=>∃c,x=.bl c/\if c=true then tb σ H1 Q else Q (.bl false) H1
def zah(ta tb:TE):TE:=λσ H Q=>ta σ H λx H1=>∃c,x=.bl c/\if c=true then Q (.bl true) H1 else tb σ H1 Q
def V_(ta:TE):TE:=λσ H Q=>ta σ H λx H1=>∃c,x=.bl c/\Q (.bl (not c)) H1
theorem SN{op}(h:PE X a t):PE X (.BoolOp op [a] pos) t:=λpins s σ H Q I hw=>BoolOp_one (h pins s σ H Q I hw)
theorem KQ(ha:PE X a ta)(hb:PE X (.BoolOp .And (b::rest) pos) tb):PE X (.BoolOp .And (a::b::rest) pos) (V9 ta tb):=by
 intro pins s σ H Q I h;refine BoolOp_and (fF (ha pins s σ H _ I h) λv s1 #[x,H1,I1,r1,q1]=>?_);let#[c,rfl,q1]:=q1;cases r1;refine ft ?_;cases c with
 |true=>exact hb pins s1 σ H1 Q I1 q1
 |false=>exact#[.bl false,H1,I1,rfl,q1]
theorem Q5(ha:PE X a ta)(hb:PE X (.BoolOp .Or (b::rest) pos) tb):PE X (.BoolOp .Or (a::b::rest) pos) (zah ta tb):=by
 intro pins s σ H Q I h;refine BoolOp_or (fF (ha pins s σ H _ I h) λv s1 #[x,H1,I1,r1,q1]=>?_);let#[c,rfl,q1]:=q1;cases r1;refine ft ?_;cases c with
 |false=>exact hb pins s1 σ H1 Q I1 q1
 |true=>exact#[.bl true,H1,I1,rfl,q1]
theorem SQ(ha:PE X a ta):PE X (.UnaryOp .Not a pos) (V_ ta):=by intro pins s σ H Q I h;refine UnaryOp_ (fF (ha pins s σ H _ I h) λv s1 #[x,H1,I1,r1,q1]=>?_);let#[c,rfl,q1]:=q1;cases r1;exact not_of (ft #[.bl (not c),H1,I1,rfl,q1])
def tIf(t:TT)(ta tb:TE):TE:=λσ H Q=>t σ H λc H1=>if c=true then ta σ H1 Q else tb σ H1 Q
theorem KR(hc:PT X c tA)(ha:PE X a ta)(hb:PE X b tb):PE X (.IfExp c a b pos) (tIf tA ta tb):=by
 intro pins s σ H Q I h;refine wpAny_IfExp (fF (hc pins s σ H _ I h) λd s1 #[H1,I1,q1]=>?_);cases d with
 |true=>exact ha pins s1 σ H1 Q I1 q1
 |false=>exact hb pins s1 σ H1 Q I1 q1
end
def jb(K:aj)(H:Hp)(a:ay)(xs:!V):Prop:=
 Rd H a (.lst xs)\/
  ∃(o:Obj)(its:Array aA)(n:Nat),K.lookup a>>o/\o.cls=.type "list"/\o.dict=none/\o.data=.seq its n/\its.size<=sizeLine/\dA xs its.toList
def nV(K:aj)(H:Hp)(a:ay)(xs:!V):Prop:=
 Rd H a (.tup xs)\/
  ∃(o:Obj)(its:Array aA)(n:Nat),K.lookup a>>o/\o.cls=.type "tuple"/\o.data=.seq its n/\its.size<=sizeLine/\dA xs its.toList
def zai:aA->Option V
 | .none=>some .non
 | .bool b=>some (.bl b)
 | .int i _=>some (.int i)
 | .str x _=>some (.str x)
 | .bytes b _=>some (.Vj b)
 | .float b _=>some (.flt b)
 | .ref a=>some (.ref a)
 | .type n=>some (.ty n)
 |_=>none
theorem RelV.abs{x:V}(r:RelV x u):zai u>>x:=by
 cases x with
 |non=>cases r;rfl
 |bl _=>cases r;rfl
 |int _=>let#[t,rfl]:=r;rfl
 |str _=>let#[t,rfl]:=r;rfl
 |Vj _=>let#[t,rfl]:=r;rfl
 |flt _=>let#[t,rfl]:=r;rfl
 |ref _=>cases r;rfl
 |ty _=>cases r;rfl
theorem RelV.inj{x y:V}(r:RelV x u)(q:RelV y u):x=y:=b9 (r.abs.symm.trans q.abs)
theorem dA.inj:∀{xs ys:!V}{us:!aA},dA xs us->dA ys us->xs=ys
 |_,_,_,.nil,.nil=>rfl
 |_,_,_,.cons r t,.cons r' t'=>by rw[r.inj r',dA.inj t t']
section
variable{X:Cx}{pins:!(ay×Obj)}{σ:St}{H:Hp}{s:aK}{a:ay}{xs ys:!V}
theorem jb.of(h:H a>>(.lst xs)):jb K H a xs:=.inl (.inl h)
theorem nV.of(h:H a>>(.tup xs)):nV K H a xs:=.inl (.inl h)
theorem Inv.list(I:Inv X pins σ H s)(h:jb X.K H a xs):∃its:!aA,dA xs its/\PlainL s.heap a its.toArray/\xs.length<=sizeLine:=by
 rcases h with h|⟨o,its,n,hk,hc,hd,hs,hz,r⟩
 .let#[z,its,n,r,e]:=h.ok I.hok;exact#[its,r,#[_,n,e,rfl,rfl,rfl],z]
 .refine#[_,r,#[o,n,I.Aq a o hk,hc,hd,by simpa using hs],?_];let e:=r.length;simp only[ck]at e;omega
theorem Inv.tuple(I:Inv X pins σ H s)(h:nV X.K H a xs):∃its:!aA,dA xs its/\IsTup s.heap a its.toArray/\xs.length<=sizeLine:=by
 rcases h with h|⟨o,its,n,hk,hc,hs,hz,r⟩
 .let#[z,its,r,p]:=h.ok I.hok;exact#[its,r,p,z]
 .refine#[_,r,#[o,I.Aq a o hk,hc,n,by simpa using hs],?_];let e:=r.length;simp only[ck]at e;omega
theorem Inv.yI(I:Inv X pins σ H s)(h:jb X.K H a xs)(h':jb X.K H a ys):xs=ys:=by
 let#[its,r,#[o,n,e,_,_,d],_]:=I.list h;let#[its',r',#[o',n',e',_,_,d'],_]:=I.list h';rw[e]at e';cases e';rw[d]at d';injection d' with d1 _
 let:its=its':=by simpa using qQ6 Array.toList d1
 subst this;exact r.inj r'
theorem Inv.A2(I:Inv X pins σ H s)(h:nV X.K H a xs)(h':nV X.K H a ys):xs=ys:=by
 let#[its,r,#[o,e,_,n,d],_]:=I.tuple h;let#[its',r',#[o',e',_,n',d'],_]:=I.tuple h';rw[e]at e';cases e';rw[d]at d';injection d' with d1 _
 let:its=its':=by simpa using qQ6 Array.toList d1
 subst this;exact r.inj r'
end
abbrev Cx.wish(X:Cx)(E:aA->aK->Prop):Cx:={ X with xe:=E }
abbrev Cx.Q6(X:Cx):Cx:=X.wish λ_ _=>False
theorem Cx.Ok.wish(ok:X.Ok)(E:aA->aK->Prop):(X.wish E).Ok:=
 #[ok.mod,ok.kind,ok.glob,ok.blt,ok.above,ok.inj,ok.has,ok.cab,ok.hd,ok.frames,ok.stk,ok.exf,ok.bs,ok.QX,ok.KN,ok.Oc,ok.xX,ok.Sw]
theorem Cx.Ok.rB(ok:(X.wish E).Ok):X.Ok:=
 #[ok.mod,ok.kind,ok.glob,ok.blt,ok.above,ok.inj,ok.has,ok.cab,ok.hd,ok.frames,ok.stk,ok.exf,ok.bs,ok.QX,ok.KN,ok.Oc,ok.xX,ok.Sw]
section
variable{X:Cx}{pins:!(ay×Obj)}{σ:St}{H:Hp}{s:aK}{E:aA->aK->Prop}
theorem Inv.wish(I:Inv X pins σ H s)(E:aA->aK->Prop):Inv (X.wish E) pins σ H s:=#[I.ok.wish E,I.os,I.bare,I.base,I.loc,I.cell,I.free,I.nz,I.pin,I.hok,I.len]
theorem Inv.rB(I:Inv (X.wish E) pins σ H s):Inv X pins σ H s:=#[I.ok.rB,I.os,I.bare,I.base,I.loc,I.cell,I.free,I.nz,I.pin,I.hok,I.len]
theorem SP.rB{D:Ends}{f:Flow}(h:SP (X.wish E) pins D f s'):SP X pins D f s':=by
 cases f with
 |next=>let#[σ',H',I,q]:=h;exact#[σ',H',I.rB,q]
 |brk=>let#[σ',H',I,q]:=h;exact#[σ',H',I.rB,q]
 |cont=>let#[σ',H',I,q]:=h;exact#[σ',H',I.rB,q]
 |ret u=>let#[v,σ',H',I,r,q]:=h;exact#[v,σ',H',I.rB,r,q]
theorem Hw.Q6{st:!eO}{t:TS}(h:Hw X.Q6 st t):Hw X st t:=λpins s σ H D I hw=>gS (h pins s σ H D (I.wish _) hw) (λ_ _ q=>q.rB) λ_ _ z=>gB z
end
section
variable{X:Cx}{st:eO}{rest:!eO}{t u:TS}{e:bw}{te:TE}{pos:Pos}
def V':TS:=λD σ H=>D.nx σ H
def zaj(t u:TS):TS:=λD σ H=>t { D with nx:=u D } σ H
theorem HB:Hw X [] V':=λ_ _ σ H _ I h=>Dz #[σ,H,I,h]
theorem kC(h1:PS X st t)(h2:Hw X rest u):Hw X (st::rest) (zaj t u):=by
 intro pins s σ H D I h;refine wpAny_execs_cons (fF (h1 pins s σ H { D with nx:=u D } I h) λf s1 q=>?_);cases f with
 |next=>let#[σ',H',I',q]:=q;exact h2 pins s1 σ' H' D I' q
 |ret v=>exact q
 |brk=>exact q
 |cont=>exact q
theorem BX(h1:PS X st t):Hw X [st] t:=by
 intro pins s σ H D I h;refine wpAny_execs_cons (fF (h1 pins s σ H D I h) λf s1 q=>?_);cases f with
 |next=>exact Dz q
 |ret v=>exact q
 |brk=>exact q
 |cont=>exact q
theorem Inv.quiet(I:Inv X pins σ H s):interactive X.env=false:=by simp[interactive,I.ok.kind]
def Wb(te:TE):TS:=λD σ H=>te σ H λ_ H1=>D.nx σ H1
theorem kD(he:PE X e te)(hs:V4 X pos e:=by rfl):PS X (.Expr e pos) (Wb te):=by intro pins s σ H D I h;exact wpAny_Expr_any (fF (he pins s σ H _ I h) λv s1 #[x,H1,I1,r1,q1]=>#[σ,H1,I1,q1]) I.quiet hs
def zak(te:TE):TS:=λD σ H=>te σ H D.rt
theorem vW(he:PE X e te):PS X (.Return (some e) pos) (zak te):=by intro pins s σ H D I h;exact wpAny_Return_some (fF (he pins s σ H _ I h) λv s1 #[x,H1,I1,r1,q1]=>#[x,σ,H1,I1,r1,q1])
def zal(c:TT)(t u:TS):TS:=λD σ H=>c σ H λb H1=>if b=true then t D σ H1 else u D σ H1
theorem w_{a b:!eO}{tc:TT}(hc:PT X c tc)(ha:Hw X a t)(hb:Hw X b u):PS X (.If c a b pos) (zal tc t u):=by
 intro pins s σ H D I h;refine wpAny_If (fF (hc pins s σ H _ I h) λd s1 #[H1,I1,q1]=>?_);cases d with
 |true=>exact ha pins s1 σ H1 D I1 q1
 |false=>exact hb pins s1 σ H1 D I1 q1
def SR:TS:=λ_ _ _=>False
theorem jy{sts:!eO}:Hw X sts SR:=λ_ _ _ _ _ _ h=>h.elim
end
abbrev TG:=V->St->Hp->(St->Hp->Prop)->Prop
abbrev Q7:=!V->St->Hp->(St->Hp->Prop)->Prop
def PG(X:Cx)(target:bw)(t:TG):Prop:=
 ∀(pins:!(ay×Obj))(s:aK)(σ:St)(H:Hp)(v:V)(u:aA)(Q:St->Hp->Prop),Inv X pins σ H s->RelV v u->t v σ H Q->
  wpAny (model X.prog X.w) X.A (assign target X.env u) (λ_ s'=>∃σ' H',Inv X pins σ' H' s'/\Q σ' H') X.xe s
def Zu(X:Cx)(ts:!bw)(t:Q7):Prop:=
 ∀(pins:!(ay×Obj))(s:aK)(σ:St)(H:Hp)(vs:!V)(us:!aA)(Q:St->Hp->Prop),Inv X pins σ H s->dA vs us->t vs σ H Q->
  wpAny (model X.prog X.w) X.A (assignInOrder ((assignEach ts X.env).map (·.2)) us) (λ_ s'=>∃σ' H',Inv X pins σ' H' s'/\Q σ' H') X.xe s
abbrev SV:=V->V->V->Hp->(Hp->Prop)->Prop
def Wc(X:Cx)(t:SV):Prop:=
 ∀(pins:!(ay×Obj))(s:aK)(σ:St)(H:Hp)(o i v:V)(ov iv u:aA)(Q:Hp->Prop),Inv X pins σ H s->RelV o ov->RelV i iv->RelV v u->t o i v H Q->
  wpAny (model X.prog X.w) X.A (setItem ov iv u) (λ_ s'=>∃H',Inv X pins σ H' s'/\Q H') X.xe s
section
variable{X:Cx}{pos:Pos}
def A3(i:Nat):TG:=λv σ H Q=>Q (σ.set i (some v)) H
theorem Oe{i:Nat}{x:Str}(hN:X.N.Nodup)(hi:X.N[i]?>>x)(hx:Loc X.env.scope x)(hf:yi X x:=by left):PG X (.Name x pos) (A3 i):=by intro pins s σ H v u Q I r h;exact wpAny_assign_Name (nA I hN hi hx r (λs' I'=>#[_,H,I',h]) hf)
theorem hX{x:Str}{pos:Pos}(i:Nat)(hN:X.N.Nodup)(hi:X.N[i]?>>x:=by rfl)(hx:Loc X.env.scope x:=by left)(hf:yi X x:=by left):PG X (.Name x pos) (A3 i):=Oe hN hi hx hf
def Wf:Q7:=λvs σ H Q=>vs=[]/\Q σ H
def Q8(t:TG)(u:Q7):Q7:=λvs σ H Q=>∃v r,vs=v::r/\t v σ H λσ' H'=>u r σ' H' Q
theorem fA:Zu X [] Wf:=by intro pins s σ H vs us Q I r h;obtain⟨e,h⟩:=h;subst e;cases r;exact Ah #[σ,H,I,h]
theorem bY{t:TG}{u:Q7}(h1:PG X e t)(h2:Zu X es u)
  (hs:(assignEach (e::es) X.env).map (·.2)=assign e X.env::(assignEach es X.env).map (·.2):=by rfl):Zu X (e::es) (Q8 t u):=by
 intro pins s σ H vs us Q I r h;obtain⟨v,vr,e1,h⟩:=h;subst e1;cases r with
 |cons r rr=>rw[hs];exact jd (fF (h1 pins s σ H _ _ _ I r h) λ_ s1 #[σ1,H1,I1,q1]=>(h2 pins s1 σ1 H1 _ _ Q I1 rr q1))
def Wh(K:aj)(n:Nat)(t:Q7):TG:=λv σ H Q=>∃a xs,v=.ref a/\nV K H a xs/\xs.length=n/\t xs σ H Q
theorem gU{t:Q7}{n:Nat}(hc:X.calm=true)(h:Zu X es t)
  (hn:(assignEach es X.env).length=n:=by rfl)(I0:(assignEach es X.env).findIdx? (·.1)=none:=by rfl):PG X (.Tuple es k pos) (Wh X.K n t):=by intro pins s σ H v u Q I r hw;obtain⟨a,xs,e1,hq,hl,hw⟩:=hw;subst e1;cases r;obtain⟨its,rv,ht,hz⟩:=I.tuple hq;refine assign_Tuple_tuple (I.ok.hd hc) ht (by simp[hn,<-hl,rv.length]) I0 λh' hx=>?_;exact h pins _ σ H xs _ Q (I.kept (t':=s.toks) λb o e=>hx b o (a8 (aZ e)) e) ↑rv hw
def zam(to ti:TE)(t:SV):TG:=λv σ H Q=>to σ H λo H1=>ti σ H1 λi H2=>t o i v H2 λH3=>Q σ H3
theorem Fz{o i:bw}{to ti:TE}{t:SV}(ho:PE X o to)(hi:PE X i ti)(hs:Wc X t)
  (ha:∀v,assign (.Subscript o i pos) X.env v=(do
   let ov <-holding [v] (eval o X.env)
   let iv <-holding [v,ov] (eval i X.env)
   standAt pos
   holding [v,ov,iv] (setItem ov iv v)
   release [v,ov,iv] []):=by intro _;rfl):PG X (.Subscript o i pos) (zam to ti t):=by intro pins s σ H v u Q I r h;rw[ha];refine ao (iA (fF (ho pins s σ H _ I h) λov s1 #[x,H1,I1,r1,q1]=>?_));refine ao (iA (fF (hi pins s1 σ H1 _ I1 q1) λiv s2 #[y,H2,I2,r2,q2]=>?_));refine ao (q5 (ao (iA (fF (hs pins s2 σ H2 x y v ov iv u _ I2 r1 r2 r q2) λ_ s3 #[H3,I3,q3]=>?_))));exact wpAny_release #[σ,H3,I3,q3]
def SW(te:TE)(g:TG):TS:=λD σ H=>te σ H λx H1=>g x σ H1 D.nx
theorem KS{te:TE}{g:TG}(he:PE X e te)(hg:PG X tg g)(hs:swapsWithSole [tg] e pos.line X.env=pure false:=by rfl)(hw:swappedStores [tg] e X.env=pure none:=by rfl)
  (h1:(assignEach [tg] X.env).map (·.2)=[assign tg X.env]:=by rfl):PS X (.Assign [tg] e pos) (SW te g):=by intro pins s σ H D I h;refine wpAny_Assign_stores (fF (he pins s σ H _ I h) λv s1 #[x,H1,I1,r1,q1]=>?_) hs hw;rw[h1];exact fF (hg pins s1 σ H1 x v _ I1 r1 q1) λ_ s2 q=>q
theorem rC{i:Nat}{x:Str}{te:TE}{pos':Pos}(hN:X.N.Nodup)(hi:X.N[i]?>>x)(hx:Loc X.env.scope x)(he:PE X e te)(hs:A0 X pos e (.Name x pos'):=by rfl)(hf:yi X x:=by left):
  PS X (.Assign [.Name x pos'] e pos) (SW te (A3 i)):=by intro pins s σ H D I h;exact wpAny_Assign_Name (fF (he pins s σ H _ I h) λv s1 #[y,H1,I1,r1,q1]=>(nA I1 hN hi hx r1 (λs2 I2=>#[_,H1,I2,q1]) hf)) hs
def zan(i j:Nat)(ta:TA):TS:=λD σ H=>ta σ H λvs H1=>∃v w,vs=[v,w]/\D.nx ((σ.set i (some v)).set j (some w)) H1
theorem KW{i j:Nat}{x y:Str}{a b:bw}{ta:TA}{px py pt:Pos}{kt k2 DG}(hc:X.calm=true)(hN:X.N.Nodup)(hi:X.N[i]?>>x)(hj:X.N[j]?>>y)(vX:i≠j)
  (hx:X.env.scope.names.lookup x>>.local)(hy:X.env.scope.names.lookup y>>.local)(ha:PA X [a,b] ta)
  (hw:swappedStores [.Tuple [.Name x px,.Name y py] kt pt] (.Tuple [a,b] k2 DG) X.env=pure (some [x,y]))
  (hs:swapsWithSole [.Tuple [.Name x px,.Name y py] kt pt] (.Tuple [a,b] k2 DG) pos.line X.env=pure false:=by rfl):
  PS X (.Assign [.Tuple [.Name x px,.Name y py] kt pt] (.Tuple [a,b] k2 DG) pos) (zan i j ta):=by
 intro pins s σ H D I h;refine ao (q5 ?_);rw[hs];refine ao (aU ?_);refine ao (Tuple_ (fF (ha _ pins s σ H _ I h) λus s1 #[vs,H1,I1,r1,q1]=>?_));obtain⟨v,w,e1,q1⟩:=q1;subst e1;obtain⟨u1,u2,rfl,rv,pP⟩:∃u1 u2,us=[u1,u2]/\RelV v u1/\RelV w u2:=by
  cases r1 with
  |cons p q=>
   cases q with
   |cons p' q'=>cases q';exact#[_,_,rfl,p,p']
 refine dE ?_ (by show 2<=sizeLine;decide);let I2:Inv X pins σ H1 { s1 with heap:=s1.heap.push { cls:=.type "tuple",data:=.seq [u1,u2].toArray } }:=I1.kept λb o e=>aB _ e;rw[hw];refine ao (aU ?_);refine ao (tY (ao (unpackItems_tuple (items:=(bE [u1,u2])) (I.ok.hd hc) (tL s1.heap _) λh' hx'=>?_)));let I3:=I2.kept (t':=s1.toks) λb o e=>hx' b o (a8 (aZ e)) e;refine ao (jd (pR (nA I3 hN hj (.inl hy) pP (λs2 I4=>?_) (.inr hy))));refine jd (pR (nA I4 hN hi (.inl hx) rv (λs3 I5=>Ah (aU ?_)) (.inr hx)));rw[uS _ _ (bF vX)]at I5;exact#[_,H1,I5,q1]
end
section
variable{X:Cx}{pos:Pos}
end
structure It where
 go:Nat->Hp->Prop
 Wi:Nat->Hp->V->Hp->Prop
 stop:Nat->Hp->Prop
def uV(X:Cx)(pins:!(ay×Obj))(H:Hp)(b:ay):Prop:=
 H b=none/\b≠X.env.locals/\b∉X.fs/\(b∈X.ex\/X.s₀.heap.objs.size<=b)/\(∀x c,X.env.cells.lookup x>>c->c≠b)/\∀p∈X.pn++pins,p.1≠b
theorem Inv.xY{H': Hp}{b:ay}(I:Inv X pins σ H s)(hb:s.heap.objs.size<=b)(hn:H' b=none):uV X pins H' b:=by
 refine#[hn,fM (bV I.lt hb),I.zab hb,.inr (bZ I.sz hb),λx c e z=>?_,λp hp z=>?_]
 .let#[v,q]:=I.cell x c e;exact qQ7 (bV q.lt ([z]▸hb)) (Nat.lt_irrefl _)
 .exact qQ7 (bV (aZ (I.pin p hp).1) ([z]▸hb)) (Nat.lt_irrefl _)
structure Turn(P:bx)(w:b_)(K:aj)(tg:bw)(J:It)(fp:!ay)(it:ay)(tn:Nat->cI->Prop):Prop where
 mem:it∈fp
 obj:∀i h,tn i h->∀b∈fp,∃o,h.get? b>>o/\∀v,o.data≠.cell v
 keep:∀i h h',tn i h->(∀b∈fp,∀o,h.get? b>>o->h'.get? b>>o)->tn i h'
 item:∀(X:Cx),X.prog=P->X.w=w->X.K=K->X.calm=true->∀(i:Nat)(pins:!(ay×Obj))(s:aK)(σ:St)(H:Hp)(E:aA->aK->Prop),Inv X pins σ H s->(∀b∈fp,uV X pins H b)->tn i s.heap->J.go i H->
  wpAny (model P w) X.A (pyNext (.ref it)) (λr s1=>∃u,r>>u/\
   wpAny (model P w) X.A (letOwnedTupleGo tg (.ref it) u) (λ_ s2=>∃x H',Inv X pins σ H' s2/\RelV x u/\J.Wi i H x H'/\tn (i+1) s2.heap/\∀b∈fp,H' b=none) E s1) E s
 done:∀(X:Cx),X.prog=P->X.w=w->X.K=K->X.calm=true->∀(i:Nat)(pins:!(ay×Obj))(s:aK)(σ:St)(H:Hp)(E:aA->aK->Prop),Inv X pins σ H s->(∀b∈fp,uV X pins H b)->tn i s.heap->J.stop i H->
  wpAny (model P w) X.A (pyNext (.ref it)) (λr s1=>r=none/\Inv X pins σ H s1) E s
 self:∀(A:dz)(i:Nat)(s:aK)(Q:aA->aK->Prop)(E:aA->aK->Prop),tn i s.heap->Q (.ref it) s->wpAny (model P w) A (pyIter (.ref it)) Q E s
abbrev TI:=St->Hp->(It->Hp->Prop)->Prop
def PIE(X:Cx)(pins:!(ay×Obj))(σ:St)(tg:bw)(R:It->Hp->Prop)(Zv:aA)(s2:aK):Prop:=
 ∃(it:ay)(fp:!ay)(tn:Nat->cI->Prop)(J:It)(H':Hp),Zv=.ref it/\Inv X pins σ H' s2/\Turn X.prog X.w X.K tg J fp it tn/\tn 0 s2.heap/\(∀b∈fp,uV X pins H' b)/\R J H'
def PI(X:Cx)(tg iter:bw)(wi:TI):Prop:=
 ∀(pins:!(ay×Obj))(s:aK)(σ:St)(H:Hp)(R:It->Hp->Prop),Inv X pins σ H s->wi σ H R->
  wpAny (model X.prog X.w) X.A (eval iter X.env) (λv s1=>wpAny (model X.prog X.w) X.A (pyIter v) (PIE X pins σ tg R) X.xe s1) X.xe s
theorem A4{n:String}{vs:Array aA}{Q:Unit->aK->Prop}(ho:s.heap.get? it>>o)(hc:o.cls=.type n)(hd:o.data=.fields vs)
    (hn:["enumerate","zip","dict_itemiterator","dict_reverseitemiterator","odict_iterator","itertools.zip_longest","itertools.pairwise"].contains n=false)(hQ:Q () s):wpAny M A (letOwnedTupleGo tg (.ref it) u) Q E s:=by
  cases tg<;>first
    | exact aU hQ
    | (cases u<;>first
        | exact aU hQ
        | (refine ao (wpAny_load ho ?_)
           rw[hc,hd];show wpAny M A (if(["enumerate","zip","dict_itemiterator","dict_reverseitemiterator","odict_iterator","itertools.zip_longest","itertools.pairwise"].contains n&&vs[0]?==some (rawInt _))=true then _ else _) Q E s;rw[qQ2 (by intro h;rw[hn,Bool.false_and]at h;cases h)];exact aU hQ))
def Itl(K:aj)(a:ay):It:=
 #[λi H=>∃xs x,jb K H a xs/\xs[i]?>>x,λi H x H'=>H'=H/\∀xs,jb K H a xs->xs[i]?>>x,λi H=>∃xs,jb K H a xs/\xs.length<=i]
def Itt(K:aj)(a:ay):It:=
 #[λi H=>∃xs x,nV K H a xs/\xs[i]?>>x,λi H x H'=>H'=H/\∀xs,nV K H a xs->xs[i]?>>x,λi H=>∃xs,nV K H a xs/\xs.length<=i]
def Itr(lo:Int)(n:Nat):It:=#[λi _=>i<n,λi H x H'=>H'=H/\x=.int (lo+i),λi _=>n<=i]
theorem I_(a it:ay):Turn P w K tg (Itl K a) [it] it (λi h=>h.IsListIter it a i) where
 mem:=by simp
 obj:=λi h st b hb=>by
  let e:b=it:=by simpa using hb
  subst e;let#[o,e,c,d]:=st;exact#[o,e,λv z=>by rw[d]at z;cases z]
 keep:=λi h h' st k=>st.at λo e=>k it (by simp) o e
 item:=by intro X hP hw hK hc i pins s σ H E I hf st hg;subst hP hw hK;let#[xs,x,hq,hx]:=hg;let#[its,rv,p,hz]:=I.list hq;let#[u,hu,ru]:=rv.get hx;let#[f0,f1,f2,f3,f4,f5]:=hf it (by simp);refine wpAny_pyNext_list_item st p.isList ↑hu λh' uW sb=>?_;let#[o,e,c,d]:=id uW;exact#[u,rfl,A4 (s:={ s with heap:=h' }) e c d ⋯ #[x,H,I.turned (t':=s.toks) (λb o hb e=>(sb.2 b hb).trans e) f0 f1 f3 f4 f5,ru,#[rfl,λys hy=>[I.yI hy hq]▸hx],uW,λb hb=>(hf b hb).1]]
 done:=by intro X hP hw hK hc i pins s σ H E I hf st hg;subst hP hw hK;let#[xs,hq,hx]:=hg;let#[its,rv,p,hz]:=I.list hq;let#[f0,f1,f2,f3,f4,f5]:=hf it (by simp);let hl:=rv.length;exact wpAny_pyNext_list_end (I.ok.hd hc) st p.isList (by simp;omega) λh' eb=>#[rfl,I.turned (λb o hb e=>eb b o hb e) f0 f1 f3 f4 f5]
 self:=λ_ _ _ _ _ st h=>wpAny_pyIter_listiter st h
theorem FC(a it:ay):Turn P w K tg (Itt K a) [it] it (λi h=>h.IsTupleIter it a i) where
 mem:=by simp
 obj:=λi h st b hb=>by
  let e:b=it:=by simpa using hb
  subst e;let#[o,e,c,d]:=st;exact#[o,e,λv z=>by rw[d]at z;cases z]
 keep:=λi h h' st k=>st.at λo e=>k it (by simp) o e
 item:=by intro X hP hw hK hc i pins s σ H E I hf st hg;subst hP hw hK;let#[xs,x,hq,hx]:=hg;let#[its,rv,p,hz]:=I.tuple hq;let#[u,hu,ru]:=rv.get hx;let#[f0,f1,f2,f3,f4,f5]:=hf it (by simp);refine wpAny_pyNext_tuple_item st p ↑hu λh' uW sb=>?_;let#[o,e,c,d]:=id uW;exact#[u,rfl,A4 (s:={ s with heap:=h' }) e c d ⋯ #[x,H,I.turned (t':=s.toks) (λb o hb e=>(sb.2 b hb).trans e) f0 f1 f3 f4 f5,ru,#[rfl,λys hy=>[I.A2 hy hq]▸hx],uW,λb hb=>(hf b hb).1]]
 done:=by intro X hP hw hK hc i pins s σ H E I hf st hg;subst hP hw hK;let#[xs,hq,hx]:=hg;let#[its,rv,p,hz]:=I.tuple hq;let#[f0,f1,f2,f3,f4,f5]:=hf it (by simp);let hl:=rv.length;exact wpAny_pyNext_tuple_end (I.ok.hd hc) st p (by simp;omega) λh' eb=>#[rfl,I.turned (λb o hb e=>eb b o hb e) f0 f1 f3 f4 f5]
 self:=λ_ _ _ _ _ st h=>wpAny_pyIter_tupleiter st h
theorem FD(it:ay)(lo:Int)(n:Nat):Turn P w K tg (Itr lo n) [it] it (λi h=>IsRangeIter h it (lo+(i:Nat)*1) ((n:Int)-(i:Nat)) 1) where
 mem:=by simp
 obj:=λi h st b hb=>by
  let e:b=it:=by simpa using hb
  subst e;exact#[_,st,λv z=>by let z':=z;cases z']
 keep:=λi h h' st k=>k it (by simp) _ st
 item:=by intro X hP hw hK hc i pins s σ H E I hf st hg;subst hP hw hK;let#[f0,f1,f2,f3,f4,f5]:=hf it (by simp);refine (Walks.range (prog:=X.prog) (w:=X.w) (I.ok.hd hc) it lo 1 n).item i s _ _ hg st λv h' tk hv uW kk=>?_;let#[t,rfl]:=hv;let I1:Inv X pins σ H { s with heap:=h',toks:=tk }:=I.turned (λb o hb e=>kk b o ↑hb e) f0 f1 f3 f4 f5;refine#[_,rfl,A4 uW rfl rfl ⋯ #[.int (lo+i),H,I1,#[t,?_],#[rfl,rfl],uW,λb hb=>(hf b hb).1]];rw[Int.mul_one]
 done:=by intro X hP hw hK hc i pins s σ H E I hf st hg;subst hP hw hK;let#[f0,f1,f2,f3,f4,f5]:=hf it (by simp);exact wpAny_pyNext_range_end (I.ok.hd hc) st (by let:n<=i:=hg;omega) λh' eb=>#[rfl,I.turned (λb o hb e=>eb b o hb e) f0 f1 f3 f4 f5]
 self:=λ_ _ _ _ _ st h=>wpAny_pyIter_rangeiter st h
section
variable{X:Cx}{tg:bw}
def Wj(K:aj)(tl:TE):TI:=λσ H R=>tl σ H λx H1=>∃a,x=.ref a/\(∃xs,jb K H1 a xs)/\R (Itl K a) H1
def zar(K:aj)(tl:TE):TI:=λσ H R=>tl σ H λx H1=>∃a,x=.ref a/\(∃xs,nV K H1 a xs)/\R (Itt K a) H1
theorem HC{l:bw}{tl:TE}(hl:PE X l tl):PI X tg l (Wj X.K tl):=by
 intro pins s σ H R I h;refine fF (hl pins s σ H _ I h) λv s1 #[x,H1,I1,r1,q1]=>?_;let#[a,e,#[xs,hq],q]:=q1;subst e;cases r1;let#[its,rv,p,hz]:=I1.list hq;refine lW p.isList ?_;refine#[s1.heap.objs.size,_,_,_,H1,rfl,I1.kept λb o e=>aB _ e,I_ a _,#[_,bh _ rfl,rfl,rfl],λb hb=>?_,q];let e:b=s1.heap.objs.size:=by simpa using hb
 subst e;exact I1.xY ∅ (I1.hok.fresh ∅)
theorem SX{l:bw}{tl:TE}(hl:PE X l tl):PI X tg l (zar X.K tl):=by
 intro pins s σ H R I h;refine fF (hl pins s σ H _ I h) λv s1 #[x,H1,I1,r1,q1]=>?_;let#[a,e,#[xs,hq],q]:=q1;subst e;cases r1;let#[its,rv,p,hz]:=I1.tuple hq;refine yD p ?_;refine#[s1.heap.objs.size,_,_,_,H1,rfl,I1.kept λb o e=>aB _ e,FC a _,#[_,bh _ rfl,rfl,rfl],λb hb=>?_,q];let e:b=s1.heap.objs.size:=by simpa using hb
 subst e;exact I1.xY ∅ (I1.hok.fresh ∅)
theorem KY{R:It->Hp->Prop}{lo hi:Int}{t u v:Tok}{tk:Nat}(I:Inv X pins σ H s)(h1:-(2^62)<=lo)(h2:lo<2^62)(h3:-(2^62)<=hi)(h4:hi<2^62)
  (q:R (Itr lo (hi-lo).toNat) H):wpAny (model X.prog X.w) X.A (pyIter (.ref s.heap.objs.size)) (PIE X pins σ tg R) E { s with heap:=s.heap.push { cls:=.type "range",data:=.fields (bE [.int lo t,.int hi u,.int 1 v]) },toks:=tk }:=by
 refine wpAny_pyIter_range (IsRange.new ..) (small_one h1 h2 h3 h4) ?_;let I1:Inv X pins σ H { s with heap:=s.heap.push { cls:=.type "range",data:=.fields (bE [.int lo t,.int hi u,.int 1 v]) },toks:=tk }:=I.kept λb o e=>aB _ e;refine#[(s.heap.push { cls:=.type "range",data:=.fields (bE [.int lo t,.int hi u,.int 1 v]) }).objs.size,_,_,_,H,rfl,
  I1.kept λb o e=>aB _ e,FD _ lo (hi-lo).toNat,?_,λb hb=>?_,q]
 .let e1:lo+((0:Nat))*1=lo:=by simp
  let e2:(((hi-lo).toNat:Nat))-((0:Nat))=t_.Range.rangeSize lo hi 1:=by rw[rangeSize_one];split<;>omega
  rw[e1,e2];exact bh _ rfl
 .let e:b=(s.heap.push { cls:=.type "range",data:=.fields (bE [.int lo t,.int hi u,.int 1 v]) }).objs.size:=by simpa using hb
  subst e;exact I1.xY (aE _) (I1.hok.fresh (aE _))
def Wk(ta:TA):TI:=λσ H R=>ta σ H λvs H1=>∃j:Int,vs=[.int j]/\-(2^62)<=j/\j<2^62/\R (Itr 0 j.toNat) H1
theorem A5{a:bw}{ta:TA}{p pos:Pos}(hg:Gl X "range")(hm:X.mg "range"=none)(ha:PA X [a] ta)(hs:starEach [a] X.env=[(false,eval a X.env)]:=by rfl):PI X tg (.Call (.Name "range" p) [a] [] pos) (Wk ta):=by
 intro pins s σ H R I h;refine Call_ (vV I hg hm boot_range (iB (fF (ha pos pins s σ H _ I h) λus s1 #[vs,H1,I1,r1,q1]=>?_) hs rfl));obtain⟨j,e,q1,q2,q⟩:=q1;subst e;cases r1 with
 |cons r rr=>cases rr;obtain⟨t,rfl⟩:=r;exact call_range_1 (KY I1 ∅ ∅ q1 q2 ↑q)
def zas(wi:TI)(g:TG)(tb:TS):TS:=λD σ H=>wi σ H λJ H1=>∃W:Nat->Nat->St->Hp->Prop,(∃m,W 0 m σ H1)/\∀i m σ H,W i m σ H->
 (J.stop i H/\D.nx σ H)\/(J.go i H/\∃N:St->Hp->Prop,(∀σ' H',N σ' H'->∃m',m'<m/\W (i+1) m' σ' H')/\∀x H',J.Wi i H x H'->g x σ H' λσ2 H2=>tb { D with nx:=N,ct:=N,bk:=D.nx } σ2 H2)
def BZ(fp:!ay)(h:cI):!(ay×Obj):=fp.filterMap λb=>(h.get? b).map λo=>(b,o)
theorem pV{b:ay}(hb:b∈fp)(e:h.get? b>>o):(b,o)∈BZ fp h:=iP.mpr #[b,hb,by rw[e];rfl]
theorem Ja{p:ay×Obj}(hp:p∈BZ fp h):p.1∈fp/\h.get? p.1>>p.2:=by
 let#[b,hb,e]:=iP.mp hp;cases q:h.get? b with
 |none=>rw[q]at e;cases e
 |some o=>rw[q]at e;let e':=b9 e;subst e';exact#[hb,q]
theorem Inv.pinned(I:Inv X pins σ H s)(hf:∀b∈fp,uV X pins H b)(ho:∀b∈fp,∃o,s.heap.get? b>>o/\∀v,o.data≠.cell v):Inv X (pins++BZ fp s.heap) σ H s:=
 I.Hv λp hp=>(aV.mp hp).elim (λz=>I.pin p (bD _ z)) λz=>by let#[hb,e]:=Ja z;let#[f0,f1,f2,_]:=hf p.1 hb;let#[o,e',d]:=ho p.1 hb;rw[e]at e';cases e';exact#[e,f0,f1,f2,d]
theorem Inv.rD{pl: !(ay×Obj)}(I:Inv X (pins++pl) σ H s):Inv X pins σ H s:=I.Hv λp hp=>I.pin p (bD _ (bP _ hp))
theorem B1{iter:bw}{wi:TI}{g:TG}{tb:TS}{pos:Pos}(hp:wY (model X.prog X.w) X.A X.env X.xe)(hc:X.calm=true)(hi:PI X tg iter wi)(hg:PG X tg g)(hb:Hw X body tb)
  (hs:Fx X iter:=by intro _;rfl):PS X (.For tg iter body [] pos) (zas wi g tb):=by
 intro pins s σ H D I h;refine wpAny_For (fF (hi pins s σ H _ I h) λv s1 h1=>fF h1 λZv s2 h2=>?_) hs;let#[it,fp,tn,J,H2,e,I2,T,Wm,f2,W,#[m0,w0],turn]:=h2;subst e;let stat:∀{H':Hp},(∀b∈fp,H' b=none)->∀b∈fp,uV X pins H' b:=λhn b hb=>#[hn b hb,(f2 b hb).2];refine codeAny_forLoop_any (λn s'=>∃i σ' H',Inv X pins σ' H' s'/\tn i s'.heap/\(∀b∈fp,H' b=none)/\W i n σ' H') ?_ m0 #[0,σ,H2,I2,Wm,λb hb=>(f2 b hb).1,w0];rintro n s3 ⟨i,σ3,H3,I3,st3,fr3,w3⟩;rcases turn i n σ3 H3 w3 with⟨stop,qn⟩|⟨go,N,hN,step⟩
 .refine oI hp (fF (T.done X rfl rfl rfl hc i pins s3 σ3 H3 X.xe I3 (stat fr3) st3 stop) λr s4 #[hr,I4]=>?_);subst hr;exact Dz #[σ3,H3,I4,qn]
 .refine oI hp (fF (T.item X rfl rfl rfl hc i pins s3 σ3 H3 X.xe I3 (stat fr3) st3 go) λr s4 #[u,hr,h4]=>?_);subst hr;refine oI hp (fF h4 λ_ s5 #[x,H5,I5,r5,y5,st5,fr5]=>?_);refine oI hp (fF (hg _ s5 σ3 H5 x u _ (I5.pinned (stat fr5) (T.obj _ _ st5)) r5 (step x H5 y5)) λ_ s6 #[σ6,H6,I6,q6]=>?_);refine oI hp (fF (hb _ s6 σ6 H6 _ I6 q6) λf s7 q7=>?_);let again:∀{σ7:St}{H7:Hp},Inv X _ σ7 H7 s7->N σ7 H7->∃m,m<n/\∃i σ' H',Inv X pins σ' H' s7/\tn i s7.heap/\(∀b∈fp,H' b=none)/\W i m σ' H':=λ{σ7 H7}I7 n7=>by let#[m',hm,w7]:=hN σ7 H7 n7;refine#[m',hm,i+1,σ7,H7,I7.rD,T.keep _ _ _ st5 λb hb o e=>(I7.pin (b,o) (bD _ (bD _ (pV hb e)))).1,λb hb=>?_,w7];let#[o,e,d]:=T.obj _ _ st5 b hb;exact(I7.pin (b,o) (bD _ (bD _ (pV hb e)))).2.1
  cases f with
  |next=>let#[σ7,H7,I7,n7]:=q7;exact again I7 n7
  |cont=>let#[σ7,H7,I7,n7]:=q7;exact again I7 n7
  |brk=>let#[σ7,H7,I7,q7]:=q7;exact#[σ7,H7,I7.rD,q7]
  |ret v=>let#[x7,σ7,H7,I7,r7,q7]:=q7;exact#[x7,σ7,H7,I7.rD,r7,q7]
end
abbrev R2:=V->V->Hp->VK->Prop
variable{r:R2}
def sN(X:Cx)(f:aA->aA->Sem aA)(r:R2):Prop:=
 ∀(pins:!(ay×Obj))(s:aK)(σ:St)(H:Hp)(x y:V)(v u:aA)(Q:VK),Inv X pins σ H s->RelV x v->RelV y u->r x y H Q->
  wpAny (model X.prog X.w) X.A (f v u) (EP X pins σ Q) X.xe s
def iz(X:Cx)(f:aA)(r:!V->Hp->VK->Prop):Prop:=
 ∀(pins:!(ay×Obj))(s:aK)(σ:St)(H:Hp)(xs:!V)(us:!aA)(Q:VK),Inv X pins σ H s->dA xs us->r xs H Q->
  wpAny (model X.prog X.w) X.A (call f us) (EP X pins σ Q) X.xe s
def zau(X:Cx)(r:V->Hp->(Bool->Hp->Prop)->Prop):Prop:=
 ∀(pins:!(ay×Obj))(s:aK)(σ:St)(H:Hp)(x:V)(v:aA)(Q:Bool->Hp->Prop),Inv X pins σ H s->RelV x v->r x H Q->
  wpAny (model X.prog X.w) X.A (truthy v) (TP X pins σ Q) X.xe s
def Vo(r:R2)(ta tb:TE):TE:=λσ H Q=>ta σ H λx H1=>tb σ H1 λy H2=>r x y H2 Q
def rI(C:Int->Int->Prop)(g:Int->Int->V):R2:=λx y H Q=>∃i j,x=.int i/\y=.int j/\C i j/\Q (g i j) H
def Og(g:Int->Int->V):R2:=λx y H Q=>∃i j,x=.int i/\y=.int j/\Q (g i j) H
section
variable{X:Cx}{a b c:bw}{ta tb tc:TE}{pos:Pos}
theorem SY(ha:PE X a ta)(hb:PE X b tb)(I:Inv X pins σ H s)
  (h:ta σ H λx H1=>tb σ H1 λy H2=>R x y H2)
  (hf:∀v u s2 x y H2,Inv X pins σ H2 s2->RelV x v->RelV y u->R x y H2->wpAny (model X.prog X.w) X.A (f v u) Q X.xe s2):
  wpAny (model X.prog X.w) X.A (eval a X.env) (λv s₁=>wpAny (model X.prog X.w) X.A (eval b X.env) (λu s₂=>wpAny (model X.prog X.w) X.A (f v u) Q X.xe s₂) X.xe s₁) X.xe s:=by refine fF (ha pins s σ H _ I h) λv s1 #[x,H1,I1,r1,q1]=>?_;exact fF (hb pins s1 σ H1 _ I1 q1) λu s2 #[y,H2,I2,r2,q2]=>(hf v u s2 x y H2 I2 r1 r2 q2)
theorem DH{op:Operator}(ho:sN X (binaryOp op) r)(ha:PE X a ta)(hb:PE X b tb):PE X (.BinOp a op b pos) (Vo r ta tb):=by intro pins s σ H Q I h;exact wpAny_BinOp (SY ha hb I h λv u s2 x y H2 I2 rx ry q=>ho pins s2 σ H2 x y v u Q I2 rx ry q)
theorem opI{C:Int->Int->Prop}
  (rule:∀(i j:Int)(t u:Tok)(s:aK)(Q:aA->aK->Prop)(E:aA->aK->Prop),C i j->Q (.int (g i j) s.toks) { s with toks:=s.toks+1 }->wpAny (model X.prog X.w) X.A (f (.int i t) (.int j u)) Q E s):
  sN X f (rI C λi j=>.int (g i j)):=by intro pins s σ H x y v u Q I rx ry h;let#[i,j,rfl,rfl,hc,q]:=h;let#[t,rfl]:=rx;let#[t',rfl]:=ry;exact rule i j t t' s _ _ hc #[.int (g i j),H,I.tok _,#[_,rfl],q]
theorem zaw
  (rule:∀(i j:Int)(t u:Tok)(s:aK)(Q:aA->aK->Prop)(E:aA->aK->Prop),Q (.int (g i j) s.toks) { s with toks:=s.toks+1 }->wpAny (model X.prog X.w) X.A (f (.int i t) (.int j u)) Q E s):
  sN X f (Og λi j=>.int (g i j)):=by intro pins s σ H x y v u Q I rx ry h;let#[i,j,rfl,rfl,q]:=h;let#[t,rfl]:=rx;let#[t',rfl]:=ry;exact rule i j t t' s _ _ #[.int (g i j),H,I.tok _,#[_,rfl],q]
theorem Oh{g:Int->Int->Bool}
  (rule:∀(i j:Int)(t u:Tok)(s:aK)(Q:aA->aK->Prop)(E:aA->aK->Prop),Q (.bool (g i j)) s->wpAny (model X.prog X.w) X.A (f (.int i t) (.int j u)) Q E s):
  sN X f (Og λi j=>.bl (g i j)):=by intro pins s σ H x y v u Q I rx ry h;let#[i,j,rfl,rfl,q]:=h;let#[t,rfl]:=rx;let#[t',rfl]:=ry;exact rule i j t t' s _ _ #[.bl (g i j),H,I,rfl,q]
def Wn(i j:Int):Prop:=0<j/\j<1073741824
def Oi(i j:Int):Prop:=(-(2^64)<i/\i<2^64)\/(-(2^64)<j/\j<2^64)
theorem Oi.ok{i j:Int}(h:Oi i j):IntMulOk i j:=by
 rcases h with⟨h1,h2⟩|⟨h1,h2⟩
 .exact .of_left (intBits_le_64 h1 h2)
 .exact .of_right (intBits_le_64 h1 h2)
theorem nD:sN X (binaryOp .Add) (Og λi j=>.int (i+j)):=zaw λ_ _ _ _ _ _ _ q=>add_int q
theorem S0:sN X (binaryOp .Mult) (rI Oi λi j=>.int (i*j)):=opI λ_ _ _ _ _ _ _ hc q=>mul_int q hc.ok
theorem Oj:sN X (binaryOp .FloorDiv) (rI Wn λi j=>.int (i/j)):=opI λi j _ _ _ _ _ hc q=>by let h1:=hc.1;let h2:=hc.2;exact floordiv_int ∅ ([Int.fdiv_eq_ediv_of_nonneg i ∅]▸q) (.inl (PyProof.noPylong_small ∅))
theorem S3:sN X (binaryOp .Mod) (rI (λ_ j=>0<j) λi j=>.int (i%j)):=opI λi j _ _ _ _ _ hc q=>by let h1:=hc;exact mod_int' ∅ ([Int.fmod_eq_emod_of_nonneg i ∅]▸q)
end
section
variable{X:Cx}{a b c:bw}{ta tb tc:TE}{pos:Pos}
theorem KZ{Q:VK}{k k':Bool}(I:Inv X pins σ H s)(q:Q (.bl k) H)(e:k=k'):EP X pins σ Q (.bool k') s:=by subst e;exact#[.bl k,H,I,rfl,q]
theorem Wo:sN X (compareOp .Lt) (Og λi j=>.bl (decide (i<j))):=Oh λ_ _ _ _ _ _ _ q=>lt_int q
theorem HD:sN X (compareOp .LtE) (Og λi j=>.bl (decide (i<=j))):=Oh λ_ _ _ _ _ _ _ q=>le_int q
theorem Q9:sN X (compareOp .Gt) (Og λi j=>.bl (decide (j<i))):=Oh λ_ _ _ _ _ _ _ q=>gt_int q
theorem Wp:sN X (compareOp .GtE) (Og λi j=>.bl (decide (j<=i))):=Oh λ_ _ _ _ _ _ _ q=>ge_int q
theorem Jb:sN X (compareOp .In) (λx y H Q=>∃i j,x=.str i/\y=.str j/\Q (.bl (not (t_.Str.occurrences j i 0 j.length 1).isEmpty)) H):=by intro pins s σ H x y v u Q I rx ry h;let#[i,j,rfl,rfl,q]:=h;let#[t,rfl]:=rx;let#[t',rfl]:=ry;exact in_str (KZ I q rfl)
theorem jX:sN X (compareOp .Is) (λx y H Q=>y=.non/\Q (.bl (decide (x=.non))) H):=by
 intro pins s σ H x y v u Q I rx ry h;let#[rfl,q]:=h;cases ry;refine is_none_gen (KZ I q ?_);cases x<;>first
  |(cases rx;rfl)
  |(let#[t,rfl]:=rx;rfl)
theorem f7(b:bw){op:Dm}(h:op≠.In:=by decide)(h2:op≠.NotIn:=by decide):behindInMarks op b=false:=by
 let e1:(op==Dm.In)=false:=by cases op<;>first|rfl|exact qQ7 rfl h
 let e2:(op==Dm.NotIn)=false:=by cases op<;>first|rfl|exact qQ7 rfl h2
 cases b<;>simp[behindInMarks,e1,e2]
theorem Ol{op:Dm}(ho:sN X (compareOp op) r)(ha:PE X a ta)(hb:PE X b tb)(hm:behindInMarks op b=false):PE X (.Compare a [op] [b] pos) (Vo r ta tb):=by intro pins s σ H Q I h;exact wpAny_Compare1 (SY ha hb I h λv u s2 x y H2 I2 rx ry q=>ho pins s2 σ H2 x y v u Q I2 rx ry q) hm
def Wq(t:TE):TT:=λσ H Q=>t σ H λx H'=>∃k,x=.bl k/\Q k H'
theorem B2{op:Dm}(ho:sN X (compareOp op) r)(ha:PE X a ta)(hb:PE X b tb)(hm:behindInMarks op b=false):PT X (.Compare a [op] [b] pos) (Wq (Vo r ta tb)):=by
 intro pins s σ H Q I h;refine wpAny_isTrue_Compare1 (fF (ha pins s σ H _ I h) λv s1 #[x,H1,I1,r1,q1]=>fF (hb pins s1 σ H1 _ I1 q1) λu s2 #[y,H2,I2,r2,q2]=>fF (ho pins s2 σ H2 x y v u _ I2 r1 r2 q2) λc s3 #[z,H3,I3,r3,k,e,q3]=>?_) hm;subst e;cases r3;exact ft #[H3,I3,q3]
def S4(r r':R2)(ta tb tc:TE):TE:=λσ H Q=>ta σ H λx H1=>tb σ H1 λy H2=>r x y H2 λz H3=>∃k,z=.bl k/\
 (if k=true then tc σ H3 λw' H4=>r' y w' H4 Q else Q (.bl false) H3)
theorem DI{op op':Dm}{r': R2}(ho:sN X (compareOp op) r)(BR:sN X (compareOp op') r')(ha:PE X a ta)(hb:PE X b tb)(hc:PE X c tc)
  (hm:lastMarks [op,op'] [b,c]=false:=by with_unfolding_all rfl):PE X (.Compare a [op,op'] [b,c] pos) (S4 r r' ta tb tc):=by
 intro pins s σ H Q I h;refine Compare_chain (fF (ha pins s σ H _ I h) λv s1 #[x,H1,I1,r1,q1]=>chain_link (fF (hb pins s1 σ H1 _ I1 q1) λu s2 #[y,H2,I2,r2,q2]=>fF (ho pins s2 σ H2 x y v u _ I2 r1 r2 q2) λd s3 #[z,H3,I3,r3,k,e,q3]=>?_)) hm;subst e;cases r3;refine ft ?_;cases k with
 |false=>exact ite_ff #[.bl false,H3,I3,rfl,q3]
 |true=>exact ite_tt (chain_last (fF (hc pins s3 σ H3 _ I3 q3) λw' s4 #[z',H4,I4,r4,q4]=>BR pins s4 σ H4 y z' u w' Q I4 r2 r4 q4))
def Wr(K:aj)(x:V)(H:Hp)(k:Bool):Prop:=
 match x with
 | .non=>k=false
 | .bl b=>k=b
 | .int i=>k=(i != 0)
 | .str y=>y.length<=sizeLine/\k=((y.length:Int) != 0)
 | .Vj y=>y.size<=sizeLine/\k=((y.size:Int) != 0)
 | .ref p=>(∃xs,jb K H p xs/\k=not xs.isEmpty)\/(∃xs,nV K H p xs/\k=not xs.isEmpty)\/∃kvs,H p>>(.dK kvs)/\k=not kvs.isEmpty
 |_=>False
theorem FE{κ:Type}{kvs:!(κ×V)}{vs:!(κ×aA)}(r:KV kvs vs):(not vs.isEmpty)=not kvs.isEmpty:=by cases r<;>rfl
theorem yJ{its:!aA}(r:dA xs its):(not its.toArray.isEmpty)=not xs.isEmpty:=by cases r<;>simp
theorem rE:(sizeLine:Nat)<2^63:=by rw[cM];decide
theorem S5:zau X (λx H Q=>∃k,Wr X.K x H k/\Q k H):=by
 intro pins s σ H x v Q I rx h;let#[k,e,q]:=h;let hl:=rE;let hs:=cM;cases x with
 |non=>cases rx;let e':k=false:=e;subst e';exact truthy_none #[H,I,q]
 |bl b=>cases rx;let e':k=b:=e;subst e';exact ft #[H,I,q]
 |int i=>let#[t,rfl]:=rx;let e':k=(i != 0):=e;subst e';exact PySem.P.truthy_int #[H,I,q]
 |str y=>let#[t,rfl]:=rx;obtain⟨hy,e'⟩:y.length<=sizeLine/\k=((y.length:Int) != 0):=e;subst e';exact PySem.P.truthy_str ∅ #[H,I.tok _,q]
 |Vj y=>let#[t,rfl]:=rx;obtain⟨hy,e'⟩:y.size<=sizeLine/\k=((y.size:Int) != 0):=e;subst e';exact PySem.W.truthy_bytes ∅ #[H,I.tok _,q]
 |ref p=>
  cases rx;let e':=e;rcases e' with⟨xs,hx,e'⟩|⟨xs,hx,e'⟩|⟨kvs,hx,e'⟩
  .subst e';let#[its,r,pl,hz]:=I.list hx;let hlen:=r.length;exact wpAny_truthy_list pl.isList (by simp;omega) #[H,I.tok _,[yJ r]▸q]
  .subst e';let#[its,r,pl,hz]:=I.tuple hx;let hlen:=r.length;exact truthy_tuple pl (by simp;omega) #[H,I.tok _,[yJ r]▸q]
  .subst e';obtain⟨hz,hS,vs,r,m⟩:kvs.length<=sizeLine/\(p==sysModules)=false/\∃vs,KV kvs vs/\s.heap.DictOf _ p vs:=I.hok p _ hx;let hlen:=tW r;exact wpAny_truthy_dict hS m ∅ #[H,I.tok _,[FE r]▸q]
 |_=>exact(show False from e).elim
theorem K0(ha:PE X a ta)(he:∀whole,isTrue a X.env whole=(do let v <-whole;standAt a.pos;holding [v] (truthy v))):
  PT X a (λσ H Q=>ta σ H λx H'=>∃k,Wr X.K x H' k/\Q k H'):=by intro pins s σ H Q I h;exact isTrue_plain (fF (ha pins s σ H _ I h) λv s1 #[x,H1,I1,r1,q1]=>S5 pins s1 σ H1 x v Q I1 r1 q1) (he _)
theorem FG:sN X (binaryOp .Add) (λx y H Q=>∃i j,x=.str i/\y=.str j/\i.length+j.length<=sizeLine/\Q (.str (i++j)) H):=by intro pins s σ H x y v u Q I rx ry h;let#[i,j,rfl,rfl,hz,q]:=h;let#[t,rfl]:=rx;let#[t',rfl]:=ry;exact add_str (λt' tk=>#[.str (i++j),H,I.tok _,#[_,rfl],q]) hz
theorem vals1{x:V}(r:dA [x] us):∃u,us=[u]/\RelV x u:=by
 cases r with
 |cons r1 r2=>cases r2;exact#[_,rfl,r1]
theorem vals2{x y:V}(r:dA [x,y] us):∃u w',us=[u,w']/\RelV x u/\RelV y w':=by
 cases r with
 |cons r1 r2=>
  cases r2 with
  |cons r3 r4=>cases r4;exact#[_,_,rfl,r1,r3]
theorem Jc:iz X (.type "int") (λxs H Q=>(∃i,xs=[.int i]/\Q (.int i) H)\/∃k,xs=[.bl k]/\Q (.int (if k then 1 else 0)) H):=by
 intro pins s σ H xs us Q I r h;rcases h with⟨i,rfl,q⟩|⟨k,rfl,q⟩
 .let#[u,rfl,t,rfl]:=vals1 r;exact call_int_int #[.int i,H,I,#[_,rfl],q]
 .let#[u,rfl,r1]:=vals1 r;cases r1;exact call_int_bool #[.int (if k then 1 else 0),H,I.tok _,#[_,rfl],q]
theorem B3:iz X (.type "str") (λxs H Q=>∃i,xs=[.int i]/\i.natAbs.log2<1920/\Q (.str (toString i)) H):=by intro pins s σ H xs us Q I r h;let#[i,rfl,hz,q]:=h;let#[u,rfl,t,rfl]:=vals1 r;exact PySem.P.str_of_int hz #[.str _,H,I.tok _,#[_,rfl],q]
end
structure Jd(h:cI)(x dx C:ay)(mA:Str->Option aA):Prop where
 obj:h.get? x>>(gK C dx)
 ns:h.Ns1 dx mA
 ne:dx≠x
theorem Je{dx:ay}(n:h.Ns1 dx mA):∃od,h.get? dx>>od/\∀name,yE name od>>(mA name):=by
 let#[o,es,ep,ho,hd,hk,_,hm]:=n;refine#[o,ho,λname=>?_];let e:=hm name;unfold nsFind findBy at e;rw[<-Array.find?_toList]at e;unfold yE;rw[hd];dsimp only;split
 .rename_i y q
  rw[q]at e;exact qQ6 some e
 .rename_i q
  rw[q]at e;let a:es.toList.any (·.refKey)=false:=by rw[wZ];intro y hy;let#[z,t,S6]:=hk y (Fq.mp hy);simp[fU.refKey,S6]
  rw[qQ2 ([a]▸kx)];exact qQ6 some e
theorem Jd.look{x dx: ay}(I:Jd h x dx C mA):∃od,PySem.W.InstAt h x (gK C dx) C (some od)/\∀name,yE name od>>(mA name):=
 let#[od,ho,hl]:=Je I.ns
 #[od,#[I.obj,rfl,rfl,ho],hl]
section
variable{prog:bx}{w:b_}{A:dz}{E:aA->aK->Prop}{s:aK}{K:aj}{x dx C f:ay}{mA:Str->Option aA}{name:Str}{v:aA}
theorem get_map{expr:Bool}(X:K.In s.heap)(I:Jd s.heap x dx C mA)(hg:oX K C name=true)(hh:oh K C=true)
  (ha:cZ K (.ref C) name>>none)(hv:mA name>>v)(Om:PySem.W.handedIn v=true)(h:Q v { s with toks:=s.toks+1 }):
  wpAny (model prog w) A (getAttr (.ref x) name expr) Q E s:=by let#[od,J,hl]:=I.look;exact PySem.W.get_value X J (PySem.W.plainGet_of hg).1 (PySem.W.findObj_own hh ha rfl (by rw[hl,hv])) Om h
theorem Oo{ns:!Str}{Q:Unit->aK->Prop}(X:K.In s.heap)(I:Jd s.heap x dx C mA)
  (hs:cZ K (.ref C) "__setattr__"=some (some (.builtin "object.__setattr__")))(hp:uT K C=true)(ht:xO K C name>>none)(hh:oh K C=true)
  (hw:Dy mA ns)(hsz:ns.length<=sizeLine)
  (h:∀h',Jd h' x dx C (λy=>if y=name then some v else mA y)->gk dx s.heap h'->Q () { s with heap:=h',toks:=s.toks+2 }):
  wpAny (model prog w) A (setAttr (.ref x) name v) Q E s:=by let#[od,J,hl]:=I.look;refine PySem.W.set_plain X J hs (PySem.W.osa_open X J hp ht λb=>?_);let#[cd,hc,V5]:=PySem.W.any_some hh;refine ao (aU (ao (ao (wpAny_loadPart I.obj (ao (PySem.W.Looks.here (PySem.W.looks_clsIn X hc) ?_))))));rw[V5];refine aU (ao (aU (ao ?_)));refine wpAny_nsSet1 I.ns λh' Zw o5=>?_;let#[oD,esD,epD,hoD,hdD,hcD]:=Zw.count (Dy.cons name v hw);exact ao (wpAny_lookBehind hoD ([hdD]▸pastItsLine_dict (bZ hcD (by rw[bH];omega))) (aU (h _ #[(o5.2 _ (bF I.ne)).trans I.obj,Zw,I.ne] o5)))
theorem K1{R:vM->aK->Prop}{vs:!aA}(X:K.In s.heap)(hm:xP K C=true)
  (hi:cZ K (.ref C) "__init__"=some (some (.ref f)))(hf:PySem.W.typeIn K (.ref f)>>(.type "function"))
  (h:codeAny (model prog w) (A.under (.builtin "type.__call__" #[.ref C::vs,kw])) (.call (.ref f) #[.ref (s.heap.objs.size+1)::vs,kw]) (PySem.W.InitBack (s.heap.objs.size+1) R)
   { s with heap:=(s.heap.push fP).push (gK C s.heap.objs.size) }) :
  codeAny (model prog w) A (.call (.ref C) #[vs,kw]) R s:=by exact PySem.W.make_core (PySem.W.makes_of X hm) (PySem.W.looks_findIn X hi) (λself=>PySem.W.bind_fn X self hf) (.inl rfl) h
end
def qV(f:Str)(v:V):!(Str×V)->!(Str×V)
 | []=>[(f,v)]
 |(g,x)::r=>if g=f then(g,v)::r else(g,x)::qV f v r
theorem xg(f g:Str)(v:V):∀fs:!(Str×V),(qV f v fs).lookup g=if g=f then some v else fs.lookup g
 | []=>by
  show kz g [(f,v)]=_;by_cases h:g=f
  .let hb:=beq_iff_eq.mpr h;simp[kz,hb,qQ3 h]
  .let hb:=beq_eq_false_iff_ne.mpr h;simp[kz,hb,qQ2 h]
 |(k,x)::r=>by
  let ih:=xg f g v r;rw[show qV f v ((k,x)::r)=(if k=f then(k,v)::r else(k,x)::qV f v r)from rfl];by_cases hk:k=f
  .rw[qQ3 hk];by_cases h:g=k
   .let hb:=beq_iff_eq.mpr h;simp[kz,hb,qQ3 (h.trans hk)]
   .let hb:=beq_eq_false_iff_ne.mpr h;simp[kz,hb,qQ2 (λe:g=f=>h (e.trans hk.symm))]
  .rw[qQ2 hk];by_cases h:g=k
   .let hb:=beq_iff_eq.mpr h;simp[kz,hb,qQ2 (λe:g=f=>hk (h.symm.trans e))]
   .let hb:=beq_eq_false_iff_ne.mpr h;simp[kz,hb];exact ih
theorem vY(f:Str)(v:V):∀fs:!(Str×V),f∈(qV f v fs).map (·.1)/\∀g,g∈fs.map (·.1)->g∈(qV f v fs).map (·.1)
 | []=>#[by simp[qV],λg h=>by simp at h]
 |(k,x)::r=>by
  let#[i1,i2]:=vY f v r;rw[show qV f v ((k,x)::r)=(if k=f then(k,v)::r else(k,x)::qV f v r)from rfl];by_cases hk:k=f
  .rw[qQ3 hk];subst hk;exact#[by simp,λg h=>by simpa using h]
  .rw[qQ2 hk];refine#[?_,λg h=>?_]
   .rw[aq];exact aM _ i1
   .rw[aq]at h ⊢;rcases ax.mp h with e|e
    .exact ax.mpr (.inl e)
    .exact aM _ (i2 g e)
theorem xh(f:Str)(v:V):∀fs:!(Str×V),(qV f v fs).length<=fs.length+1
 | []=>by simp[qV]
 |(k,x)::r=>by
  let ih:=xh f v r;rw[show qV f v ((k,x)::r)=(if k=f then(k,v)::r else(k,x)::qV f v r)from rfl];by_cases hk:k=f
  .rw[qQ3 hk,bH,bH];omega
  .rw[qQ2 hk,bH,bH];omega
theorem tD.some_of{v:V}{o:Option aA}(r:tD (some v) o):∃u,o>>u/\RelV v u:=by
 cases o with
 |none=>exact(show False from r).elim
 |some u=>exact#[u,rfl,r]
theorem Jf{v:V}(r:RelV v u):PySem.W.handedIn u=true:=by
 cases v with
 |non=>cases(show u=lI from r);rfl
 |bl b=>cases(show u=aA.bool b from r);rfl
 |int i=>let#[t,e]:=r;cases e;rfl
 |str x=>let#[t,e]:=r;cases e;rfl
 |Vj b=>let#[t,e]:=r;cases e;rfl
 |flt b=>let#[t,e]:=r;cases e;rfl
 |ref a=>cases(show u=cC a from r);rfl
 |ty n=>cases(show u=uR n from r);rfl
section
variable{P:bx}{w:b_}{H H':Hp}{h h':cI}{a C dx:ay}{fs fs':!(Str×V)}
theorem HF(hok:uQ P w H h)(e:H a>>(.ins C dx fs)):∃mA,Jd h a dx C mA/\(∀f,tD (fs.lookup f) (mA f))/\Dy mA (fs.map (·.1))/\fs.length<=1000/\H dx>>(.own a):=by let#[d,z,ne,ob,mA,n,r,q]:=(hok a _ e);exact#[mA,#[ob,n,ne],r,q,z,d]
end
structure yK(K:aj)(C:ay):Prop where
 pg:oX K C fE=true
 hd:oh K C=true
 po:uT K C=true
 sa:cZ K (.ref C) "__setattr__"=some (some (.builtin "object.__setattr__"))
theorem yK.get(c:yK K C)(f:Str):oX K C f=true:=c.pg
def gG(K:aj)(C:ay)(f:Str):Prop:=cZ K (.ref C) f>>none
theorem gG.taker{f:Str}(n:gG K C f):xO K C f>>none:=by unfold xO;rw[show cZ K _ f>>none from n];rfl
section
variable{X:Cx}{pins:!(ay×Obj)}{σ:St}{H:Hp}{s:aK}{a C dx:ay}{fs:!(Str×V)}{f:Str}{v:V}{A:dz}{E:aA->aK->Prop}
theorem FH{b:Bool}(I:Inv X pins σ H s)(e:H a>>(.ins C dx fs))(c:yK X.K C)(n:gG X.K C f)(l:fs.lookup f>>v)
  (h:∀u s',Inv X pins σ H s'->RelV v u->Q u s'):wpAny (model X.prog X.w) A (getAttr (.ref a) f b) Q E s:=by obtain⟨mA,O,r,_,_,_⟩:=HF I.hok e;obtain⟨u,hu,ru⟩:=tD.some_of ([<-l]▸r f);exact get_map I.Aq O (c.get f) c.hd n hu (Jf ru) (h u _ (I.tok _) ru)
theorem FJ{y:V}{Q:Unit->aK->Prop}(I:Inv X pins σ H s)(e:H a>>(.ins C dx fs))(c:yK X.K C)(n:gG X.K C f)(hl:fs.length<1000)(ry:RelV y u)
  (h:∀s',Inv X pins σ (upd H a (.ins C dx (qV f y fs))) s'->Q () s'):wpAny (model X.prog X.w) A (setAttr (.ref a) f u) Q E s:=by
 let#[mA,O,r,wi,_,ho]:=HF I.hok e;let hz:(fs.map (·.1)).length<=sizeLine:=by rw[ae,cM];omega
 refine Oo I.Aq O c.sa c.po n.taker c.hd wi hz λh' O' sb=>h _ ?_;let hd:∃o,h'.get? dx>>o:=let#[o,_,_,e',_]:=O'.ns;#[o,e'];refine I.write ([e]▸e8) (.inr ho) (λb q hb z=>(sb.2 b hb).trans z) hd ?_;refine#[[aI O.ne]▸ho,?_,O.ne,O'.obj,_,O'.ns,λg=>?_,λg hg=>?_]
 .let:=xh f y fs;omega
 .show tD ((qV f y fs).lookup g) (if g=f then some u else mA g);rw[xg];by_cases q:g=f
  .rwa[qQ3 q,qQ3 q]
  .rw[qQ2 q,qQ2 q];exact r g
 .by_cases q:g=f
  .rw[q];exact(vY f y fs).1
  .refine(vY f y fs).2 g (wi g λz=>hg ?_);show(if g=f then some u else mA g)=none;rwa[qQ2 q]
theorem Inv.made(I:Inv X pins σ H s):Inv X pins σ (upd (upd H s.heap.objs.size (.own (s.heap.objs.size+1))) (s.heap.objs.size+1) (.ins C s.heap.objs.size []))
  { s with heap:=(s.heap.push fP).push (gK C s.heap.objs.size) }:=by
 let e1:(s.heap.push fP).get? s.heap.objs.size>>fP:=bh s.heap rfl;let e2:((s.heap.push fP).push (gK C s.heap.objs.size)).get? (s.heap.objs.size+1)>>(gK C s.heap.objs.size):=by
  let:=bh (s.heap.push fP) (o:=gK C s.heap.objs.size) rfl
  rwa [gC]at this
 let I1:=I.laid (a:=s.heap.objs.size) (o:=.own (s.heap.objs.size+1)) (h':=s.heap.push fP) (t':=s.toks) (λb u q=>aB _ q) (aE _) #[_,e1];refine I1.laid (a:=s.heap.objs.size+1) (o:=.ins C s.heap.objs.size []) (t':=s.toks) (λb u q=>aB _ q) (Nat.le_of_eq (gC _ _)) ?_;let ne:s.heap.objs.size≠s.heap.objs.size+1:=a8 (yF _);refine#[by rw[aI ne,aT],aW _,ne,e2,λ_=>none,(cI.Ns1.of_empty (#[fP,#[],_,e1,rfl,(λe he=>qQ7 he (by simp)),λ_=>rfl])).at λo q=>aB _ q,λ_=>e8,λy hy=>qQ7 rfl hy]
theorem Oq{prog:bx}{env:Env}{f:Str}{pos:Pos}(hb:attributeBase e f env (eval e env)=eval e env)
  (h:wpAny (model prog w) A (eval e env) (λo s₁=>wpAny (model prog w) A (getAttr o f true) Q E s₁) E s):wpAny (model prog w) A (eval (.Attribute e f pos) env) Q E s:=
 Attribute_any_ h (by rw[arm_eval_Attribute,hb])
end
def zax(K:aj)(ta:TE)(f:Str):TE:=λσ H Q=>ta σ H λx H1=>∃a C dx fs v,x=.ref a/\H1 a>>(.ins C dx fs)/\yK K C/\gG K C f/\fs.lookup f>>v/\Q v H1
def zay(K:aj)(ta tv:TE)(f:Str):TS:=λD σ H=>tv σ H λy H1=>ta σ H1 λx H2=>∃a C dx fs,x=.ref a/\H2 a>>(.ins C dx fs)/\yK K C/\gG K C f/\fs.length<1000/\
 D.nx σ (upd H2 a (.ins C dx (qV f y fs)))
section
variable{X:Cx}{o e value:bw}{f:Str}{pos pos' zaz:Pos}{ta tv:TE}
theorem pW(he:PE X e ta)(hb:vK X e f):PE X (.Attribute e f pos) (zax X.K ta f):=by intro pins s σ H Q I h;refine Oq hb (fF (he pins s σ H _ I h) λu s1 #[x,H1,I1,rx,a,C,dx,fs,v,ex,ea,c,n,l,q]=>?_);subst ex;obtain rfl:u=cC a:=rx;exact FH I1 ea c n l λu' s2 I2 ru=>#[v,H1,I2,ru,q]
theorem ud(ha:PE X o ta)(hv:PE X value tv)(hs:A0 X pos value (.Attribute o f pos')):PS X (.Assign [.Attribute o f pos'] value pos) (zay X.K ta tv f):=by intro pins s σ H D I h;refine plainObj_wpAny_Assign_Attribute (fF (hv pins s σ H _ I h) λu s1 #[y,H1,I1,ry,q]=>fF (ha pins s1 σ H1 _ I1 q) λov s2 #[x,H2,I2,rx,a,C,dx,fs,ex,ea,c,n,l,q2]=>?_) hs;subst ex;obtain rfl:ov=cC a:=rx;exact FJ I2 ea c n l ry λs3 I3=>#[σ,_,I3,q2]
end
section
variable{X:Cx}{pins:!(ay×Obj)}{σ:St}{H:Hp}{s:aK}{A:dz}{E:aA->aK->Prop}{Q:aA->aK->Prop}{c:aA}{b:Bool}
inductive yL(K:aj)(H:Hp):V->aA->Prop where
 |non:yL K H .non (.type "NoneType")
 |bl (x:Bool):yL K H (.bl x) (.type "bool")
 |int (i:Int):yL K H (.int i) (.type "int")
 |str (x:Str):yL K H (.str x) (.type "str")
 |flt (x:UInt64):yL K H (.flt x) (.type "float")
 |lst {a:ay} {xs:!V} (e:H a>>(.lst xs)):yL K H (.ref a) (.type "list")
 |ky {a:ay} {o:Obj} {xs:!V} (e:H a>>(.ky o (.lst xs))):yL K H (.ref a) (.type "list")
 |tup {a:ay} {xs:!V} (e:H a>>(.tup xs)):yL K H (.ref a) (.type "tuple")
 |dK {a:ay} {kvs:!(Key×V)} (e:H a>>(.dK kvs)):yL K H (.ref a) (.type "dict")
 |dT {a:ay} {kvs:!(!Key×V)} (e:H a>>(.dT kvs)):yL K H (.ref a) (.type "dict")
 |ins {a C dx:ay} {fs:!(Str×V)} (e:H a>>(.ins C dx fs)) (cl:yK K C) (ha:cZ K (.ref C) "__class__"=some (some (.builtin "object.__class__")))
   (hn:PySem.W.specialIn K (.builtin "object.__class__") "__get__"=some (some (.builtin "getset_descriptor.__get__"))) (Vp:PySem.W.takesIn K (.builtin "object.__class__")>>true)
   (hm:PySem.W.mroIn K C (.type "object")>>true):yL K H (.ref a) (.ref C)
end
structure ei(k:Nat)(A:dz):Prop where
 hd:A.handled=none
 dp:A.depth+3*k+5<recursionLimit
 un:A.units+16*k+200<cLine
theorem ei.mono{j: Nat}(r:ei k A)(h:j<=k):ei j A:=#[r.hd,by let:=r.dp;omega,by let:=r.un;omega]
theorem ei.deeper(r:ei (k+1) A)(env:Env):ei k (A.deeper env):=
 #[r.hd,by let:=r.dp;show A.depth+1+3*k+5<_;omega,by let:=r.un;show A.units+3+16*k+200<_;omega]
theorem FK:(A.under (.builtin "type.__call__" #[.ref C::us,kw])).depth=A.depth+1:=by first|rfl|simp[Dn,Code.weight,Code.isCreation,Code.isGuard,Code.isCaller,Code.frames,Fd,guardIds]
theorem FL:(A.under (.builtin "type.__call__" #[.ref C::us,kw])).units=A.units+1:=by first|rfl|simp[Dn,Code.cUnits,Code.frames,Fd]
theorem ei.make(r:ei (k+1) A)(C:ay)(us:!aA)(kw:!(Str×aA)):ei k (A.under (.builtin "type.__call__" #[.ref C::us,kw])):=
 #[r.hd,by let:=r.dp;rw[FK];omega,by let:=r.un;rw[FL];omega]
theorem ei.depth(r:ei k A):A.depth<recursionLimit:=by let:=r.dp;omega
def Ws:TA:=λ_ H Q=>Q [] H
def Wt(ta:TE)(tr:TA):TA:=λσ H Q=>ta σ H λx H1=>tr σ H1 λxs H2=>Q (x::xs) H2
section
variable{X:Cx}{e:bw}{es:!bw}{te:TE}{t:TA}{pos:Pos}
theorem dF:PA X [] Ws:=λ_ _ _ _ H Q I h=>vN #[[],H,I,.nil,h]
theorem cy(ha:PE X e te)(hr:PA X es t)(hs:kB X e es:=by rfl):PA X (e::es) (Wt te t):=by intro pos pins s σ H Q I h;rw[hs];exact kr (fF (ha pins s σ H _ I h) λu s1 #[x,H1,I1,r1,q1]=>(fF (hr pos pins s1 σ H1 _ I1 q1) λus s2 #[xs,H2,I2,r2,q2]=>#[x::xs,H2,I2,.cons r1 r2,q2]))
def zaA(t:TA):TE:=λσ H Q=>t σ H λxs H1=>xs.length<=sizeLine/\∀p,H1 p=none->Q (.ref p) (upd H1 p (.tup xs))
def zaB(t:TA):TE:=λσ H Q=>t σ H λxs H1=>xs.length<=sizeLine/\∀p,H1 p=none->Q (.ref p) (upd H1 p (.lst xs))
theorem yM{x1}(h:PA X es t):PE X (.Tuple es x1 pos) (zaA t):=by intro pins s σ H Q I hq;refine wpAny_Tuple_spliced (fF (h pos pins s σ H _ I hq) λus s1 #[xs,H1,I1,r,z,q]=>#[[<-r.length]▸z,?_]);refine#[.ref s1.heap.objs.size,upd H1 s1.heap.objs.size (.tup xs),I1.laid (t':=s1.toks) (λb u e=>aB _ e) (aE _) ?_,rfl,q _ (I1.hok.fresh (aE _))];exact#[z,us,r,#[_,bh _ rfl,rfl,_,rfl]]
theorem vZ(h:PA X es t):PE X (.List es pos) (zaB t):=by intro pins s σ H Q I hq;refine wpAny_List_spliced (fF (h pos pins s σ H _ I hq) λus s1 #[xs,H1,I1,r,z,q]=>#[[<-r.length]▸z,?_]);refine#[.ref s1.heap.objs.size,upd H1 s1.heap.objs.size (.lst xs),I1.laid (t':=s1.toks) (λb u e=>aB _ e) (aE _) ?_,rfl,q _ (I1.hok.fresh (aE _))];exact#[z,us,0,r,bh _ rfl]
end
abbrev Sp:=!V->Hp->VK->XK->Prop
abbrev Kv:=!Env->Hp->aK->XK->aA->aK->Prop
variable{CX:Kv}
structure FN(P:bx)(w:b_)(K:aj)(mg:Str->Option aA)(base:cI)(A:dz)(outer:!Env)(s:aK)(H:Hp):Prop where
 frames:A.frames>>outer
 mod:Mod K mg base
 bs:∀b o,base.get? b>>o->s.heap.get? b>>o/\H b=none
 QX:base.objs.size<=s.heap.objs.size
 xX:s.heap.FunFrames base outer
 Sw:∀b∈Kt outer,H b=none
 hok:uQ P w H s.heap
 bare:tX s.gens
def CE(outer:!Env)(P:bx)(w:b_)(H:Hp)(s:aK)(Q:VK)(u:aA)(s':aK):Prop:=
 ∃v H',s'.os=s.os/\tX s'.gens/\Un (Kt outer) [] H H' s.heap s'.heap/\uQ P w H' s'.heap/\RelV v u/\Q v H'
def CR(CX:Kv)(outer:!Env)(P:bx)(w:b_)(H:Hp)(s:aK)(Q:VK)(E:XK)(r:vM)(s':aK):Prop:=
 match r with
 | .ok (.ret u)=>CE outer P w H s Q u s'
 | .ok _=>False
 | .error e=>CX outer H s E e s'
structure dZ(P:bx)(w:b_)(K:aj)(mg:Str->Option aA)(base:cI)(CX:Kv)(k:Nat)(f:ay)(fd:eE)(ps:!Str)(sp:Sp):Prop where
 len:∀vs H Q E,sp vs H Q E->vs.length=ps.length
 run:∀(A:dz)(outer:!Env)(s:aK)(H:Hp)(args:Args)(us:!aA)(vs:!V)(Q:VK)(E:XK),ei k A->FN P w K mg base A outer s H->BindsTo s fd args (ps.zip us)->dA vs us->sp vs H Q E->
  codeAny (model P w) A (.call (.ref f) args) (CR CX outer P w H s Q E) s
theorem dZ.imp{f:ay}{sp sp':Sp}(F:dZ P w K mg base CX k f fd ps sp)
  (h:∀vs H Q E,sp' vs H Q E->sp vs H Q E):dZ P w K mg base CX k f fd ps sp':=
 #[λvs H Q E q=>F.len vs H Q E (h _ _ _ _ q),λA outer s H args us vs Q E hr he hb hv hs=>F.run A outer s H args us vs Q E hr he hb hv (h _ _ _ _ hs)]
theorem FN.make(e:FN P w K mg base A outer s H)(C:ay)(us:!aA)(kw:!(Str×aA)):
  FN P w K mg base (A.under (.builtin "type.__call__" #[.ref C::us,kw])) outer s H:=#[by first|exact e.frames|(simpa[Dn,Code.envs,Fd,pushEnvs]using e.frames),e.mod,e.bs,e.QX,e.xX,e.Sw,e.hok,e.bare]
section
variable{X:Cx}{pins:!(ay×Obj)}{σ:St}{H:Hp}{s s':aK}
theorem Inv.env0(I:Inv X pins σ H s):FN X.prog X.w X.K X.mg X.base X.A X.stack s H:=
 #[I.ok.frames,I.ok.mod,I.bs,bZ I.ok.QX I.sz,I.stack,I.Hu,I.hok,I.bare]
theorem Inv.after{Q:VK}(I:Inv X pins σ H s)(h:CE X.stack X.prog X.w H s Q u s'):EP X pins σ Q u s':=by let#[v,H',os,bare,un,hok,r,q]:=h;let#[hh,g,d,t,Vq]:=s';obtain rfl:Vq=s.os:=os;exact#[v,H',I.call un hok bare (λb z=>qQ7 z (by simp)),r,q]
end
def Wu(sp:Sp)(Jg:!V)(E:XK)(t:TA):TE:=λσ H Q=>t σ H λvs H1=>sp (vs++Jg) H1 Q E
def Wv(C:ay)(sp:Sp)(Jg:!V)(E:XK)(t:TA):TE:=λσ H Q=>t σ H λvs H1=>∀x dx,H1 x=none->H1 dx=none->dx≠x->
 sp (.ref x::(vs++Jg)) (upd (upd H1 dx (.own x)) x (.ins C dx [])) (λv H2=>v=.non/\Q (.ref x) H2) E
def Binds(K:aj)(fd:eE)(ps:!Str)(ds:!aA):Prop:=
 ∀(s:aK)(us:!aA),K.In s.heap->(us++ds).length=ps.length->BindsTo s fd #[us,[]] (ps.zip (us++ds))
theorem Binds.all(h:∀us:!aA,us.length=ps.length->bindArgs fd #[us,[]]=pure (ps.zip us)):Binds K fd ps []:=λs us _ hl=>by rw[cn]at hl ⊢;exact .of_eq (h us hl)
def yN(CX:Kv)(X:Cx)(E:XK):Prop:=∀(pins:!(ay×Obj))(σ:St)(H:Hp)(s:aK)(e:aA)(s':aK),Inv X pins σ H s->CX X.stack H s E e s'->X.xe e s'
section
variable{X:Cx}{CX:Kv}{k:Nat}{f C:ay}{fd:eE}{ps:!Str}{sp:Sp}{Jg:!V}{ds:!aA}{E:XK}{x m:Str}{p pos apos:Pos}{e o:bw}{es:!bw}{ta:TE}{t:TA}
theorem S7{Q:VK}(F:dZ X.prog X.w X.K X.mg X.base CX k f fd ps sp)(hr:ei k X.A)(hb:Binds X.K fd ps ds)(hd:dA Jg ds)(hx:yN CX X E)
  (I:Inv X pins σ H s)(r:dA vs us)(h:sp (vs++Jg) H Q E):wpAny (model X.prog X.w) X.A (call (.ref f) us) (EP X pins σ Q) X.xe s:=by
 let r2:=r.append hd;let hl:(us++ds).length=ps.length:=[<-r2.length]▸F.len _ _ _ _ h;refine wpAny_call (oY (F.run X.A X.stack s H #[us,[]] _ _ Q E hr I.env0 (hb s us I.Aq hl) r2 h) λr s' hq=>?_);cases r with
 |error e=>exact hx pins σ H s e s' I hq
 |ok fl=>
  cases fl with
  |ret u=>exact I.after hq
  |next=>exact gB hq
  |brk=>exact gB hq
  |cont=>exact gB hq
theorem pX(F:dZ X.prog X.w X.K X.mg X.base CX k f fd ps sp)(hr:ei k X.A)(hg:Gl X x)(hm:X.mg x>>(.ref f))(hk:hZ X.K (.ref f)=true)(hb:Binds X.K fd ps ds)(hd:dA Jg ds)(hx:yN CX X E)
  (ha:PA X (e::es) t)(o6:uc x:=by decide)(he:kB X e es:=by rfl)(lB:pU X pos es:=by rfl):
  PE X (.Call (.Name x p) (e::es) [] pos) (Wu sp Jg E t):=by intro pins s σ H Q I h;refine pS (BV I hg hm ?_ o6);exact PySem.W.callWith_K (h₀:=X.base) I.ok.mod.V3 hk (fF (ha pos pins s σ H _ I h) λus s1 #[vs,H1,I1,r,q]=>#[I1.Aq,(S7 F hr hb hd hx I1 r q)]) he lB
structure Mk(K:aj)(C f:ay):Prop where
 makes:xP K C=true
 init:cZ K (.ref C) "__init__"=some (some (.ref f))
 fn:PySem.W.isFn K (.ref f)=true
 kp:hZ K (.ref C)=true
theorem K2{Q:VK}(M:Mk X.K C f)(F:dZ X.prog X.w X.K X.mg X.base CX k f fd ps sp)(hr:ei (k+1) X.A)(hb:Binds X.K fd ps ds)(hd:dA Jg ds)
  (hx:yN CX X E)(I:Inv X pins σ H s)(r:dA vs us)
  (h:∀x dx,H x=none->H dx=none->dx≠x->sp (.ref x::(vs++Jg)) (upd (upd H dx (.own x)) x (.ins C dx [])) (λv H2=>v=.non/\Q (.ref x) H2) E):
  wpAny (model X.prog X.w) X.A (call (.ref C) us) (EP X pins σ Q) X.xe s:=by
 let hq:=h (s.heap.objs.size+1) s.heap.objs.size (I.hok.fresh ∅) (I.hok.fresh ∅) (a8 ∅);let I2:=Inv.made (C:=C) I;let r2:dA (V.ref (s.heap.objs.size+1)::(vs++Jg)) (cC (s.heap.objs.size+1)::(us++ds)):=.cons rfl (r.append hd);let hl:(cC (s.heap.objs.size+1)::us++ds).length=ps.length:=by let e:=r2.length;rw[F.len _ _ _ _ hq]at e;exact e.symm
 refine wpAny_call (K1 I.Aq M.makes M.init (beq_iff_eq.mp M.fn) (oY (F.run _ X.stack _ _ #[_,[]] (cC (s.heap.objs.size+1)::(us++ds)) _ _ E (hr.make C us [])
  (I2.env0.make C us []) (hb _ (cC _::us) I2.Aq hl) r2 hq) λr s' FP=>?_));cases r with
 |error e=>exact hx pins σ _ _ e s' I2 FP
 |ok fl=>
  cases fl with
  |ret u=>let#[v,H',I3,rv,ev,q3]:=I2.after FP;subst ev;exact#[rv,#[V.ref _,H',I3,rfl,q3]]
  |next=>exact gB FP
  |brk=>exact gB FP
  |cont=>exact gB FP
theorem K3(M:Mk X.K C f)(F:dZ X.prog X.w X.K X.mg X.base CX k f fd ps sp)(hr:ei (k+1) X.A)(hg:Gl X x)(hm:X.mg x>>(.ref C))(hb:Binds X.K fd ps ds)(hd:dA Jg ds)(hx:yN CX X E)
  (o6:uc x:=by decide):PE X (.Call (.Name x p) [] [] pos) (Wv C sp Jg E Ws):=by intro pins s σ H Q I h;refine pS (BV I hg hm ?_ o6);exact PySem.W.callWith_K0 I.Aq M.kp (K2 M F hr hb hd hx I .nil h)
end
section
variable{X:Cx}{CX:Kv}{k:Nat}{f C:ay}{fd:eE}{ps ks:!Str}{sp:Sp}{E:XK}{x m:Str}{p pos apos zga:Pos}{e o:bw}{es:!bw}{kws:!Keyword}{te ta:TE}{t tk:TA}{nm:Option Str}
variable{g:!aA->!aA->!aA}{gV:!V->!V->!V}
end
structure cw(N P:!Str)(sc:jx):Prop where
 kind:sc.kind=.function
 co:sc.isCoroutine=false
 gen:sc.isGenerator=false
 nd:N.Nodup
 pre:N.take P.length=P
 par:∀x∈P,sc.names.lookup x>>.local\/sc.names.lookup x>>.cell
 S8:∀y∈sc.names,y.2≠.free
theorem A6{x:Str}:∀{binds:!(Str×aA)}{m:Str->Option aA},(∀v,(x,v)∉binds)->bindL kindOf binds m x=m x
 | [],_,_=>rfl
 |(n,v)::r,m,h=>by
  unfold bindL;rw[A6 λw hw=>h w (aM _ hw)];split
  .let:x≠n:=by rintro rfl;exact h v aJ
   simp[this]
  .rfl
theorem A7{x:Str}:∀{binds:!(Str×aA)}{m:Str->Option aA},(∀v,(x,v)∉binds)->bindC kindOf binds m x=m x
 | [],_,_=>rfl
 |(n,v)::r,m,h=>by
  unfold bindC;rw[A7 λw hw=>h w (aM _ hw)];split
  .rfl
  .let:x≠n:=by rintro rfl;exact h v aJ
   simp[this]
theorem A8{kindOf:Str->Option nW}{x:Str}{v:aA}:∀{P:!Str}{vs:!aA}{i:Nat}{m:Str->Option aA},P.Nodup->P[i]?>>x->vs[i]?>>v->kindOf x>>.local->
  bindL kindOf (P.zip vs) m x>>v
 | [],_,_,_,_,h,_,_=>by simp at h
 |_::_,[],_,_,_,_,h,_=>by simp at h
 |p::P,w::vs,0,m,nd,h1,h2,hk=>by simp at h1 h2;subst h1;subst h2;show bindL kindOf ((p,w)::P.zip vs) m p=_;unfold bindL;rw[A6 λv hv=>(cx.mp nd).1 (ku hv).1,qQ3 hk];simp
 |p::P,w::vs,i+1,m,nd,h1,h2,hk=>by unfold bindL;exact A8 (cx.mp nd).2 ↑h1 ↑h2 hk
theorem A9{kindOf:Str->Option nW}{x:Str}{v:aA}:∀{P:!Str}{vs:!aA}{i:Nat}{m:Str->Option aA},P.Nodup->P[i]?>>x->vs[i]?>>v->kindOf x≠some .local->
  bindC kindOf (P.zip vs) m x>>v
 | [],_,_,_,_,h,_,_=>by simp at h
 |_::_,[],_,_,_,_,h,_=>by simp at h
 |p::P,w::vs,0,m,nd,h1,h2,hk=>by simp at h1 h2;subst h1;subst h2;show bindC kindOf ((p,w)::P.zip vs) m p=_;unfold bindC;rw[A7 λv hv=>(cx.mp nd).1 (ku hv).1,qQ2 hk];simp
 |p::P,w::vs,i+1,m,nd,h1,h2,hk=>by unfold bindC;exact A9 (cx.mp nd).2 ↑h1 ↑h2 hk
def start(N:!Str)(vs:!V):St:=vs.map some++bp (N.length-vs.length) none
def B4(CX:Kv)(P:bx)(w:b_)(K:aj)(mg:Str->Option aA)(base:cI)(N:!Str)(qual:Str)(scope:jx)(f:ay)(cd:aA)(A:dz)(outer:!Env)(s:aK)(H:Hp)(E:XK):Cx where
 prog:=P
 w:=w
 K:=K
 mg:=mg
 base:=base
 A:=A.deeper (envOfC qual scope s.heap.objs.size f cd)
 N:=N
 s₀:=s
 H₀:=H
 env:=envOfC qual scope s.heap.objs.size f cd
 outer:=outer
 stack:=envOfC qual scope s.heap.objs.size f cd::outer
 ex:=[]
 calm:=true
 fn:=λ_=>true
 pn:=[]
 xe:=λe s'=>wpAny (model P w) (A.deeper (envOfC qual scope s.heap.objs.size f cd)) (leaving (envOfC qual scope s.heap.objs.size f cd) e) (λ_ Q_=>CX outer H s E e Q_) (λe' Q_=>CX outer H s E e' Q_) s'
theorem DJ{sc:jx}{n:Nat}{x:Str}(h:sc.names.lookup x>>.cell):∃c,(cellsFrom n sc.names []).lookup x>>c:=by exact Option.isSome_iff_exists.mp (BJ sc.names n [] (.inl h))
theorem Jh{qual:Str}{f:ay}{cd:aA}{s1: aK}{E:XK}
  (S:cw N ps scope)(hd:A.handled=none)(e0:FN P w K mg base A outer s H)(hl:vs.length=ps.length)(r:dA vs us)
  (x:InCallC s s.heap.objs.size (bindL (envOfC qual scope s.heap.objs.size f cd).kindOf (ps.zip us) λ_=>none) (cellsFrom (s.heap.objs.size+1) scope.names []) (bindC (envOfC qual scope s.heap.objs.size f cd).kindOf (ps.zip us) λ_=>none) s1):
  Inv (B4 CX P w K mg base N qual scope f cd A outer s H E) [] (start N vs) H s1:=by
 let lB:ps.length<=N.length:=by let:=qQ6 dU S.pre;rw[cN]at this;omega
 obtain⟨h1,tk,rfl,hk⟩:=x.done;let Ww:∀b:ay,b∉(B4 CX P w K mg base N qual scope f cd A outer s H E).ex:=λb z=>qQ7 (show b∈([])from z) (by simp);refine#[#[e0.mod,S.kind,rfl,rfl,aE _,λy z c h1 h2=>?_,λy hy=>?_,λy c _ h=>?_,λ_=>hd,dz.frames_deeper e0.frames,.inr #[rfl,rfl],λb z=>qQ7 z (Ww b),e0.bs,e0.QX,λb _ _=>Ww b,λb z=>qQ7 z (Ww b),e0.xX,e0.Sw],
  rfl,e0.bare,Un.kept hk,#[_,x.toInCall.ns,λi y v h1 h2 h3=>?_],λy c h=>#[_,x.cell y c h],e0.hok.fresh (aE _),λy c h=>?_,λp hp=>qQ7 (show p∈([])from hp) (by simp),e0.hok.kept hk,?_]
 .exact name_of_addr x.apart (iq h1) (iq h2)
 .let hy:=hy;rcases hy with hy|hy
  .exact DJ hy
  .exact qQ7 rfl (S.S8 _ (iq hy))
 .exact xN (x.above y c (iq h))
 .let hi:i<vs.length:=by
   unfold start at h2;by_cases hi:i<vs.length
   .exact hi
   .rw[bK ↑hi]at h2;rw[cG]at h2;split at h2<;>cases h2
  let ha:vs[i]?>>v:=by
   unfold start at h2;rw[bO ↑hi,aH]at h2;cases e:vs[i]? with
   |none=>rw[e]at h2;cases h2
   |some a=>rw[e]at h2;cases h2;rfl
  obtain⟨u,hu,rv⟩:=r.get ha;let hp:ps[i]?>>y:=by rwa[<-S.pre,List.getElem?_take_of_lt ∅]
  let ndP:ps.Nodup:=[<-S.pre]▸S.nd.sublist (w8 _ _);refine#[u,rv,?_];rcases S.par y (aP hp)with k|k
  .exact .inl #[k,A8 ndP hp hu k]
  .obtain⟨c,e⟩:=DJ k;refine .inr #[.inl k,c,e,?_];let q:=x.cell y c e;rwa[A9 ndP hp hu (by show scope.names.lookup y≠_;rw[k];decide)]at q
 .exact e0.hok.fresh (xN (x.above y c (iq h)))
 .unfold start;show _=N.length;rw[aX,ae,dN];omega
theorem Wx{f:ay}{name qual:Str}{params:Arguments}{dV kV doc pm gu ct oc:aA}{an od:Option ay}
  {K4:Array (Option aA)}{sp:Sp}(lk:K.lookup f>>#[oc,od,.func (iC name qual params body scope dV kV doc pm an gu ct),K4])(Od:nr K gu qual=true)(S:cw N ps scope)
  (len:∀vs H Q E,sp vs H Q E->vs.length=ps.length)
  (K5:∀(A:dz)(outer:!Env)(s:aK)(H:Hp)(vs:!V)(Q:VK)(E:XK),ei k (A.deeper (envOfC qual scope s.heap.objs.size f gu))->sp vs H Q E->
   ∃t,Hw (B4 CX P w K mg base N qual scope f gu A outer s H E) body t/\t { nx:=λ_ H'=>Q .non H',rt:=Q } (start N vs) H) :
  dZ P w K mg base CX (k+1) f (iC name qual params body scope dV kV doc pm an gu ct) ps sp:=by
 refine#[len,λA outer s H args us vs Q E hr e0 hb r yk=>?_];let hl:=len _ _ _ _ yk;let KX:=e0.mod.V3.keeps λb o e=>(e0.bs b o e).1;let DK:∀y∈ps.zip us,scope.names.lookup y.1>>.local\/(scope.names.lookup y.1>>.cell/\((cellsFrom (s.heap.objs.size+1) scope.names []).lookup y.1).isSome=true):=λ#[n,v] hy=>by
  rcases S.par n (ku hy).1 with q|q
  .exact .inl q
  .exact .inr #[q,BJ _ _ _ (.inl q)]
 refine codeAny_call_function hr.depth (KX _ _ lk) rfl S.co S.gen rfl (PySem.W.codeRec_of KX Od) (hb _ _ _ _ ?_);refine wpAny_newFunctionEnv_cells S.kind DK λenv he s1 x=>?_;subst he;refine#[(e0.mod.nolimit.keeps λb o e=>(e0.bs b o e).1).keeps x.toInCall.keep,codeAny_func ?_];let#[t,ht,hq]:=K5 A outer s H vs Q E (hr.deeper _) yk;refine gS (ht [] s1 (start N vs) H _ (Jh S hr.hd e0 hl r x) hq) (λfl s' hs=>?_) λe s' hs=>hs;let fin:∀{σ':St}{H':Hp}{v:V}{u:aA},Inv (B4 CX P w K mg base N qual scope f gu A outer s H E) [] σ' H' s'->RelV v u->Q v H'->CE outer P w H s Q u s':=
  λ{σ' H' v u}J rv q=>#[v,H',J.os,J.bare,J.base,J.hok,rv,q];cases fl with
 |ret u=>let#[v,σ',H',J,rv,q]:=hs;exact fin J rv q
 |next=>let#[σ',H',J,q]:=hs;exact fin (v:=V.non) J rfl q
 |brk=>let#[_,_,_,q]:=hs;exact gB q
 |cont=>let#[_,_,_,q]:=hs;exact gB q
section
variable{X:Cx}{x:Str}{p pos:Pos}{e:bw}{es:!bw}{t:TA}{id T:String}{r:!V->Hp->VK->Prop}
def tCB(r:!V->Hp->VK->Prop)(t:TA):TE:=λσ H Q=>t σ H λvs H1=>r vs H1 Q
theorem rF(hc:iz X (.builtin id) r)(hg:Gl X x)(hm:X.mg x=none)(hv:bootBuiltins x>>(.builtin id))(ha:PA X (e::es) t)(hn:x≠"__name__":=by decide)(o6:uc x:=by decide)
  (he:kB X e es:=by rfl)(lB:pU X pos es:=by rfl):PE X (.Call (.Name x p) (e::es) [] pos) (tCB r t):=by intro pins s σ H Q I h;exact pS (vV I hg hm hv (PyProof.Rows.callWith_builtin1 (fF (ha pos pins s σ H _ I h) λus s1 #[vs,H1,I1,r1,q1]=>hc pins s1 σ H1 vs us Q I1 r1 q1) he lB) hn o6)
theorem k7(hc:iz X (.type T) r)(hg:Gl X x)(hm:X.mg x=none)(hv:bootBuiltins x>>(.type T))(ha:PA X (e::es) t)(hn:x≠"__name__":=by decide)(o6:uc x:=by decide)
  (he:kB X e es:=by rfl)(lB:pU X pos es:=by rfl):PE X (.Call (.Name x p) (e::es) [] pos) (tCB r t):=by intro pins s σ H Q I h;exact pS (vV I hg hm hv (iB (fF (ha pos pins s σ H _ I h) λus s1 #[vs,H1,I1,r1,q1]=>hc pins s1 σ H1 vs us Q I1 r1 q1) he lB) hn o6)
end
end L2
namespace HT
open PySem PyProof.Rows
variable{Q:aA->aK->Prop}
section
open PySem.SeqAt
open PySem.AutoSeq1 (wpAny_loadPart')
open PySem.MeetsSeq PySem.MeetsSeq2 PySem.MeetsSeq3
end
section
variable{prog:bx}{w:b_}{A:dz}{E:aA->aK->Prop}{s:aK}
theorem Ot{t b:ay}{vs ws:!aA}(ht:IsTup s.heap t vs.toArray)(hb:IsTup s.heap b ws.toArray)(hv:vs≠[])
  (h1:ws=[]->Q (.ref t) s)(h2:ws≠[]->Q (.ref s.heap.objs.size) { s with heap:=s.heap.push { cls:=.type "tuple",data:=.seq (vs++ws).toArray } })
  (hsz:vs.length+ws.length<=sizeLine):wpAny (model prog w) A (binaryOp .Add (.ref t) (.ref b)) Q E s:=by
 let#[#[cls,dd,data,sl],ho,hc,n,hd]:=id ht;let#[#[zaC,Zx,data2,Zy],Vr,hc2,n2,hd2]:=id hb;subst hc hd hc2 hd2;let e:vs.toArray++ws.toArray=(vs++ws).toArray:=by simp
 by_cases hw:ws=[]
 .exact concat_meets #[_,ho,rfl] #[_,Vr,rfl] noFill_tuple_add seq_tuple_add BK AQ (Ai _ _)
   (tuple_addW1 t b vs.toArray ws.toArray n n2 dd Zx sl Zy ↑hv (by simp[hw])) #[ho,Vr,h1 hw]
 .refine concat_meets #[_,ho,rfl] #[_,Vr,rfl] noFill_tuple_add seq_tuple_add BK AQ (Ai _ _)
   (tuple_addW2 t b vs.toArray ws.toArray n n2 dd Zx sl Zy ↑hv ↑hw ([bJ,bJ]▸hsz)) #[ho,Vr,?_];rw[e];exact h2 hw
def oj(n d:Nat):Option Int->Nat
 |none=>d
 |some v=>if v<0 then(v+(n:Int)).toNat else min v.toNat n
theorem DM(n d:Nat):oj n d none=d:=rfl
theorem om(n d k:Nat):oj n d (some (k:Int))=min k n:=by show(if(k:Int)<0 then(k+(n:Int)).toNat else min (k:Int).toNat n)=min k n;rw[qQ2 ∅,c7]
theorem HG(v:Int)(n d:Nat):(if v<0 then max (v+(n:Int)) 0 else min v (n:Int))=((oj n d (some v):Nat):Int):=by
 show(if v<0 then max _ 0 else min v n)=(((if v<0 then(v+n).toNat else min v.toNat n):Nat):Int);by_cases hv:v<0
 .simp only[qQ3 hv];omega
 .simp only[qQ2 hv];omega
theorem FQ(lo hi:Option Int)(n:Nat):lX lo hi 1 (n:Int)=(((oj n 0 lo:Nat):Int),((oj n n hi:Nat):Int)):=by
 let h1:¬(1<0):=∅;unfold lX;refine Prod.ext ?_ ?_
 .cases lo with
  |none=>rfl
  |some v=>exact HG v n 0
 .cases hi with
  |none=>rfl
  |some v=>exact HG v n n
theorem FT(i j:Nat):iT (i:Int) (j:Int) 1=j-i:=by unfold iT;let h1:1>0:=∅;split<;>omega
theorem yO{v:aA}{o:Option Int}{Q:Option Int->aK->Prop}(p:BL v o)(h:Q o s):wpAny (model prog w) A (t_.Slice.slicePartIndex v) Q E s:=by
 cases p with
 |none=>exact slicePart_none h
 |int i t=>exact slicePart_int h
theorem v5{sl:ay}{vl vu:aA}{lo hi:Option Int}{n:Nat}{Q:Int×Int×Nat->aK->Prop}(hs:s.heap.IsSliceOf sl vl vu .none)(pl:BL vl lo)(pu:BL vu hi)
  (h:Q (((oj n 0 lo:Nat):Int),1,oj n n hi-oj n 0 lo) s):wpAny (model prog w) A (t_.Slice.sliceApplied (.ref sl) (pure (n:Int))) Q E s:=by let#[os,Wy,NX,NZ]:=id hs;refine ao (ao (eY Wy NZ rfl (ao (eY Wy NZ rfl (ao (eY Wy NZ rfl (aU ?_)))))));refine ao (slicePart_none ?_);refine ao (yO pl (ao (yO pu (ao (aU ?_)))));show wpAny _ _ (match lX lo hi 1 (n:Int)with|(lo,hi)=>pure (lo,(1:Int),iT lo hi 1)) _ _ s;rw[FQ lo hi n];show wpAny _ _ (pure (((oj n 0 lo):Int),1,iT ((oj n 0 lo:Nat)) ((oj n n hi:Nat)) 1)) _ _ s;rw[FT];exact aU h
theorem K6(xs:Array aA)(i k:Nat):((cj k).filterMap λ(m:Nat)=>xs[((i:Int)+(m:Int)*1).toNat]?).toArray=((xs.toList.drop i).take k).toArray:=by
 let e:(λ(m:Nat)=>xs[(i+(m:Int)*1).toNat]?)=λm=>xs[i+m]?:=by funext m;let:((i:Int)+(m:Int)*1).toNat=i+m:=∅;rw[this]
 rw[e];let:=pick_run xs i k;rw[cK]at this;let e2:((λx=>xs[x]?)∘λx=>i+x)=λm=>xs[i+m]?:=rfl;rw[e2]at this;rw[this]
theorem uX{t sl:ay}{items:Array aA}{vl vu:aA}{lo hi:Option Int}(ht:IsTup s.heap t items)(hs:s.heap.IsSliceOf sl vl vu .none)(pl:BL vl lo)(pu:BL vu hi)
  (hw:¬(oj items.size 0 lo=0/\oj items.size items.size hi=items.size))
  (h:Q (.ref s.heap.objs.size) { s with heap:=s.heap.push { cls:=.type "tuple",data:=.seq ((items.toList.drop (oj items.size 0 lo)).take (oj items.size items.size hi-oj items.size 0 lo)).toArray } })
  (hsz:items.size<=sizeLine):wpAny (model prog w) A (getItem (.ref t) (.ref sl)) Q E s:=by
 let HJ:sizeOk (.seq ((items.toList.drop (oj items.size 0 lo)).take (oj items.size items.size hi-oj items.size 0 lo)).toArray):=by show((items.toList.drop _).take _).toArray.size<=sizeLine;rw[bJ,cN,iu,ck];omega
 let#[os,Wy,NX,NZ]:=id hs;unfold getItem
 try with_reducible refine iA ?_
 first|refine ao (aU ?_)|skip
 refine ao (wpAny_sequenceKey ht.typeIs ⋯ ?_);refine ao (eZ (name:=xQ "__getitem__") ht.typeIs j_
  (gM j_ ht.typeIs entry_tuple_getitem ?_ (args_tuple_getitem _ _)));show wpAny _ _ (t_.Tuple.tupleItemsOf (.ref t) >>= _) _ _ s;refine ao (tupleItemsOf_ ht ?_);refine ao (wpAny_typeOf (#[os,Wy,NX]) ?_);refine ao (v5 hs pl pu ?_);let v7:¬((((oj items.size 0 lo):Int)==0&&(1:Int)==1&&(oj items.size items.size hi-oj items.size 0 lo)==items.size)=true):=by
  intro q;rw[gy,gy]at q;let q1:=eq_of_beq q.1.1;let q2:=eq_of_beq q.2;exact hw #[∅,∅]
 show wpAny _ _ (if(((oj items.size 0 lo):Int)==0&&1==1&&(oj items.size items.size hi-oj items.size 0 lo)==items.size)=true then _ else _) _ _ s;rw[qQ2 v7,K6]
 first
  |exact ao (dE (aU #[_,rfl,aU h]) HJ)
  |exact ao (dE (ao (aU (aU #[_,rfl,aU h]))) HJ)
  |exact ao (ao (dE (aU (aU #[_,rfl,aU h])) HJ))
  |exact ao (ao (dE (aU #[_,rfl,aU h]) HJ))
end
end HT
namespace L2
open PySem PySem.Spec PyProof.Rows
variable{p:ay}{H:Hp}{pins:!(ay×Obj)}{xs:!V}{its us:!aA}{n t':Nat}{s:aK}{σ:St}
abbrev TO:=St->Hp->(Option Int->Hp->Prop)->Prop
def PO(X:Cx)(e:Option bw)(t:TO):Prop:=
 ∀(pins:!(ay×Obj))(s:aK)(σ:St)(H:Hp)(Q:Option Int->Hp->Prop),Inv X pins σ H s->t σ H Q->
  wpAny (model X.prog X.w) X.A (evalPart e X.env) (λu s'=>∃o H',Inv X pins σ H' s'/\BL u o/\Q o H') X.xe s
def Ou:TO:=λ_ H Q=>Q none H
def Wz(t:TE):TO:=λσ H Q=>t σ H λx H1=>∃i,x=.int i/\Q (some i) H1
theorem intsAre_of{ns:!Int}:∀{us:!aA},dA (ns.map V.int) us->Aj us ns:=by
 induction ns with
 |nil=>intro us r;rw[d_]at r;cases r;exact .nil
 |cons n ns ih=>
  intro us r;cases r with
  |cons r1 r2=>let#[t,e]:=r1;subst e;exact .cons n t (ih r2)
section
variable{X:Cx}{e:bw}{te:TE}{lo hi:Option bw}{tl th:TO}{pos p2:Pos}
theorem Ov:PO X none Ou:=by intro pins s σ H Q I h;exact aU #[none,H,I,.none,h]
theorem Ow(h:PE X e te):PO X (some e) (Wz te):=by intro pins s σ H Q I hw;refine fF (h pins s σ H _ I hw) λu s1 #[x,H1,I1,r1,q1]=>?_;let#[i,rfl,q]:=q1;let#[t,rfl]:=r1;exact#[_,H1,I1,.int i t,q]
def Zz(X:Cx)(r:V->Option Int->Option Int->Hp->VK->Prop):Prop:=
 ∀(pins:!(ay×Obj))(s:aK)(σ:St)(H:Hp)(x:V)(v vl vu:aA)(lo hi:Option Int)(sl:ay)(Q:VK),Inv X pins σ H s->RelV x v->s.heap.IsSliceOf sl vl vu .none->BL vl lo->BL vu hi->r x lo hi H Q->
  ∃T id,typeLookup (.type T) "__getitem__"=pure (some (.builtin id))/\s.TypeIs v T/\wpAny (model X.prog X.w) X.A (getItem v (.ref sl)) (EP X pins σ Q) X.xe s
def tSl(r:V->Option Int->Option Int->Hp->VK->Prop)(te:TE)(tl th:TO):TE:=λσ H Q=>te σ H λx H1=>tl σ H1 λl H2=>th σ H2 λu H3=>r x l u H3 Q
theorem yP{r:V->Option Int->Option Int->Hp->VK->Prop}(hr:Zz X r)(he:PE X e te)(hl:PO X lo tl)(hu:PO X hi th):PE X (.Subscript e (.Slice lo hi none p2) pos) (tSl r te tl th):=by intro pins s σ H Q I h;refine Subscript_ (fF (he pins s σ H _ I h) λv s1 #[x,H1,I1,r1,q1]=>?_);refine wpAny_Slice (fF (hl pins s1 σ H1 _ I1 q1) λvl s2 #[l,H2,I2,pl,q2]=>fF (hu pins s2 σ H2 _ I2 q2) λvu s3 #[u,H3,I3,pu,q3]=>?_);refine aU ?_;let I4:Inv X pins σ H3 { s3 with heap:=s3.heap.push { cls:=.type "slice",data:=.fields (bE [vl,vu,.none]) } }:=I3.kept λb ob q=>aB _ q;let#[T,id,hT,ht,hg]:=hr pins { s3 with heap:=s3.heap.push { cls:=.type "slice",data:=.fields (bE [vl,vu,.none]) } } σ H3 x v vl vu l u s3.heap.objs.size Q I4 r1 (cI.IsSliceOf.new ..) pl pu q3;exact tail_any ht hT hg (by with_unfolding_all rfl)
def Ji(xs:!V)(lo hi:Option Int):!V:=(xs.drop (HT.oj xs.length 0 lo)).take (HT.oj xs.length xs.length hi-HT.oj xs.length 0 lo)
theorem xi(xs:!V)(lo hi:Option Int):(Ji xs lo hi).length<=xs.length:=by unfold Ji;rw[cN,iu];omega
def zaE(K:aj):V->Option Int->Option Int->Hp->VK->Prop:=λx lo hi H Q=>∃a xs,x=.ref a/\nV K H a xs/\
 ¬(HT.oj xs.length 0 lo=0/\HT.oj xs.length xs.length hi=xs.length)/\∀p,H p=none->Q (.ref p) (upd H p (.tup (Ji xs lo hi)))
theorem S9:Zz X (zaE X.K):=by intro pins s σ H x v vl vu lo hi sl Q I rx hs pl pu h;let#[a,xs,rfl,hx,hw,q]:=h;cases rx;let#[its,r,ht,hz]:=I.tuple hx;let hlen:its.toArray.size=xs.length:=[bJ]▸r.length.symm;refine#[_,_,j_.lookup,ht.typeIs,?_];refine HT.uX ht hs pl pu ([hlen]▸hw) ?_ ([hlen]▸hz);rw[hlen];refine#[.ref s.heap.objs.size,_,I.laid (λb ob q=>aB _ q) ∅ ?_,rfl,q _ (I.hok.fresh ∅)];exact#[bZ (xi xs lo hi) hz,_,(r.drop _).take _,tL _ _]
def WB(K:aj):R2:=λx y H Q=>∃a b xs ys,x=.ref a/\y=.ref b/\nV K H a xs/\nV K H b ys/\xs≠[]/\xs.length+ys.length<=sizeLine/\
 (ys=[]->Q (.ref a) H)/\(ys≠[]->∀p,H p=none->Q (.ref p) (upd H p (.tup (xs++ys))))
theorem dA.yl(r:dA xs us):us=[]↔xs=[]:=by
 cases r with
 |nil=>simp
 |cons _ _=>simp
theorem Ox:sN X (binaryOp .Add) (WB X.K):=by intro pins s σ H x y v u Q I rx ry h;let#[a,b,xs,ys,rfl,rfl,ha,hb,hx,hz,q1,q2]:=h;cases rx;cases ry;let#[its,r1,p1,_]:=I.tuple ha;let#[Oy,r2,p2,_]:=I.tuple hb;refine HT.Ot p1 p2 (λz=>hx (r1.yl.mp z)) (λz=>#[.ref a,H,I,rfl,q1 (r2.yl.mp z)]) (λz=>?_) ([<-r1.length,<-r2.length]▸hz);refine#[.ref s.heap.objs.size,_,I.laid (λb ob q=>aB _ q) ∅ ?_,rfl,q2 (λw=>z (r2.yl.mpr w)) _ (I.hok.fresh ∅)];exact#[[aX]▸hz,_,r1.append r2,tL _ _]
end
def Kw(n:Nat)(i:Int):Option Nat:=if 0<=i then(if i<n then some i.toNat else none)else if -(n:Int)<=i then some (i+n).toNat else none
def tF{α:Type}(xs:!α)(i:Int):Option α:=(Kw xs.length i).bind λj=>xs[j]?
theorem HK{i:Int}{j:Nat}(h:Kw n i>>j):seqIndex? i n>>j/\j<n/\-(n:Int)<=i/\i<n:=by
 unfold Kw at h;by_cases h0:0<=i
 .rw[qQ3 h0]at h;by_cases h1:i<n
  .rw[qQ3 h1]at h;let e:=b9 h;exact#[by rw[seqIndex_of h0 h1,e],∅,∅,h1]
  .rw[qQ2 h1]at h;cases h
 .rw[qQ2 h0]at h;by_cases h1:-n<=i
  .rw[qQ3 h1]at h;let e:=b9 h;exact#[by rw[seqIndex_neg ∅ h1,e],∅,h1,∅]
  .rw[qQ2 h1]at h;cases h
theorem B5{α:Type}{xs:!α}{i:Int}{v:α}(h:tF xs i>>v):∃j,seqIndex? i xs.length>>j/\xs[j]?>>v/\j<xs.length/\-(xs.length:Int)<=i/\i<xs.length:=by
 unfold tF at h;cases e:Kw xs.length i with
 |none=>rw[e]at h;cases h
 |some j=>rw[e]at h;let#[h1,h2,h3,h4]:=HK e;exact#[j,h1,h,h2,h3,h4]
theorem df{α:Type}{xs:!α}{j:Nat}{v:α}(h:xs[j]?>>v):tF xs (j:Int)>>v:=by
 let hj:=(av.mp h).1;let e:Kw xs.length j>>j:=by unfold Kw;rw[qQ3 ∅,qQ3 ∅];simp
 unfold tF;rwa[e]
def oo(b:bw):Prop:=∀o i,subscripted b false o i=operate [o,i] (getItem o i)
def K7(X:Cx)(r:R2):Prop:=
 ∀(value slice:bw)(pins:!(ay×Obj))(s:aK)(σ:St)(H:Hp)(x y:V)(v u:aA)(Q:VK),Inv X pins σ H s->RelV x v->RelV y u->r x y H Q->
  subscripted slice false v u=operate [v,u] (getItem v u)->wpAny (model X.prog X.w) X.A (subscriptTail value slice v u) (EP X pins σ Q) X.xe s
def MtR(X:Cx)(id:String)(r:V->!V->Hp->VK->Prop):Prop:=
 ∀(pins:!(ay×Obj))(s:aK)(σ:St)(H:Hp)(x:V)(xs:!V)(v:aA)(us:!aA)(Q:VK),Inv X pins σ H s->RelV x v->dA xs us->r x xs H Q->
  wpAny (model X.prog X.w) X.A (call (.builtin id) (v::us)) (EP X pins σ Q) X.xe s
section
variable{X:Cx}{a b:bw}{ta tb:TE}{pos:Pos}
theorem K7.or{r r':R2}(h:K7 X r)(h':K7 X r'):K7 X (λx y H Q=>r x y H Q\/r' x y H Q):=by
 intro value slice pins s σ H x y v u Q I rx ry q hs;rcases q with q|q
 .exact h value slice pins s σ H x y v u Q I rx ry q hs
 .exact h' value slice pins s σ H x y v u Q I rx ry q hs
theorem K8{r:R2}(hr:K7 X r)(ha:PE X a ta)(hb:PE X b tb)(hs:oo b):PE X (.Subscript a b pos) (Vo r ta tb):=by intro pins s σ H Q I h;exact Subscript_ (SY ha hb I h λv u s2 x y H2 I2 rx ry q=>hr a b pins s2 σ H2 x y v u Q I2 rx ry q (hs _ _))
def WC(K:aj):R2:=λx y H Q=>∃p xs i v,x=.ref p/\y=.int i/\jb K H p xs/\tF xs i>>v/\Q v H
def WD(K:aj):R2:=λx y H Q=>∃p xs i v,x=.ref p/\y=.int i/\nV K H p xs/\tF xs i>>v/\Q v H
def WG:R2:=λx y H Q=>∃z i c,x=.str z/\y=.int i/\z.length<=sizeLine/\tF z.cps.toList i>>c/\Q (.str #[(bE [c])]) H
theorem Oz:K7 X (WC X.K):=by
 intro value slice pins s σ H x y v u Q I rx ry h hs;let#[p,xs,i,z,rfl,rfl,hq,he,q]:=h;cases rx;let#[t,rfl]:=ry;let#[its,r,pl,hz]:=I.list hq;let#[j,h1,h2,h3,h4,h5]:=B5 he;let#[w,ew,pP]:=r.get h2;let hl:=r.length;let hn:=rE;let fin:EP X pins σ Q w s:=#[z,H,I,pP,q];by_cases h0:0<=i
 .let hj:i.toNat=j:=by rw[seqIndex_of h0 h5]at h1;exact b9 h1
  exact item_listR pl.isList h0 ∅ (by rw[hj];simpa using ew) fin hs
 .let hj:(i+its.toArray.size).toNat=j:=by rw[seqIndex_neg ∅ h4]at h1;rw[bJ,<-hl];exact b9 h1
  exact subscriptTail_builtinR pl.isList.typeIs slot_list_getitem.lookup
   (wpAny_getItem_list_neg pl.isList ∅ (by rw[bJ]<;>omega) ∅ (by rw[hj];simpa using ew) #[rfl,fin]) hs
theorem S_:K7 X (WD X.K):=by
 intro value slice pins s σ H x y v u Q I rx ry h hs;let#[p,xs,i,z,rfl,rfl,hq,he,q]:=h;cases rx;let#[t,rfl]:=ry;let#[its,r,pl,hz]:=I.tuple hq;let#[j,h1,h2,h3,h4,h5]:=B5 he;let#[w,ew,pP]:=r.get h2;let hl:=r.length;let hn:=rE;let fin:EP X pins σ Q w s:=#[z,H,I,pP,q];exact subscriptTail_builtinR pl.typeIs slot_tuple_getitem.lookup
  (getItem_tuple pl ∅ ∅ ([bJ,<-hl]▸h1) ↑ew #[rfl,fin]) hs
theorem Ta:K7 X WG:=by
 intro value slice pins s σ H x y v u Q I rx ry h hs;let#[z,i,c,rfl,rfl,hz,he,q]:=h;let#[t,rfl]:=rx;let#[t',rfl]:=ry;let#[j,h1,h2,h3,h4,h5]:=B5 he;let hl:z.cps.toList.length=z.length:=by simp[Str.length]
 rw[hl]at h1 h4 h5;let hn:=rE;exact tail_any (tZ s z t) slot_str_getitem.lookup (getItem_str (by let e2:decide (i>=2^63)=false:=qQ0 ∅;rw[qQ0 ∅,e2,Bool.or_false]) (by rw[h1];simpa using h2) #[.str #[(bE [c])],H,I.tok _,#[_,rfl],q]) hs
def ZC(K:aj):R2:=λx y H Q=>WC K x y H Q\/WD K x y H Q\/WG x y H Q
theorem oP:K7 X (ZC X.K):=Oz.or (S_.or Ta)
theorem FU(its:!aA)(n j:Nat)(u:aA):vO (·.setIfInBounds j u) { cls:=.type "list",data:=.seq its.toArray n }={ cls:=.type "list",data:=.seq (its.set j u).toArray n }:=by simp[vO]
theorem Inv.lst(I:Inv X pins σ H s)(h:H p>>(.lst xs)):
  ∃(its:!aA)(n:Nat),dA xs its/\s.heap.get? p=some { cls:=.type "list",data:=.seq its.toArray n }/\xs.length<=sizeLine:=by let#[z,its,n,r,e]:=I.hok p _ h;exact#[its,n,r,e,z]
theorem Inv.Tb{ys: !V}{its': !aA}{n': Nat}{f:Obj->Obj}(I:Inv X pins σ H s)(h:H p>>(.lst xs))
  (ho:s.heap.get? p=some { cls:=.type "list",data:=.seq its.toArray n })(hf:f { cls:=.type "list",data:=.seq its.toArray n }={ cls:=.type "list",data:=.seq its'.toArray n' })(r:dA ys its')(hz:ys.length<=sizeLine)(t:Nat):
  Inv X pins σ (upd H p (.lst ys)) { s with heap:=s.heap.update p f,toks:=t }:=by
 let e:(s.heap.update p f).get? p=some { cls:=.type "list",data:=.seq its'.toArray n' }:=by rw[sL f ho (by rw[hf]<;>rfl),hf]
 refine I.write (x:=p) (e:=p) (by rw[h];trivial) (.inl rfl) (λb u hb q=>(Fe _ _ (bF hb)).trans q) #[_,e] ?_;exact#[hz,its',n',r,e]
def WH:V->V->V->Hp->(Hp->Prop)->Prop:=λo i v H Q=>∃p xs k j,o=.ref p/\i=.int k/\H p>>(.lst xs)/\Kw xs.length k>>j/\Q (upd H p (.lst (xs.set j v)))
theorem set_list:Wc X WH:=by
 intro pins s σ H o i v ov iv u Q I ro ri rv h;let#[p,xs,k,j,rfl,rfl,hp,hj,q]:=h;cases ro;let#[t,rfl]:=ri;let#[its,n,r,ho,hz]:=I.lst hp;let#[h1,h2,h3,h4]:=HK hj;let hl:=r.length;let hn:=rE;let I':Inv X pins σ (upd H p (.lst (xs.set j v))) { s with heap:=s.heap.update p (vO (·.setIfInBounds j u)) }:=
  I.Tb hp ho (FU its n j u) (r.set rv j) ([fZ]▸hz) s.toks;by_cases h0:0<=k
 .let hk:k.toNat=j:=by rw[seqIndex_of h0 h4]at h1;exact b9 h1
  exact PySem.W.ki_setAt ho h0 ∅ ([bJ,<-hl]▸h4) ([hk]▸#[_,I',q])
 .let hk:(k+(its.toArray.size:Int)).toNat=j:=by rw[seqIndex_neg ∅ h3]at h1;rw[bJ,<-hl];exact b9 h1
  exact PySem.W.ki_setBack ho ∅ ([bJ,<-hl]▸h3) ∅ ([hk]▸#[_,I',q])
theorem B6(lo hi:Option Int)(n:Nat):(sliceBounds lo hi none n).1=((HT.oj n 0 lo:Nat):Int)/\(sliceBounds lo hi none n).2.1=((HT.oj n n hi:Nat):Int)/\(sliceBounds lo hi none n).2.2=1:=by
 refine#[?_,?_,rfl]
 .cases lo with
  |none=>simp[sliceBounds,HT.oj]
  |some i=>
   simp[sliceBounds,HT.oj,Option.getD_none,show(1:Int)>0 by decide,if_true];by_cases h:i<0
   .simp[h,if_true]<;>omega
   .simp[h,if_false]<;>omega
 .cases hi with
  |none=>simp[sliceBounds,HT.oj]
  |some i=>
   simp[sliceBounds,HT.oj,Option.getD_none,show(1:Int)>0 by decide,if_true];by_cases h:i<0
   .simp[h,if_true]<;>omega
   .simp[h,if_false]<;>omega
theorem Ar(its:!aA)(lo hi:Option Int):slicePick its.toArray lo hi none=((its.drop (HT.oj its.length 0 lo)).take (HT.oj its.length its.length hi-HT.oj its.length 0 lo)).toArray:=by let#[h1,h2,h3]:=B6 lo hi its.toArray.size;unfold slicePick;rw[h1,h2,h3];simp only[sliceRange_one,pick_run,bJ]<;>rfl
def zaG(K:aj):V->Option Int->Option Int->Hp->VK->Prop:=λx lo hi H Q=>∃a xs,x=.ref a/\jb K H a xs/\∀p,H p=none->Q (.ref p) (upd H p (.lst (Ji xs lo hi)))
theorem OB:Zz X (zaG X.K):=by intro pins s σ H x v vl vu lo hi sl Q I rx hs pl pu h;let#[a,xs,rfl,hx,q]:=h;cases rx;let#[its,r,ht,hz]:=I.list hx;let hlen:=r.length;refine#[_,_,slot_list_getitem.lookup,ht.isList.typeIs,?_];refine wpAny_getItem_list_slice ht.isList hs pl pu .none (by simp) ?_ (by rw[bJ]<;>omega);rw[Ar,<-hlen];refine#[.ref s.heap.objs.size,_,I.laid (λb ob q=>aB _ q) ∅ ?_,rfl,q _ (I.hok.fresh ∅)];exact#[bZ (xi xs lo hi) hz,_,0,(r.drop _).take _,bh _ rfl]
theorem uY:iz X (.builtin "len") (λxs H Q=>∃p ys,xs=[.ref p]/\(jb X.K H p ys\/nV X.K H p ys)/\Q (.int ys.length) H):=by
 intro pins s σ H xs us Q I r h;let#[p,ys,rfl,hq,q]:=h;let#[u,rfl,rx]:=vals1 r;cases rx;let hn:=rE;rcases hq with hq|hq
 .let#[its,r',pl,hz]:=I.list hq;let hlen:=r'.length;exact Calls.call_len_list pl.isList (by simp<;>omega) #[.int ys.length,H,I.tok _,#[_,by rw[bJ,hlen]],q]
 .let#[its,r',pl,hz]:=I.tuple hq;let hlen:=r'.length;exact len_tuple pl (by simp<;>omega) #[.int ys.length,H,I.tok _,#[_,by rw[bJ,hlen]],q]
theorem B7:iz X (.builtin "len") (λxs H Q=>∃z,xs=[.str z]/\z.length<=sizeLine/\Q (.int z.length) H):=by intro pins s σ H xs us Q I r h;let#[z,rfl,hz,q]:=h;let#[u,rfl,t,rfl]:=vals1 r;let hn:=rE;exact len_str ∅ #[.int z.length,H,I.tok _,#[_,rfl],q]
theorem pY:iz X (.type "list") (λxs H Q=>∃p ys,xs=[.ref p]/\(jb X.K H p ys\/nV X.K H p ys)/\∀l,H l=none->Q (.ref l) (upd H l (.lst ys))):=by
 intro pins s σ H xs us Q I r h;let#[p,ys,rfl,hq,q]:=h;let#[u,rfl,rx]:=vals1 r;cases rx;let fin:∀(its:!aA),dA ys its->ys.length<=sizeLine->∀(h':cI)(c':Nat),(∀b o',s.heap.get? b>>o'->h'.get? b>>o')->
   h'.get? s.heap.objs.size=some { cls:=.type "list",dict:=none,data:=.seq its.toArray c',slots:=#[] }->EP X pins σ Q _ { s with heap:=h' }:=λits r' hz h' c' kp e=>
  #[.ref s.heap.objs.size,_,I.laid kp ∅ (show fV X.prog X.w _ h' _ (.lst ys) from#[hz,its,c',r',e]),rfl,q _ (I.hok.fresh ∅)];rcases hq with hq|hq
 .let#[its,r',pl,hz]:=I.list hq;let hlen:=r'.length;let#[o,ho,hc,n,hd]:=pl.isList;exact call_list_seq p (.inl rfl) ho hc hd (λh' c' kp e=>fin its r' hz h' c' kp e) (by simp<;>omega)
 .let#[its,r',pl,hz]:=I.tuple hq;let hlen:=r'.length;let#[o,ho,hc,n,hd]:=pl;exact call_list_seq p (.inr rfl) ho hc hd (λh' c' kp e=>fin its r' hz h' c' kp e) (by simp<;>omega)
theorem lC:iz X (.type "tuple") (λxs H Q=>∃p ys,xs=[.ref p]/\((jb X.K H p ys/\∀l,H l=none->Q (.ref l) (upd H l (.tup ys)))\/(nV X.K H p ys/\Q (.ref p) H))):=by
 intro pins s σ H xs us Q I r h;let#[p,ys,rfl,h]:=h;let#[u,rfl,rx]:=vals1 r;cases rx;rcases h with⟨hq,q⟩|⟨hq,q⟩
 .let#[its,r',pl,hz]:=I.list hq;let hlen:=r'.length;refine call_tuple_list pl.isList (λh' kp=>?_) (by simp<;>omega);let I1:Inv X pins σ H { s with heap:=h' }:=I.kept kp;let I2:Inv X pins σ (upd H h'.objs.size (.tup ys)) { s with heap:=h'.push { cls:=.type "tuple",data:=.seq its.toArray } }:=
   I1.laid (t':=s.toks) (λb o e=>aB _ e) (aE _) (show fV X.prog X.w _ _ _ (.tup ys) from#[hz,its,r',tL _ _]);exact#[.ref h'.objs.size,_,I2,rfl,q _ (I1.hok.fresh (aE _))]
 .let#[its,r',pl,hz]:=I.tuple hq;exact call_tuple_same pl #[.ref p,H,I,rfl,q]
def tyV(K:aj)(T:String)(x:V)(H:Hp):Prop:=match x with
 | .str _=>T="str"
 | .int _=>T="int"
 | .ref p=>(T="list"/\∃xs,jb K H p xs)\/(T="tuple"/\∃o,K.lookup p>>o/\o.cls=.type "tuple"/\o.dict=none)\/
   (T="dict"/\((∃kvs,H p>>(.dK kvs))\/∃kvs,H p>>(.dT kvs)))\/(T="set"/\∃S n,H p>>(.set S n))
 |_=>False
theorem K9{T:String}{x:V}{v:aA}(I:Inv X pins σ H s)(r:RelV x v)(ty:tyV X.K T x H):
  s.TypeIs v T/\∀a,v=.ref a->∃ob,s.heap.get? a>>ob/\ob.dict=none:=by
 cases x with
 |str z=>
  let#[t,rfl]:=r
  cases(show T="str" from ty)
  exact#[tZ s z t,λ_ e=>nomatch e]
 |int i=>
  let#[t,rfl]:=r
  cases(show T="int" from ty)
  exact#[typeIs_int s i t,λ_ e=>nomatch e]
 |ref p=>
  cases r;rcases ty with⟨rfl,xs,hq⟩|⟨rfl,o,hk,hc,hd⟩|⟨rfl,hk⟩|⟨rfl,S,n,hk⟩
  .let#[its,_,pl,_]:=I.list hq;refine#[pl.isList.typeIs,λa e=>?_];cases e;let#[o,n,e,c,hd,_]:=pl;exact#[o,e,hd]
  .refine#[#[o,I.Aq p o hk,hc],λa e=>?_];cases e;exact#[o,I.Aq _ o hk,hd]
  .let z:∃o,s.heap.get? p>>o/\o.ExactDict:=by
    rcases hk with⟨kvs,hk⟩|⟨kvs,hk⟩
    .let#[_,_,_,_,o,_,_,e,ex,_]:=I.hok p _ hk;exact#[o,e,ex]
    .let#[_,_,_,_,o,_,_,e,ex,_]:=I.hok p _ hk;exact#[o,e,ex]
   let#[o,e,ex]:=z;refine#[#[o,e,ex.1],λa e2=>?_];cases e2;exact#[o,e,ex.2.1]
  .let#[o,_,_,_,e,ex,_]:=I.hok p _ hk;refine#[#[o,e,ex.1],λa e2=>?_];cases e2;exact#[o,e,ex.2.1]
 |_=>exact gB ty
def zaI(K:aj)(T:String)(r:V->!V->Hp->VK->Prop)(to:TE):TE:=λσ H Q=>to σ H λx H1=>tyV K T x H1/\r x [] H1 Q
def tBM(K:aj)(T:String)(r:V->!V->Hp->VK->Prop)(to:TE)(t:TA):TE:=λσ H Q=>to σ H λx H1=>tyV K T x H1/\t σ H1 λxs H2=>r x xs H2 Q
variable{o e:bw}{es:!bw}{to:TE}{t:TA}{name:Str}{apos nY:Pos}{T id:String}{r:V->!V->Hp->VK->Prop}
theorem K_(pa:PlainAttrs T)(slot:Slot T name id)(hty:typeOf (.builtin id)=pure (.type "method_descriptor"))(hm:MtR X id r)(ho:PE X o to)
  (fW:vK X o name:=by rfl)(hline:(apos.endLine==nY.line)=true:=by rfl):PE X (.Call (.Attribute o name apos) [] [] nY) (zaI X.K T r to):=by intro pins s σ H Q I h;refine wpAny_Call_method0_late fW hline (fF (ho pins s σ H _ I h) λv s1 #[x,H1,I1,r1,ty,q1]=>?_);let#[h1,h2]:=K9 I1 r1 ty;exact#[T,id,pa,slot,hty,h1,h2,kR rfl (PySem.evalArgs_none (hm pins s1 σ H1 x [] v [] Q I1 r1 .nil q1))]
theorem qI(pa:PlainAttrs T)(slot:Slot T name id)(hty:typeOf (.builtin id)=pure (.type "method_descriptor"))(hm:MtR X id r)(ho:PE X o to)(ha:PA X (e::es) t)
  (fW:vK X o name:=by rfl)
  (k8:((backTo nY (starEach (e::es) X.env)).all (λx=>not x.1)&&(backToKw nY (keywordEach [] X.env)).all (λx=>x.1.isSome)
   && decide ((e::es).length+([]:!Keyword).length+(if([]:!Keyword).isEmpty then 0 else 1)<30))=true:=by rfl)
  (hline:(apos.endLine==nY.line)=true:=by rfl) (hs:kB X e es:=by rfl) (fu:pU X nY es:=by rfl) :
  PE X (.Call (.Attribute o name apos) (e::es) [] nY) (tBM X.K T r to t):=by intro pins s σ H Q I h;refine wpAny_Call_method_late fW k8 hline rfl (fF (ho pins s σ H _ I h) λv s1 #[x,H1,I1,r1,ty,q1]=>?_);let#[h1,h2]:=K9 I1 r1 ty;refine#[T,id,pa,slot,hty,h1,h2,?_];let hA:=ha nY pins s1 σ H1 _ I1 q1;rw[hs]at hA ⊢;exact kR (by show(false||(backTo nY (starEach es X.env)).any (·.1))=false;rw[fu]<;>rfl) (tj (fF hA λus s2 #[vs,H2,I2,r2,q2]=>hm pins s2 σ H2 x vs v us Q I2 r1 r2 q2))
end
def Vs(X:Cx)(id:String)(r:V->!V->Hp->VK->Prop):Prop:=
 ∀(pins:!(ay×Obj))(s:aK)(σ:St)(H:Hp)(x:V)(xs:!V)(v:aA)(us:!aA)(Q:VK),Inv X pins σ H s->RelV x v->dA xs us->r x xs H Q->
  wpAny (model X.prog X.w) X.A (call (.builtin id) (v::us)) (EP X pins σ Q) X.xe s
theorem dA.one:∀{x:V}{us:!aA},dA [x] us->∃u,us=[u]/\RelV x u
 |_,_,.cons r .nil=>#[_,rfl,r]
theorem dA.two:∀{x y:V}{us:!aA},dA [x,y] us->∃u v,us=[u,v]/\RelV x u/\RelV y v
 |_,_,_,.cons r (.cons q .nil)=>#[_,_,rfl,r,q]
theorem dA.zero:∀{us:!aA},dA [] us->us=[]
 |_,.nil=>rfl
theorem dA.rep(h:dA xs us):∀k:Nat,dA (bp k xs).flatten (bp k us).flatten
 |0=>.nil
 |k+1=>by exact dA.append h (dA.rep h k)
theorem foldl_rep(its:!aA):∀(k:Nat)(acc:!aA),
  List.foldl (λx1 x2=>x1++x2) acc.toArray (bp k its.toArray)=(acc++(bp k its).flatten).toArray
 |0,acc=>by simp
 |k+1,acc=>by
  let e:acc.toArray++its.toArray=(acc++its).toArray:=by simp
  let e2:(acc++its)++(bp k its).flatten=acc++(bp (k+1) its).flatten:=by rw[ez,fc,dw]
  rw[<-e2,<-foldl_rep its k _,<-e,ez,fk]
section
variable{X:Cx}{pins:!(ay×Obj)}{σ:St}{H:Hp}{s:aK}{l b:ay}{xs ys zs:!V}
theorem Inv.Tc{its': !aA}{f:Array aA->Array aA}(I:Inv X pins σ H s)(hH:H l>>(.lst xs))
  (e:s.heap.get? l=some { cls:=.type "list",data:=.seq its.toArray n })(hf:f its.toArray=its'.toArray)(hv:dA ys its')(hz:ys.length<=sizeLine):
  Inv X pins σ (upd H l (.lst ys)) { s with heap:=s.heap.update l (vO f),toks:=t' }:=by let q:=PySem.IsL.update e f;rw[hf]at q;refine I.write ([hH]▸trivial) (.inl rfl) (λb' u hb hu=>(Fe s.heap (vO f) (bF hb)).trans hu) #[_,q] ?_;exact#[hz,its',_,hv,q]
theorem Inv.zaJ(I:Inv X pins σ H s)(hv:dA ys its)(hz:ys.length<=sizeLine):
  Inv X pins σ (upd H s.heap.objs.size (.lst ys)) { s with heap:=s.heap.push { cls:=.type "list",data:=.seq its.toArray },toks:=t' }:=
 I.laid (λ_ _ q=>aB _ q) ∅ #[hz,its,0,hv,bh _ rfl]
theorem Inv.fresh(I:Inv X pins σ H s):H s.heap.objs.size=none:=I.hok.fresh ∅
theorem Inv.Td(I:Inv X pins σ H s)(hH:H l>>(.lst xs)):xs.length<=sizeLine/\∃(its:!aA)(n:Nat),dA xs its/\xs.length=its.length/\s.heap.get? l=some { cls:=.type "list",data:=.seq its.toArray n }:=by let#[z,its,n,r,e]:=I.hok l _ hH;exact#[z,its,n,r,r.length,e]
end
section
variable{X:Cx}
def OD:V->!V->Hp->VK->Prop:=λx vs H Q=>∃l xs y,x=.ref l/\vs=[y]/\H l>>(.lst xs)/\xs.length<sizeLine/\Q .non (upd H l (.lst (xs ++ [y])))
theorem ka:Vs X "list.append" OD:=by intro pins s σ H x vs v us Q I rx rv h;let#[l,xs,y,rfl,rfl,hH,hz,q]:=h;cases rx;let#[u,rfl,ru]:=rv.one;let#[z,its,n,r,hl,e]:=I.Td hH;refine jU F.slot_list_append #[_,e,rfl] F.entry_list_append (F.args_list_append_2 _ _) (PySem.list_append l its.toArray n u (by rw[bJ];omega)) #[e,?_];refine#[.non,_,I.Tc hH e (by simp) (r.append (.cons ru .nil)) ?_,rfl,q];rw[aX,i_];omega
def Te:V->!V->Hp->VK->Prop:=λx vs H Q=>∃l xs,x=.ref l/\vs=[]/\H l>>(.lst xs)/\Q .non (upd H l (.lst []))
theorem La:Vs X "list.clear" Te:=by intro pins s σ H x vs v us Q I rx rv h;let#[l,xs,rfl,rfl,hH,q]:=h;cases rx;let hus:=rv.zero;subst hus;let#[z,its,n,r,hl,e]:=I.Td hH;refine jU F.slot_list_clear #[_,e,rfl] F.entry_list_clear (F.args_list_clear_1 _) (AutoSeq1.list_clear_list_0 l its.toArray n (by rw[bJ];omega)) #[e,?_];exact#[.non,_,I.Tc (its':=[]) (ys:=[]) hH e rfl .nil (aW _),rfl,q]
theorem len_rep{α:Type}(xs:!α)(k:Nat):(bp k xs).flatten.length=k*xs.length:=by
 induction k with
 |zero=>simp
 |succ k ih=>rw[ez,fc,aX,ih,Fs,Nat.add_comm]
end
section
variable{prog:bx}{w:b_}{A:dz}{E:aA->aK->Prop}{s:aK}
end
section
variable{X:Cx}
end
end L2
namespace Att
open PySem PySem.W PySem.Calls PyProof.Rows
variable{h:cI}{l:OpenLaw}{P:BM}
theorem xZ:∀(ns:!Int)(vs:!aA),WellAll P h vs (ns.map WData.int)->Aj vs ns:=by
 intro ns;induction ns with
 |nil=>intro vs w;cases w;exact .nil
 |cons n ns ih=>
  intro vs w;cases w with
  |cons a b=>cases a;exact .cons _ _ (ih _ b)
theorem Jj{n:Nat}(hn:l.most>>n){args:!WData}{vals:!aA}
  (OG:l.row.toRowW.claim.pre args=true)(WK:WellAll P h vals args):
  ∃a vs ns,vals=[cC a]/\args=[WData.list (ns.map WData.int)]/\h.get? a=some { cls:=.type "list",data:=.seq vs.toArray }/\Aj vs ns/\ns.length<=n:=by
 let hc:l.pre.holds [] { args:=args }=true:=(pre_splitW OG).2;let#[d,r,rfl,h1,h2]:=hasAllW_cons ((pre_splitW OG).1);obtain rfl:=hasAllW_nil h2;let#[xs,rfl,h3]:=hasW_list h1;let#[ns,rfl]:=items_int h3;let hlen:ns.length<=n:=by
  let h4:(WTm.not (.lt (.lit (.int n)) (.len (.arg 0)))).holds [] { args:=[.list (ns.map .int)] }=true:=by let h4:=(holds_andW hc).1;rwa[hn]at h4
  let h5:=condW_of h4 (w_not (w_lt w_lit (w_len_list (w_arg rfl))));refine ef λq=>?_
  first
   |(rw[qQ1 q']at h5;exact qQ7 h5 ⋯)
   |(simp at h5;omega)
 cases WK with
 |cons w1 w2=>
  cases w2;cases w1 with
  |list ho DN=>exact#[_,_,ns,rfl,rfl,ho,xZ ns _ DN,hlen]
theorem Jk(l:OpenLaw)(args:!WData):l.row.toRowW.claim.post args (.bool true) args=true:=
 postW_of
  (show WShape.has [] _ .bool=true by first|rfl|decide|simp[WShape.has,WShape.arms,WShape.armsAll])
  (show(WTm.eq .res _).value [] { args:=args,res:=some _,after:=args }>>(.bool (true==true))from w_eq_bool (w_res rfl) w_lit) rfl
theorem DP{n:Nat}{q:bx}{loose:!Str}{XP:(Str->Option aA)->cI->Prop}{YP:b_->cI->Prop}{d:DefRec}
  (hn:l.most>>n)(WL:d.params.defaults=[])
  (call:∀(w:b_)(s₀ s₁:aK)(mg mb:Str->Option aA)(fa:ay)(o:Obj)(pm cd doc:aA)(a:ay)(vs:!aA)(ns:!Int),
   Ground q loose [] XP w s₀ mg mb s₁.heap->YP w s₁.heap->
   s₁.heap.get? fa>>o->o.data=.func (docDef d.name d.params d.body d.scope pm cd doc)->s₁.heap.CodeRec cd d.name->mg d.name>>(.ref fa)->
   s₁.heap.get? a=some { cls:=.type "list",data:=.seq vs.toArray }->Aj vs ns->ns.length<=n->s₁.gens=#[]->
   codeAny (model l.prog w) callerA (.call (.ref fa) #[[.ref a],[]]) (λr s'=>r=.ok (.ret (.bool true))/\OldK s₁.heap s'.heap/\s'.os=s₁.os/\tX s'.gens) s₁) :
  WalkO q loose XP YP l.row.toRowW d [] (λf vs=>PySem.call f vs):=by intro w s₀ s₁ mg mb G Y fa o pm cd doc dV kV ho hd Od hD Kx hg args vals as OG hlay hrd WK hlo;obtain rfl:dV=.none:=Dflts.none hD WL;obtain rfl:kV=.none:=Dflts.noKw hD;let#[a,vs,ns,rfl,rfl,Tf,hints,hlen]:=Jj hn OG WK;refine enter_call (oY (call w s₀ s₁ mg mb fa o pm cd doc a vs ns G Y ho (fd_plain hd) Od Kx Tf hints hlen hg) λr s' hq=>?_);let#[rfl,h2,h3,h4]:=hq;exact#[.inl #[_,_,[],rfl,λ_=>rfl,.bool true,Jk l _,λ_=>#[List.Pairwise.nil,λ_ hm=>(nomatch hm)]],h2,h3,h4]
section
variable{prog:bx}{w:b_}{A:dz}{E:aA->aK->Prop}{s:aK}{K:Frag}
end
end Att
namespace L2
open PySem PySem.Spec PyProof.Rows
variable{a b f:ay}{X:Cx}{fd:eE}{h':cI}{H H':Hp}{pins:!(ay×Obj)}{xs:!(!Key×ay×aA)}{kvs:!(!Key×V)}{Jl:!(TE×TE)}{ps:!Str}{o:Option V}{pos:Pos}{P:bx}{K:aj}{s:aK}{st:eO}{qual x:Str}{y:V}{u:aA}{Q:aA->aK->Prop}{w:b_}
theorem A_:∀{vs:!aA}{ns:!Int},Aj vs ns->dA (ns.map V.int) vs
 |_,_,.nil=>.nil
 |_,_,.cons n t h=>.cons #[t,rfl] (A_ h)
def Only(H:Hp):Prop:=∀b,H b=none\/∃o xs,H b>>(.ky o (.lst xs))
theorem Lb{mg mb:Str->Option aA}{CX:Kv}{k:Nat}{fa: ay}{sp:Sp}{s₁:aK}{vs:!aA}{ns:!Int}
  (KX:K.In s₁.heap)(Lc:s₁.heap.Ns mainGlobals mg)(hb:s₁.heap.Ns builtinsNs mb)(hbb:∀x:Str,x≠"__name__"->mb x=bootBuiltins x)(zaL:s₁.heap.NoLimit)(hg:s₁.gens=#[])
  (ha:s₁.heap.get? a=some { cls:=.type "list",data:=.seq vs.toArray })(hi:Aj vs ns)(hl:ns.length<=sizeLine)(hr:ei k callerA)
  (F:∀base:cI,K.In base->base.Ns mainGlobals mg->dZ P w K mg base CX k fa fd [x] sp)(WM:∀(s:aK)(u:aA),BindsTo s fd #[[u],[]] [(x,u)])
  (yk:∀H:Hp,Only H->jb K H a (ns.map V.int)->sp [.ref a] H (λv _=>v=.bl true) λ_ _ _=>False)
  (hCX:∀H e s',CX [] H s₁ (λ_ _ _=>False) e s'->False):
  codeAny (model P w) callerA (.call (.ref fa) #[[.ref a],[]]) (λr s'=>r=.ok (.ret (.bool true))/\OldK s₁.heap s'.heap/\s'.os=s₁.os/\tX s'.gens) s₁:=by
 let rv:=A_ hi;let zaN:=hi.length;let core:∀H:Hp,Only H->jb K H a (ns.map V.int)->uQ P w H s₁.heap->(∀b,H b≠none->b=a)->(H a≠none->K.lookup a=none)->
   codeAny (model P w) callerA (.call (.ref fa) #[[.ref a],[]]) (λr s'=>r=.ok (.ret (.bool true))/\OldK s₁.heap s'.heap/\s'.os=s₁.os/\tX s'.gens) s₁:=by
  intro H hO hS hok hA hK;let HL:∀{b:ay}{o:Obj},s₁.heap.get? b>>o->H b=none->(Fw s₁.heap H).get? b>>o:=λe n=>KL e n;let Ww:∀{b:ay}{o:Obj}{es:Array fU}{ep:Nat},s₁.heap.get? b>>o->o.data=.dict es ep->H b=none:=λ{b o es ep}e d=>by
   cases q:H b with
   |none=>rfl
   |some u=>let e':=hA b (by rw[q];simp);subst e';rw[ha]at e;cases e;let d':=d;cases d'
  let ZD:∀{b:ay}{m:Str->Option aA},s₁.heap.Ns b m->(Fw s₁.heap H).Ns b m:=λ{b m}#[o,es,ep,e,d,r]=>#[o,es,ep,HL e (Ww e d),d,r];let hKb:=λb o e=>HL (KX b o e) (by
   cases q:H b with
   |none=>rfl
   |some u=>let e':=hA b (by rw[q];simp);subst e';rw[hK (by rw[q];simp)]at e;cases e);let e0:FN P w K mg (Fw s₁.heap H) callerA [] s₁ H:=#[rfl,#[hKb,ZD Lc,#[mb,ZD hb,hbb],let#[mc,h1,h2]:=zaL;#[mc,ZD h1,h2]],λb o e=>Ob e,Nat.le_of_eq (IZ _ _),trivial,λb hb=>qQ7 (show b∈([])from hb) (by simp),hok,.of_eq hg];refine oY ((F _ hKb (ZD Lc)).run callerA [] s₁ H #[_,[]] [.ref a] [.ref a] _ _ hr e0 (WM s₁ (.ref a)) (.cons rfl .nil) (yk H hO hS)) λr s' h=>?_;cases r with
  |error e=>exact(hCX H e s' h).elim
  |ok fl=>
   cases fl with
   |next=>exact gB h
   |brk=>exact gB h
   |cont=>exact gB h
   |ret u=>
    let#[v,H',os,bare,un,zaO,r',q]:=h;let q':=q;subst q';obtain rfl:u=aA.bool true:=r';refine#[rfl,OldK.of_keep λb o e=>?_,os,bare];cases q:H b with
    |none=>exact un.keep b o e q (by intro z;exact qQ7 (show b∈([])from z) (by simp)) (by simp)
    |some u=>
     rcases hO b with z|⟨ob,xs,z⟩
     .rw[q]at z;cases z
     .let z2:=un.ub b ob _ z;let#[e1,_]:=hok b _ z;let#[e2,_]:=zaO b _ z2;rw[e]at e1;cases e1;exact e2
 cases hk:K.lookup a with
 |some o=>let e:=KX a o hk;rw[ha]at e;cases e;refine core (λ_=>none) (λ_=>.inl rfl) (.inr #[_,_,_,hk,rfl,rfl,rfl,[bJ,zaN]▸hl,by simpa using rv]) (λb u z=>by let z':none>>u:=z;cases z') (λb z=>qQ7 rfl z) λz=>qQ7 rfl z
 |none=>
  refine core (λb=>if b=a then some (.ky { cls:=.type "list",data:=.seq vs.toArray } (.lst _))else none) (λb=>?_) (.inl (.inr #[_,qQ3 rfl])) (λb u z=>?_) (λb z=>?_) λ_=>hk
  .by_cases hb:b=a
   .exact .inr #[_,_,qQ3 hb]
   .exact .inl (qQ2 hb)
  .by_cases hb:b=a
   .let z':=(qQ3 hb).symm.trans z;cases z';subst hb;exact#[ha,[ae]▸hl,vs,_,rv,ha]
   .let z':=(qQ2 hb).symm.trans z;cases z'
  .by_cases hb:b=a
   .exact hb
   .exact qQ7 (qQ2 hb) z
theorem OJ{l:PySem.W.OpenLaw}{n k:Nat}{q:bx}{loose:!Str}{XP:(Str->Option aA)->cI->Prop}{YP:b_->cI->Prop}{d:DefRec}{K:BM->aj}{CX:b_->Kv}{sp:b_->Sp}
  (hn:l.most>>n)(Zw:n<=sizeLine)(WL:d.params.defaults=[])(hr:ei k callerA)
  (hY:∀(w:b_)(h:cI),YP w h->(K w.params).In h)
  (F:∀(w:b_)(mg:Str->Option aA)(fa:ay)(h:cI),(K w.params).In h->h.Ns mainGlobals mg->mg d.name>>(.ref fa)->
   ∃fd:eE,(∀(s:aK)(u:aA),BindsTo s fd #[[u],[]] [(x,u)])/\
    ∀base:cI,(K w.params).In base->base.Ns mainGlobals mg->dZ l.prog w (K w.params) mg base (CX w) k fa fd [x] (sp w))
  (yk:∀(w:b_)(H:Hp)(a:ay)(ns:!Int),ns.length<=n->Only H->jb (K w.params) H a (ns.map V.int)->sp w [.ref a] H (λv _=>v=.bl true) λ_ _ _=>False)
  (hCX:∀(w:b_)(H:Hp)(s:aK)(e:aA)(s':aK),CX w [] H s (λ_ _ _=>False) e s'->False) :
  PySem.W.WalkO q loose XP YP l.row.toRowW d [] (λf vs=>PySem.call f vs):=by refine Att.DP hn WL λw s₀ s₁ mg mb fa o pm cd doc a vs ns G Y ho hd Od Kx Tf hints hlen hg=>?_;let KX:=hY w _ Y;let#[fd,hb,hF]:=F w mg fa _ KX G.T.g Kx;exact Lb KX G.T.g G.T.b G.T.builtins G.T.nolimit hg Tf hints ∅ hr hF hb (λH hO hS=>yk w H a ns hlen hO hS) λH e s'=>hCX w H s₁ e s'
def inClass(s:eO)(j:Nat):eO:=match s with
 | .ClassDef _ _ _ body _ _ _ _ _ _ _=>body.getD j (.Pass #[0,0,0,0])
 |_=>.Pass #[0,0,0,0]
def pZ(s:eO):Arguments:=match s with
 | .FunctionDef _ a _ _ _ _ _ _ _ _=>a
 |_=>{ posonlyargs:=[],args:=[],vararg:=none,kwonlyargs:=[],kw_defaults:=[],kwarg:=none,defaults:=[] }
def lD(s:eO):!eO:=match s with
 | .FunctionDef _ _ b _ _ _ _ _ _ _=>b
 |_=>[]
def bG(s:eO):jx:=match s with
 | .FunctionDef _ _ _ _ _ _ sc _ _ _=>sc
 |_=>{ kind:=.function,names:=[],isGenerator:=false,isCoroutine:=false }
abbrev jL:Kv:=λ_ _ _ _ _ _=>False
abbrev E0:XK:=λ_ _ _=>False
theorem xj:yN jL X E0:=λ_ _ _ _ _ _ _ h=>h.elim
structure kE(K:aj)(x qual:Str)(st:eO)(f:ay)(fd:eE):Prop where
 ex:∃(oc:aA)(od:Option ay)(kV doc pm:aA)(an:Option ay)(gu ct:aA)(K4:Array (Option aA)),
  fd=iC x qual (pZ st) (lD st) (bG st) .none kV doc pm an gu ct/\K.lookup f>>#[oc,od,.func fd,K4]/\nr K gu qual=true
 kp:hZ K (.ref f)=true
section
variable{P:bx}{w:b_}{K:aj}{mg:Str->Option aA}{base:cI}
theorem kE.ok{N: !Str}{k:Nat}{sp:Sp}(F:kE K x qual st f fd)(S:cw N ps (bG st))(len:∀vs H Q E,sp vs H Q E->vs.length=ps.length)
  (K5:∀(gu:aA)(A:dz)(outer:!Env)(s:aK)(H:Hp)(vs:!V)(Q:VK)(E:XK),ei k (A.deeper (envOfC qual (bG st) s.heap.objs.size f gu))->sp vs H Q E->
   ∃t,Hw (B4 jL P w K mg base N qual (bG st) f gu A outer s H E).Q6 (lD st) t/\t { nx:=λ_ H'=>Q .non H',rt:=Q } (start N vs) H):dZ P w K mg base jL (k+1) f fd ps sp:=by let#[oc,od,kV,doc,pm,an,gu,ct,K4,rfl,lk,Od]:=F.ex;refine Wx lk Od S len λA outer s H vs Q E hr yk=>?_;let#[t,h,q]:=K5 gu A outer s H vs Q E hr yk;exact#[t,h.Q6,q]
theorem kE.binds(F:kE K x qual st f fd)
  (h:∀(kV doc pm:aA)(an:Option ay)(gu ct:aA)(us:!aA),us.length=ps.length->bindArgs (iC x qual (pZ st) (lD st) (bG st) .none kV doc pm an gu ct) #[us,[]]=pure (ps.zip us)):Binds K fd ps []:=by let#[oc,od,kV,doc,pm,an,gu,ct,K4,rfl,lk,Od]:=F.ex;exact .all (h kV doc pm an gu ct)
theorem Ld{oc:aA}{od an:Option ay}{K4:Array (Option aA)}{kV doc pm gu ct:aA}(l:K.lookup f>>#[oc,od,.func (iC x qual (pZ st) (lD st) (bG st) .none kV doc pm an gu ct),K4])
  (c:nr K gu qual=true)(k:hZ K (.ref f)=true):kE K x qual st f (iC x qual (pZ st) (lD st) (bG st) .none kV doc pm an gu ct):=#[#[oc,od,kV,doc,pm,an,gu,ct,K4,rfl,l,c],k]
end
section
variable{X:Cx}
theorem pv(i:Nat)(hN:tE X i x:=by ac_rfl):PE X (.Name x pos) (Sz i):=vL hN
end
theorem OL{A B:Prop}(h:B):if false=true then A else B:=by exact h
theorem OO{A B:Prop}(h:A):if true=true then A else B:=by exact h
def cz(H H':Hp):Prop:=∀b o,H b>>o->H' b>>o
theorem cz.refl(H:Hp):cz H H:=λ_ _ h=>h
theorem cz.trans{H1 H2: Hp}(a:cz H H1)(b:cz H1 H2):cz H H2:=λc o h=>b c o (a c o h)
theorem cz.free(e:cz H H'){l:ay}(h:H' l=Option.none):H l=Option.none:=by
 cases q:H l with
 |none=>rfl
 |some o=>rw[e l o q]at h;cases h
theorem cz.seq{xs:!V}(e:cz H H')(h:jb K H a xs):jb K H' a xs:=by
 rcases h with(h|⟨o,h⟩)|h
 .exact .inl (.inl (e _ _ h))
 .exact .inl (.inr #[o,e _ _ h])
 .exact .inr h
section
variable{κ:Type}[DecidableEq κ]
def gW(kvs:!(κ×V))(k:κ):Option V:=(kvs.find? λkv=>decide (kv.1=k)).map (·.2)
def putK(kvs:!(κ×V))(k:κ)(v:V):!(κ×V):=
 if(kvs.any λkv=>decide (kv.1=k))=true then kvs.map (λkv=>if kv.1=k then(kv.1,v)else kv)else kvs ++ [(k,v)]
theorem kF{p:κ×V}{r:!(κ×V)}{k:κ}(e:p.1=k):gW (p::r) k>>p.2:=by simp[gW,dW,e]
theorem h8{p:κ×V}{r:!(κ×V)}{k:κ}(e:¬p.1=k):gW (p::r) k=gW r k:=by simp[gW,dW,e]
theorem yQ(k:κ):∀kvs:!(κ×V),(kvs.any λkv=>decide (kv.1=k))=(gW kvs k).isSome
 | []=>rfl
 |p::r=>by
  rw[lY];by_cases e:p.1=k
  .simp[kF e,qQ1 e,Bool.true_or,Option.isSome_some]
  .rw[h8 e,qQ0 e,Bool.false_or];exact yQ k r
theorem lK(kvs:!(κ×V))(k:κ)(v:V):(putK kvs k v).length<=kvs.length+1:=by
 unfold putK;split
 .rw[ae];omega
 .rw[aX,bH,cR];omega
theorem o7{kvs:!(κ×V)}{k:κ}(v:V)(h:gW kvs k=none):putK kvs k v=kvs ++ [(k,v)]:=by unfold putK;rw[yQ,h];exact qQ2 ⋯
theorem tD.o8{u:Option aA}(r:tD o u):o.isSome=u.isSome:=by
 cases o with
 |none=>cases u with
  |none=>rfl
  |some _=>exact(show False from r).elim
 |some _=>cases u with
  |none=>exact(show False from r).elim
  |some _=>rfl
theorem tD.getD{u:Option aA}{d:V}{d':aA}(r:tD o u)(rd:RelV d d'):RelV (o.getD d) (u.getD d'):=by
 cases o with
 |none=>cases u with
  |none=>exact rd
  |some _=>exact(show False from r).elim
 |some _=>cases u with
  |none=>exact(show False from r).elim
  |some _=>exact r
theorem KV.val{kvs:!(κ×V)}{vs:!(κ×aA)}(r:KV kvs vs)(k:κ):tD (gW kvs k) (valueAt vs k):=by
 induction r with
 |nil=>exact e8
 | @cons p q ps qs h t ih=>
  let#[h1,h2]:=h;by_cases e:p.1=k
  .let e':=h1.symm.trans e;let b:valueAt (q::qs) k>>q.2:=by simp[valueAt,dW,e']
   rwa[kF e,b]
  .let e':¬q.1=k:=λz=>e (h1.trans z);let b:valueAt (q::qs) k=valueAt qs k:=by simp[valueAt,dW,e']
   rwa[h8 e,b]
theorem KV.any{kvs:!(κ×V)}{vs:!(κ×aA)}(r:KV kvs vs)(k:κ):(kvs.any λkv=>decide (kv.1=k))=vs.any λkv=>decide (kv.1=k):=by
 induction r with
 |nil=>rfl
 |cons h t ih=>rw[lY,lY,ih,h.1]
theorem KV.repl{kvs:!(κ×V)}{vs:!(κ×aA)}(r:KV kvs vs)(k:κ)(ry:RelV y u):
  KV (kvs.map λkv=>if kv.1=k then(kv.1,y)else kv) (vs.map λkv=>if kv.1=k then(kv.1,u)else kv):=by
 induction r with
 |nil=>exact .nil
 | @cons p q ps qs h t ih=>
  rw[aq,aq];refine .cons ?_ ih;let#[h1,h2]:=h;by_cases e:p.1=k
  .rw[qQ3 e,qQ3 (h1.symm.trans e)];exact#[h1,ry]
  .rw[qQ2 e,qQ2 (λz=>e (h1.trans z))];exact#[h1,h2]
theorem KV.put{kvs:!(κ×V)}{vs:!(κ×aA)}(r:KV kvs vs)(k:κ)(ry:RelV y u):KV (putK kvs k y) (stored vs k u):=by
 unfold putK stored;rw[r.any k];by_cases e:(vs.any λkv=>decide (kv.1=k))=true
 .rw[qQ3 e,qQ3 e];exact r.repl k ry
 .rw[qQ2 e,qQ2 e];exact yC.snoc r #[rfl,ry]
theorem KV.keys{kvs:!(κ×V)}{vs:!(κ×aA)}(r:KV kvs vs):kvs.map (·.1)=vs.map (·.1):=by
 induction r with
 |nil=>rfl
 |cons h t ih=>rw[aq,aq,ih,h.1]
theorem KV.length{kvs:!(κ×V)}{vs:!(κ×aA)}(r:KV kvs vs):kvs.length=vs.length:=tW r
end
theorem rG{k:Key}(r:RelV (kV k) u):(eG P w).is k u=true:=by
 cases k with
 |inl i=>let#[t,e]:=r;subst e;exact DE P w i t
 |inr x=>let#[t,e]:=r;subst e;exact rA P w x t
theorem v8:∀{ks:!Key}{us:!aA},dA (ks.map kV) us->ItemsAre (eG P w) ks us
 | [],_,r=>by rw[d_]at r;cases r;exact .nil
 |k::ks,_,r=>by
  cases r with
  |cons h t=>exact .cons (rG h) (v8 t)
abbrev KT(H:Hp):!(!Key×V)->!(!Key×ay×aA)->Prop:=yC λp q=>p.1=q.1/\H q.2.1>>(.tup (p.1.map kV))/\RelV p.2 q.2.2
theorem KT.val(r:KT H kvs xs)(k:!Key):tD (gW kvs k) ((atKey xs k).map (·.2)):=by
 induction r with
 |nil=>exact e8
 | @cons p q ps qs h t ih=>
  let#[h1,_,h2]:=h;by_cases e:p.1=k
  .let e':=h1.symm.trans e;let b:atKey (q::qs) k>>q.2:=by simp[atKey,dW,e']
   rwa[kF e,b]
  .let e':¬q.1=k:=λz=>e (h1.trans z);let b:atKey (q::qs) k=atKey qs k:=by simp[atKey,dW,e']
   rwa[h8 e,b]
theorem KT.repl(r:KT H kvs xs)(k:!Key)(ry:RelV y u):
  KT H (kvs.map λkv=>if kv.1=k then(kv.1,y)else kv) (xs.map (putAt k u)):=by
 induction r with
 |nil=>exact .nil
 | @cons p q ps qs h t ih=>
  rw[aq,aq];refine .cons ?_ ih;let#[h1,h2,h3]:=h;unfold putAt;by_cases e:p.1=k
  .rw[qQ3 e,qQ3 (h1.symm.trans e)];exact#[h1,h2,ry]
  .rw[qQ2 e,qQ2 (λz=>e (h1.trans z))];exact#[h1,h2,h3]
theorem KT.put(r:KT H kvs xs)(k:!Key)(hb:H b>>(.tup (k.map kV)))(ry:RelV y u):
  KT H (putK kvs k y) (storedH xs k b u):=by
 let e:(kvs.any λkv=>decide (kv.1=k))=(atKey xs k).isSome:=by rw[yQ,(r.val k).o8,vH]
 unfold putK storedH;rw[e];by_cases q:(atKey xs k).isSome=true
 .rw[qQ3 q,qQ3 q];exact r.repl k ry
 .rw[qQ2 q,qQ2 q];exact yC.snoc r #[rfl,hb,ry]
theorem KT.keeps(r:KT H kvs xs)(ht:∀b ys,H b>>(.tup ys)->H' b>>(.tup ys)):KT H' kvs xs:=
 yC.Oa r λ_ _ z=>#[z.1,ht _ _ z.2.1,z.2.2]
section
variable{P:bx}{w:b_}{H:Hp}{h:cI}{a:ay}
theorem Ra{u:HO}(ok:uQ P w H h)(e:Rd H a u):fV P w H h a u:=e.ok ok
theorem xk{kvs:!(Key×V)}(ok:uQ P w H h)(e:Rd H a (.dK kvs)):kvs.length<=sizeLine/\(a==sysModules)=false/\∃vs,KV kvs vs/\h.DictOf (eG P w) a vs:=
 show fV P w H h a (.dK kvs)from Ra ok e
theorem Ba{kvs:!(Key×V)}(ok:uQ P w H h)(e:H a>>(.dK kvs)):kvs.length<=sizeLine/\(a==sysModules)=false/\∃vs,KV kvs vs/\h.DictOf (eG P w) a vs:=xk ok (.inl e)
theorem v9{ks:!Key}(ok:uQ P w H h)(e:H a>>(.tup (ks.map kV))):(tupleKind (eG P w)).is h ks a:=by let#[_,its,r,o,h1,h2,n,h3]:=(ok a _ e);exact#[o,_,n,h1,h2,h3,by simpa using v8 r]
theorem xl(ok:uQ P w H h)(e:Rd H a (.dT kvs)):kvs.length<=sizeLine/\(a==sysModules)=false/\
  ∃xs,KT H kvs xs/\h.DictOfH (tupleKind (eG P w)) a xs:=by
 let#[z,y,xs,r,o,es,ep,h1,h2,h3,h4,h5]:=(Ra ok e);refine#[z,y,xs,r,o,es,ep,h1,h2,h3,h4,λx hx=>?_,h5];let all:∀{l:!(!Key×V)}{m:!(!Key×ay×aA)},KT H l m->∀x∈m,(tupleKind (eG P w)).is h x.1 x.2.1:=by
  intro l m q;induction q with
  |nil=>intro x hx;exact nomatch hx
  | @cons p q ps qs hq t ih=>
   intro x hx;rcases ax.mp hx with e|hx
   .subst e;exact v9 ok ([<-hq.1]▸hq.2.1)
   .exact ih x hx
 exact all r x hx
theorem WN(ok:uQ P w H h)(e:H a>>(.dT kvs)):kvs.length<=sizeLine/\(a==sysModules)=false/\
  ∃xs,KT H kvs xs/\h.DictOfH (tupleKind (eG P w)) a xs:=xl ok (.inl e)
end
def rH(H:Hp)(a:ay)(y:V)(r:Option V):Prop:=
 (∃kvs k,Rd H a (.dK kvs)/\y=kV k/\r=gW kvs k)\/∃kvs k b,Rd H a (.dT kvs)/\y=.ref b/\H b>>(.tup (k.map kV))/\r=gW kvs k
def As(H:Hp)(a:ay)(y v:V)(H':Hp):Prop:=
 (∃kvs k,H a>>(.dK kvs)/\y=kV k/\kvs.length<sizeLine/\H'=upd H a (.dK (putK kvs k v)))\/
 ∃kvs k b,H a>>(.dT kvs)/\y=.ref b/\H b>>(.tup (k.map kV))/\kvs.length<sizeLine/\H'=upd H a (.dT (putK kvs k v))
theorem rH.k{kvs:!(Key×V)}{k:Key}(e:H a>>(.dK kvs)):rH H a (kV k) (gW kvs k):=.inl #[kvs,k,.inl e,rfl,rfl]
theorem rH.t{k:!Key}(e:H a>>(.dT kvs))(eb:H b>>(.tup (k.map kV))):rH H a (.ref b) (gW kvs k):=.inr #[kvs,k,b,.inl e,rfl,eb,rfl]
theorem As.k{kvs:!(Key×V)}{k:Key}{v:V}(e:H a>>(.dK kvs))(hl:kvs.length<sizeLine):As H a (kV k) v (upd H a (.dK (putK kvs k v))):=.inl #[kvs,k,e,rfl,hl,rfl]
theorem As.t{k:!Key}{v:V}(e:H a>>(.dT kvs))(eb:H b>>(.tup (k.map kV)))(hl:kvs.length<sizeLine):
  As H a (.ref b) v (upd H a (.dT (putK kvs k v))):=.inr #[kvs,k,b,e,rfl,eb,hl,rfl]
section
variable{X:Cx}{pins:!(ay×Obj)}{σ:St}{H:Hp}{s:aK}{a:ay}{y v:V}{u r:aA}{o:Option V}{A:dz}{E:aA->aK->Prop}
theorem Inv.big(I:Inv X pins σ H s):sysModules<s.heap.objs.size:=by exact xR ⋯ ((I.mod.glob.keeps I.bk).lt)
theorem Jm(hu:A.units+1<cLine)(I:Inv X pins σ H s)(g:rH H a y (some v))(ry:RelV y u)(h:∀w' s',Inv X pins σ H s'->RelV v w'->Q w' s'):
  wpAny (model X.prog X.w) A (getItem (.ref a) u) Q E s:=by
 rcases g with⟨kvs,k,e,ey,l⟩|⟨kvs,k,b,e,ey,eb,l⟩
 .subst ey;obtain⟨z,hd,vs,rel,dd⟩:=xk I.hok e;obtain⟨w',hw,pP⟩:=tD.some_of ([l]▸rel.val k);exact wpAny_getItem_of (rG ry) dd.mapOf hw (h w' _ (I.tok _) pP)
 .subst ey
  cases(show u=cC b from ry)
  obtain⟨z,hd,xs,rel,dd⟩:=xl I.hok e;obtain⟨w',hw,pP⟩:=tD.some_of ([l]▸rel.val k);obtain⟨p,hp,WO⟩:=qG.mp hw;refine wpAny_getItem_heap (je hu) (v9 I.hok eb) dd hp ?_;rw[WO];exact h w' _ (I.tok _) pP
theorem zaP(hu:A.units+1<cLine)(I:Inv X pins σ H s)(g:rH H a y o)(ry:RelV y u)(h:∀s',Inv X pins σ H s'->Q (.bool o.isSome) s'):
  wpAny (model X.prog X.w) A (compareOp .In u (.ref a)) Q E s:=by
 rcases g with⟨kvs,k,e,ey,l⟩|⟨kvs,k,b,e,ey,eb,l⟩
 .subst ey;let#[z,hd,vs,rel,dd]:=xk I.hok e;refine wpAny_in_of (rG ry) hd dd.mapOf ?_;rw[<-(rel.val k).o8,<-l];exact h _ (I.tok _)
 .subst ey
  cases(show u=cC b from ry)
  let#[z,hd,xs,rel,dd]:=xl I.hok e;refine wpAny_in_heap (je hu) (v9 I.hok eb) hd dd ?_;let q:=(rel.val k).o8;rw[vH]at q;rw[<-q,<-l];exact h _ (I.tok _)
theorem OQ(hu:A.units+1<cLine)(I:Inv X pins σ H s)(g:rH H a y o)(ry:RelV y u)(h:∀s',Inv X pins σ H s'->Q (.bool (not o.isSome)) s'):
  wpAny (model X.prog X.w) A (compareOp .NotIn u (.ref a)) Q E s:=by
 rcases g with⟨kvs,k,e,ey,l⟩|⟨kvs,k,b,e,ey,eb,l⟩
 .subst ey;let#[z,hd,vs,rel,dd]:=xk I.hok e;refine wpAny_notIn_of (rG ry) hd dd.mapOf ?_;rw[<-(rel.val k).o8,<-l];exact h _ (I.tok _)
 .subst ey
  cases(show u=cC b from ry)
  let#[z,hd,xs,rel,dd]:=xl I.hok e;refine wpAny_notIn_heap (je hu) (v9 I.hok eb) hd dd ?_;let q:=(rel.val k).o8;rw[vH]at q;rw[<-q,<-l];exact h _ (I.tok _)
theorem uZ{t':Nat}{ob:HO}(I:Inv X pins σ H s)(mu:V1 (H a))(hs:gk a s.heap h')(he:∃q,h'.get? a>>q)(new:fV X.prog X.w (upd H a ob) h' a ob):
  Inv X pins σ (upd H a ob) { s with heap:=h',toks:=t' }:=
 I.write mu (.inl rfl) (λb q hb z=>(hs.2 b hb).trans z) he new
theorem wa{kvs:!(Key×V)}{vs:!(Key×aA)}(z:kvs.length<=sizeLine)(hd:(a==sysModules)=false)(rel:KV kvs vs)(dd:h'.DictOf (eG P w) a vs):
  fV P w H' h' a (.dK kvs):=#[z,hd,vs,rel,dd]
theorem Jn{Q:Unit->aK->Prop}(hu:A.units+1<cLine)(I:Inv X pins σ H s)(g:As H a y v H')(ry:RelV y u)(rv:RelV v r)(h:∀s',Inv X pins σ H' s'->Q () s'):
  wpAny (model X.prog X.w) A (setItem (.ref a) u r) Q E s:=by
 rcases g with⟨kvs,k,e,ey,l,eH⟩|⟨kvs,k,b,e,ey,eb,l,eH⟩
 .subst ey eH;let#[z,hd,vs,rel,dd]:=Ba I.hok e;let hz:vs.length<=sizeLine:=[<-rel.length]▸z;let hl:(putK kvs k v).length<=sizeLine:=by let:=lK kvs k v;omega
  refine wpAny_setItem_pairs (rG ry) dd λh' DQ hs=>h _ ?_;let he:∃q,h'.get? a>>q:=let#[q,_,_,hq,_]:=DQ;#[q,hq];exact uZ I ([e]▸e8) hs he (wa hl hd (rel.put k rv) DQ)
 .subst ey eH
  cases(show u=cC b from ry)
  let#[z,hd,xs,rel,dd]:=WN I.hok e;let hz:xs.length<=sizeLine:=[<-tW rel]▸z;refine wpAny_setItem_heap (hsz:=hz) (je hu) (v9 I.hok eb) dd λh' DQ hs=>h _ ?_;let#[q,es,ep,hq,h2,h3,h4,_,h5]:=DQ;refine uZ I ([e]▸e8) hs #[q,hq] #[(by let:=lK kvs k v;omega),hd,_,(rel.put k eb rv).keeps λc ys ec=>?_,q,es,ep,hq,h2,h3,h4,h5];rwa[aI (V0 ec e (λz=>nomatch z))]
end
section
variable{X:Cx}{pins:!(ay×Obj)}{σ:St}{H:Hp}{s:aK}{a:ay}{kvs:!(Key×V)}{k:Key}{u:aA}{A:dz}{E:aA->aK->Prop}
theorem OS(I:Inv X pins σ H s)(e:H a>>(.dK kvs))(h:∀s',Inv X pins σ (upd H a (.dK [])) s'->Q .none s'):wpAny (model X.prog X.w) A (call (.builtin "dict.clear") [.ref a]) Q E s:=by let#[z,hd,vs,rel,dd]:=Ba I.hok e;refine Ak AU dd.typeIs PySem.F.entry_dict_clear (PySem.F.args_dict_clear_1 _) (meets_dict_clear (eG X.prog X.w) a) #[vs,dd,[<-rel.length]▸z,λh' DQ hs=>h _ ?_];let he:∃q,h'.get? a>>q:=let#[q,_,_,hq,_]:=DQ;#[q,hq];exact uZ (t':=s.toks) I ([e]▸e8) hs he (wa (aW _) hd .nil DQ)
end
def B8(i:bw):Prop:=∀ov iv,subscripted i false ov iv=operate [ov,iv] (getItem ov iv)
theorem B9{prog:bx}{A:dz}{E:aA->aK->Prop}{env:Env}{value slice:bw}{T id:String}
  (hl:typeLookup (.type T) "__getitem__"=pure (some (.builtin id)))(hs:B8 slice)
  (h:wpAny (model prog w) A (eval value env) (λo s₁=>wpAny (model prog w) A (eval slice env) (λi s₂=>s₂.TypeIs o T/\wpAny (model prog w) A (getItem o i) Q E s₂) E s₁) E s):
  wpAny (model prog w) A (eval (.Subscript value slice pos) env) Q E s:=by
 refine Subscript_ (gS h (λo s₁ h₁=>gS h₁ (λi s₂ h₂=>?_) λ_ _ x=>x) λ_ _ x=>x);let#[hT,h₂]:=h₂;refine ao ?_;refine ao (wpAny_specialOf hT hl ?_);let fin:wpAny (model prog w) A (subscripted slice false o i) (λr s₃=>wpAny (model prog w) A (letTemporaryGo value o r >>= λ_=>pure r) Q E s₃) E s₂:=by rw[hs o i];exact wpAny_operating (gS h₂ (λr s₃ h₃=>ao (wpAny_letTemporaryGo (aU h₃))) λ_ _ x=>x)
 first
  |exact aU (ao fin)
  |exact ao (aU (ao fin))
  |exact ao fin
theorem DS{σ:St}(I:Inv X pins σ H s)(g:rH H a y o):s.TypeIs (.ref a) "dict":=by
 rcases g with⟨kvs,k,e,_,_⟩|⟨kvs,k,b,e,_,_,_⟩
 .let#[_,_,vs,_,dd]:=xk I.hok e;exact dd.typeIs
 .let#[_,_,xs,_,dd]:=xl I.hok e;exact dd.typeIs
def WQ(td ty:TE):TE:=λσ H Q=>td σ H λx H1=>ty σ H1 λy H2=>∃a v,x=.ref a/\rH H2 a y (some v)/\Q v H2
def zaQ(ty td:TE):TE:=λσ H Q=>ty σ H λy H1=>td σ H1 λx H2=>∃a o,x=.ref a/\rH H2 a y o/\Q (.bl o.isSome) H2
def OU(ty td:TE):TE:=λσ H Q=>ty σ H λy H1=>td σ H1 λx H2=>∃a o,x=.ref a/\rH H2 a y o/\Q (.bl (not o.isSome)) H2
def WR(td ty tv:TE):TS:=λD σ H=>tv σ H λv H1=>td σ H1 λx H2=>ty σ H2 λy H3=>∃a H4,x=.ref a/\As H3 a y v H4/\D.nx σ H4
section
variable{X:Cx}{o i e value:bw}{pos pos' zaz:Pos}{td ty tv:TE}
theorem B_(hu:X.A.units+1<cLine)(ho:PE X o td)(hi:PE X i ty)(hs:B8 i):PE X (.Subscript o i pos) (WQ td ty):=by intro pins s σ H Q I h;refine B9 nX.lookup hs (fF (ho pins s σ H _ I h) λu s1 #[x,H1,I1,rx,q1]=>fF (hi pins s1 σ H1 _ I1 q1) λiv s2 #[y,H2,I2,ry,a,v,ex,g,q2]=>?_);subst ex;obtain rfl:u=cC a:=rx;exact#[DS I2 g,Jm hu I2 g ry λw' s3 I3 pP=>#[v,H2,I3,pP,q2]]
theorem Le(hu:X.A.units+1<cLine)(hi:PE X i ty)(ho:PE X o td):PC X .In i o (zaQ ty td):=by intro pins s σ H Q I h;refine fF (hi pins s σ H _ I h) λiv s1 #[y,H1,I1,ry,q1]=>fF (ho pins s1 σ H1 _ I1 q1) λu s2 #[x,H2,I2,rx,a,ov,ex,g,q2]=>?_;subst ex;obtain rfl:u=cC a:=rx;exact zaP hu I2 g ry λs3 I3=>#[.bl ov.isSome,H2,I3,rfl,q2]
theorem Jo(hu:X.A.units+1<cLine)(hi:PE X i ty)(ho:PE X o td):PC X .NotIn i o (OU ty td):=by intro pins s σ H Q I h;refine fF (hi pins s σ H _ I h) λiv s1 #[y,H1,I1,ry,q1]=>fF (ho pins s1 σ H1 _ I1 q1) λu s2 #[x,H2,I2,rx,a,ov,ex,g,q2]=>?_;subst ex;obtain rfl:u=cC a:=rx;exact OQ hu I2 g ry λs3 I3=>#[.bl (not ov.isSome),H2,I3,rfl,q2]
theorem ym(hu:X.A.units+1<cLine)(ho:PE X o td)(hi:PE X i ty)(hv:PE X value tv)(hs:A0 X pos value (.Subscript o i pos')):
  PS X (.Assign [.Subscript o i pos'] value pos) (WR td ty tv):=by intro pins s σ H D I h;refine wpAny_Assign_Subscript (fF (hv pins s σ H _ I h) λr s1 #[v,H1,I1,rv,q1]=>fF (ho pins s1 σ H1 _ I1 q1) λu s2 #[x,H2,I2,rx,q2]=>fF (hi pins s2 σ H2 _ I2 q2) λiv s3 #[y,H3,I3,ry,a,H4,ex,g,q3]=>?_) hs;subst ex;obtain rfl:u=cC a:=rx;exact Jn hu I3 g ry rv λs4 I4=>#[σ,H4,I4,q3]
end
theorem DT(h:cI)(hb:sysModules<h.objs.size):fV P w H (h.push { cls:=.type "dict",data:=.dict #[] }) h.objs.size (.dK []):=
 #[aW _,beq_eq_false_iff_ne.mpr (bF (a8 hb)),[],.nil,cI.DictOf.new h]
theorem Lf(h:cI)(hb:sysModules<h.objs.size):fV P w H (h.push { cls:=.type "dict",data:=.dict #[] }) h.objs.size (.dT []):=
 #[aW _,beq_eq_false_iff_ne.mpr (bF (a8 hb)),[],.nil,_,#[],0,bh _ rfl,#[rfl,rfl,rfl],rfl,rfl,gD]
def Tg:TE:=λ_ H Q=>∀p,H p=none->Q (.ref p) (upd H p (.dK []))
def Ti:TE:=λ_ H Q=>∀p,H p=none->Q (.ref p) (upd H p (.dT []))
section
variable{X:Cx}{pos:Pos}
theorem o9:PE X (.Dict [] [] pos) Tg:=λpins s σ H Q I h=>wpAny_Dict_empty #[.ref s.heap.objs.size,_,I.laid (λ_ _ q=>aB _ q) ∅ (DT s.heap I.big),rfl,h _ (I.hok.fresh ∅)]
theorem yR:PE X (.Dict [] [] pos) Ti:=λpins s σ H Q I h=>wpAny_Dict_empty #[.ref s.heap.objs.size,_,I.laid (λ_ _ q=>aB _ q) ∅ (Lf s.heap I.big),rfl,h _ (I.hok.fresh ∅)]
end
def Ca:!(TE×TE)->St->Hp->(!(V×V)->Hp->Prop)->Prop
 | [],_,H,Q=>Q [] H
 |(tk,tv)::r,σ,H,Q=>tk σ H λx H1=>tv σ H1 λy H2=>Ca r σ H2 λps H3=>Q ((x,y)::ps) H3
abbrev VV:!(V×V)->!(aA×aA)->Prop:=yC λp q=>RelV p.1 q.1/\RelV p.2 q.2
def WT(X:Cx)(pos:Pos)(keys:!(Option bw))(values:!bw)(Jl:!(TE×TE)):Prop:=
 ∀(pins:!(ay×Obj))(s:aK)(σ:St)(H:Hp)(Q:!(V×V)->Hp->Prop),Inv X pins σ H s->Ca Jl σ H Q->
  wpAny (model X.prog X.w) X.A (evalPairs (pairTrees keys values X.env pos)) (λvs s'=>∃ps H',Inv X pins σ H' s'/\VV ps vs/\Q ps H') X.xe s
theorem OV:WT X pos [] [] []:=λpins s σ H Q I h=>pairTrees_nil_walk #[[],H,I,.nil,h]
theorem Lg{k v:bw}{ks:!(Option bw)}{vs:!bw}{tk tv:TE}(hk:PE X k tk)(hv:PE X v tv)(hr:WT X pos ks vs Jl):
  WT X pos (some k::ks) (v::vs) ((tk,tv)::Jl):=λpins s σ H Q I h=>
 pairTrees_cons_walk (fF (hk pins s σ H _ I h) λu s1 #[x,H1,I1,rx,q1]=>fF (hv pins s1 σ H1 _ I1 q1) λw2 s2 #[y,H2,I2,ry,q2]=>fF (hr pins s2 σ H2 _ I2 q2) λws s3 #[ps,H3,I3,rel,q3]=>#[_,H3,I3,.cons #[rx,ry] rel,q3])
def rJ(kvs more:!(Key×V)):!(Key×V):=more.foldl (λacc kv=>putK acc kv.1 kv.2) kvs
theorem KV.merge:∀{more:!(Key×V)}{rs:!(Key×aA)}{kvs:!(Key×V)}{vs:!(Key×aA)},KV more rs->KV kvs vs->KV (rJ kvs more) (merged vs rs):=by
 intro more rs kvs vs r;induction r generalizing kvs vs with
 |nil=>intro q;exact q
 | @cons p q ps qs h t ih=>
  intro r0;let e:KV (putK kvs p.1 p.2) (stored vs q.1 q.2):=by let:=r0.put p.1 h.2;rwa[<-h.1]
  exact ih e
theorem tP:∀(more kvs:!(Key×V)),(rJ kvs more).length<=kvs.length+more.length
 | [],kvs=>by show kvs.length<=kvs.length+0;omega
 |p::r,kvs=>by let h1:=tP r (putK kvs p.1 p.2);let h2:=lK kvs p.1 p.2;show(rJ (putK kvs p.1 p.2) r).length<=_;rw[bH];omega
theorem yS{P:bx}{w:b_}:∀{kvs:!(Key×V)}{ws:!(aA×aA)},VV (kvs.map λkv=>(kV kv.1,kv.2)) ws->∃rs,Carries (eG P w) ws rs/\KV kvs rs
 | [],_,r=>by rw[d_]at r;cases r;exact#[[],e8,.nil]
 |p::kvs,_,r=>by
  cases r with
  | @cons a b as bs h t=>obtain⟨rs,c,q⟩:=yS t;obtain⟨b1,b2⟩:=b;exact#[(p.1,b2)::rs,#[rG h.1,rfl,c],.cons #[rfl,h.2] q]
def WU(Jl:!(TE×TE)):TE:=λσ H Q=>∀p,H p=none->Ca Jl σ (upd H p (.dK [])) λps H2=>H2 p>>(.dK [])/\∃kvs:!(Key×V),ps=kvs.map (λkv=>(kV kv.1,kv.2))/\kvs.length<=15/\Q (.ref p) (upd H2 p (.dK (rJ [] kvs)))
theorem OW{keys:!(Option bw)}{values:!bw}(h:WT X pos keys values Jl)(DN:keys.all (·.isSome)=true)(hl:keys.length=values.length)(h0:keys≠[])
  (h15:keys.length<=15):PE X (.Dict keys values pos) (WU Jl):=by
 intro pins s σ H Q I q;let hn:=I.hok.fresh (aE s.heap.objs.size);let I1:=I.laid (t':=s.toks) (λ_ _ q=>aB _ q) ∅ (DT s.heap I.big);refine wpAny_Dict_walk (knd:=eG X.prog X.w) DN hl h0 h15 (fF (h pins _ σ _ _ I1 (q _ hn)) λws s2 #[ps,H2,I2,rel,e,kvs,ep,lk,q2]=>?_);subst ep;obtain⟨rs,c,rk⟩:=yS rel;obtain⟨z,hd,vs0,r0,dd⟩:=Ba I2.hok e;cases r0;refine#[rs,c,dd,λh' DQ hs=>#[.ref s.heap.objs.size,_,?_,rfl,q2]];let hz:(rJ [] kvs).length<=sizeLine:=by let h1:=tP kvs [];rw[cR]at h1;rw[cM];omega
 let he:∃q,h'.get? s.heap.objs.size>>q:=let#[q,_,_,hq,_]:=DQ;#[q,hq];exact uZ I2 ([e]▸e8) hs he (wa hz hd (rk.merge .nil) DQ)
structure M2(X:Cx)(o:bw)(m:Str)(apos:Pos)(e f:bw)(nY:Pos):Prop where
 base:vK X o m
 few:Ht X nY [e,f]
 line:(apos.endLine==nY.line)=true
 trees:backTo nY (starEach [e,f] X.env)=[(false,eval e X.env),(false,eval f X.env)]
def IsD(H:Hp)(a:ay):Prop:=(∃kvs,Rd H a (.dK kvs))\/∃kvs,Rd H a (.dT kvs)
theorem Lh{σ:St}(I:Inv X pins σ H s)(d:IsD H a):
  s.TypeIs (.ref a) "dict"/\(∀b,cC a=.ref b->∃ob,s.heap.get? b>>ob/\ob.dict=none)/\(a==sysModules)=false:=by
 rcases d with⟨kvs,e⟩|⟨kvs,e⟩
 .let#[_,hd,vs,_,dd]:=xk I.hok e;refine#[dd.typeIs,λb q=>?_,hd];cases q;let#[ob,_,_,h1,h2,_]:=dd;exact#[ob,h1,h2.2.1]
 .let#[_,hd,xs,_,dd]:=xl I.hok e;refine#[dd.typeIs,λb q=>?_,hd];cases q;let#[ob,_,_,h1,h2,_]:=dd;exact#[ob,h1,h2.2.1]
section
variable{X:Cx}{pins:!(ay×Obj)}{σ:St}{H:Hp}{s:aK}{a:ay}{y d:V}{u r:aA}{o:Option V}{A:dz}{E:aA->aK->Prop}
theorem Tj(hu:A.units+1<cLine)(I:Inv X pins σ H s)(g:rH H a y o)(ry:RelV y u)(rd:RelV d r)(h:∀w' s',Inv X pins σ H s'->RelV (o.getD d) w'->Q w' s'):
  wpAny (model X.prog X.w) A (call (.builtin "dict.get") [.ref a,u,r]) Q E s:=by
 rcases g with⟨kvs,k,e,ey,l⟩|⟨kvs,k,b,e,ey,eb,l⟩
 .subst ey;let#[z,hd,vs,rel,dd]:=xk I.hok e;refine Ak qR dd.typeIs BO (AV _ _ _) (meets_dict_get_default _ a (rG ry) hd r) #[_,dd.mapOf,h _ _ (I.tok _) ?_];rw[l];exact(rel.val k).getD rd
 .subst ey
  cases(show u=cC b from ry)
  let#[z,hd,xs,rel,dd]:=xl I.hok e;refine Ak qR dd.typeIs BO (AV _ _ _) (meetsH_dict_get_default (tupleKind _) a b hd r) #[je hu,k,xs,v9 I.hok eb,dd,h _ _ (I.tok _) ?_];rw[l];exact(rel.val k).getD rd
end
def Tn(td ty tx:TE):TE:=λσ H Q=>td σ H λx H1=>∃a,x=.ref a/\IsD H1 a/\ty σ H1 λy H2=>tx σ H2 λz H3=>∃o,rH H3 a y o/\Q (o.getD z) H3
section
variable{X:Cx}{o e f:bw}{apos nY:Pos}{td ty tx:TE}
theorem Li(hu:X.A.units+1<cLine)(ho:PE X o td)(he:PE X e ty)(hf:PE X f tx)(m:M2 X o "get" apos e f nY):PE X (.Call (.Attribute o "get" apos) [e,f] [] nY) (Tn td ty tx):=by
 intro pins s σ H Q I h;refine wpAny_Call_method m.base m.few m.line oZ qR PySem.F.type_dict_get (fF (ho pins s σ H _ I h) λu s1 #[x,H1,I1,rx,a,ex,d,q1]=>?_);subst ex;obtain rfl:u=cC a:=rx;let#[t1,t2,_]:=Lh I1 d;refine#[t1,t2,?_];rw[m.trees];refine kR rfl (tj (kr (fF (he pins s1 σ H1 _ I1 q1) λiv s2 #[y,H2,I2,ry,q2]=>kr (fF (hf pins s2 σ H2 _ I2 q2) λfv s3 #[z,H3,I3,rz,ov,g,q3]=>vN ?_))));exact Tj hu I3 g ry rz λw' s4 I4 pP=>#[_,H3,I4,pP,q3]
end
section
variable{X:Cx}{pins:!(ay×Obj)}{σ:St}{H:Hp}{s:aK}{a:ay}{kvs:!(Key×V)}{A:dz}{E:aA->aK->Prop}
theorem Lj(I:Inv X pins σ H s)(e:Rd H a (.dK kvs))(h:∀p s',H p=none->Inv X pins σ (upd H p (.dK kvs)) s'->Q (.ref p) s'):wpAny (model X.prog X.w) A (call (.type "dict") [.ref a]) Q E s:=by let#[z,hd,vs,rel,dd]:=xk I.hok e;refine kt_call_dict hd dd ([<-rel.length]▸z) λh' DQ hs=>?_;refine h _ _ (I.hok.fresh (aE _)) (I.laid (a:=s.heap.objs.size) (o:=.dK kvs) (t':=s.toks) (λb q hq=>?_) (aE _) (wa z (beq_eq_false_iff_ne.mpr (bF (a8 I.big))) rel DQ));exact(hs.2 b (a8 (aZ hq))).trans (aB _ hq)
end
section
variable{prog:bx}{w:b_}{A:dz}{E:aA->aK->Prop}{s:aK}
end
section
variable{prog:bx}{w:b_}{A:dz}{R:vM->aK->Prop}{I:ay}{fp wr:!ay}{G:Array sZ->Array sZ->Prop}{n:Nat}{P:Nat->aA->Prop}{St:Nat->aK->Prop}
theorem Lk(W:WalksS prog w A.in1 I fp wr G n P St)(S:ay)(Tp:S∉fp)(T:Nat->cI->Prop)(keep:∀i h h',T i h->(∀b o,b∉wr->h.get? b>>o->h'.get? b>>o)->T i h')
  (add:∀i v (s:aK) (Q:Bool->aK->Prop) (E:aA->aK->Prop),i<n->P i v->T i s.heap->(∀h' tk b,s.toks<=tk->gk S s.heap h'->T (i+1) h'->Q b { s with heap:=h',toks:=tk })->wpAny (model prog w) A.in1 (setAdd S v) Q E s):
  ∀(k i:Nat)(s:aK),n-i=k->i<=n->St i s->T i s.heap->(∀s',Moved (S::wr) G s s'->T n s'.heap->R (.ok (.ret .none)) s')->
   codeAny (model prog w) A (.builtin "set.update.loop" #[[.ref S,.ref I],[]]) R s:=by
 let FV:∀b∈wr,b∈S::wr:=λb hb=>aM _ hb;intro k;induction k with
 |zero=>intro i s hk hi I0 hS hR;let Vt:i=n:=∅;subst Vt;refine kU Hj ?_;refine ao (W.done s _ _ I0 λs' hm=>?_);exact aU (hR s' (hm.mono FV) (keep _ _ _ hS λb o hb e=>hm.heap b o hb e))
 |succ k ih=>
  intro i s hk hi I0 hS hR;let nE:i<n:=∅;refine kU Hj ?_;refine ao (W.item i s _ _ nE I0 λv s' hP Tq hm=>?_);let Tr:=keep _ _ _ hS λb o hb e=>hm.heap b o hb e;refine ao (iA ?_);refine add i v s' _ _ nE hP Tr λh' tk b Vp Ts hT=>?_;refine aU #[yf F.plain_set_update_loop _,ih (i+1) _ ∅ nE (W.frame _ s' _ _ Tq Vp λb hb o e=>?_) hT λQ_ Tt Tv=>?_]
  .rwa[Ts.2 b (λh:b=S=>Tp ([<-h]▸hb))]
  .refine hR Q_ (Moved.trans W.gtrans ((hm.mono FV).then_heap Vp λb o hb e=>?_) Tt) Tv;rwa[Ts.2 b (λh:b=S=>hb ([h]▸aJ))]
end
section
variable{prog:bx}{w:b_}{A:dz}{E:aA->aK->Prop}{s:aK}
abbrev jh(led:Bool):Obj:={ cls:=.type "set",dict:=none,data:=.set #[] 0 (.fresh 0 0 led) }
end
end L2
namespace L2
open PySem
end L2
namespace L2
open PySem PySem.Spec PyProof.Rows
variable{a:ay}{b k1 k2:Bool}{op:Dm}{X:Cx}{env:Env}{e:bw}{o:HO}{H H' H0:Hp}{g:Int->Int->Int}{pins:!(ay×Obj)}{cl:!(Str×ay)}{elts:!bw}{cap:!Nat}{R:!ai->!ai->Prop}{own:!Str}{vs xs:!V}{r:!V->Hp->VK->Prop}{i n:Nat}{p p2 pos tp:Pos}{P:bx}{d:ai}{F:ai->Option ai}{K:aj}{sc:jx}{s:aK}{σ:St}{x:Str}{id:String}{w:b_}
abbrev OX:aA->aK->Prop:=λ_ _=>False
abbrev testsOf(ifs:!bw)(env:Env):Sem Bool:=
 forIn ifs true λc r=>if r=true then(do let ok <-isTrue c env (eval c env);pure (pJ ok))else pure (pJ r)
theorem Jp{A:dz}{R:vM->aK->Prop}{elt tg iter:bw}{ifs:!bw}{it acc:aA}(J:Nat->aK->Prop)
  (turn:∀n s,J n s->wpAny (model P w) A (pyNext it) (λr s1=>match r with
   |none=>R (.ok .next) s1
   |some v=>wpAny (model P w) A (letOwnedTupleGo tg it v) (λ_ s2=>wpAny (model P w) A (assign tg env v) (λ_ s3=>
     wpAny (model P w) A (testsOf ifs env) (λok s4=>if ok=true then wpAny (model P w) A (eval elt env) (λx s5=>
       wpAny (model P w) A (call (.builtin "list.append") [acc,x]) (λ_ s6=>∃m,m<n/\J m s6) OX s5) OX s4
      else ∃m,m<n/\J m s4) OX s3) OX s2) OX s1) OX s)
  (h:J n s):codeAny (model P w) A (.compLoop (.ListComp elt [#[tg,iter,ifs,0]] sc pos) 0 it acc env) R s:=by
 refine codeAny_loop rfl J (λn s hJ=>?_) n h;refine wpAny_noted ?_;refine ao (q5 (ao (gS (turn n s hJ) (λr s1 h1=>?_) λ_ _ f=>f.elim)));cases r with
 |none=>exact aU h1
 |some v=>
  refine ao (gS h1 (λ_ s2 h2=>?_) λ_ _ f=>f.elim);refine ao (gS h2 (λ_ s3 h3=>?_) λ_ _ f=>f.elim);refine ao (gS h3 (λok s4 h4=>?_) λ_ _ f=>f.elim);cases ok with
  |false=>exact aU #[rfl,h4]
  |true=>exact ao (ao (gS h4 (λx s5 h5=>(ao (gS h5 (λ_ s6 h6=>aU (aU #[rfl,h6])) λ_ _ f=>f.elim))) λ_ _ f=>f.elim))
def o_(env:Env):!(Str×nW)->!(Str×ay)->Option (!(Str×ay))
  | [],acc=>some acc
  | (n,k)::r,acc=>if(k==dH)=true then(match env.cells.lookup n with
      | some c=>o_ env r ((n,c)::acc)
      | none=>none)else o_ env r acc
theorem Cb(env:Env):∀(names:!(Str×nW))(acc cl:!(Str×ay)),o_ env names acc>>cl->
  (forIn names acc λ(x:Str×nW)(r:!(Str×ay))=>if(x.2==dH)=true then(do let c <-cellOf env x.1;pure (pJ ((x.1,c)::r)))else pure (pJ r):Sem (!(Str×ay)))=pure cl
 | [],acc,cl,h=>by simp[o_,eP]at h;subst h;rfl
 |(n,k)::r,acc,cl,h=>by
  rw[List.forIn_cons];unfold o_ at h;by_cases hk:(k==dH)=true
  .rw[qQ3 hk]at h;rw[qQ3 (show((n,k).2==dH)=true from hk)];cases e:env.cells.lookup n with
   |none=>rw[e]at h;cases h
   |some c=>
    rw[e]at h;let e2:cellOf env (n,k).1=pure c:=by unfold cellOf;rw[show kz (n,k).1 env.cells>>c from e]
    rw[e2,pure_bind,pure_bind];exact Cb env r _ cl h
  .rw[qQ2 hk]at h;rw[qQ2 hk,pure_bind];exact Cb env r acc cl h
theorem HM(h:o_ env sc.names []>>cl):closureFor sc env=pure cl:=by unfold closureFor;let:=Cb env sc.names [] cl h;simp only[bind_pure];exact this
theorem u5{env:Env}:∀{names:!(Str×nW)}{acc cl:!(Str×ay)},o_ env names acc>>cl->(∀x c,acc.lookup x>>c->env.cells.lookup x>>c)->∀x c,cl.lookup x>>c->env.cells.lookup x>>c
 | [],acc,cl,h,ha=>by simp[o_,eP]at h;subst h;exact ha
 |(n,k)::r,acc,cl,h,ha=>by
  unfold o_ at h;by_cases hk:(k==dH)=true
  .rw[qQ3 hk]at h;cases e:env.cells.lookup n with
   |none=>rw[e]at h;cases h
   |some c=>
    rw[e]at h;refine u5 h λx d hx=>?_;rw[dJ]at hx;cases ZE:x==n with
    |true=>
     rw[ZE]at hx;let:x=n:=by simpa using ZE
     subst this;rwa[e]
    |false=>rw[ZE]at hx;exact ha x d hx
  .rw[qQ2 hk]at h;exact u5 h ha
theorem u6{env:Env}:∀{names:!(Str×nW)}{acc cl:!(Str×ay)},o_ env names acc>>cl->∀x,((x,dH)∈names\/∃c,acc.lookup x>>c)->∃c,cl.lookup x>>c
 | [],acc,cl,h,x,hx=>by
  simp[o_,eP]at h;subst h;rcases hx with hx|hx
  .exact qQ7 hx (by simp)
  .exact hx
 |(n,k)::r,acc,cl,h,x,hx=>by
  unfold o_ at h;by_cases hk:(k==dH)=true
  .rw[qQ3 hk]at h;cases e:env.cells.lookup n with
   |none=>rw[e]at h;cases h
   |some c=>
    rw[e]at h;refine u6 h x ?_;rcases hx with hx|⟨d,hx⟩
    .rcases ax.mp hx with hx|hx
     .cases hx;exact .inr #[c,by simp[dJ]]
     .exact .inl hx
    .refine .inr ?_;rw[dJ];cases ZE:x==n with
     |true=>exact#[_,rfl]
     |false=>exact#[d,hx]
  .rw[qQ2 hk]at h;refine u6 h x ?_;rcases hx with hx|hx
   .rcases ax.mp hx with hx|hx
    .cases hx;exact qQ7 rfl hk
    .exact .inl hx
   .exact .inr hx
theorem u9{env:Env}:∀{names:!(Str×nW)}{x:Str},names.lookup x>>.free->
  (names.map λ(n,k)=>if(k==dH&&env.scope.kind == .function&&env.kindOf n==some .cell) then(n,kY) else(n,k)).lookup x>>.cell\/
   (names.map λ(n,k)=>if(k==dH&&env.scope.kind == .function&&env.kindOf n==some .cell) then(n,kY) else(n,k)).lookup x>>.free
 | [],x,h=>by simp at h
 |(n,k)::r,x,h=>by
  let ih:=@u9 env r x;rw[aq];dsimp only;by_cases hb:(k==dH&&env.scope.kind == .function&&env.kindOf n==some .cell)=true
  .rw[qQ3 hb];cases hx:x==n with
   |true=>simp[dJ,hx]
   |false=>simp only[dJ,hx]at h ⊢;exact ih h
  .rw[qQ2 hb];cases hx:x==n with
   |true=>simp[dJ,hx]at h ⊢;exact .inr h
   |false=>simp only[dJ,hx]at h ⊢;exact ih h
theorem xm{env:Env}:∀{names:!(Str×nW)}{x:Str},(∀y∈names,y.2≠kY)->
  ((names.map λ(n,k)=>if(k==dH&&env.scope.kind == .function&&env.kindOf n==some .cell) then(n,kY) else(n,k)).lookup x>>.cell\/
   (names.map λ(n,k)=>if(k==dH&&env.scope.kind == .function&&env.kindOf n==some .cell) then(n,kY) else(n,k)).lookup x>>.free)->(x,dH)∈names
 | [],x,_,h=>by simp at h
 |(n,k)::r,x,hc,h=>by
  let ih:=@xm env r x λy hy=>hc y (aM _ hy);let hk0:=hc (n,k) aJ;rw[aq]at h;dsimp only at h;by_cases hb:(k==dH&&env.scope.kind == .function&&env.kindOf n==some .cell)=true
  .let hk:k=dH:=by simp only[gy]at hb;simpa using hb.1.1
   rw[qQ3 hb]at h;cases hx:x==n with
   |true=>
    let:x=n:=by simpa using hx
    subst this;rw[hk];exact aJ
   |false=>simp only[dJ,hx]at h;exact aM _ (ih h)
  .rw[qQ2 hb]at h;cases hx:x==n with
   |true=>
    let:x=n:=by simpa using hx
    subst this;simp[dJ,beq_self_eq_true,eP]at h;rcases h with h|h
    .exact qQ7 h hk0
    .rw[h];exact aJ
   |false=>simp only[dJ,hx]at h;exact aM _ (ih h)
def eQ(X:Cx)(sc:jx)(N:!Str)(cl:!(Str×ay))(fp:!ay)(s:aK)(H:Hp):Cx where
 prog:=X.prog
 w:=X.w
 K:=X.K
 mg:=X.mg
 base:=X.base
 A:=X.A
 N:=N
 s₀:=s
 H₀:=H
 env:=compEnvC sc cl s.heap.objs.size X.env
 outer:=X.stack
 stack:=X.stack
 ex:=fp
 fn:=λ_=>false
 calm:=X.calm
 pn:=[]
 xe:=OX
structure h_(X:Cx)(sc:jx)(own:!Str)(cap:!Nat)(N:!Str)(cl:!(Str×ay)):Prop where
 kind:sc.kind=.function
 Ln:∀y∈sc.names,y.2≠kY
 loc:∀y∈sc.names,y.2=.local->sc.names.lookup y.1>>.local
 clos:o_ X.env sc.names []>>cl
 names:N=own++cap.map λi=>X.N.getD i fE
 WV:∀i∈cap,i<X.N.length/\(X.env.kindOf (X.N.getD i fE)>>.cell\/X.env.kindOf (X.N.getD i fE)>>.free)/\sc.names.lookup (X.N.getD i fE)>>.free
def jY(own:!Str)(cap:!Nat)(σ:St):St:=bp own.length none++cap.map λi=>σ.getD i none
section
variable{X:Cx}{pins:!(ay×Obj)}{σ:St}{H:Hp}{s:aK}{sc:jx}{own N:!Str}{cap:!Nat}{cl:!(Str×ay)}{fp:!ay}{tg:bw}{J:It}{it:ay}{tn:Nat->cI->Prop}
theorem Lp{h4:cI}{t4:Nat}(CS:h_ X sc own cap N cl)(I:Inv X pins σ H s)(T:Turn X.prog X.w X.K tg J fp it tn)(st:tn 0 s.heap)(hf:∀b∈fp,uV X pins H b)
  (D:ay)(hD:D=s.heap.objs.size)(s3:aK)(h3:s3={ s with heap:=s.heap.push { cls:=.type "list",dict:=none,data:=.seq ([]:!aA).toArray } })
  (Lc:h4.Ns s3.heap.objs.size (λ_=>none))(hk:∀b o,s3.heap.get? b>>o->h4.get? b>>o):
  Inv (eQ X sc N cl fp s3 (upd H D (.lst []))) [] (jY own cap σ) (upd H D (.lst [])) { s3 with heap:=h4,toks:=t4 }:=by
 subst hD;let k3:∀b o,s.heap.get? b>>o->s3.heap.get? b>>o:=λb o e=>[h3]▸aB _ e;let z3:s3.heap.objs.size=s.heap.objs.size+1:=[h3]▸gC ..;let I3:Inv X pins σ (upd H s.heap.objs.size (.lst [])) s3:=by rw[h3];exact I.laid (λb o e=>aB _ e) ∅ #[aW _,[],0,.nil,bh _ rfl]
 let OY:∀b∈fp,b<s.heap.objs.size:=λb hb=>by let#[o,e,_]:=T.obj 0 _ st b hb;exact aZ e
 let OZ:∀b,b<s.heap.objs.size->b≠s3.heap.objs.size:=λb hb=>[z3]▸a8 ∅;let p9:=u5 CS.clos λx c h=>by simp at h
 let ok:(eQ X sc N cl fp s3 (upd H s.heap.objs.size (.lst []))).Ok:=by
  refine#[I.ok.mod,CS.kind,I.ok.glob,I.ok.blt,aE _,λx y c hx hy=>I.ok.inj x y c (p9 x c hx) (p9 y c hy),λx hx=>?_,λx c hx _=>qQ7 hx kx,I.ok.hd,I.ok.frames,.inl rfl,λb hb=>#[?_,λx c hx=>?_],λb o e=>?_,?_,λb o e hb=>?_,λb hb hs=>?_,?_,?_]
  .exact u6 CS.clos x (.inl (xm CS.Ln hx))
  .exact OZ b (OY b hb)
  .exact(hf b hb).2.2.2.2.1 x c (p9 x c hx)
  .exact I3.bs b o e
  .exact bZ I.ok.QX (bZ I.sz (by show s.heap.objs.size<=s3.heap.objs.size;rw[z3];exact Ad _))
  .rcases(hf b hb).2.2.2.1 with z|z
   .exact I.ok.KN b o e z
   .exact qQ7 (bV (aZ (I.ok.bs b o e).1) z) ∅
  .rcases ax.mp (I.BU b hs)with z|z
   .exact(hf b hb).2.1 z
   .exact(hf b hb).2.2.1 z
  .exact I3.stack
  .exact I3.Hu
 let frC:∀b,s.heap.objs.size<b->(upd H s.heap.objs.size (.lst [])) b=none:=λb hb=>by rw[aI (fM hb)];exact I.hok.fresh ∅
 refine#[ok,?_,I3.bare,Un.kept hk,#[_,Lc,λi x v e1 e2 e3=>?_],λx c hx=>?_,?_,λx c hx=>?_,λp hp=>qQ7 (show p∈([])from hp) (by simp),I3.hok.kept hk,?_]
 .rfl
 .let Tw:=e2;let WW:N[i]?>>x:=e1;unfold jY at Tw;by_cases hi:i<own.length
  .rw[bO ↑hi,cG]at Tw;split at Tw<;>cases Tw
  .rw[bK ↑(ef hi),dN,aH]at Tw;rw[CS.names,bK ∅,aH]at WW;cases ec:cap[i-own.length]? with
   |none=>rw[ec]at WW;cases WW
   |some j=>
    rw[ec]at WW Tw;let ex:X.N.getD j fE=x:=by simpa using WW
    let ev:σ.getD j none>>v:=by simpa using Tw
    let#[hj,DK,FW]:=CS.WV j (aP ec);rw[ex]at DK FW;let#[m,hn,hl]:=I.loc;let hxj:X.N[j]?>>x:=by rw[<-ex,aR,aD hj];rfl
    let hvj:σ[j]?>>(some v):=by let:j < σ.length:=[I.len]▸hj;rw[aR,aD this]at ev;rw[aD this];exact qQ6 some ev
    let#[u,r,l]:=hl j x v hxj hvj (by
     rcases DK with z|z
     .exact .inr (.inl z)
     .exact .inr (.inr z));refine#[u,r,?_];rcases l with⟨k,_⟩|⟨k,c,e,z⟩
    .rcases DK with z|z<;>(rw[z]at k;cases k)
    .let#[c',ec']:=u6 CS.clos x (.inl (iq FW));let:c'=c:=by let:=p9 x c' ec';rw[e]at this;exact(b9 this).symm
     subst this;refine .inr #[?_,c',ec',?_]
     .exact u9 FW
     .let#[o,ho,hd]:=z;exact#[o,hk _ _ (k3 _ _ ho),hd]
 .let#[v,o,ho,hd]:=I.cell x c (p9 x c hx);exact#[v,o,hk _ _ (k3 _ _ ho),hd]
 .exact frC _ (by show s.heap.objs.size<s3.heap.objs.size;rw[z3];exact yF _)
 .let#[v,o,ho,hd]:=I.cell x c (p9 x c hx);rw[aI (a8 (aZ ho))];exact I.nz x c (p9 x c hx)
 .show(jY own cap σ).length=N.length;unfold jY;rw[CS.names];simp
theorem Inv.yn{h':cI}{t':Nat}{ch:!ay}(I:Inv X pins σ H s)(k:∀b o,b∉ch->s.heap.get? b>>o->h'.get? b>>o)(hf:∀b∈ch,uV X pins H b):Inv X pins σ H { s with heap:=h',toks:=t' }:=by
 let V7:∀b u,H b>>u->b∉ch:=λb u e z=>by rw[(hf b z).1]at e;cases e
 refine I.step (λb hb=>#[(hf b hb).2.2.2.1,(hf b hb).2.1,(hf b hb).2.2.2.2.1,(hf b hb).2.2.2.2.2]) (λb o _ _ hc e _=>k b o hc e) (λb o _ _ hc e _=>#[o.slots,k b o hc e]) (λ_ _ _ _ n=>n)
  (λb o hc e=>#[o,k b o hc e]) (λ_ _ e=>e) (λ_ _ _ e=>e) (λb ps e=>#[#[],by rw[e];simp]) (λm hm=>?_) (λb u e=>?_) I.bare
 .let#[o,es,ep,ho,r]:=hm;exact#[o,es,ep,k _ o (λz=>(hf _ z).2.1 rfl) ho,r]
 .refine(I.hok b u e).stay (λc v hc q=>k c v ?_ q) (λ_ q=>q) λ_ _ q=>q;rcases hc with z|z
  .rw[z];exact V7 b u e
  .exact V7 c _ z
theorem Inv.track(I:Inv X pins σ H s)(f:uV X pins H a)(new:fV X.prog X.w (upd H a o) s.heap a o):Inv X pins σ (upd H a o) s:=by
 let#[f0,f1,f2,f3,f4,f5]:=f;let ne:∀b u,H b>>u->b≠a:=λb u e=>bB e f0;refine#[I.ok,I.os,I.bare,#[I.base.keep,I.base.slot,λb ob e n hx=>?_,I.base.there,λb xs e=>?_,λb ob u e=>?_,λb ps e=>?_],I.loc,I.cell,?_,λx c e=>?_,λp hp=>?_,λb u e=>?_,I.len]
 .let nb:b≠a:=λz=>by
   subst z;rcases f3 with z|z
   .exact hx z
   .exact qQ7 (bV (aZ e) z) ∅
  rw[aI nb];exact I.base.free b ob e n hx
 .let q:=I.base.tups b xs e;rwa[aI (ne _ _ q)]
 .let q:=I.base.ub b ob u e;rwa[aI (ne _ _ q)]
 .let#[more,q]:=I.base.xW b ps e;exact#[more,[aI (ne _ _ q)]▸q]
 .rw[aI (bF f1)];exact I.free
 .rw[aI (f4 x c e)];exact I.nz x c e
 .let#[e,n,r]:=I.pin p hp;exact#[e,[aI (f5 p hp)]▸n,r]
 .by_cases hb:b=a
  .subst hb;rw[aT]at e;cases e;exact new
  .rw[aI hb]at e;exact(I.hok b u e).stay (λ_ _ _ q=>q) (λc q=>[aI (ne _ _ q)]▸q) λc xs q=>[aI (ne _ _ q)]▸q
end
def WX(X:Cx)(ifs:!bw)(t:TT):Prop:=
 ∀(pins:!(ay×Obj))(s:aK)(σ:St)(H:Hp)(Q:Bool->Hp->Prop),Inv X pins σ H s->t σ H Q->wpAny (model X.prog X.w) X.A (testsOf ifs X.env) (TP X pins σ Q) X.xe s
def Jq:TT:=λ_ H Q=>Q true H
theorem Cd:WX X [] Jq:=λ_ _ _ H _ I h=>wpAny_tests_nil #[H,I,h]
theorem O1{c:bw}{t:TT}(h:PT X c t):WX X [c] t:=λpins s σ H Q I q=>wpAny_tests_one (h pins s σ H Q I q)
def wc(J:It)(g:TG)(tc:TT)(te:TE)(σ:St)(H:Hp)(Q:VK):Prop:=
 ∀D,H D=none->∃W:Nat->Nat->!V->St->Hp->Prop,(∃m,W 0 m [] σ (upd H D (.lst [])))/\∀i m ys σ' H',W i m ys σ' H'->
  (J.stop i H'/\Q (.ref D) H')\/(J.go i H'/\∀x H2,J.Wi i H' x H2->g x σ' H2 λσ3 H3=>tc σ3 H3 λb H4=>if b=true then te σ3 H4 λy H5=>
   H5 D>>(.lst ys)/\ys.length<sizeLine/\∃m',m'<m/\W (i+1) m' (ys ++ [y]) σ3 (upd H5 D (.lst (ys ++ [y])))else ∃m',m'<m/\W (i+1) m' ys σ3 H4)
def Lq(own:!Str)(cap:!Nat)(wi:TI)(g:TG)(tc:TT)(te:TE):TE:=λσ H Q=>wi σ H λJ H1=>wc J g tc te (jY own cap σ) H1 Q
section
variable{X:Cx}{pins:!(ay×Obj)}{σ:St}{H:Hp}{s:aK}{sc:jx}{own N:!Str}{cap:!Nat}{cl:!(Str×ay)}{fp:!ay}{tg elt iter:bw}{ifs:!bw}{J:It}{it:ay}{tn:Nat->cI->Prop}{g:TG}{tc:TT}{te:TE}{wi:TI}{pos:Pos}
theorem Bb{RR:aA->ay->vM->aK->Prop}{E:aA->aK->Prop}{Q:VK}(hc:X.calm=true)(CS:h_ X sc own cap N cl)(I:Inv X pins σ H s)(T:Turn X.prog X.w X.K tg J fp it tn)(st:tn 0 s.heap)(hf:∀b∈fp,uV X pins H b)
  (hg:∀f s3 H3,PG (eQ X sc N cl f s3 H3) tg g)(ht:∀f s3 H3,WX (eQ X sc N cl f s3 H3) ifs tc)(he:∀f s3 H3,PE (eQ X sc N cl f s3 H3) elt te)
  (h:wc J g tc te (jY own cap σ) H Q)
  (fin:∀D C H' s',Inv X pins σ H' s'->(∃m,s'.heap.Ns C m)->uV X pins H' C->Q (.ref D) H'->RR (.ref D) C (.ok .next) s'):
  wpAny (model X.prog X.w) X.A (newList []) (λacc s₃=>wpAny (model X.prog X.w) X.A (newFunctionEnv sc X.env.globals cl [] X.env.qual none .none (some X.env)) (λWY s₄=>
   codeAny (model X.prog X.w) X.A (.compStart (.ListComp elt [#[tg,iter,ifs,0]] sc pos) 0 (.ref it) acc { WY with scope:=relabel sc X.env }) (RR acc WY.locals) s₄) E s₃) E s:=by
 refine dE (wpAny_newFunctionEnv CS.Ln (λy hy=>qQ7 hy (by simp)) (λh4 Lc Ts=>?_) CS.kind);let hD:=I.fresh;let#[W,#[m0,w0],turn]:=h s.heap.objs.size hD;generalize hs3:({ s with heap:=s.heap.push { cls:=.type "list",dict:=none,data:=.seq ([]).toArray } }:aK)=s3 at *;let h3:=hs3.symm;let z3:s3.heap.objs.size=s.heap.objs.size+1:=[h3]▸gC ..;let k3:∀b o,s.heap.get? b>>o->s3.heap.get? b>>o:=λb o e=>[h3]▸aB _ e;let k4:=λb o e=>Ts.extBut b o (a8 (aZ e)) (aB _ e);let OY:∀b∈fp,b<s.heap.objs.size:=λb hb=>by let#[o,e,_]:=T.obj 0 _ st b hb;exact aZ e
 let Ic:=λt4=>
  Lp (t4:=t4) CS I T st hf _ rfl s3 h3 ↑Lc k4;let st4:=T.keep _ _ _ st λb hb o e=>k4 b o (k3 b o e);let fr4:∀b∈fp,(upd H s.heap.objs.size (.lst [])) b=none:=λb hb=>by
  rw[aI (a8 (OY b hb))];exact(hf b hb).1
 let stat:∀{H':Hp},(∀b∈fp,H' b=none)->∀b∈fp,uV (eQ X sc N cl fp s3 (upd H s.heap.objs.size (.lst []))) [] H' b:=λ{H'}hn b hb=>by
  refine#[hn b hb,?_,λhs=>?_,.inl hb,λx c hx=>?_,λp hp=>qQ7 (show p∈([])from hp) (by simp)]
  .show b≠s3.heap.objs.size;rw[z3];exact a8 (pK (OY b hb))
  .rcases ax.mp (I.BU b hs)with z|z
   .exact(hf b hb).2.1 z
   .exact(hf b hb).2.2.1 z
  .exact(hf b hb).2.2.2.2.1 x c (u5 CS.clos (λx c h=>by simp at h) x c hx)
 let loop:∀s5:aK,(∃t4,s5={ s3 with heap:=h4,toks:=t4 })->codeAny (model X.prog X.w) X.A (.compLoop (.ListComp elt [#[tg,iter,ifs,0]] sc pos) 0 (.ref it) (.ref s.heap.objs.size) (compEnvC sc cl s3.heap.objs.size X.env))
   (RR (.ref s.heap.objs.size) s3.heap.objs.size) s5:=by
  rintro s5 ⟨t4,rfl⟩;refine Jp (λn s'=>∃i ys σ' H',Inv _ [] σ' H' s'/\tn i s'.heap/\(∀b∈fp,H' b=none)/\W i n ys σ' H') ?_
   #[0,[],_,_,Ic t4,st4,fr4,w0];rintro n s' ⟨i,ys,σ',H',I',uW,fr',w'⟩;rcases turn i n ys σ' H' w' with⟨stop,q⟩|⟨go,step⟩
  .refine fF (T.done (eQ X sc N cl fp s3 _) rfl rfl rfl hc i [] s' σ' H' OX I' (stat fr') uW stop) λr s6 #[hr,I6]=>?_;subst hr;let bs:=I6.base;let un:Un (Kt X.stack) fp H H' s.heap s6.heap:=by
    let neD:∀b o,s.heap.get? b>>o->b≠s.heap.objs.size:=λb o e=>a8 (aZ e);refine#[λb o e n hb hx=>bs.keep b o (k3 b o e) (by show upd H _ _ b=none;rw[aI (neD b o e)];exact n) hb hx,λb o e n hb hx=>bs.slot b o (k3 b o e) (by show upd H _ _ b=none;rw[aI (neD b o e)];exact n) hb hx,
     λb o e n hx=>bs.free b o (k3 b o e) (by show upd H _ _ b=none;rw[aI (neD b o e)];exact n) hx,λb o e hx=>bs.there b o (k3 b o e) hx,
     λb xs e=>bs.tups b xs (by show upd H _ _ b=_;rw[aI (bB e hD)];exact e),λb o u e=>bs.ub b o u (by show upd H _ _ b=_;rw[aI (bB e hD)];exact e),λb ps e=>bs.xW b ps (by show upd H _ _ b=_;rw[aI (bB e hD)];exact e)]
   let I7:=I.call' (by rw[I6.os];show s3.os=s.os;rw[h3]) un I6.hok I6.bare λb hb=>#[(hf b hb).2.2.2.1,(hf b hb).2.1,(hf b hb).2.2.2.2.1,(hf b hb).2.2.2.2.2];let#[mC,nC,_]:=I6.loc;exact fin _ _ H' s6 I7 #[mC,nC] (I.xY ([z3]▸Ad _) I6.free) q
  .refine fF (T.item (eQ X sc N cl fp s3 _) rfl rfl rfl hc i [] s' σ' H' OX I' (stat fr') uW go) λr s6 #[u,hr,h6]=>?_;subst hr;refine fF h6 λ_ s7 #[x,H7,I7,r7,y7,st7,fr7]=>?_;let back:∀{σ8:St}{H8:Hp}{s8:aK},Inv (eQ X sc N cl fp s3 (upd H s.heap.objs.size (.lst []))) ([]++BZ fp s7.heap) σ8 H8 s8->tn (i+1) s8.heap/\∀b∈fp,H8 b=none:=λ{σ8 H8 s8}I8=>by refine#[T.keep _ _ _ st7 λb hb o e=>(I8.pin (b,o) (bD _ (bD _ (pV hb e)))).1,λb hb=>?_];let#[o,e,d]:=T.obj _ _ st7 b hb;exact(I8.pin (b,o) (bD _ (bD _ (pV hb e)))).2.1
   refine fF (hg _ _ _ _ s7 σ' H7 x u _ (I7.pinned (stat fr7) (T.obj _ _ st7)) r7 (step x H7 y7)) λ_ s8 #[σ8,H8,I8,q8]=>?_;refine fF (ht _ _ _ _ s8 σ8 H8 _ I8 q8) λok s9 #[H9,I9,q9]=>?_;cases ok with
   |false=>let#[m',hm,w9]:=q9;exact#[m',hm,i+1,ys,σ8,H9,I9.rD,(back I9).1,(back I9).2,w9]
   |true=>rw[qQ3 rfl]at q9 ⊢;refine fF (he _ _ _ _ s9 σ8 H9 _ I9 q9) λxv s10 #[y,H10,I10,r10,Vu,hz,m',hm,w10]=>?_;refine fF (ka _ s10 σ8 H10 (.ref s.heap.objs.size) [y] _ [xv] (λ_ x3=>x3=upd H10 s.heap.objs.size _) I10 rfl (.cons r10 .nil) #[_,ys,y,rfl,rfl,Vu,hz,rfl]) λ_ s11 #[_,H11,I11,_,e11]=>?_;subst e11;exact#[m',hm,i+1,_,σ8,_,I11.rD,(back I11).1,(back I11).2,w10]
 exact codeAny_compStart_list (loop _ #[_,rfl]) (T.self _ 0 _ _ _ st4 (loop _ #[_,rfl]))
theorem HN(hc:X.calm=true)(CS:h_ X sc own cap N cl)(hi:PI X tg iter wi)(hg:∀f s3 H3,PG (eQ X sc N cl f s3 H3) tg g)(ht:∀f s3 H3,WX (eQ X sc N cl f s3 H3) ifs tc)(he:∀f s3 H3,PE (eQ X sc N cl f s3 H3) elt te)
  (hs:Fx X iter:=by intro _;rfl):PE X (.ListComp elt [#[tg,iter,ifs,0]] sc pos) (Lq own cap wi g tc te):=by intro pins s σ H Q I h;refine wpAny_comprehension_free rfl hs (HM CS.clos) CS.kind CS.loc (fF (hi pins s σ H _ I h) λv s1 h1=>fF h1 λZv s2 h2=>?_);let#[it,fp,tn,J,H2,e,I2,T,Wm,f2,q2]:=h2;subst e;refine Bb hc CS I2 T Wm f2 hg ht he q2 ?_;intro D C H' s' I' #[m,hn] fC q;exact#[m,hn,λh' sb=>#[.ref D,H',I'.turned (λb o hb e=>(sb.2 b hb).trans e) fC.1 fC.2.1 fC.2.2.2.1 fC.2.2.2.2.1 fC.2.2.2.2.2,rfl,q]]
theorem p_{px nZ:Pos}(hN:X.N.Nodup)(Lr:X.N[i]?>>x)(hx:Loc X.env.scope x)(hc:X.calm=true)(CS:h_ X sc own cap N cl)(hi:PI X tg iter wi)(hg:∀f s3 H3,PG (eQ X sc N cl f s3 H3) tg g)
  (ht:∀f s3 H3,WX (eQ X sc N cl f s3 H3) ifs tc)(he:∀f s3 H3,PE (eQ X sc N cl f s3 H3) elt te)(lZ:swapsWith (.ListComp elt [#[tg,iter,ifs,0]] sc pos) (some (.Name x px)) nZ.line X.env=pure true:=by rfl)
  (hs:Fx X iter:=by intro _;rfl)(hf:yi X x:=by left):
  PS X (.Assign [.Name x px] (.ListComp elt [#[tg,iter,ifs,0]] sc pos) nZ) (SW (Lq own cap wi g tc te) (A3 i)):=by
 intro pins s σ H D I h;rw[exec_Assign_Name_used _ _ _ _ lZ];refine ao (q5 (ao ?_));refine ao (gS (wpAny_comprehension_free rfl hs (HM CS.clos) CS.kind CS.loc
  (fF (hi pins s σ H _ I h) λv s1 h1=>fF h1 λZv s2 h2=>?_)) (λ_ s' hq=>aU (aU hq)) λ_ _ e=>e);let#[it,fp,tn,J,H2,e,I2,T,Wm,f2,q2]:=h2;subst e;refine Bb hc CS I2 T Wm f2 hg ht he q2 ?_;intro D' C H' s' I' #[m,hn] fC q;refine wpAny_assign_Name (A1 I' hN Lr hx (v:=.ref D') rfl (λQ_ I'' #[a,sb,ha]=>?_) hf);let Vk:C≠a:=by
  rcases ha with z|z
  .rw[z];exact fC.2.1
  .exact λy=>fC.2.2.2.2.1 x a z y.symm
 exact#[m,hn.sameBut sb Vk,λh' sb'=>#[_,H',I''.turned (λb o hb e=>(sb'.2 b hb).trans e) fC.1 fC.2.1 fC.2.2.2.1 fC.2.2.2.2.1 fC.2.2.2.2.2,q]]
end
def Ite(K:aj)(a:ay):It:=
 #[λi H=>∃xs x,jb K H a xs/\xs[i]?>>x,λi H v H'=>∃t x,v=.ref t/\H t=none/\H'=upd H t (.tup [.int i,x])/\∀xs,jb K H a xs->xs[i]?>>x,λi H=>∃xs,jb K H a xs/\xs.length<=i]
theorem Jr{k}(a e it:ay)(Vv:e≠it):Turn P w K (.Tuple elts k tp) (Ite K a) [e,it] e (λi h=>(∃old,IsEnum h e it (i:Nat) old)/\h.IsListIter it a i) where
 mem:=by simp
 obj:=λi h st b hb=>by
  let#[#[old,he],#[o,ho,c,d]]:=st;rcases ax.mp hb with z|z
  .subst z;exact#[_,he,λv z=>by cases z]
  .let z':b=it:=by simpa using z
   subst z';exact#[o,ho,λv z=>by rw[d]at z;cases z]
 keep:=λi h h' st kp=>#[let#[old,he]:=st.1;#[old,kp e (by simp) _ he],st.2.at λo q=>kp it (by simp) o q]
 item:=by
  intro X hP hw hK hc i pins s σ H E I hf st hg;subst hP hw hK;let#[#[old,he],hit]:=st;let#[xs,x,hq,hx]:=hg;let#[its,rv,p,hz]:=I.list hq;let#[u,hu,ru]:=rv.get hx;refine wpAny_pyNext_enum_item he hit p.isList ↑hu Vv λh1 QW zaX WZ hz1 N0=>?_;refine#[_,rfl,wpAny_letOwnedTupleGo_enum QW λh2 Tx o5=>?_];let elt:=aZ he;let ilt:it<s.heap.objs.size:=by let#[o,ho,_]:=_root_.id hit;exact aZ ho
  let k2:∀b o,b∉[e,it]->s.heap.get? b>>o->h2.get? b>>o:=λb o hb q=>by let n1:b≠e:=λz=>hb (by simp[z]);exact(o5.2 b n1).trans (N0 b o n1 (λz=>hb (by simp[z])) q)
  let I2:Inv X pins σ H { s with heap:=h2,toks:=s.toks+1 }:=I.yn k2 hf;let fT:uV X pins H s.heap.objs.size:=I.xY (aE _) I.fresh;let I3:Inv X pins σ (upd H s.heap.objs.size (.tup [.int i,x])) { s with heap:=h2,toks:=s.toks+1 }:=
   I2.track fT #[by show 2<=sizeLine;rw[cM];decide,[.int i s.toks,u],.cons #[_,rfl] (.cons ru .nil),#[_,(o5.2 _ (fM elt)).trans WZ,rfl,_,rfl]];refine#[.ref s.heap.objs.size,_,I3,rfl,#[_,x,rfl,I.fresh,rfl,λys hy=>[I.yI hy hq]▸hx],#[#[_,by simpa using Tx],zaX.at λo q=>(o5.2 it Vv.symm).trans q],λb hb=>?_];rcases ax.mp hb with z|z
  .subst z;rw[aI (a8 elt)];exact(hf b hb).1
  .let z':b=it:=by simpa using z
   subst z';rw[aI (a8 ilt)];exact(hf b hb).1
 done:=by intro X hP hw hK hc i pins s σ H E I hf st hg;subst hP hw hK;let#[#[old,he],hit]:=st;let#[xs,hq,hx]:=hg;let#[its,rv,p,hz]:=I.list hq;let hl:=rv.length;exact wpAny_pyNext_enum_end (I.ok.hd hc) he hit p.isList (by simp;omega) λh' eb=>#[rfl,I.yn (λb o hb q=>eb b o (λz=>hb (by simp[z])) q) hf]
 self:=λ_ _ _ _ _ st h=>let#[#[_,he],_]:=st;wpAny_pyIter_enum he h
def W4(K:aj)(ta:TA):TI:=λσ H R=>ta σ H λvs H1=>∃a,vs=[.ref a]/\(∃xs,jb K H1 a xs)/\R (Ite K a) H1
theorem O2{a:bw}{ta:TA}{k}(hg:Gl X "enumerate")(hm:X.mg "enumerate"=none)(ha:PA X [a] ta)(hs:starEach [a] X.env=[(false,eval a X.env)]:=by rfl):
  PI X (.Tuple elts k tp) (.Call (.Name "enumerate" p) [a] [] pos) (W4 X.K ta):=by
 intro pins s σ H R I h;refine Call_ (vV I hg hm boot_enumerate (iB (fF (ha pos pins s σ H _ I h) λus s1 #[vs,H1,I1,r1,q1]=>?_) hs rfl));let#[l,e,#[xs,hq],q]:=q1;subst e;let#[u,rfl,rx]:=vals1 r1;cases rx;let#[its,rv,pl,hz]:=I1.list hq;refine call_enumerate_list pl.isList λh' he hit hsz hk=>wpAny_pyIter_enum he ?_;refine#[_,[s1.heap.objs.size+1,s1.heap.objs.size],_,_,H1,rfl,I1.kept (t':=s1.toks) hk,Jr l _ _ (Nat.succ_ne_self _),#[#[_,he],hit],λb hb=>?_,q];rcases ax.mp hb with z|z
 .subst z;exact I1.xY ∅ (I1.hok.fresh ∅)
 .let z':b=s1.heap.objs.size:=by simpa using z
  subst z';exact I1.xY ∅ I1.fresh
def mN:Key->ai
 | .inl i=>.int i
 | .inr x=>.str x
mutual
inductive Rep(K:aj)(H:Hp):V->ai->Prop
 |non:Rep K H .non .none
 |bl (b:Bool):Rep K H (.bl b) (.bool b)
 |int (i:Int):Rep K H (.int i) (.int i)
 |str (x:Str):Rep K H (.str x) (.str x)
 |lst {a:ay} {xs:!V} {ds:!ai}:jb K H a xs->bU K H xs ds->Rep K H (.ref a) (.list ds)
 |tup {a:ay} {xs:!V} {ds:!ai}:nV K H a xs->bU K H xs ds->Rep K H (.ref a) (.tuple ds)
 |dct {a:ay} {kvs:!(Key×V)} {ds:!(ai×ai)}:H a>>(.dK kvs)->ds.map (·.1)=kvs.map (λp=>mN p.1)->bU K H (kvs.map (·.2)) (ds.map (·.2))->Rep K H (.ref a) (.dict ds)
 |O4 {a:ay} {kvs:!(!Key×V)} {ds:!(ai×ai)}:H a>>(.dT kvs)->ds.map (·.1)=kvs.map (λp=>dg (p.1.map mN))->bU K H (kvs.map (·.2)) (ds.map (·.2))->Rep K H (.ref a) (.dict ((.none,.bool true)::ds))
 |obj {a C dx:ay} {fs:!(Str×V)} {ds:!(ai×ai)}:H a>>(.ins C dx fs)->yK K C->(∀f∈fs.map (·.1),gG K C f)->ds.map (·.1)=fs.map (λp=>aO p.1)->bU K H (fs.map (·.2)) (ds.map (·.2))->Rep K H (.ref a) (.dict ((.none,.none)::ds))
 |Vw {a:ay} {o:Obj} {kvs:!(Key×V)} {ds:!(ai×ai)}:H a>>(.ky o (.dK kvs))->ds.map (·.1)=kvs.map (λp=>mN p.1)->bU K H (kvs.map (·.2)) (ds.map (·.2))->Rep K H (.ref a) (.dict ((.none,.int 1)::ds))
 |ZF {a C dx:ay} {fs:!(Str×V)} {ds:!(ai×ai)}:H a>>(.ins C dx fs)->yK K C->(∀f∈fs.map (·.1),gG K C f)->ds.map (·.1)=fs.map (λp=>aO p.1)->bU K H (fs.map (·.2)) (ds.map (·.2))->Rep K H (.ref a) (.dict ((.bool true,.int (Int.ofNat C))::ds))
 |Vx {a:ay} {o:Obj} {kvs:!(!Key×V)} {es:Array fU} {ep:Nat} {ts:!ay} {ds:!(ai×ai)}:H a>>(.ky o (.dT kvs))->o.data=.dict es ep->es.toList.map (·.key)=ts.map cC->(∀(i:Nat)(t:ay)(q:!Key×V),ts[i]?>>t->kvs[i]?>>q->H t>>(.tup (q.1.map kV)))->ds.map (·.1)=kvs.map (λp=>dg (p.1.map mN))->bU K H (kvs.map (·.2)) (ds.map (·.2))->Rep K H (.ref a) (.dict ((.none,.int 2)::ds))
inductive bU(K:aj)(H:Hp):!V->!ai->Prop
 |nil:bU K H [] []
 |cons {x:V} {d:ai} {xs:!V} {ds:!ai}:Rep K H x d->bU K H xs ds->bU K H (x::xs) (d::ds)
end
theorem cz.nF(e:cz H H')(h:nV K H a xs):nV K H' a xs:=by
 rcases h with(h|⟨o,h⟩)|h
 .exact .inl (.inl (e _ _ h))
 .exact .inl (.inr #[o,e _ _ h])
 .exact .inr h
theorem Rep.mono(s:cz H H'){v:V}(r:Rep K H v d):Rep K H' v d:=
 Rep.rec (motive_1:=λv d _=>Rep K H' v d) (motive_2:=λxs ds _=>bU K H' xs ds) .non (λb=>.bl b) (λi=>.int i) (λx=>.str x) (λh _ t=>.lst (s.seq h) t) (λh _ t=>.tup (s.nF h) t) (λh k _ t=>.dct (s _ _ h) k t) (λh k _ t=>.O4 (s _ _ h) k t) (λh c n k _ t=>.obj (s _ _ h) c n k t) (λh k _ t=>.Vw (s _ _ h) k t) (λh c n k _ t=>.ZF (s _ _ h) c n k t) (λh e m g k _ t=>.Vx (s _ _ h) e m (λi t' q a b=>s _ _ (g i t' q a b)) k t) .nil (λ_ _ a t=>.cons a t) r
theorem bU.mono(s:cz H H'):∀{ds:!ai}{xs:!V},bU K H xs ds->bU K H' xs ds
 | [],_,r=>by cases r;exact .nil
 |d::ds,_,r=>by cases r with|cons a t=>exact .cons (a.mono s) (bU.mono s t)
section
variable{K:aj}{H:Hp}
theorem bU.length:∀{xs:!V}{ds:!ai},bU K H xs ds->xs.length=ds.length
 | [],_,r=>by cases r;rfl
 |x::xs,_,r=>by cases r with|cons a t=>simp[bU.length t]
theorem bU.get:∀{xs:!V}{ds:!ai}{i:Nat}{d:ai},bU K H xs ds->ds[i]?>>d->∃x,xs[i]?>>x/\Rep K H x d
 | [],_,_,_,r,e=>by cases r;simp at e
 |x::xs,_,i,d,r,e=>by
  cases r with
  |cons a t=>
   cases i with
   |zero=>simp at e;subst e;exact#[x,rfl,a]
   |succ i=>simpa using bU.get t ↑e
theorem bU.at{ds:!ai}{x:V}(r:bU K H xs ds)(e:ds[i]?>>d)(h:xs[i]?>>x):Rep K H x d:=by let#[y,h1,h2]:=r.get e;rw[h]at h1;cases h1;exact h2
theorem bU.append:∀{xs ys:!V}{ds es:!ai},bU K H xs ds->bU K H ys es->bU K H (xs++ys) (ds++es)
 | [],_,_,_,r,s=>by cases r;exact s
 |x::xs,_,_,_,r,s=>by cases r with|cons a t=>exact .cons a (bU.append t s)
theorem bU.take:∀{xs:!V}{ds:!ai}(n:Nat),bU K H xs ds->bU K H (xs.take n) (ds.take n)
 |_,_,0,_=>by simpa using bU.nil
 | [],_,_+1,r=>by cases r;exact .nil
 |x::xs,_,n+1,r=>by cases r with|cons a t=>exact .cons a (bU.take n t)
theorem bU.drop:∀{xs:!V}{ds:!ai}(n:Nat),bU K H xs ds->bU K H (xs.drop n) (ds.drop n)
 |_,_,0,r=>r
 | [],_,_+1,r=>by cases r;exact .nil
 |x::xs,_,n+1,r=>by cases r with|cons a t=>exact bU.drop n t
end
mutual
theorem jM(I:Inv X pins σ H s):∀(d:ai){v:V}{u:aA},d.canLay0=true->Rep X.K H v d->RelV v u->∃as,Reads s.heap u d as
 | .none,_,_,_,r,q=>by cases r;cases q;exact#[_,.none]
 | .bool b,_,_,_,r,q=>by cases r;cases q;exact#[_,.bool b]
 | .int i,_,_,_,r,q=>by cases r;let#[t,rfl]:=q;exact#[_,.int i t]
 | .str x,_,_,_,r,q=>by cases r;let#[t,rfl]:=q;exact#[_,.str x t]
 | .list ds,_,_,hc,r,q=>by
  cases r with
  |lst h t=>cases q;let#[its,rv,#[o,n,e,c,_,dt],_]:=I.list h;let#[as,ra]:=oq I ds hc t rv;exact#[_,.list e c dt ↑ra]
 | .tuple ds,_,_,hc,r,q=>by
  cases r with
  |tup h t=>cases q;let#[its,rv,#[o,e,c,n,dt],_]:=I.tuple h;let#[as,ra]:=oq I ds hc t rv;exact#[_,.tuple e c dt ↑ra]
 | .dict _,_,_,hc,_,_=>by cases hc
theorem oq(I:Inv X pins σ H s):∀(ds:!ai){xs:!V}{us:!aA},oJ ds=true->bU X.K H xs ds->dA xs us->∃as,ReadsAll s.heap us ds as
 | [],_,_,_,r,q=>by cases r;cases q;exact#[_,.nil]
 |d::ds,_,_,hc,r,q=>by
  let Vn:(d.canLay0&&oJ ds)=true:=hc;rw[gy]at Vn;cases r with
  |cons a t=>
   cases q with
   |cons b w=>let#[as,h1]:=jM I d Vn.1 a b;let#[bs,h2]:=oq I ds Vn.2 t w;exact#[_,.cons h1 h2]
end
def Lay(n:Nat)(d:ai):Prop:=d.canLay0=true/\d.depth<=n
inductive Slot where
 |un
 |val (d:ai)
 |own (ds:!ai)
 |ref (a:ay)
variable{δ δ':!Slot}
structure dm(H0 H cQ H':Hp):Prop where
 big:cz H H'
 eD:cz H0 cQ
 sub:cz cQ H'
 new:∀a,cQ a≠none->H0 a≠none\/H a=none
theorem dm.refl(s:cz H0 H):dm H0 H H0 H:=#[cz.refl _,cz.refl _,s,λ_ h=>.inl h]
theorem cz.ne(s:cz H H')(h:H a≠none):H' a≠none:=by
 cases e:H a with
 |none=>exact qQ7 e h
 |some o=>rw[s a o e];simp
theorem dm.trans{A B C D E F:Hp}(x:dm A B C D)(y:dm C D E F):dm A B E F:=
 #[x.big.trans y.big,x.eD.trans y.eD,y.sub,λa h=>(y.new a h).elim (x.new a) λz=>.inr (x.big.free z)]
theorem dm.laid(s:cz H0 H){p:ay}(h:H p=none):dm H0 H (upd H0 p o) (upd H p o):=by
 refine#[λb u e=>?_,λb u e=>?_,λb u e=>?_,λb e=>?_]
 .rw[aI (bB e h)];exact e
 .rw[aI (bB e (s.free h))];exact e
 .by_cases hb:b=p
  .subst hb;rw[aT]at e ⊢;exact e
  .rw[aI hb]at e ⊢;exact s b u e
 .by_cases hb:b=p
  .subst hb;exact .inr h
  .rw[aI hb]at e;exact .inl e
theorem dm.loose(s:cz H0 H){p:ay}(h:H p=none):dm H0 H H0 (upd H p o):=
 #[λb u e=>[aI (bB e h)]▸e,cz.refl _,λb u e=>[aI (bB (s b u e) h)]▸s b u e,λ_ e=>.inl e]
def Ls(K:aj)(B H0 H:Hp):Slot->Option (Option V)->Prop
 | .un,_=>True
 | .val d,o=>∃v,o>>(some v)/\Rep K H0 v d
 | .own ds,o=>∃p xs,o>>(some (.ref p))/\H p>>(.lst xs)/\H0 p=none/\B p=none/\bU K H0 xs ds
 | .ref a,o=>o>>(some (.ref a))
structure fQ(K:aj)(B0 B H0 H:Hp)(σ:St)(δ:!Slot):Prop where
 ent:dm B0 B H0 H
 len:σ.length=δ.length
 slot:∀(i:Nat)sl,δ[i]?>>sl->Ls K B H0 H sl σ[i]?
 apart:∀(i j:Nat)ds es p,i≠j->δ[i]?>>(.own ds)->δ[j]?>>(.own es)->σ[i]?>>(some (.ref p))->σ[j]?≠some (some (.ref p))
section
variable{K:aj}{B0 B H0 H cQ H':Hp}{σ:St}{δ:!Slot}
theorem fQ.sub(f:fQ K B0 B H0 H σ δ):cz H0 H:=f.ent.sub
theorem fQ.grow(f:fQ K B0 B H0 H σ δ)(g:dm H0 H cQ H'):fQ K B0 B cQ H' σ δ:=by
 refine#[f.ent.trans g,f.len,λi sl e=>?_,f.apart];let q:=f.slot i sl e;cases sl with
 |un=>trivial
 |ref a=>exact q
 |val d=>let#[v,h1,h2]:=q;exact#[v,h1,h2.mono g.eD]
 |own ds=>
  let#[p,xs,h1,h2,h3,h4,h5]:=q;refine#[p,xs,h1,g.big _ _ h2,?_,h4,h5.mono g.eD];cases e2:cQ p with
  |none=>rfl
  |some o=>
   rcases g.new p (by rw[e2];simp)with z|z
   .exact qQ7 h3 z
   .rw[h2]at z;cases z
theorem fQ.val(f:fQ K B0 B H0 H σ δ)(h:δ[i]?>>(.val d)):∃v,σ[i]?>>(some v)/\Rep K H0 v d:=f.slot i _ h
theorem fQ.set(f:fQ K B0 B H0 H σ δ){v:V}(r:Rep K H0 v d):fQ K B0 B H0 H (σ.set i (some v)) (δ.set i (.val d)):=by
 refine#[f.ent,by simp[f.len],λj sl e=>?_,λj k ds es p Fj e1 e2 e3=>?_]
 .by_cases hj:j=i
  .subst hj;let hl:j < δ.length:=by let:=(av.mp e).1;simpa using this
   rw[aY hl]at e;cases e;rw[aY ([f.len]▸hl)];exact#[v,rfl,r]
  .rw[aS (bF hj)]at e;rw[aS (bF hj)];exact f.slot j sl e
 .let nj:j≠i:=λz=>by
   subst z;let hl:j < δ.length:=by simpa using(av.mp e1).1
   rw[aY hl]at e1;cases e1
  let nk:k≠i:=λz=>by
   subst z;let hl:k < δ.length:=by simpa using(av.mp e2).1
   rw[aY hl]at e2;cases e2
  rw[aS (bF nj)]at e1 e3;rw[aS (bF nk)]at e2 ⊢;exact f.apart j k ds es p Fj e1 e2 e3
theorem fQ.Lv(f:fQ K B0 B H0 H σ δ){ds:!ai}{p:ay}(h1:H p>>(.lst xs))(h2:H0 p=none)(h3:B p=none)(r:bU K H0 xs ds)(hn:∀(j:Nat)es,δ[j]?>>(.own es)->σ[j]?≠some (some (.ref p))):
  fQ K B0 B H0 H (σ.set i (some (.ref p))) (δ.set i (.own ds)):=by
 refine#[f.ent,by simp[f.len],λj sl e=>?_,λj k Ky es q Fj e1 e2 e3=>?_]
 .by_cases hj:j=i
  .subst hj;let hl:j < δ.length:=by simpa using(av.mp e).1
   rw[aY hl]at e;cases e;rw[aY ([f.len]▸hl)];exact#[p,xs,rfl,h1,h2,h3,r]
  .rw[aS (bF hj)]at e;rw[aS (bF hj)];exact f.slot j sl e
 .let hlj:j < δ.length:=by simpa using(av.mp e1).1
  let hlk:k < δ.length:=by simpa using(av.mp e2).1
  by_cases nj:j=i
  .subst nj;rw[aY ([f.len]▸hlj)]at e3;cases e3;rw[aS Fj]at e2 ⊢;exact hn k es e2
  .rw[aS (bF nj)]at e1 e3;by_cases nk:k=i
   .subst nk;rw[aY ([f.len]▸hlk)];intro z;cases z;exact hn j Ky e1 e3
   .rw[aS (bF nk)]at e2 ⊢;exact f.apart j k Ky es q Fj e1 e2 e3
theorem fQ.push(f:fQ K B0 B H0 H σ δ){ds:!ai}{p:ay}{y:V}(hi:δ[i]?>>(.own ds))(hp:σ[i]?>>(some (.ref p)))(h1:H p>>(.lst xs))(ry:Rep K H0 y d):
  fQ K B0 B H0 (upd H p (.lst (xs ++ [y]))) σ (δ.set i (.own (ds ++ [d]))):=by
 let#[p',xs',e1,e2,e3,e4,e5]:=f.slot i _ hi;rw[hp]at e1;cases e1;rw[h1]at e2;cases e2;let hl:=(av.mp hi).1;refine#[#[λb u e=>?_,f.ent.eD,λb u e=>?_,f.ent.new],by simp[f.len],λj sl e=>?_,λj k Ky es q Fj a1 a2 a3=>?_]
 .let:b≠p:=bB e e4;rw[aI this];exact f.ent.big b u e
 .let:b≠p:=bB e e3;rw[aI this];exact f.ent.sub b u e
 .by_cases hj:j=i
  .subst hj;rw[aY hl]at e;cases e;exact#[p,_,hp,aT,e3,e4,e5.append (.cons ry .nil)]
  .rw[aS (bF hj)]at e;let q:=f.slot j sl e;cases sl with
   |un=>trivial
   |ref a=>exact q
   |val d=>exact q
   |own Ky=>
    let#[p2,O5,g1,g2,g3,g4,g5]:=q;let:p2≠p:=λz=>by subst z;exact f.apart i j ds Ky p2 (bF hj) hi e hp g1
    exact#[p2,O5,g1,[aI this]▸g2,g3,g4,g5]
 .let c1:∃DU,δ[j]?>>(.own DU):=by
   by_cases hj:j=i
   .subst hj;exact#[_,hi]
   .rw[aS (bF hj)]at a1;exact#[_,a1]
  let c2:∃DU,δ[k]?>>(.own DU):=by
   by_cases hk:k=i
   .subst hk;exact#[_,hi]
   .rw[aS (bF hk)]at a2;exact#[_,a2]
  let#[d1,c1]:=c1;let#[d2,c2]:=c2;exact f.apart j k d1 d2 q Fj c1 c2 a3
theorem fQ.freeze(f:fQ K B0 B H0 H σ δ){ds:!ai}{p:ay}(hi:δ[i]?>>(.own ds))(hp:σ[i]?>>(some (.ref p)))(h1:H p>>(.lst xs)):
  fQ K B0 B (upd H0 p (.lst xs)) H σ (δ.set i (.val (.list ds)))/\cz H0 (upd H0 p (.lst xs)):=by
 let#[p',xs',e1,e2,e3,e4,e5]:=f.slot i _ hi;rw[hp]at e1;cases e1;rw[h1]at e2;cases e2;let hl:=(av.mp hi).1;let sm:cz H0 (upd H0 p (.lst xs)):=λb u e=>[aI (bB e e3)]▸e;refine#[#[#[f.ent.big,f.ent.eD.trans sm,λb u e=>?_,λb e=>?_],by simp[f.len],λj sl e=>?_,λj k Ky es q Fj a1 a2 a3=>?_],sm]
 .by_cases hb:b=p
  .subst hb;rw[aT]at e;rwa[<-e]
  .rw[aI hb]at e;exact f.ent.sub b u e
 .by_cases hb:b=p
  .subst hb;exact .inr e4
  .rw[aI hb]at e;exact f.ent.new b e
 .by_cases hj:j=i
  .subst hj;rw[aY hl]at e;cases e;exact#[_,hp,.lst (jb.of aT) (e5.mono sm)]
  .rw[aS (bF hj)]at e;let q:=f.slot j sl e;cases sl with
   |un=>trivial
   |ref a=>exact q
   |val d=>let#[v,g1,g2]:=q;exact#[v,g1,g2.mono sm]
   |own Ky=>
    let#[p2,O5,g1,g2,g3,g4,g5]:=q;let:p2≠p:=λz=>by subst z;exact f.apart i j ds Ky p2 (bF hj) hi e hp g1
    exact#[p2,O5,g1,g2,[aI this]▸g3,g4,g5.mono sm]
 .let nj:j≠i:=λz=>by subst z;rw[aY hl]at a1;cases a1
  let nk:k≠i:=λz=>by subst z;rw[aY hl]at a2;cases a2
  rw[aS (bF nj)]at a1;rw[aS (bF nk)]at a2;exact f.apart j k Ky es q Fj a1 a2 a3
end
def cE(X:Cx)(e:bw):TE:=λσ H Q=>∀pins s,Inv X pins σ H s->wpAny (model X.prog X.w) X.A (eval e X.env) (EP X pins σ Q) X.xe s
def cT(X:Cx)(e:bw):TT:=λσ H Q=>∀pins s,Inv X pins σ H s->wpAny (model X.prog X.w) X.A (isTrue e X.env (eval e X.env)) (TP X pins σ Q) X.xe s
def cS(X:Cx)(st:eO):TS:=λD σ H=>∀pins s,Inv X pins σ H s->wpAny (model X.prog X.w) X.A (exec st X.env) (SP X pins D) X.xe s
def Ce(X:Cx)(st:!eO):TS:=λD σ H=>∀pins s,Inv X pins σ H s->wpAny (model X.prog X.w) X.A (execs st X.env) (SP X pins D) X.xe s
theorem cu:PE X e (cE X e):=λpins s _ _ _ I h=>h pins s I
theorem nG:PT X e (cT X e):=λpins s _ _ _ I h=>h pins s I
theorem Lw{e:eO}:PS X e (cS X e):=λpins s _ _ _ I h=>h pins s I
theorem kG{e:!eO}:Hw X e (Ce X e):=λpins s _ _ _ I h=>h pins s I
def VE(X:Cx)(e:bw)(δ:!Slot)(d:ai):Prop:=∀B0 B σ H0 H Q,fQ X.K B0 B H0 H σ δ->(∀v cQ H',dm H0 H cQ H'->Rep X.K cQ v d->Q v H')->cE X e σ H Q
def VO(X:Cx)(e:bw)(δ:!Slot)(ds:!ai):Prop:=∀B0 B σ H0 H Q,fQ X.K B0 B H0 H σ δ->
 (∀p xs cQ H',dm H0 H cQ H'->H p=none->cQ p=none->H' p>>(.lst xs)->bU X.K cQ xs ds->Q (.ref p) H')->cE X e σ H Q
def VT(X:Cx)(e:bw)(δ:!Slot)(b:Bool):Prop:=∀B0 B σ H0 H Q,fQ X.K B0 B H0 H σ δ->(∀cQ H',dm H0 H cQ H'->Q b H')->cT X e σ H Q
def VA(X:Cx)(es:!bw)(δ:!Slot)(ds:!ai):Prop:=∃t,PA X es t/\∀B0 B σ H0 H Q,fQ X.K B0 B H0 H σ δ->(∀vs cQ H',dm H0 H cQ H'->bU X.K cQ vs ds->Q vs H')->t σ H Q
theorem VE.of{t:TE}(h:PE X e t)(q:∀B0 B σ H0 H Q,fQ X.K B0 B H0 H σ δ->(∀v cQ H',dm H0 H cQ H'->Rep X.K cQ v d->Q v H')->t σ H Q):VE X e δ d:=
 λB0 B σ H0 H Q f k pins s I=>h pins s σ H Q I (q B0 B σ H0 H Q f k)
theorem VO.of{ds:!ai}{t:TE}(h:PE X e t)(q:∀B0 B σ H0 H Q,fQ X.K B0 B H0 H σ δ->
  (∀p xs cQ H',dm H0 H cQ H'->H p=none->cQ p=none->H' p>>(.lst xs)->bU X.K cQ xs ds->Q (.ref p) H')->t σ H Q):VO X e δ ds:=
 λB0 B σ H0 H Q f k pins s I=>h pins s σ H Q I (q B0 B σ H0 H Q f k)
theorem VT.of{t:TT}(h:PT X e t)(q:∀B0 B σ H0 H Q,fQ X.K B0 B H0 H σ δ->(∀cQ H',dm H0 H cQ H'->Q b H')->t σ H Q):VT X e δ b:=
 λB0 B σ H0 H Q f k pins s I=>h pins s σ H Q I (q B0 B σ H0 H Q f k)
theorem VO.ve{ds:!ai}(h:VO X e δ ds):VE X e δ (.list ds):=λB0 B σ H0 H Q f k=>h B0 B σ H0 H Q f λp xs cQ H' g h1 h2 h3 r=>by
 let sm:cz cQ (upd cQ p (.lst xs)):=λb u e=>[aI (bB e h2)]▸e;refine k _ _ H' #[g.big,g.eD.trans sm,λb u e=>?_,λb e=>?_] (.lst (jb.of aT) (r.mono sm))
 .by_cases hb:b=p
  .subst hb;rw[aT]at e;rwa[<-e]
  .rw[aI hb]at e;exact g.sub b u e
 .by_cases hb:b=p
  .subst hb;exact .inr h1
  .rw[aI hb]at e;exact g.new b e
def yT(K:aj)(r:R2)(d1 d2 d:ai):Prop:=∀x y H0 H Q,cz H0 H->Rep K H0 x d1->Rep K H0 y d2->(∀v cQ H',dm H0 H cQ H'->Rep K cQ v d->Q v H')->r x y H Q
section
variable{X:Cx}{a b c e:bw}{δ:!Slot}{d d1 d2 d3:ai}{pos:Pos}
theorem oO(i:Nat)(h:δ[i]?>>(.val d))(hN:tE X i x:=by ac_rfl):VE X (.Name x pos) δ d:=
 .of (vL hN) λB0 B σ H0 H Q f k=>let#[v,h1,h2]:=f.val h;#[v,h1,k v H0 H (.refl f.sub) h2]
theorem aL{i:Int}{j}:VE X (.Constant (.int i) j pos) δ (.int i):=.of SF λ_ _ _ _ _ _ f k=>k _ _ _ (.refl f.sub) (.int i)
theorem Rb{i:Bool}{j}:VE X (.Constant (.bool i) j pos) δ (.bool i):=.of V8 λ_ _ _ _ _ _ f k=>k _ _ _ (.refl f.sub) (.bl i)
theorem ia{j}:VE X (.Constant .none j pos) δ .none:=.of SG λ_ _ _ _ _ _ f k=>k _ _ _ (.refl f.sub) .non
theorem a_{i:Str}{j}:VE X (.Constant (.str i) j pos) δ (.str i):=.of SJ λ_ _ _ _ _ _ f k=>k _ _ _ (.refl f.sub) (.str i)
theorem two_d{r:R2}(hd:yT X.K r d1 d2 d)(h1:VE X a δ d1)(h2:VE X b δ d2):∀B0 B σ H0 H Q,fQ X.K B0 B H0 H σ δ->(∀v cQ H',dm H0 H cQ H'->Rep X.K cQ v d->Q v H')->Vo r (cE X a) (cE X b) σ H Q:=λB0 B σ H0 H Q f k=>h1 B0 B σ H0 H _ f λv H1 cW g1 r1=>h2 B0 B σ H1 cW _ (f.grow g1) λu H2 fG g2 r2=>hd v u H2 fG Q g2.sub (r1.mono g2.eD) r2 λw H3 wg g3 r3=>k w H3 wg ((g1.trans g2).trans g3) r3
theorem wj{op:Operator}{r:R2}(ho:sN X (binaryOp op) r)(hd:yT X.K r d1 d2 d)(h1:VE X a δ d1)(h2:VE X b δ d2):VE X (.BinOp a op b pos) δ d:=.of (DH ho cu cu) (two_d hd h1 h2)
theorem uf{r:R2}(ho:sN X (compareOp op) r)(hd:yT X.K r d1 d2 d)(h1:VE X a δ d1)(h2:VE X b δ d2)(hm:behindInMarks op b=false):VE X (.Compare a [op] [b] pos) δ d:=.of (Ol ho cu cu hm) (two_d hd h1 h2)
theorem gX{r:R2}{k:Bool}(ho:sN X (compareOp op) r)(hd:yT X.K r d1 d2 (.bool k))(h1:VE X a δ d1)(h2:VE X b δ d2)(hm:behindInMarks op b=false):VT X (.Compare a [op] [b] pos) δ k:=
 .of (B2 ho cu cu hm) λB0 B σ H0 H Q f q=>two_d hd h1 h2 B0 B σ H0 H _ f λv cQ H' g r=>by cases r;exact#[_,rfl,q cQ H' g]
theorem FX{r:R2}(ho:K7 X r)(hd:yT X.K r d1 d2 d)(h1:VE X a δ d1)(h2:VE X b δ d2)(hs:oo b:=by intro _ _;rfl):VE X (.Subscript a b pos) δ d:=.of (K8 ho cu cu hs) (two_d hd h1 h2)
end
theorem yU(i j:Int):yT K (Og λi j=>.int (g i j)) (.int i) (.int j) (.int (g i j)):=λx y H0 H Q s r1 r2 k=>by cases r1;cases r2;exact#[_,_,rfl,rfl,k _ _ _ (.refl s) (.int _)]
theorem DV{g:Int->Int->Bool}(i j:Int):yT K (Og λi j=>.bl (g i j)) (.int i) (.int j) (.bool (g i j)):=λx y H0 H Q s r1 r2 k=>by cases r1;cases r2;exact#[_,_,rfl,rfl,k _ _ _ (.refl s) (.bl _)]
theorem Tz{C:Int->Int->Prop}(i j:Int)(h:C i j):yT K (rI C λi j=>.int (g i j)) (.int i) (.int j) (.int (g i j)):=λx y H0 H Q s r1 r2 k=>by cases r1;cases r2;exact#[_,_,rfl,rfl,h,k _ _ _ (.refl s) (.int _)]
def TB(K:aj)(n:Nat)(g:ai->ai->Bool):R2:=λx y H Q=>∃dx dy,Rep K H x dx/\Rep K H y dy/\Lay n dx/\Lay n dy/\Q (.bl (g dx dy)) H
theorem FY(hu:X.A.units+n+2<cLine):sN X (compareOp .Eq) (TB X.K n λx y=>c9 x y):=by intro pins s σ H x y v u Q I rx ry #[dx,dy,r1,r2,l1,l2,q];let#[as,ra]:=jM I dx l1.1 r1 rx;let#[bs,rb]:=jM I dy l2.1 r2 ry;let h1:=l1.2;exact SeqAt.compareEq_reads ra rb l1.1 l2.1 ∅ #[.bl _,H,I,rfl,q]
theorem FZ(hu:X.A.units+n+2<cLine):sN X (compareOp .NotEq) (TB X.K n λx y=>not (c9 x y)):=by intro pins s σ H x y v u Q I rx ry #[dx,dy,r1,r2,l1,l2,q];let#[as,ra]:=jM I dx l1.1 r1 rx;let#[bs,rb]:=jM I dy l2.1 r2 ry;let h1:=l1.2;exact SeqAt.neOverData X.prog X.w X.A X.xe s v u dx dy as bs _ ra rb l1.1 l2.1 ∅ #[.bl _,H,I,rfl,q]
def qJ(d:ai):ai->Bool
 | .list xs=>xs.any λy=>c9 y d
 | .tuple xs=>xs.any λy=>c9 y d
 |_=>false
def Bc:ai->Bool
 | .list _=>true
 | .tuple _=>true
 |_=>false
def TF(K:aj)(n:Nat)(neg:Bool):R2:=λx y H Q=>∃dx dy,Rep K H x dx/\Rep K H y dy/\Bc dy=true/\Lay n dx/\Lay n dy/\Q (.bl (if neg then not (qJ dx dy) else qJ dx dy)) H
theorem Lx(hu:X.A.units+n+2<cLine):sN X (compareOp .In) (TF X.K n false):=by
 intro pins s σ H x y v u Q I rx ry #[dx,dy,r1,r2,hs,l1,l2,q];let#[as,ra]:=jM I dx l1.1 r1 rx;let#[bs,rb]:=jM I dy l2.1 r2 ry;let h1:=l1.2;cases dy with
 |list ys=>exact SeqAt.in_list_reads rb ra l2.1 l1.1 ∅ #[.bl _,H,I,rfl,q]
 |tuple ys=>exact SeqAt.in_tuple_reads rb ra l2.1 l1.1 ∅ #[.bl _,H,I,rfl,q]
 |_=>cases hs
theorem Bd(hu:X.A.units+n+2<cLine):sN X (compareOp .NotIn) (TF X.K n true):=by
 intro pins s σ H x y v u Q I rx ry #[dx,dy,r1,r2,hs,l1,l2,q];let#[as,ra]:=jM I dx l1.1 r1 rx;let#[bs,rb]:=jM I dy l2.1 r2 ry;let h1:=l1.2;cases dy with
 |list ys=>exact SeqAt.notIn_list_reads rb ra l2.1 l1.1 ∅ #[.bl _,H,I,rfl,q]
 |tuple ys=>exact SeqAt.notIn_tuple_reads rb ra l2.1 l1.1 ∅ #[.bl _,H,I,rfl,q]
 |_=>cases hs
theorem DW{g:ai->ai->Bool}{d1 d2:ai}(l1:Lay n d1)(l2:Lay n d2):yT K (TB K n g) d1 d2 (.bool (g d1 d2)):=λx y H0 H Q s r1 r2 k=>#[d1,d2,r1.mono s,r2.mono s,l1,l2,k _ _ _ (.refl s) (.bl _)]
theorem O6{neg:Bool}{d1 d2:ai}(hs:Bc d2=true)(l1:Lay n d1)(l2:Lay n d2):yT K (TF K n neg) d1 d2 (.bool (if neg then not (qJ d1 d2) else qJ d1 d2)):=λx y H0 H Q s r1 r2 k=>#[d1,d2,r1.mono s,r2.mono s,hs,l1,l2,k _ _ _ (.refl s) (.bl _)]
theorem Js{ds:!ai}{i:Int}(h:tF ds i>>d):yT K (ZC K) (.list ds) (.int i) d:=λx y H0 H Q s r1 r2 k=>by
 cases r2;cases r1 with
 |lst hq r=>
  rename_i p xs
  unfold tF at h;cases e:Kw ds.length i with
  |none=>rw[e]at h;cases h
  |some j=>rw[e]at h;let#[v,hv,rv]:=r.get (i:=j) (d:=d) h;exact .inl #[p,xs,i,v,rfl,rfl,s.seq hq,by unfold tF;rw[r.length,e];exact hv,k v _ _ (.refl s) rv]
theorem W5{ds:!ai}{i:Int}(h:tF ds i>>d):yT K (ZC K) (.tuple ds) (.int i) d:=λx y H0 H Q s r1 r2 k=>by
 cases r2;cases r1 with
 |tup hq r=>
  rename_i p xs
  unfold tF at h;cases e:Kw ds.length i with
  |none=>rw[e]at h;cases h
  |some j=>rw[e]at h;let#[v,hv,rv]:=r.get (i:=j) (d:=d) h;exact .inr (.inl #[p,xs,i,v,rfl,rfl,s.nF hq,by unfold tF;rw[r.length,e];exact hv,k v _ _ (.refl s) rv])
def W6(K:aj):R2:=λx y H Q=>∃l b xs zs,x=.ref l/\y=.ref b/\jb K H l xs/\jb K H b zs/\xs.length+zs.length<=sizeLine/\∀p,H p=none->Q (.ref p) (upd H p (.lst (xs++zs)))
theorem O7:sN X (binaryOp .Add) (W6 X.K):=by intro pins s σ H x y v u Q I rx ry h;let#[l,b,xs,zs,rfl,rfl,hl,hb,hz,q]:=h;cases rx;cases ry;let#[its,r1,#[#[cls,dd,data,sl],n,e1,c1,_,d1],z1]:=I.list hl;let#[Oy,r2,#[#[zaC,Zx,data2,Zy],n2,e2,c2,_,d2],z2]:=I.list hb;subst c1 d1 c2 d2;let l1:=r1.length;let l2:=r2.length;refine concat_meets #[_,e1,rfl] #[_,e2,rfl] noFill_list_add seq_list_add PySem.F.slot_list_add PySem.F.entry_list_add (PySem.F.args_list_add_2 _ _) (list_addW l b its.toArray Oy.toArray n n2 dd Zx sl Zy (by rw[bJ,bJ];omega)) #[e1,e2,?_];rw[show its.toArray++Oy.toArray=(its++Oy).toArray by simp];exact#[.ref _,_,I.zaJ (r1.append r2) (by rw[aX];omega),rfl,q _ I.fresh]
section
variable{X:Cx}{a b c e:bw}{es:!bw}{δ:!Slot}{d d1 d2 d3:ai}{ds:!ai}{pos:Pos}{i j:Int}{k:Nat}
theorem fw(h1:VE X a δ (.int i))(h2:VE X b δ (.int j)):VE X (.BinOp a .Add b pos) δ (.int (i+j)):=wj nD (yU i j) h1 h2
theorem ug(h1:VE X a δ (.int i))(h2:VE X b δ (.int j))(h:Oi i j):VE X (.BinOp a .Mult b pos) δ (.int (i*j)):=wj S0 (Tz i j h) h1 h2
theorem fH(h1:VE X a δ (.int i))(h2:VE X b δ (.int j))(h:0<j):VE X (.BinOp a .Mod b pos) δ (.int (i%j)):=wj S3 (Tz i j h) h1 h2
theorem jZ(h1:VE X a δ (.int i))(h2:VE X b δ (.int j))(h:Wn i j):VE X (.BinOp a .FloorDiv b pos) δ (.int (i/j)):=wj Oj (Tz i j h) h1 h2
theorem W7(h1:VE X a δ (.int i))(h2:VE X b δ (.int j)):VE X (.Compare a [.Gt] [b] pos) δ (.bool (decide (j<i))):=uf Q9 (DV i j) h1 h2 (f7 _)
theorem u_(h1:VE X a δ (.int i))(h2:VE X b δ (.int j)):VT X (.Compare a [.Lt] [b] pos) δ (decide (i<j)):=gX Wo (DV i j) h1 h2 (f7 _)
theorem Ly(h1:VE X a δ (.int i))(h2:VE X b δ (.int j)):VT X (.Compare a [.Gt] [b] pos) δ (decide (j<i)):=gX Q9 (DV i j) h1 h2 (f7 _)
theorem W8(h1:VE X a δ (.int i))(h2:VE X b δ (.int j)):VT X (.Compare a [.GtE] [b] pos) δ (decide (j<=i)):=gX Wp (DV i j) h1 h2 (f7 _)
theorem yV(hr:ei k X.A):X.A.units+20+2<cLine:=by let:=hr.un;omega
theorem kH(hr:ei k X.A)(l1:Lay 20 d1)(l2:Lay 20 d2)(h1:VE X a δ d1)(h2:VE X b δ d2):VT X (.Compare a [.Eq] [b] pos) δ (c9 d1 d2):=gX (FY (yV hr)) (DW l1 l2) h1 h2 (f7 _)
theorem mJ(hr:ei k X.A)(l1:Lay 20 d1)(l2:Lay 20 d2)(h1:VE X a δ d1)(h2:VE X b δ d2):VT X (.Compare a [.NotEq] [b] pos) δ (not (c9 d1 d2)):=gX (FZ (yV hr)) (DW l1 l2) h1 h2 (f7 _)
theorem nH(hr:ei k X.A)(l1:Lay 20 d1)(l2:Lay 20 d2)(h1:VE X a δ d1)(h2:VE X b δ d2):VE X (.Compare a [.Eq] [b] pos) δ (.bool (c9 d1 d2)):=uf (FY (yV hr)) (DW l1 l2) h1 h2 (f7 _)
theorem Lz(hr:ei k X.A)(hs:Bc d2=true)(l1:Lay 20 d1)(l2:Lay 20 d2)(h1:VE X a δ d1)(h2:VE X b δ d2)(hm:behindInMarks .In b=false:=by with_unfolding_all rfl):VT X (.Compare a [.In] [b] pos) δ (qJ d1 d2):=gX (Lx (yV hr)) (O6 hs l1 l2) h1 h2 hm
theorem yW(hr:ei k X.A)(hs:Bc d2=true)(l1:Lay 20 d1)(l2:Lay 20 d2)(h1:VE X a δ d1)(h2:VE X b δ d2)(hm:behindInMarks .NotIn b=false:=by with_unfolding_all rfl):VT X (.Compare a [.NotIn] [b] pos) δ (not (qJ d1 d2)):=gX (Bd (yV hr)) (O6 hs l1 l2) h1 h2 hm
theorem eJ(h1:VE X a δ (.list ds))(h2:VE X b δ (.int i))(h:tF ds i>>d)(hs:oo b:=by intro _ _;rfl):VE X (.Subscript a b pos) δ d:=FX oP (Js h) h1 h2 hs
theorem dQ(h1:VE X a δ (.tuple ds))(h2:VE X b δ (.int i))(h:tF ds i>>d)(hs:oo b:=by intro _ _;rfl):VE X (.Subscript a b pos) δ d:=FX oP (W5 h) h1 h2 hs
theorem Au{ds:!ai}{p0 q: Pos}{c}(i j:Nat)(h:δ[i]?>>(.val (.tuple ds)))(hj:ds[j]?>>d)(hN:tE X i x:=by ac_rfl)(hs:oo (.Constant (.int (j:Int)) c q):=by intro _ _;rfl):VE X (.Subscript (.Name x p0) (.Constant (.int (j:Int)) c q) pos) δ d:=dQ (oO i h hN) aL (df hj) hs
theorem rK:PT X e (λ_ _ _=>False):=λ_ _ _ _ _ _ h=>h.elim
theorem uh{k:Bool}(h:VT X a δ k):VT X (.UnaryOp .Not a pos) δ (not k):=.of (SM nG) λB0 B σ H0 H Q f q=>h B0 B σ H0 H _ f q
theorem rL(h1:VT X a δ k1)(h2:k1=true->VT X b δ k2):VT X (.BoolOp .And [a,b] pos) δ (k1&&k2):=by
 cases k1 with
 |true=>
  exact .of (pw_and nG (pw_and1 nG)).pt λB0 B σ H0 H Q f q=>h1 B0 B σ H0 H _ f λH1 cW g=>by exact h2 rfl B0 B σ H1 cW _ (f.grow g) λH2 fG g2=>q H2 fG (g.trans g2)
 |false=>
  exact .of (pw_and nG (pw_and1 rK)).pt λB0 B σ H0 H Q f q=>h1 B0 B σ H0 H _ f λH1 cW g=>by exact q H1 cW g
theorem gE(h1:VT X a δ k1)(h2:k1=false->VT X b δ k2):VT X (.BoolOp .Or [a,b] pos) δ (k1||k2):=by
 cases k1 with
 |false=>
  exact .of (pw_or nG (pw_or1 nG)).pt λB0 B σ H0 H Q f q=>h1 B0 B σ H0 H _ f λH1 cW g=>by exact h2 rfl B0 B σ H1 cW _ (f.grow g) λH2 fG g2=>q H2 fG (g.trans g2)
 |true=>
  exact .of (pw_or nG (pw_or1 rK)).pt λB0 B σ H0 H Q f q=>h1 B0 B σ H0 H _ f λH1 cW g=>by exact q H1 cW g
theorem LC{k3: Bool}(h1:VT X a δ k1)(h2:k1=false->VT X b δ k2)(h3:k1=false->k2=false->VT X c δ k3):VT X (.BoolOp .Or [a,b,c] pos) δ (k1||(k2||k3)):=by
 cases k1 with
 |true=>
  exact .of (pw_or nG (pw_or rK (pw_or1 rK))).pt λB0 B σ H0 H Q f q=>h1 B0 B σ H0 H _ f λH1 cW g=>by exact q H1 cW g
 |false=>
  cases k2 with
  |true=>
   exact .of (pw_or nG (pw_or nG (pw_or1 rK))).pt λB0 B σ H0 H Q f q=>h1 B0 B σ H0 H _ f λH1 cW g=>by refine h2 rfl B0 B σ H1 cW _ (f.grow g) λH2 fG g2=>?_;exact q H2 fG (g.trans g2)
  |false=>
   exact .of (pw_or nG (pw_or nG (pw_or1 nG))).pt λB0 B σ H0 H Q f q=>h1 B0 B σ H0 H _ f λH1 cW g=>by refine h2 rfl B0 B σ H1 cW _ (f.grow g) λH2 fG g2=>?_;exact h3 rfl rfl B0 B σ H2 fG _ ((f.grow g).grow g2) λH3 wg g3=>q H3 wg ((g.trans g2).trans g3)
def zaY:ai->Option Bool
 | .none=>some false
 | .bool b=>some b
 | .int i=>some (i != 0)
 | .list ds=>some (not ds.isEmpty)
 | .tuple ds=>some (not ds.isEmpty)
 |_=>none
theorem bU.empty{ds:!ai}(r:bU K H xs ds):xs.isEmpty=ds.isEmpty:=by cases r<;>rfl
theorem eS{t:Bool}(h:VE X a δ d)(ht:zaY d>>t)(he:∀whole,isTrue a X.env whole=(do let v <-whole;standAt a.pos;holding [v] (truthy v)):=by intro _;rfl):VT X a δ t:=
 .of (K0 cu he) λB0 B σ H0 H Q f q=>h B0 B σ H0 H _ f λv H1 cW g r=>by
  refine#[t,?_,q H1 cW g];cases r with
  |non=>cases ht;exact(rfl:false=false)
  |bl b=>cases ht;exact(rfl:t=t)
  |int i=>cases ht;exact(rfl:(i != 0)=(i != 0))
  |str x=>cases ht
  |lst hq r=>cases ht;exact .inl #[_,g.sub.seq hq,by rw[r.empty]]
  |tup hq r=>cases ht;exact .inr (.inl #[_,g.sub.nF hq,by rw[r.empty]])
  |dct _ _ _=>cases ht
  |O4 _ _ _=>cases ht
  |obj _ _ _ _ _=>cases ht
  |ZF _ _ _ _ _=>cases ht
  |Vw _ _ _=>cases ht
  |Vx _ _ _ _ _ _=>cases ht
theorem Cg{k:Bool}(h:VT X c δ k)(h1:k=true->VE X a δ d)(h2:k=false->VE X b δ d):VE X (.IfExp c a b pos) δ d:=
 .of (KR nG cu cu) λB0 B σ H0 H Q f q=>h B0 B σ H0 H _ f λH1 cW g=>by
  cases k with
  |true=>exact h1 rfl B0 B σ H1 cW _ (f.grow g) λv H2 fG g2 r=>q v H2 fG (g.trans g2) r
  |false=>exact h2 rfl B0 B σ H1 cW _ (f.grow g) λv H2 fG g2 r=>q v H2 fG (g.trans g2) r
theorem c5:VA X [] δ []:=#[_,dF,λ_ _ _ _ _ _ f q=>q _ _ _ (.refl f.sub) .nil]
theorem cY(h:VE X e δ d)(hr:VA X es δ ds)(hs:kB X e es:=by rfl):VA X (e::es) δ (d::ds):=by let#[t,p,ht]:=hr;exact#[_,cy cu p hs,λB0 B σ H0 H Q f q=>h B0 B σ H0 H _ f λv H1 cW g r=>ht B0 B σ H1 cW _ (f.grow g) λvs H2 fG g2 rs=>q _ _ _ (g.trans g2) (.cons (r.mono g2.eD) rs)]
theorem ic{x1}(h:VA X es δ ds)(hz:ds.length<=sizeLine:=by(simp only[dU];rw[cM];decide)):VE X (.Tuple es x1 pos) δ (.tuple ds):=by let#[t,p,ht]:=h;exact .of (yM p) λB0 B σ H0 H Q f q=>ht B0 B σ H0 H _ f λvs H1 cW g r=>#[[r.length]▸hz,λa ha=>q _ _ _ (g.trans (.laid g.sub ha)) (.tup (nV.of aT) (r.mono (dm.laid g.sub ha).eD))]
theorem dO(h:VA X es δ ds)(hz:ds.length<=sizeLine:=by(simp only[dU];rw[cM];decide)):VO X (.List es pos) δ ds:=by let#[t,p,ht]:=h;exact .of (vZ p) λB0 B σ H0 H Q f q=>ht B0 B σ H0 H _ f λvs H1 cW g r=>#[[r.length]▸hz,λa ha=>q a vs H1 _ (g.trans (.loose g.sub ha)) (g.big.free ha) (g.sub.free ha) aT r]
def cutD{α:Type}(xs:!α)(lo hi:Option Int):!α:=(xs.drop (HT.oj xs.length 0 lo)).take (HT.oj xs.length xs.length hi-HT.oj xs.length 0 lo)
theorem bU.cut(r:bU K H xs ds)(lo hi:Option Int):bU K H (Ji xs lo hi) (cutD ds lo hi):=by unfold Ji cutD;rw[r.length];exact(r.drop _).take _
inductive tQ(X:Cx)(δ:!Slot):Option bw->Option Int->Prop
 |no:tQ X δ none none
 |yes {e:bw} {i:Int}:VE X e δ (.int i)->tQ X δ (some e) (some i)
theorem tQ.ok{o:Option bw}{p:Option Int}(h:tQ X δ o p):∃t,PO X o t/\∀B0 B σ H0 H Q,fQ X.K B0 B H0 H σ δ->(∀cQ H',dm H0 H cQ H'->Q p H')->t σ H Q:=by
 cases h with
 |no=>exact#[_,Ov,λ_ _ _ _ _ _ f q=>q _ _ (.refl f.sub)]
 |yes h=>exact#[_,Ow cu,λB0 B σ H0 H Q f q=>h B0 B σ H0 H _ f λv H1 cW g r=>by cases r;exact#[_,rfl,q _ _ g]]
theorem lL{lo hi:Option bw}{l u:Option Int}(h:VE X a δ (.list ds))(hl:tQ X δ lo l)(hh:tQ X δ hi u):VO X (.Subscript a (.Slice lo hi none p2) pos) δ (cutD ds l u):=by
 let#[tl,pl,ql]:=hl.ok;let#[th,ph,qh]:=hh.ok;refine .of (yP OB cu pl ph) λB0 B σ H0 H Q f q=>h B0 B σ H0 H _ f λv H1 cW g r=>ql B0 B σ H1 cW _ (f.grow g) λH2 fG g2=>qh B0 B σ H2 fG _ ((f.grow g).grow g2) λH3 wg g3=>?_;cases r with
 |lst hq r=>refine#[_,_,rfl,g3.sub.seq ((g2.eD.trans g3.eD).seq hq),λp hp=>?_];let gg:=(g.trans g2).trans g3;exact q p _ H3 _ (gg.trans (.loose g3.sub hp)) (gg.big.free hp) (g3.sub.free hp) aT ((r.mono (g2.eD.trans g3.eD)).cut l u)
theorem sO{lo hi:Option bw}{l u:Option Int}(h:VE X a δ (.tuple ds))(hl:tQ X δ lo l)(hh:tQ X δ hi u)(hw:¬(HT.oj ds.length 0 l=0/\HT.oj ds.length ds.length u=ds.length)):
  VE X (.Subscript a (.Slice lo hi none p2) pos) δ (.tuple (cutD ds l u)):=by
 let#[tl,pl,ql]:=hl.ok;let#[th,ph,qh]:=hh.ok;refine .of (yP S9 cu pl ph) λB0 B σ H0 H Q f q=>h B0 B σ H0 H _ f λv H1 cW g r=>ql B0 B σ H1 cW _ (f.grow g) λH2 fG g2=>qh B0 B σ H2 fG _ ((f.grow g).grow g2) λH3 wg g3=>?_;cases r with
 |tup hq r=>refine#[_,_,rfl,g3.sub.nF ((g2.eD.trans g3.eD).nF hq),[r.length]▸hw,λp hp=>?_];exact q _ _ _ (((g.trans g2).trans g3).trans (.laid g3.sub hp)) (.tup (nV.of aT) (((r.mono (g2.eD.trans g3.eD)).cut l u).mono (dm.laid g3.sub hp).eD))
def nI(K:aj)(r:!V->Hp->VK->Prop)(ds:!ai)(d:ai):Prop:=∀vs H0 H Q,cz H0 H->bU K H0 vs ds->(∀v cQ H',dm H0 H cQ H'->Rep K cQ v d->Q v H')->r vs H Q
def HP(K:aj)(r:!V->Hp->VK->Prop)(ds es:!ai):Prop:=∀vs H0 H Q,cz H0 H->bU K H0 vs ds->
 (∀p xs cQ H',dm H0 H cQ H'->H p=none->cQ p=none->H' p>>(.lst xs)->bU K cQ xs es->Q (.ref p) H')->r vs H Q
theorem fX(hc:iz X (.builtin id) r)(hd:nI X.K r ds d)(ha:VA X (e::es) δ ds)(hm:X.mg x=none)(hv:bootBuiltins x>>(.builtin id))(hg:Gl X x:=by rfl)(hn:x≠"__name__":=by decide)(o6:uc x:=by decide)
  (he:kB X e es:=by rfl)(lB:pU X pos es:=by rfl):VE X (.Call (.Name x p) (e::es) [] pos) δ d:=by let#[t,pa,ht]:=ha;exact .of (rF hc hg hm hv pa hn o6 he lB) λB0 B σ H0 H Q f q=>ht B0 B σ H0 H _ f λvs H1 cW g r=>hd vs H1 cW Q g.sub r λv H2 fG g2 r2=>q v H2 fG (g.trans g2) r2
theorem kf(hc:iz X (.type id) r)(hd:nI X.K r ds d)(ha:VA X (e::es) δ ds)(hm:X.mg x=none)(hv:bootBuiltins x>>(.type id))(hg:Gl X x:=by rfl)(hn:x≠"__name__":=by decide)(o6:uc x:=by decide)
  (he:kB X e es:=by rfl)(lB:pU X pos es:=by rfl):VE X (.Call (.Name x p) (e::es) [] pos) δ d:=by let#[t,pa,ht]:=ha;exact .of (k7 hc hg hm hv pa hn o6 he lB) λB0 B σ H0 H Q f q=>ht B0 B σ H0 H _ f λvs H1 cW g r=>hd vs H1 cW Q g.sub r λv H2 fG g2 r2=>q v H2 fG (g.trans g2) r2
theorem pq{zs:!ai}(hc:iz X (.type id) r)(hd:HP X.K r ds zs)(ha:VA X (e::es) δ ds)(hm:X.mg x=none)(hv:bootBuiltins x>>(.type id))(hg:Gl X x:=by rfl)(hn:x≠"__name__":=by decide)(o6:uc x:=by decide)
  (he:kB X e es:=by rfl)(lB:pU X pos es:=by rfl):VO X (.Call (.Name x p) (e::es) [] pos) δ zs:=by let#[t,pa,ht]:=ha;exact .of (k7 hc hg hm hv pa hn o6 he lB) λB0 B σ H0 H Q f q=>ht B0 B σ H0 H _ f λvs H1 cW g r=>hd vs H1 cW Q g.sub r λv xs H2 fG g2 a1 a2 a3 a4=>q v xs H2 fG (g.trans g2) (g.big.free a1) a2 a3 a4
theorem bU.one(r:bU K H vs [d]):∃v,vs=[v]/\Rep K H v d:=by cases r with|cons a t=>cases t;exact#[_,rfl,a]
theorem bU.two(r:bU K H vs [d1,d2]):∃v w,vs=[v,w]/\Rep K H v d1/\Rep K H w d2:=by cases r with|cons a t=>cases t with|cons b t=>cases t;exact#[_,_,rfl,a,b]
theorem W9:nI K (λxs H Q=>∃p ys,xs=[.ref p]/\(jb K H p ys\/nV K H p ys)/\Q (.int ys.length) H) [.list ds] (.int ds.length):=λvs H0 H Q s r k=>by let#[v,rfl,r1]:=r.one;cases r1 with|lst hq r=>exact#[_,_,rfl,.inl (s.seq hq),k _ _ _ (.refl s) ([r.length]▸.int _)]
theorem TH:nI K (λxs H Q=>∃p ys,xs=[.ref p]/\(jb K H p ys\/nV K H p ys)/\Q (.int ys.length) H) [.tuple ds] (.int ds.length):=λvs H0 H Q s r k=>by let#[v,rfl,r1]:=r.one;cases r1 with|tup hq r=>exact#[_,_,rfl,.inr (s.nF hq),k _ _ _ (.refl s) ([r.length]▸.int _)]
theorem yo:nI K (λxs H Q=>∃p ys,xs=[.ref p]/\((jb K H p ys/\∀l,H l=none->Q (.ref l) (upd H l (.tup ys)))\/(nV K H p ys/\Q (.ref p) H))) [.list ds] (.tuple ds):=λvs H0 H Q s r k=>by let#[v,rfl,r1]:=r.one;cases r1 with|lst hq r=>exact#[_,_,rfl,.inl #[s.seq hq,λl hl=>k _ _ _ (.laid s hl) (.tup (nV.of aT) (r.mono (dm.laid s hl).eD))]]
theorem ie(h:VE X a δ (.list ds))(hm:X.mg "len"=none)(hg:Gl X "len":=by rfl)(hs:kB X a []:=by rfl):VE X (.Call (.Name "len" p) [a] [] pos) δ (.int ds.length):=fX uY W9 (cY h c5 hs) hm tq hg (he:=hs)
theorem lE(h:VE X a δ (.tuple ds))(hm:X.mg "len"=none)(hg:Gl X "len":=by rfl)(hs:kB X a []:=by rfl):VE X (.Call (.Name "len" p) [a] [] pos) δ (.int ds.length):=fX uY TH (cY h c5 hs) hm tq hg (he:=hs)
theorem nJ{d1 d2:!ai}(h1:VE X a δ (.list d1))(h2:VE X b δ (.list d2))(hz:d1.length+d2.length<=sizeLine):VO X (.BinOp a .Add b pos) δ (d1++d2):=by
 refine .of (DH O7 cu cu) λB0 B σ H0 H Q f q=>h1 B0 B σ H0 H _ f λv H1 cW g1 r1=>h2 B0 B σ H1 cW _ (f.grow g1) λu H2 fG g2 r2=>?_;cases r1 with
 |lst hq r1=>
  cases r2 with
  |lst Jt r2=>let gg:=g1.trans g2;exact#[_,_,_,_,rfl,rfl,g2.sub.seq (g2.eD.seq hq),g2.sub.seq Jt,[r1.length,r2.length]▸hz,λp hp=>(q p _ H2 _ (gg.trans (.loose g2.sub hp)) (gg.big.free hp) (g2.sub.free hp) aT ((r1.mono g2.eD).append r2))]
end
inductive Du where
 |one (i:Nat)
 |tup (is:!Nat)
variable{tgt:Du}
def F0:!Nat->Q7
 | []=>Wf
 |i::r=>Q8 (A3 i) (F0 r)
def F1(K:aj):Du->TG
 | .one i=>A3 i
 | .tup is=>Wh K is.length (F0 is)
def oQ:!Nat->!ai->!Slot->!Slot
 |i::r,d::ds,δ=>oQ r ds (δ.set i (.val d))
 |_,_,δ=>δ
def ui:Du->ai->!Slot->Option (!Slot)
 | .one i,d,δ=>some (δ.set i (.val d))
 | .tup is,.tuple ds,δ=>if ds.length=is.length then some (oQ is ds δ)else none
 |_,_,_=>none
section
variable{K:aj}{B0 B H0 H:Hp}
theorem DX:∀{is:!Nat}{xs:!V}{ds:!ai}{σ:St}{δ:!Slot}{Q:St->Hp->Prop},fQ K B0 B H0 H σ δ->bU K H0 xs ds->ds.length=is.length->(∀σ',fQ K B0 B H0 H σ' (oQ is ds δ)->Q σ' H)->F0 is xs σ H Q
 | [],xs,ds,σ,δ,Q,f,r,hl,q=>by let:ds=[]:=mx hl;subst this;cases r;exact#[rfl,q σ f]
 |i::is,xs,ds,σ,δ,Q,f,r,hl,q=>by
  cases r with
  |nil=>cases hl
  |cons a t=>exact#[_,_,rfl,DX (f.set a) t ↑hl q]
theorem rM{v:V}{Q:St->Hp->Prop}(f:fQ K B0 B H0 H σ δ)(r:Rep K H0 v d)(h:ui tgt d δ>>δ')(q:∀σ',fQ K B0 B H0 H σ' δ'->Q σ' H):F1 K tgt v σ H Q:=by
 cases tgt with
 |one i=>cases h;exact q _ (f.set r)
 |tup is=>
  cases r with
  |tup hq r=>
   rename_i ds
   let h':(if ds.length=is.length then some (oQ is ds δ)else none)>>δ':=h;by_cases hl:ds.length=is.length
   .rw[qQ3 hl]at h';cases h';exact#[_,_,rfl,f.sub.nF hq,by rw[r.length,hl],DX f r hl q]
   .rw[qQ2 hl]at h';cases h'
  |_=>cases h
end
def ZG(K:aj)(J:It)(H0:Hp)(ds:!ai):Prop:=∀cQ H',cz H0 cQ->cz cQ H'->∀i,(i<ds.length->J.go i H')/\(ds.length<=i->J.stop i H')/\
 ∀x x3 d,ds[i]?>>d->J.Wi i H' x x3->∃W_,dm cQ H' W_ x3/\Rep K W_ x d
def VI(X:Cx)(tg iter:bw)(δ:!Slot)(ds:!ai):Prop:=∃wi,PI X tg iter wi/\∀B0 B σ H0 H R,fQ X.K B0 B H0 H σ δ->(∀J cQ H',dm H0 H cQ H'->ZG X.K J cQ ds->R J H')->wi σ H R
def yX(ds:!ai):!ai:=ds.zipIdx.map λp=>.tuple [.int p.2,p.1]
theorem gN(ds:!ai):(yX ds).length=ds.length:=by simp[yX]
theorem sP{ds:!ai}(h:(yX ds)[i]?>>d):∃x,ds[i]?>>x/\d=.tuple [.int i,x]:=by
 unfold yX at h;rw[aH,Hn]at h;cases e:ds[i]? with
 |none=>rw[e]at h;simp at h
 |some x=>rw[e]at h;simp at h;exact#[x,rfl,h.symm]
def f9(n:Nat):!ai:=(cj n).map λ(i:Nat)=>.int (i:Int)
section
variable{X:Cx}{tg a b:bw}{δ:!Slot}{ds:!ai}{pos:Pos}
theorem fj(h:VE X a δ (.list ds)):VI X tg a δ ds:=#[_,HC cu,λB0 B σ H0 H R f q=>h B0 B σ H0 H _ f λv H1 cW g r=>by
 cases r with
 |lst hq r=>
  refine#[_,rfl,#[_,g.sub.seq hq],q _ H1 cW g λHa Hb s1 s2 i=>?_];let hl:=r.length;let hS:=(s1.trans s2).seq hq;refine#[λhi=>?_,λhi=>#[_,hS,∅],λx x3 d hd #[e,y]=>?_]
  .let#[x,hx,_]:=r.get (i:=i) (d:=ds[i]) (by simp[hi]);exact#[_,x,hS,hx]
  .subst e;exact#[Ha,.refl s2,(r.mono s1).at hd (y _ hS)]]
theorem yZ(h:VE X a δ (.tuple ds)):VI X tg a δ ds:=#[_,SX cu,λB0 B σ H0 H R f q=>h B0 B σ H0 H _ f λv H1 cW g r=>by
 cases r with
 |tup hq r=>
  refine#[_,rfl,#[_,g.sub.nF hq],q _ H1 cW g λHa Hb s1 s2 i=>?_];let hl:=r.length;let hS:=(s1.trans s2).nF hq;refine#[λhi=>?_,λhi=>#[_,hS,∅],λx x3 d hd #[e,y]=>?_]
  .let#[x,hx,_]:=r.get (i:=i) (d:=ds[i]) (by simp[hi]);exact#[_,x,hS,hx]
  .subst e;exact#[Ha,.refl s2,(r.mono s1).at hd (y _ hS)]]
theorem rN{n:Int}(h:VE X a δ (.int n))(hm:X.mg "range"=none)(h1:-(2^62)<=n)(h2:n<2^62)(hg:Gl X "range":=by rfl)(hs:starEach [a] X.env=[(false,eval a X.env)]:=by rfl):VI X tg (.Call (.Name "range" p) [a] [] pos) δ (f9 n.toNat):=
 #[_,A5 hg hm (cy cu dF hs) hs,λB0 B σ H0 H R f q=>h B0 B σ H0 H _ f λv H1 cW g r=>by
  cases r;refine#[n,rfl,h1,h2,q _ H1 cW g λHa Hb s1 s2 i=>#[λhi=>(show i<n.toNat from by simpa[f9]using hi),λhi=>(show n.toNat<=i from by simpa[f9]using hi),λx x3 d hd #[e,y]=>?_]];subst e;subst y;unfold f9 at hd;rw[aH]at hd;let hi:i<n.toNat:=by
   rcases Nat.lt_or_ge i n.toNat with z|z
   .exact z
   .rw[fz ↑z]at hd;cases hd
  rw[jS hi]at hd;cases hd;exact#[Ha,.refl s2,[Int.zero_add]▸.int _]]
theorem yp{k}(h:VE X a δ (.list ds))(hm:X.mg "enumerate"=none)(hg:Gl X "enumerate":=by rfl)(hs:starEach [a] X.env=[(false,eval a X.env)]:=by rfl):VI X (.Tuple elts k tp) (.Call (.Name "enumerate" p) [a] [] pos) δ (yX ds):=
 #[_,O2 hg hm (cy cu dF hs) hs,λB0 B σ H0 H R f q=>h B0 B σ H0 H _ f λv H1 cW g r=>by
  cases r with
  |lst hq r=>
   refine#[_,rfl,#[_,g.sub.seq hq],q _ H1 cW g λHa Hb s1 s2 i=>?_];let hl:=r.length;let hS:=(s1.trans s2).seq hq;refine#[λhi=>?_,λhi=>#[_,hS,by rw[gN]at hi;omega],λx x3 d hd #[t,y,e1,e2,e3,e4]=>?_]
   .rw[gN]at hi;let#[x,hx,_]:=r.get (i:=i) (d:=ds[i]) (by simp[hi]);exact#[_,x,hS,hx]
   .let#[z,hz,rfl]:=sP hd;subst e1;subst e3;refine#[_,.laid s2 e2,.tup (nV.of aT) (.cons (.int _) (.cons ?_ .nil))];exact((r.mono s1).at hz (e4 _ hS)).mono (dm.laid s2 e2).eD]
end
def cTs(X:Cx)(ifs:!bw):TT:=λσ H Q=>∀pins s,Inv X pins σ H s->wpAny (model X.prog X.w) X.A (testsOf ifs X.env) (TP X pins σ Q) X.xe s
def O8(X:Cx)(ifs:!bw)(δ:!Slot)(b:Bool):Prop:=∀B0 B σ H0 H Q,fQ X.K B0 B H0 H σ δ->(∀cQ H',dm H0 H cQ H'->Q b H')->cTs X ifs σ H Q
theorem mO:O8 X [] δ true:=λ_ _ _ _ _ _ f q pins s I=>Cd pins s _ _ _ I (q _ _ (.refl f.sub))
theorem va{c:bw}(h:VT X c δ b):O8 X [c] δ b:=λB0 B σ H0 H Q f q pins s I=>O1 nG pins s σ H Q I (h B0 B σ H0 H Q f q)
def W':Slot->Slot
 | .val d=>.val d
 |_=>.un
def mK(own:!Str)(cap:!Nat)(δ:!Slot):!Slot:=bp own.length .un++cap.map λi=>W' (δ.getD i .un)
section
variable{K:aj}{B0 B H0 H:Hp}{σ:St}{δ:!Slot}
theorem fQ.comp(f:fQ K B0 B H0 H σ δ)(own:!Str)(cap:!Nat):fQ K B0 B H0 H (jY own cap σ) (mK own cap δ):=by
 let noOwn:∀(i:Nat)ds,(mK own cap δ)[i]?≠some (.own ds):=λi ds e=>by
  unfold mK at e;by_cases hi:i<own.length
  .rw[bO ↑hi,cG]at e;split at e<;>cases e
  .rw[bK ↑(ef hi),aH]at e;cases q:cap[i-(bp own.length Slot.un).length]? with
   |none=>rw[q]at e;cases e
   |some j=>rw[q]at e;simp only[fe,eP]at e;revert e;cases δ.getD j .un<;>(intro e;cases e)
 refine#[f.ent,by simp[jY,mK],λi sl e=>?_,λi j ds es p _ a1=>qQ7 a1 (noOwn i ds)];unfold mK at e;unfold jY;by_cases hi:i<own.length
 .rw[bO ↑hi,cG]at e;split at e<;>cases e<;>trivial
 .rw[bK ↑(ef hi),aH,dN]at e;rw[bK ↑(ef hi),aH,dN];cases q:cap[i-own.length]? with
  |none=>rw[q]at e;cases e
  |some j=>
   rw[q]at e;simp only[fe,eP]at e ⊢;cases w:δ[j]? with
   |none=>rw[aR,w]at e;subst e;trivial
   |some Sy=>
    rw[aR,w]at e;cases Sy with
    |un=>subst e;trivial
    |ref a=>subst e;trivial
    |own ds=>subst e;trivial
    |val d=>subst e;let#[v,h1,h2]:=f.slot j _ w;exact#[v,by rw[aR,h1];rfl,h2]
theorem fQ.forget(f:fQ K B0 B H0 H σ δ)(hl:δ'.length=δ.length)(h:∀(i:Nat)sl,δ'[i]?>>sl->sl=.un\/δ[i]?>>sl):fQ K B0 B H0 H σ δ':=by
 refine#[f.ent,[hl]▸f.len,λi sl e=>?_,λi j ds es p vX a1 a2 a3=>?_]
 .rcases h i sl e with rfl|z
  .trivial
  .exact f.slot i sl z
 .rcases h i _ a1 with z|z
  .cases z
  .rcases h j _ a2 with y|y
   .cases y
   .exact f.apart i j ds es p vX z y a3
theorem fQ.touch{D:ay}(f:fQ K B0 B H0 H σ δ)(h0:H0 D=none)(hB:B D=none)(hn:∀(i:Nat)ds,δ[i]?≠some (.own ds)):fQ K B0 B H0 (upd H D o) σ δ:=by
 refine#[#[λb u e=>[aI (bB e hB)]▸f.ent.big b u e,f.ent.eD,λb u e=>[aI (bB e h0)]▸f.ent.sub b u e,f.ent.new],f.len,λi sl e=>?_,f.apart];let q:=f.slot i sl e;cases sl with
 |un=>trivial
 |ref a=>exact q
 |val d=>exact q
 |own ds=>exact qQ7 e (hn i ds)
end
theorem oS:∀(is:!Nat)(ds:!ai)(δ:!Slot),(oQ is ds δ).length=δ.length
 | [],_,_=>rfl
 |_::_,[],_=>rfl
 |i::is,d::ds,δ=>by show(oQ is ds (δ.set i _)).length=_;rw[oS];simp
theorem uj:∀(is:!Nat)(ds:!ai)(δ:!Slot)(j:Nat),j∉is->(oQ is ds δ)[j]?=δ[j]?
 | [],_,_,_,_=>rfl
 |_::_,[],_,_,_=>rfl
 |i::is,d::ds,δ,j,h=>by show(oQ is ds (δ.set i _))[j]?=_;rw[uj is ds _ j λz=>h (aM _ z),aS (λ(z:i=j)=>h ([z]▸aJ))]
def pw(n:Nat):Du->Bool
 | .one i=>decide (i<n)
 | .tup is=>is.all λi=>decide (i<n)
theorem comp_back(ht:pw own.length tgt=true)(h:ui tgt d (mK own cap δ)>>δ'):
  δ'.length=(mK own cap δ).length/\∀(i:Nat)sl,(mK own cap δ)[i]?>>sl->sl=.un\/δ'[i]?>>sl:=by
 let low:∀(i:Nat)sl,i<own.length->(mK own cap δ)[i]?>>sl->sl=.un:=λi sl hi e=>by unfold mK at e;rw[bO ↑hi,cG]at e;split at e<;>cases e<;>rfl
 cases tgt with
 |one i=>
  cases h;refine#[by simp,λj sl e=>?_];let hi:i<own.length:=by simpa[pw]using ht
  by_cases hj:j<own.length
  .exact .inl (low j sl hj e)
  .exact .inr ((aS ∅).trans e)
 |tup is=>
  cases d with
  |tuple ds=>
   let h':(if ds.length=is.length then some (oQ is ds _)else none)>>δ':=h;by_cases hl:ds.length=is.length
   .rw[qQ3 hl]at h';cases h';refine#[oS _ _ _,λj sl e=>?_];by_cases hj:j<own.length
    .exact .inl (low j sl hj e)
    .refine .inr ?_;rw[uj _ _ _ _ λz=>hj ?_]
     .exact e
     .let:=cO.mp ht j z;simpa using this
   .rw[qQ2 hl]at h';cases h'
  |_=>cases h
theorem ou(i:Nat)(ds:!ai):(mK own cap δ)[i]?≠some (.own ds):=λe=>by
 unfold mK at e;by_cases hi:i<own.length
 .rw[bO ↑hi,cG]at e;split at e<;>cases e
 .rw[bK ↑(ef hi),aH]at e;cases q:cap[i-(bp own.length Slot.un).length]? with
  |none=>rw[q]at e;cases e
  |some j=>rw[q]at e;simp only[fe,eP]at e;revert e;cases δ.getD j .un<;>(intro e;cases e)
section
variable{X:Cx}{sc:jx}{own N:!Str}{cap:!Nat}{cl:!(Str×ay)}{tg elt iter:bw}{ifs:!bw}{δ:!Slot}{ds:!ai}{pos:Pos}{tgt:Du}
def y0(X:Cx)(sc:jx)(own:!Str)(cap:!Nat)(N:!Str)(cl:!(Str×ay))(tgt:Du)(elt:bw)(ifs:!bw)(δ:!Slot)(F:ai->Option ai)(d:ai):Prop:=
 ∃δ',ui tgt d (mK own cap δ)>>δ'/\(∀f s3 H3,O8 (eQ X sc N cl f s3 H3) ifs δ' (F d).isSome)/\∀r,F d>>r->∀f s3 H3,VE (eQ X sc N cl f s3 H3) elt δ' r
theorem Ci{N: !Str}{elt:bw}{r: ai}(h1:ui tgt d (mK own cap δ)>>δ')(h2:F d>>r)(h3:∀f s3 H3,VE (eQ X sc N cl f s3 H3) elt δ' r):y0 X sc own cap N cl tgt elt [] δ F d:=
 #[δ',h1,λf s3 H3=>[h2]▸mO,λr' e f s3 H3=>by rw[h2]at e;cases e;exact h3 f s3 H3]
def teC(X:Cx)(sc:jx)(N:!Str)(cl:!(Str×ay))(elt:bw):TE:=λσ H Q=>∀f s3 H3,cE (eQ X sc N cl f s3 H3) elt σ H Q
def Xa(X:Cx)(sc:jx)(N:!Str)(cl:!(Str×ay))(ifs:!bw):TT:=λσ H Q=>∀f s3 H3,cTs (eQ X sc N cl f s3 H3) ifs σ H Q
theorem rO(ht:pw own.length tgt=true)(hz:ds.length<=sizeLine)(step:∀d∈ds,y0 X sc own cap N cl tgt elt ifs δ F d){J:It}{B0 B: Hp}{Q:VK}(f:fQ X.K B0 B H0 H σ δ)(it:ZG X.K J H0 ds)
  (q:∀p xs cQ H',dm H0 H cQ H'->H p=none->cQ p=none->H' p>>(.lst xs)->bU X.K cQ xs (ds.filterMap F)->Q (.ref p) H'):
  wc J (F1 X.K tgt) (Xa X sc N cl ifs) (teC X sc N cl elt) (jY own cap σ) H Q:=by
 intro D hD;let hBD:=f.ent.big.free hD;refine#[λi m ys σ' H'=>i<=ds.length/\m=ds.length-i/\ys.length<=i/\∃Ha,dm H0 H Ha H'/\fQ X.K B0 B Ha H' σ' _/\Ha D=none/\H' D>>(.lst ys)/\bU X.K Ha ys ((ds.take i).filterMap F),
  #[_,aW _,rfl,aE _,H0,.loose f.sub hD,(f.comp own cap).touch (f.sub.free hD) hBD ou,f.sub.free hD,aT,by simpa using bU.nil],?_];rintro i m ys σ' H' ⟨hi,rfl,hy,Ha,g,fa,Rc,Vu,rs⟩;let#[i1,i2,i3]:=it Ha H' g.eD g.sub i;by_cases nE:i<ds.length
 .refine .inr #[i1 nE,λx H2 y=>?_];let hd:ds[i]?>>ds[i]:=by simp[nE]
  let#[Hb,g2,rx]:=i3 x H2 ds[i] hd y;let#[δ',e1,e2,e3]:=step ds[i] (dM nE);let#[k1,k2]:=comp_back ht e1;let noD:∀{Hx Hy:Hp},dm Ha H' Hx Hy->Hx D=none:=λ{Hx Hy}gg=>by
   cases e:Hx D with
   |none=>rfl
   |some o=>
    rcases gg.new D (by rw[e];simp)with z|z
    .exact qQ7 Rc z
    .rw[Vu]at z;cases z
  let tk:(ds.take (i+1)).filterMap F=(ds.take i).filterMap F++(F ds[i]).toList:=by rw[cB,hd,sM];cases eF:F ds[i]<;>simp[nq,eF]
  refine rM (fa.grow g2) rx e1 λσ3 f3=>?_;intro fp s3 H3;refine e2 fp s3 H3 B0 B σ3 Hb H2 _ f3 λHc H4 g4=>?_;let Xb:=g2.trans g4;cases eF:F ds[i] with
  |none=>refine#[_,∅,nE,rfl,∅,Hc,g.trans Xb,(f3.grow g4).forget k1.symm k2,noD Xb,Xb.big _ _ Vu,?_];rw[tk,eF];simpa using rs.mono Xb.eD
  |some r=>
   intro fp' s3' wg;refine e3 r eF fp' s3' wg B0 B σ3 Hc H4 _ (f3.grow g4) λw Hd H5 g5 r5=>?_;let N1:=Xb.trans g5;let hD5:=noD N1;refine#[N1.big _ _ Vu,∅,_,∅,nE,rfl,by simp;omega,Hd,?_,((f3.grow g4).grow g5 |>.forget k1.symm k2).touch hD5 hBD ou,hD5,aT,?_]
   .let gg:=g.trans N1;exact#[λb u e=>[aI (bB e hD)]▸gg.big b u e,gg.eD,λb u e=>[aI (bB e hD5)]▸gg.sub b u e,gg.new]
   .rw[tk,eF];exact(rs.mono N1.eD).append (.cons r5 .nil)
 .let e:i=ds.length:=∅;subst e;refine .inl #[i2 ∅,q D ys Ha H' g hD Rc Vu ?_];simpa using rs
theorem dX(hc:X.calm=true)(CS:h_ X sc own cap N cl)(hi:VI X tg iter δ ds)(hg:∀f s3 H3,PG (eQ X sc N cl f s3 H3) tg (F1 X.K tgt))(ht:pw own.length tgt=true)(hz:ds.length<=sizeLine)
  (step:∀d∈ds,y0 X sc own cap N cl tgt elt ifs δ F d)(hs:Fx X iter:=by intro _;rfl):VO X (.ListComp elt [#[tg,iter,ifs,0]] sc pos) δ (ds.filterMap F):=by let#[wi,pi,qi]:=hi;refine .of (HN (tc:=Xa X sc N cl ifs) (te:=teC X sc N cl elt) hc CS pi hg (λf s3 H3 pins s σ H Q I h=>h f s3 H3 pins s I) (λf s3 H3 pins s σ H Q I h=>h f s3 H3 pins s I) hs) λB0 B σ H0 H Q f q=>?_;exact qi B0 B σ H0 H _ f λJ H1 cW g it=>(rO ht hz step (f.grow g) it λp xs Ha Hb g2 a1 a2 a3 a4=>q p xs Ha Hb (g.trans g2) (g.big.free a1) a2 a3 a4)
end
inductive Out where
 |nx (δ:!Slot)|bk (δ:!Slot)|ct (δ:!Slot)
 |rt (d:ai)|ro (ds:!ai)|r2 (ds:!ai) (d:ai)|ru (U:Hp->V->Hp->Hp->Prop)
def uk(K:aj)(B0 B H0:Hp)(D:Ends):Out->Prop
 | .nx δ=>∀σ' cQ H',cz H0 cQ->fQ K B0 B cQ H' σ' δ->D.nx σ' H'
 | .bk δ=>∀σ' cQ H',cz H0 cQ->fQ K B0 B cQ H' σ' δ->D.bk σ' H'
 | .ct δ=>∀σ' cQ H',cz H0 cQ->fQ K B0 B cQ H' σ' δ->D.ct σ' H'
 | .rt d=>∀v cQ H',dm B0 B cQ H'->Rep K cQ v d->D.rt v H'
 | .ro ds=>∀p xs cQ H',dm B0 B cQ H'->B p=none->cQ p=none->H' p>>(.lst xs)->bU K cQ xs ds->D.rt (.ref p) H'
 | .r2 ds d=>∀t p xs v cQ H',dm B0 B cQ H'->B p=none->cQ p=none->H' p>>(.lst xs)->bU K cQ xs ds->B t=none->cQ t=none->H' t>>(.tup [.ref p,v])->Rep K cQ v d->D.rt (.ref t) H'
 | .ru U=>∀v cQ H',dm B0 B cQ H'->U B v cQ H'->D.rt v H'
def LD:Out->Bool
 | .rt _=>true | .ro _=>true | .r2 _ _=>true | .ru _=>true|_=>false
theorem uk.mono{B0 B cQ: Hp}{D:Ends}(s:cz H0 cQ):∀{o:Out},uk K B0 B H0 D o->uk K B0 B cQ D o
 | .nx _,h=>λσ a b s' f=>h σ a b (s.trans s') f
 | .bk _,h=>λσ a b s' f=>h σ a b (s.trans s') f
 | .ct _,h=>λσ a b s' f=>h σ a b (s.trans s') f
 | .rt _,h=>h
 | .ro _,h=>h
 | .r2 _ _,h=>h
 | .ru _,h=>h
theorem uk.ret{B0 B cQ: Hp}{D D':Ends}(e:D.rt=D'.rt):∀{o:Out},LD o=true->uk K B0 B H0 D o->uk K B0 B cQ D' o
 | .rt _,_,h=>by unfold uk at *;rw[<-e];exact h
 | .ro _,_,h=>by unfold uk at *;rw[<-e];exact h
 | .r2 _ _,_,h=>by unfold uk at *;rw[<-e];exact h
 | .ru _,_,h=>by unfold uk at *;rw[<-e];exact h
 | .nx _,z,_=>by cases z
 | .bk _,z,_=>by cases z
 | .ct _,z,_=>by cases z
def VS(X:Cx)(st:eO)(δ:!Slot)(o:Out):Prop:=∀B0 B σ H0 H D,fQ X.K B0 B H0 H σ δ->uk X.K B0 B H0 D o->cS X st D σ H
def y6(X:Cx)(st:!eO)(δ:!Slot)(o:Out):Prop:=∀B0 B σ H0 H D,fQ X.K B0 B H0 H σ δ->uk X.K B0 B H0 D o->Ce X st D σ H
section
variable{X:Cx}{st:eO}{rest body orelse:!eO}{δ δ':!Slot}{o:Out}{a b c e:bw}{d:ai}{ds:!ai}{pos px:Pos}{x:Str}
theorem bC:y6 X [] δ (.nx δ):=λ_ _ σ H0 H _ f ok pins s I=>HB pins s σ H _ I (ok σ H0 H (cz.refl _) f)
theorem aN(h1:VS X st δ (.nx δ'))(h2:y6 X rest δ' o):y6 X (st::rest) δ o:=λB0 B σ H0 H D f ok pins s I=>kC Lw kG pins s σ H D I (h1 B0 B σ H0 H _ f λσ' Ha Hb sm f'=>h2 B0 B σ' Ha Hb D f' (ok.mono sm))
theorem dD(h1:VS X st δ o)(hr:LD o=true):y6 X (st::rest) δ o:=λB0 B σ H0 H D f ok pins s I=>kC Lw jy pins s σ H D I (h1 B0 B σ H0 H _ f (uk.ret (by rfl) hr ok))
theorem bA(h1:VS X st δ o):y6 X [st] δ o:=λB0 B σ H0 H D f ok pins s I=>BX Lw pins s σ H D I (h1 B0 B σ H0 H D f ok)
theorem dY(i:Nat)(h:VE X e δ d)(hN:X.N.Nodup)(hi:X.N[i]?>>x:=by rfl)(hx:Loc X.env.scope x:=by left)(hs:A0 X pos e (.Name x px):=by rfl)(hf:yi X x:=by left):
  VS X (.Assign [.Name x px] e pos) δ (.nx (δ.set i (.val d))):=λB0 B σ H0 H D f ok pins s I=>rC hN hi hx cu hs hf pins s σ H D I (h B0 B σ H0 H _ f λv H1 cW g r=>ok _ H1 cW g.eD ((f.grow g).set r))
theorem mP(i:Nat)(h:VO X e δ ds)(hN:X.N.Nodup)(hi:X.N[i]?>>x:=by rfl)(hx:Loc X.env.scope x:=by left)(hs:A0 X pos e (.Name x px):=by rfl)(hf:yi X x:=by left):
  VS X (.Assign [.Name x px] e pos) δ (.nx (δ.set i (.own ds))):=λB0 B σ H0 H D f ok pins s I=>
 rC hN hi hx cu hs hf pins s σ H D I (h B0 B σ H0 H _ f λp xs H1 cW g h1 h2 h3 r=>ok _ H1 cW g.eD ((f.grow g).Lv h3 h2 (f.ent.big.free h1) r λj es e2 e3=>by let#[p',xs',g1,g2,_]:=f.slot j _ e2;rw[e3]at g1;cases g1;rw[h1]at g2;cases g2))
theorem dI(h:VT X c δ true)(h1:y6 X body δ o):VS X (.If c body orelse pos) δ o:=λB0 B σ H0 H D f ok pins s I=>w_ nG kG jy pins s σ H D I (h B0 B σ H0 H _ f λH1 cW g=>OO (h1 B0 B σ H1 cW D (f.grow g) (ok.mono g.eD)))
theorem bR(h:VT X c δ false)(h1:y6 X orelse δ o):VS X (.If c body orelse pos) δ o:=λB0 B σ H0 H D f ok pins s I=>w_ nG jy kG pins s σ H D I (h B0 B σ H0 H _ f λH1 cW g=>OL (h1 B0 B σ H1 cW D (f.grow g) (ok.mono g.eD)))
theorem cg(h:VE X e δ d):VS X (.Return (some e) pos) δ (.rt d):=λB0 B σ H0 H D f ok pins s I=>vW cu pins s σ H D I (h B0 B σ H0 H _ f λv H1 cW g r=>ok v H1 cW (f.ent.trans g) r)
theorem HQ(h:VO X e δ ds):VS X (.Return (some e) pos) δ (.ro ds):=λB0 B σ H0 H D f ok pins s I=>vW cu pins s σ H D I (h B0 B σ H0 H _ f λp xs H1 cW g a1 a2 a3 a4=>ok p xs H1 cW (f.ent.trans g) (f.ent.big.free a1) a2 a3 a4)
theorem HR(i:Nat)(h:δ[i]?>>(.own ds))(hN:tE X i x:=by ac_rfl):
  VS X (.Return (some (.Name x px)) pos) δ (.ro ds):=λB0 B σ H0 H D f ok pins s I=>vW (vL hN) pins s σ H D I (by let#[p,xs,h1,h2,h3,h4,h5]:=f.slot i _ h;exact#[_,h1,ok p xs H0 H f.ent h4 h3 h2 h5])
theorem kj(i:Nat){ap:Pos}{p0:Pos}(hi:δ[i]?>>(.own ds))(h:VE X e δ d)(hz:ds.length<sizeLine)(hN:tE X i x:=by ac_rfl)
  (hs:kB X e []:=by rfl)(fW:vK X (.Name x p0) "append":=by rfl)
  (k8:Ht X px [e]:=by rfl)
  (hline:(ap.endLine==px.line)=true:=by rfl)(fu:pU X px []:=by rfl)(lZ:V4 X pos (.Call (.Attribute (.Name x p0) "append" ap) [e] [] px):=by rfl):
  VS X (.Expr (.Call (.Attribute (.Name x p0) "append" ap) [e] [] px) pos) δ (.nx (δ.set i (.own (ds ++ [d])))):=λB0 B σ H0 H D f ok pins s I=>by refine kD (qI di eA eB ka (vL hN) (cy cu dF hs) fW k8 hline hs fu) lZ pins s σ H D I ?_;let#[p,xs,h1,h2,h3,h4,h5]:=f.slot i _ hi;refine#[_,h1,.inl #[rfl,_,jb.of h2],?_];refine h B0 B σ H0 H _ f λv H1 cW g r=>?_;refine#[p,xs,v,rfl,rfl,g.big _ _ h2,[h5.length]▸hz,ok σ H1 _ g.eD ((f.grow g).push hi h1 (g.big _ _ h2) r)]
theorem iE(i:Nat)(hi:δ[i]?>>(.own ds))(h:y6 X rest (δ.set i (.val (.list ds))) o):y6 X rest δ o:=λB0 B σ H0 H D f ok=>by let#[p,xs,h1,h2,h3,h4,h5]:=f.slot i _ hi;let#[f',sm]:=f.freeze hi h1 h2;exact h B0 B σ _ H D f' (ok.mono sm)
def N2:!Slot->!Slot->Prop
 | [],[]=>True
 |a::l,b::m=>(b=.un\/a=b)/\N2 l m
 |_,_=>False
theorem N2.len:∀{l m:!Slot},N2 l m->m.length=l.length
 | [],[],_=>rfl
 |_::_,_::_,h=>by simp[N2.len h.2]
 | [],_::_,h=>h.elim
 |_::_,[],h=>h.elim
theorem N2.at:∀{l m:!Slot},N2 l m->∀(i:Nat)sl,m[i]?>>sl->sl=.un\/l[i]?>>sl
 | [],[],_,_,_,e=>by simp at e
 |a::l,b::m,h,0,sl,e=>by
  simp at e;subst e;rcases h.1 with z|z
  .exact .inl z
  .exact .inr (by simp[z])
 |a::l,b::m,h,i+1,sl,e=>by simpa using N2.at h.2 i sl ↑e
 | [],_::_,h,_,_,_=>h.elim
 |_::_,[],h,_,_,_=>h.elim
theorem jA{δ2:!Slot}(h:y6 X rest δ (.nx δ'))(hf:N2 δ' δ2):y6 X rest δ (.nx δ2):=λB0 B σ H0 H D f ok=>h B0 B σ H0 H D f λσ' Ha Hb sm f'=>ok σ' Ha Hb sm (f'.forget hf.len hf.at)
theorem rP{tg iter:bw}(hp:wY (model X.prog X.w) X.A X.env X.xe)(hc:X.calm=true)(hi:VI X tg iter δ ds)(hg:PG X tg (F1 X.K tgt))(δs:Nat->!Slot)(m:Nat)(h0:δs 0=δ)(hm:m<=ds.length)
  (step:∀k d,k<m->ds[k]?>>d->∃δ',ui tgt d (δs k)>>δ'/\y6 X body δ' (.nx (δs (k+1))))
  (fin:(m=ds.length/\o=.nx (δs m))\/∃d δ',ds[m]?>>d/\ui tgt d (δs m)>>δ'/\LD o=true/\y6 X body δ' o)
  (hs:Fx X iter:=by intro _;rfl):VS X (.For tg iter body [] pos) δ o:=λB0 B σ H0 H D f ok pins s I=>by
 let#[wi,pi,qi]:=hi;refine B1 hp hc pi hg kG hs pins s σ H D I ?_;refine qi B0 B σ H0 H _ f λJ H1 cW g it=>?_;refine#[λi mm σ' H'=>i<=m/\mm=m+1-i/\∃Ha,cz H1 Ha/\fQ X.K B0 B Ha H' σ' (δs i),#[m+1,aW _,rfl,H1,cz.refl _,[h0]▸f.grow g],?_];rintro i mm σ' H' ⟨hi,rfl,Ha,sm,fa⟩;let#[i1,i2,i3]:=it Ha H' sm fa.sub i;by_cases nE:i<m
 .refine .inr #[i1 ∅,λσ'' x3=>∃Hb,cz H1 Hb/\fQ X.K B0 B Hb x3 σ'' (δs (i+1)),λσ'' x3 #[Hb,z1,z2]=>#[m+1-(i+1),∅,nE,rfl,Hb,z1,z2],λv H2 y=>?_];let hd:ds[i]?>>(ds[i]'∅):=by simp
  let#[Hb,g2,rx]:=i3 v H2 _ hd y;let#[δ',e1,e2]:=step i _ nE hd;refine rM (fa.grow g2) rx e1 λσ3 f3=>?_;exact e2 B0 B σ3 Hb H2 _ f3 λσ4 Hc H4 s4 f4=>#[Hc,(sm.trans g2.eD).trans s4,f4]
 .let e:i=m:=∅;subst e;rcases fin with⟨e1,e2⟩|⟨d,δ',hd,e1,hr,e2⟩
  .subst e2;exact .inl #[i2 ∅,ok σ' Ha H' (g.eD.trans sm) fa]
  .let za0:i<ds.length:=(av.mp hd).1;refine .inr #[i1 za0,λ_ _=>False,λ_ _ z=>z.elim,λv H2 y=>?_];let#[Hb,g2,rx]:=i3 v H2 _ hd y;refine rM (fa.grow g2) rx e1 λσ3 f3=>?_;exact e2 B0 B σ3 Hb H2 _ f3 (uk.ret (D:=D) (by rfl) hr ok)
end
def gI(K:aj)(R:!ai->ai->Prop):Sp:=λvs H Q _=>∃H0 ds d,cz H0 H/\bU K H0 vs ds/\R ds d/\∀v cQ H',dm H0 H cQ H'->Rep K cQ v d->Q v H'
def N3(K:aj)(R:!ai->!ai->Prop):Sp:=λvs H Q _=>∃H0 ds es,cz H0 H/\bU K H0 vs ds/\R ds es/\
 ∀p xs cQ H',dm H0 H cQ H'->H p=none->cQ p=none->H' p>>(.lst xs)->bU K cQ xs es->Q (.ref p) H'
def bu(P:bx)(w:b_)(K:aj)(mg:Str->Option aA)(base:cI)(k:Nat)(x:Str)(ps:!Str)(sp:Sp):Prop:=
 ∃f fd,dZ P w K mg base jL k f fd ps sp/\mg x>>(.ref f)/\hZ K (.ref f)=true/\Binds K fd ps []
section
variable{X:Cx}{x:Str}{e:bw}{es:!bw}{δ:!Slot}{ds zs:!ai}{d:ai}{p pos:Pos}{k:Nat}{ps:!Str}
theorem bQ{R:!ai->ai->Prop}(C:bu X.prog X.w X.K X.mg X.base k x ps (gI X.K R))(hr:ei k X.A)(ha:VA X (e::es) δ ds)(hp:R ds d)(hg:Gl X x:=by rfl)(o6:uc x:=by decide)
  (he:kB X e es:=by rfl)(lB:pU X pos es:=by rfl):VE X (.Call (.Name x p) (e::es) [] pos) δ d:=by
 let#[f,fd,F,hm,hk,hb]:=C;let#[t,pa,qa]:=ha;exact .of (pX F hr hg hm hk hb .nil xj pa o6 he lB) λB0 B σ H0 H Q fr q=>qa B0 B σ H0 H _ fr λvs H1 cW g1 rs=>by rw[cn];exact#[H1,ds,d,g1.sub,rs,hp,λv H2 fG g2 r=>q v H2 fG (g1.trans g2) r]
theorem yq(C:bu X.prog X.w X.K X.mg X.base k x ps (N3 X.K R))(hr:ei k X.A)(ha:VA X (e::es) δ ds)(hp:R ds zs)(hg:Gl X x:=by rfl)(o6:uc x:=by decide)
  (he:kB X e es:=by rfl)(lB:pU X pos es:=by rfl):VO X (.Call (.Name x p) (e::es) [] pos) δ zs:=by
 let#[f,fd,F,hm,hk,hb]:=C;let#[t,pa,qa]:=ha;exact .of (pX F hr hg hm hk hb .nil xj pa o6 he lB) λB0 B σ H0 H Q fr q=>qa B0 B σ H0 H _ fr λvs H1 cW g1 rs=>by rw[cn];exact#[H1,ds,zs,g1.sub,rs,hp,λv xs H2 fG g2 a1 a2 a3 a4=>q v xs H2 fG (g1.trans g2) (g1.big.free a1) a2 a3 a4]
end
def oT(N:!Str)(ds:!ai):!Slot:=ds.map .val++bp (N.length-ds.length) .un
theorem fQ.start{N:!Str}{ds:!ai}(s:cz H0 H)(r:bU K H0 vs ds):fQ K H0 H H0 H (start N vs) (oT N ds):=by
 let hl:=r.length;refine#[.refl s,by simp[L2.start,oT,hl],λi sl e=>?_,λi j a b p _ e=>?_]
 .unfold oT at e;unfold L2.start;by_cases hi:i<ds.length
  .rw[bO ↑hi,aH]at e;let hd:ds[i]?>>ds[i]:=by simp[hi]
   rw[hd]at e;cases e;let#[v,h1,h2]:=r.get hd;exact#[v,by rw[bO (by simp;omega),aH,h1];rfl,h2]
  .rw[bK ↑(ef hi),cG]at e;split at e<;>cases e;trivial
 .unfold oT at e;by_cases hi:i<ds.length
  .rw[bO ↑hi,aH]at e;let hd:ds[i]?>>ds[i]:=by simp[hi]
   rw[hd]at e;cases e
  .rw[bK ↑(ef hi),cG]at e;split at e<;>cases e
section
variable{P:bx}{w:b_}{K:aj}{mg:Str->Option aA}{base:cI}{x qual:Str}{st:eO}{f:ay}{fd:eE}{N ps:!Str}{k:Nat}
abbrev rQ(P:bx)(w:b_)(K:aj)(mg:Str->Option aA)(base:cI)(N:!Str)(qual:Str)(st:eO)(f:ay)(k:Nat)(ds:!ai)(o:Out):Prop:=
 ∀gu A outer s H E,ei k (A.deeper (envOfC qual (bG st) s.heap.objs.size f gu))->y6 (B4 jL P w K mg base N qual (bG st) f gu A outer s H E).Q6 (lD st) (oT N ds) o
theorem ji{R:!ai->ai->Prop}(F:kE K x qual st f fd)(S:cw N ps (bG st))(hl:∀ds d,R ds d->ds.length=ps.length)(hb:∀ds d,R ds d->rQ P w K mg base N qual st f k ds (.rt d)):dZ P w K mg base jL (k+1) f fd ps (gI K R):=by
 refine F.ok S (λvs H Q E h=>?_) (λgu A outer s H vs Q E hr h=>?_)
 .let#[H0,ds,d,_,r,hp,_]:=h;rw[r.length,hl ds d hp]
 .let#[H0,ds,d,sm,r,hp,q]:=h;exact#[_,kG,hb ds d hp gu A outer s H E hr H0 H _ H0 H _ (.start sm r) q]
theorem O9(F:kE K x qual st f fd)(S:cw N ps (bG st))(hl:∀ds d,R ds d->ds.length=ps.length)(hb:∀ds d,R ds d->rQ P w K mg base N qual st f k ds (.ro d)):dZ P w K mg base jL (k+1) f fd ps (N3 K R):=by
 refine F.ok S (λvs H Q E h=>?_) (λgu A outer s H vs Q E hr h=>?_)
 .let#[H0,ds,d,_,r,hp,_]:=h;rw[r.length,hl ds d hp]
 .let#[H0,ds,d,sm,r,hp,q]:=h;exact#[_,kG,hb ds d hp gu A outer s H E hr H0 H _ H0 H _ (.start sm r) q]
end
end L2
namespace L2.Srt
open PySem PySem.W PyProof.Rows
section
variable{N:Nat}{lt:Nat->Nat->Bool}
end
end L2.Srt
namespace L2
open PySem PySem.Spec PyProof.Rows PySem.W
section
variable{P:bx}{w:b_}{A:dz}{E:aA->aK->Prop}{s:aK}
end
theorem bU.ints{K:aj}{H:Hp}:∀{ns:!Int}{xs:!V},bU K H xs (ns.map .int)->xs=ns.map V.int
 | [],_,r=>by cases r;rfl
 |n::ns,_,r=>by cases r with|cons a t=>cases a;rw[aq,bU.ints t]
theorem dA.getD:∀{xs:!V}{us:!aA}(i:Nat),dA xs us->RelV (xs.getD i .non) (us.getD i lI)
 |_,_,_,.nil=>by simp;rfl
 |_,_,0,.cons r _=>by simpa using r
 |_,_,i+1,.cons _ t=>by simpa using dA.getD i t
end L2
namespace L2
open PySem PySem.Spec PyProof.Rows
variable{l:ay}{kb:Bool}{X:Cx}{c:bw}{h:cI}{H:Hp}{rest:!bw}{ns:!Int}{ds:!ai}{δ:!Slot}{n:Nat}{P:bx}{K:aj}{w:b_}
section
variable{X:Cx}{a b c e:bw}{es:!bw}{δ:!Slot}{d d1 d2 d3:ai}{ds:!ai}{pos:Pos}{k:Nat}
def qK:ai->Bool
 | .none=>true
 | .bool _=>true
 | .int _=>true
 | .str _=>true
 |_=>false
theorem Rep.y8{H': Hp}{v:V}(r:Rep K H v d)(h:qK d=true):Rep K H' v d:=by
 cases r with
 |non=>exact .non
 |bl b=>exact .bl b
 |int i=>exact .int i
 |str x=>exact .str x
 |_=>cases h
theorem mQ(i:Nat)(hi:δ[i]?>>(.own ds))(h:VE X e (δ.set i (.val (.list ds))) d)(hs:qK d=true):VE X e δ d:=λB0 B σ H0 H Q f q=>by let#[p,xs,h1,h2,h3,h4,h5]:=f.slot i _ hi;let#[f',sm]:=f.freeze hi h1 h2;exact h B0 B σ _ H Q f' λv Ha H' g r=>q v H0 H' #[g.big,cz.refl _,f.sub.trans g.big,λ_ z=>.inl z] (r.y8 hs)
def tyD:ai->Option String
 | .none=>some "NoneType"
 | .bool _=>some "bool"
 | .int _=>some "int"
 | .str _=>some "str"
 | .list _=>some "list"
 | .tuple _=>some "tuple"
 |_=>none
theorem Xc{t tn:String}(ht:tyD d>>t)(hk:bo X.K (.type t) (.type tn)>>kb):iz X (.builtin "isinstance") (λxs H Q=>∃x,xs=[x,.ty tn]/\Rep X.K H x d/\Q (.bl kb) H):=by
 intro pins s σ H xs us Q I r h;let#[x,rfl,rx,q]:=h;let#[u,w',rfl,r1,r2]:=vals2 r;cases r2;let fin:∀tk,EP X pins σ Q (.bool kb) { s with toks:=tk }:=λtk=>#[.bl kb,H,I.tok tk,rfl,q];cases rx with
 |non=>cases ht;cases r1;exact gL PySem.W.kitx_none I.Aq e8 hk (λz=>nomatch z) fin
 |bl b=>cases ht;cases r1;exact gL PySem.W.kitx_bool I.Aq e8 hk (λz=>nomatch z) fin
 |int i=>cases ht;let#[t,rfl]:=r1;exact gL PySem.W.kitx_int I.Aq e8 hk (λz=>nomatch z) fin
 |str y=>cases ht;let#[t,rfl]:=r1;exact gL PySem.W.kitx_str I.Aq e8 hk (λz=>nomatch z) fin
 |lst hq rs=>cases ht;cases r1;let#[its,_,#[o,n,e,c,_],_]:=I.list hq;exact gL PySem.W.kitx_list I.Aq #[o,e,c] hk (λz=>nomatch z) fin
 |tup hq rs=>cases ht;cases r1;let#[its,_,#[o,e,c,_],_]:=I.tuple hq;exact gL PySem.W.kitx_tuple I.Aq #[o,e,c] hk (λz=>nomatch z) fin
 |dct _ _ _=>cases ht
 |O4 _ _ _=>cases ht
 |obj _ _ _ _ _=>cases ht
 |ZF _ _ _ _ _=>cases ht
 |Vw _ _ _=>cases ht
 |Vx _ _ _ _ _ _=>cases ht
theorem fx{x:Str}{t tn:String}{p p2:Pos}(h:VE X a δ d)(ht:tyD d>>t)(hk:bo X.K (.type t) (.type tn)>>kb)(hb:bootBuiltins x>>(.type tn))(m1:X.mg "isinstance"=none)(m2:X.mg x=none)(hv:bootBuiltins "isinstance"=some (.builtin "isinstance"))
  (hg:Gl X "isinstance":=by rfl)(O_:Gl X x:=by rfl)(hn:x≠"__name__":=by decide)(o6:uc x:=by decide)(hs:starEach [a,.Name x p2] X.env=(false,eval a X.env)::starEach [.Name x p2] X.env:=by rfl)(o5:starEach [.Name x p2] X.env=(false,eval (.Name x p2) X.env)::starEach [] X.env:=by rfl)
  (lB:pU X pos [.Name x p2]:=by rfl):VE X (.Call (.Name "isinstance" p) [a,.Name x p2] [] pos) δ (.bool kb):=
 .of (rF (Xc ht hk) hg m1 hv (cy cu (cy (BW O_ m2 hb (v:=.ty tn) rfl hn o6) dF o5) hs) ⋯ ⋯ hs lB) λB0 B σ H0 H Q f q=>h B0 B σ H0 H _ f λv H1 cW g r=>#[v,rfl,r.mono g.sub,q _ H1 cW g (.bl _)]
theorem za1{A:dz}{E:aA->aK->Prop}{s:aK}{vs:!aA}{Q:aA->aK->Prop}(hh:A.handled=none)(hl:s.heap.IsList l vs.toArray)(hi:Aj vs ns)(yr:ns≠[])
  (h:∀h' M (t:Tok) tk,(∀b o,s.heap.get? b>>o->h'.get? b>>o)->M∈ns->(∀z,z∈ns->z<=M)->Q (.int M t) { s with heap:=h',toks:=tk }):wpAny (model P w) A (call (.builtin "max") [.ref l]) Q E s:=by
 let#[xs,ex]:=hi.allInts.items;let Lc:ns=xs.toList.map (·.1):=by rw[<-hi.numsOf,<-nums_intItems,<-ex]
 let hz:0<xs.size:=by
  rcases vP xs.size with z|z
  .exfalso;apply yr;rw[Lc,Array.eq_empty_of_size_eq_zero z];rfl
  .exact z
 rw[ex]at hl;refine max_intList hh hl hz λv h' tk hv hk=>?_;let#[t,rfl]:=intItems_at hv;let#[g1,g2]:=argBest_gt (numAt xs) (xs.size-1);refine h h' _ t tk hk ?_ λz hzm=>?_
 .rw[Lc,numAt_eq];exact getD_mem (by rw[ae,ck];omega)
 .rw[Lc]at hzm;let#[j,hj,rfl]:=mem_getD hzm;rw[ae,ck]at hj;rw[<-numAt_eq];exact g2 j ∅
theorem Ju(hc:X.calm=true):iz X (.builtin "max") (λxs H Q=>∃p ns,xs=[.ref p]/\jb X.K H p (ns.map V.int)/\ns≠[]/\∀M,M∈ns->(∀z,z∈ns->z<=M)->Q (.int M) H):=by intro pins s σ H xs us Q I r h;let#[p,ns,rfl,hq,yr,q]:=h;let#[u,rfl,rx]:=vals1 r;cases rx;let#[its,rv,pl,hz]:=I.list hq;exact za1 (I.ok.hd hc) pl.isList (intsAre_of rv) yr λh' M t tk hk h1 h2=>#[.int M,H,I.kept hk,#[_,rfl],q M h1 h2]
theorem Xd{M:Int}(h1:M∈ns)(h2:∀z,z∈ns->z<=M):nI K (λxs H Q=>∃p ns,xs=[.ref p]/\jb K H p (ns.map V.int)/\ns≠[]/\∀M,M∈ns->(∀z,z∈ns->z<=M)->Q (.int M) H) [.list (ns.map .int)] (.int M):=λvs H0 H Q s r q=>by
 let#[v,rfl,r1]:=r.one;cases r1 with
 |lst hq rs=>let e:=rs.ints;subst e;refine#[_,ns,rfl,s.seq hq,(λz=>by rw[z]at h1;cases h1),λM' g1 g2=>q _ _ _ (.refl s) ?_];let:M'=M:=Int.le_antisymm (h2 M' g1) (g2 M h1);rw[this];exact .int _
end
section
variable{X:Cx}{sc:jx}{own N:!Str}{cap:!Nat}{cl:!(Str×ay)}{tg elt iter:bw}{ifs:!bw}{δ:!Slot}{ds:!ai}{pos px nZ:Pos}{tgt:Du}{x:Str}
theorem Cj(i:Nat){F:ai->Option ai}(hc:X.calm=true)(CS:h_ X sc own cap N cl)(hi:VI X tg iter δ ds)(hg:∀f s3 H3,PG (eQ X sc N cl f s3 H3) tg (F1 X.K tgt))(ht:pw own.length tgt=true)(hz:ds.length<=sizeLine)
  (step:∀d∈ds,y0 X sc own cap N cl tgt elt ifs δ F d)(hN:X.N.Nodup)(Lr:X.N[i]?>>x:=by rfl)(hx:Loc X.env.scope x:=by left)
  (lZ:swapsWith (.ListComp elt [#[tg,iter,ifs,0]] sc pos) (some (.Name x px)) nZ.line X.env=pure true:=by rfl)(hs:Fx X iter:=by intro _;rfl)(hf:yi X x:=by left):
  VS X (.Assign [.Name x px] (.ListComp elt [#[tg,iter,ifs,0]] sc pos) nZ) δ (.nx (δ.set i (.own (ds.filterMap F)))):=λB0 B σ H0 H D f ok pins s I=>by let#[wi,pi,qi]:=hi;refine p_ (tc:=Xa X sc N cl ifs) (te:=teC X sc N cl elt) hN Lr hx hc CS pi hg (λf s3 H3 pins s σ H Q I h=>h f s3 H3 pins s I) (λf s3 H3 pins s σ H Q I h=>h f s3 H3 pins s I) lZ hs hf pins s σ H D I ?_;refine qi B0 B σ H0 H _ f λJ H1 cW g it=>?_;refine rO ht hz step (f.grow g) it λp xs Ha Hb g2 a1 a2 a3 a4=>?_;let gg:=g.trans g2;let hp:=g.big.free a1;refine ok _ Ha Hb gg.eD ((f.grow gg).Lv a3 a2 (f.ent.big.free hp) a4 λj es e2 e3=>?_);let#[p',xs',g1,g2',_]:=f.slot j _ e2;rw[e3]at g1;cases g1;rw[hp]at g2';cases g2'
end
theorem VT.to{k k':Bool}(h:VT X c δ k')(e:k'=k):VT X c δ k:=e▸h
theorem VE.to{k k':ai}(h:VE X c δ k')(e:k'=k):VE X c δ k:=e▸h
theorem VO.to{k k':!ai}(h:VO X c δ k')(e:k'=k):VO X c δ k:=e▸h
theorem eu(n:Nat)(i:Int):Lay n (.int i):=#[rfl,aW _]
theorem bj{x:Str}(h:bX (.str x)=true):Lay n (.str x):=#[h,aW _]
theorem F2:∀{ds:!ai},(∀d∈ds,Lay n d)->oJ ds=true/\ai.depthAll ds<=n
 | [],_=>#[rfl,aW _]
 |d::ds,h=>by let#[h1,h2]:=F2 λe he=>h e (aM _ he);let#[h3,h4]:=h d aJ;refine#[by simp[oJ,h1,h3],?_];show max d.depth (ai.depthAll ds)<=n;omega
theorem lF(h:∀d∈ds,Lay n d):Lay (n+1) (.list ds):=by let#[h1,h2]:=F2 h;exact#[h1,Nat.succ_le_succ h2]
theorem sQ(h:∀d∈ds,Lay n d):Lay (n+1) (.tuple ds):=by let#[h1,h2]:=F2 h;exact#[h1,Nat.succ_le_succ h2]
theorem filterMap_some{α β:Type}{F:α->Option β}{g:α->β}:∀{l:!α},(∀a∈l,F a>>(g a))->l.filterMap F=l.map g
 | [],_=>rfl
 |a::l,h=>by rw[dB (h a aJ),aq,filterMap_some λb hb=>h b (aM _ hb)]
def Rf:Slot->Bool
 | .own _=>true
 |_=>false
def noOwn(δ:!Slot):Bool:=δ.all λs=>not (Rf s)
theorem fJ(h:noOwn δ=true)(i:Nat)(ds:!ai):δ[i]?≠some (.own ds):=λe=>by let:=cO.mp h _ (aP e);cases this
section
variable{K:aj}{B0 B H0 H cQ H' C0 C Ha Hb:Hp}{σ σ':St}{δ δ':!Slot}
theorem fQ.n_(f:fQ K B0 B H0 H σ δ){i:Nat}{v:V}{sl:Slot}(hs:Ls K B H0 H sl (some (some v)))(hn:Rf sl=false):fQ K B0 B H0 H (σ.set i (some v)) (δ.set i sl):=by
 refine#[f.ent,by simp[f.len],λj Sy e=>?_,λj k ds es p Fj e1 e2 e3=>?_]
 .by_cases hj:j=i
  .subst hj;let hl:j < δ.length:=by simpa using(av.mp e).1
   rw[aY hl]at e;cases e;rwa[aY ([f.len]▸hl)]
  .rw[aS (bF hj)]at e;rw[aS (bF hj)];exact f.slot j Sy e
 .let nj:j≠i:=λz=>by
   subst z;let hl:j < δ.length:=by simpa using(av.mp e1).1
   rw[aY hl]at e1;cases e1;cases hn
  let nk:k≠i:=λz=>by
   subst z;let hl:k < δ.length:=by simpa using(av.mp e2).1
   rw[aY hl]at e2;cases e2;cases hn
  rw[aS (bF nj)]at e1 e3;rw[aS (bF nk)]at e2 ⊢;exact f.apart j k ds es p Fj e1 e2 e3
theorem fQ.re(f:fQ K B0 B H0 H σ δ)(hn:noOwn δ=true)(g:dm C0 C H0 H):fQ K C0 C H0 H σ δ:=by
 refine#[g,f.len,λi sl e=>?_,f.apart];let q:=f.slot i sl e;cases sl with
 |own ds=>exact qQ7 e (fJ hn i ds)
 |_=>exact q
theorem dm.still(g:dm H0 H Ha Hb){p:ay}{o:HO}(h0:H0 p=none)(h:H p>>o):Ha p=none:=by
 cases e:Ha p with
 |none=>rfl
 |some u=>
  rcases g.new p (by rw[e];simp)with z|z
  .exact qQ7 h0 z
  .rw[h]at z;cases z
theorem dm.far(s:cz H0 H)(b:cz H Hb):dm H0 H H0 Hb:=#[b,cz.refl _,s.trans b,λ_ z=>.inl z]
end
section
variable{X:Cx}{st:eO}{rest body orelse:!eO}{δ δ':!Slot}{o:Out}{a b c e arg:bw}{d d1 d2 da:ai}{ds zs:!ai}{pos px py:Pos}{x y:Str}
theorem eU(n:Nat):(f9 n).length=n:=by simp[f9]
theorem LJ(i j:Nat){pt DG:Pos}{kt k2}(h1:VE X a δ d1)(h2:VE X b δ d2)(hc:X.calm=true)(hN:X.N.Nodup)(vX:i≠j)(hi:X.N[i]?>>x:=by rfl)(hj:X.N[j]?>>y:=by rfl)(hx:X.env.scope.names.lookup x>>.local:=by rfl)(hy:X.env.scope.names.lookup y>>.local:=by rfl)
  (hw:swappedStores [.Tuple [.Name x px,.Name y py] kt pt] (.Tuple [a,b] k2 DG) X.env=pure (some [x,y]):=by rfl)(hs:swapsWithSole [.Tuple [.Name x px,.Name y py] kt pt] (.Tuple [a,b] k2 DG) pos.line X.env=pure false:=by rfl)
  (Fk:kB X a [b]:=by rfl)(o5:kB X b []:=by rfl):
  VS X (.Assign [.Tuple [.Name x px,.Name y py] kt pt] (.Tuple [a,b] k2 DG) pos) δ (.nx ((δ.set i (.val d1)).set j (.val d2))):=λB0 B σ H0 H D f ok pins s I=>by let#[t,pa,qa]:=cY h1 (cY h2 c5 o5) Fk;refine KW hc hN hi hj vX hx hy pa hw hs pins s σ H D I (qa B0 B σ H0 H _ f λvs H1 cW g rs=>?_);let#[v,w,rfl,r1,r2]:=rs.two;exact#[v,w,rfl,ok _ H1 cW g.eD (((f.grow g).set r1).set r2)]
end
section
variable{K:aj}{B0 B H0 H cQ H' C0 C Ha Hb:Hp}{σ σ':St}{δ δ':!Slot}{a:ay}{ps:!ay}{gs:!(!ai)}
end
section
variable{X:Cx}{B0 B H0 H cQ H' Ha Hb:Hp}{σ σ':St}{D:Ends}{st:eO}{rest body orelse:!eO}{δ δ':!Slot}{a:ay}{ps:!ay}{gs:!(!ai)}{e c tg iter:bw}{d:ai}{ds:!ai}{pos px nZ:Pos}{x y:Str}
def Ends.tail(D:Ends)(u:St->Hp->Prop):Ends:={ D with nx:=u }
theorem bN(h:cS X st (D.tail λσ H=>Ce X rest D σ H) σ H):Ce X (st::rest) D σ H:=λpins s I=>kC Lw kG pins s σ H D I h
theorem bW(h:cS X st D σ H):Ce X [st] D σ H:=λpins s I=>BX Lw pins s σ H D I h
end
section
variable{X:Cx}{sc:jx}{own N:!Str}{cap:!Nat}{cl:!(Str×ay)}{tg iter:bw}{δ:!Slot}{ds:!ai}{pos px nZ lp:Pos}{tgt:Du}{x:Str}{B0 B H0 H:Hp}{σ:St}{D:Ends}
end
section
variable{X:Cx}{B0 B H0 H:Hp}{σ:St}{D:Ends}{δ:!Slot}{a:ay}{ps:!ay}{gs:!(!ai)}{pos px:Pos}{x:Str}
end
theorem LK{α:Type}(l:!α)(n:Nat):cutD l none (some (n:Int))=l.take n:=by
 unfold cutD;rw[HT.DM,HT.om,tM,Nat.sub_zero];by_cases h:n<=l.length
 .rw[nu h]
 .rw[Nat.min_eq_right ∅,gq ∅,gq ∅]
theorem HS:Lay 20 (.list []):=lF λd hd=>by cases hd
structure Nm(mg:Str->Option aA):Prop where
 len:mg "len"=none
 Xe:mg "enumerate"=none
 srt:mg "sorted"=none
 max:mg "max"=none
 min:mg "min"=none
 rng:mg "range"=none
 sum:mg "sum"=none
 um:mg "isinstance"=none
 tup:mg "tuple"=none
 lst:mg "list"=none
 int:mg "int"=none
 bool:mg "bool"=none
section
variable{P:bx}{w:b_}{A:dz}{R:vM->aK->Prop}{it S:ay}{fp wr:!ay}{n:Nat}{V:Nat->aA->Prop}{St:Nat->cI->Prop}{Kp:cI->Prop}{bt:Nat->Nat->Bool}
end
section
variable{P:bx}{w:b_}{A:dz}{E:aA->aK->Prop}{s:aK}
end
section
variable{X:Cx}
end
def Jv(l:ay)(n:Nat):cI->Prop:=λh=>∃o es ep t,h.get? l>>o/\o.ExactSet/\o.data=.set es ep t/\t.fits es.size=true/\es.size=n
theorem Jv.ok(x:Jv l n h):fV P w H h l (.ext (Jv l n)):=by
 refine#[x,?_,λh1 h2 y k=>?_]
 .let#[o,_,_,_,e,_]:=x;exact#[o,e]
 .let#[o,es,ep,t,e,r]:=y;exact#[o,es,ep,t,k o e,r]
section
variable{X:Cx}
def dd:!Str->!Str->!Str
 |acc,[]=>acc
 |acc,x::l=>dd (if decide (x∈acc)=true then acc else acc ++ [x]) l
theorem Be:∀(l:!Str)(acc m:!Str),dd acc (l++m)=dd (dd acc l) m
 | [],_,_=>rfl
 |x::l,acc,m=>Be l _ m
theorem wm:∀(l acc:!Str),(dd acc l).length<=acc.length+l.length
 | [],_=>aE _
 |x::l,acc=>by
  let:=wm l (if decide (x∈acc)=true then acc else acc ++ [x]);unfold dd;split at this
  .rename_i h;rw[qQ3 h];simp;omega
  .rename_i h;rw[qQ2 h];simp at this ⊢;omega
theorem DY:∀{l acc:!Str},(acc++l).Nodup->dd acc l=acc++l
 | [],acc,_=>by rw[cn];rfl
 |x::l,acc,h=>by
  unfold dd;let hx:=λz=>by rw[cJ]at h;exact h.2.2 x z x aJ rfl
  rw[qQ2 ↑hx,DY ↑h];simp
theorem Bf:∀{ss:!Str}{its:!aA},dA (ss.map V.str) its->∀(i:Nat)v,its[i]?>>v->∃x t,ss[i]?>>x/\v=.str x t
 | [],_,r,i,v,e=>by cases r;simp at e
 |x::ss,_,r,i,v,e=>by
  cases r with
  |cons a t=>
   cases i with
   |zero=>let#[t,rfl]:=a;simp at e;exact#[x,t,rfl,e.symm]
   |succ i=>simpa using Bf t i v ↑e
theorem SetOf.za2{S:Str->Bool}(x:h.SetOf (strKind P w) l S n):Jv l n h:=by let#[o,es,ep,t,ho,hex,hd,_,_,_,hf,hn]:=x;exact#[o,es,ep,t,ho,hex,hd,hf,hn]
theorem Av:iz X (.builtin "len") (λxs H Q=>∃p n,xs=[.ref p]/\H p>>(.ext (Jv p n))/\n<10000/\Q (.int n) H):=by intro pins s σ H xs us Q I r h;let#[p,n,rfl,hp,hn,q]:=h;let#[u,rfl,rx]:=vals1 r;cases rx;let#[#[o,es,ep,t,ho,hex,hd,hf,hz],_]:=I.hok p _ hp;exact call_len_set ho hex hd hf ∅ #[.int n,H,I.tok _,#[_,by rw[hz]],q]
end
section
variable{X:Cx}{a b c e:bw}{δ:!Slot}{d d1 d2 d3:ai}{ds:!ai}{pos p p2 rR:Pos}{k:Nat}
theorem bU.strs:∀{ss:!Str}{xs:!V},bU K H xs (ss.map .str)->xs=ss.map V.str
 | [],_,r=>by cases r;rfl
 |x::ss,_,r=>by cases r with|cons a t=>cases a;rw[bU.strs t];rfl
theorem y9:PE X e (λ_ _ _=>False):=λ_ _ _ _ _ _ h=>h.elim
theorem gY{op}(h:VE X a δ d):VE X (.BoolOp op [a] pos) δ d:=.of (SN cu) λB0 B σ H0 H Q f q=>h B0 B σ H0 H Q f q
theorem jC{k1 k2:Bool}(h1:VE X a δ (.bool k1))(h2:k1=true->VE X (.BoolOp .And (b::rest) pos) δ (.bool k2)):VE X (.BoolOp .And (a::b::rest) pos) δ (.bool (k1&&k2)):=by
 cases k1 with
 |true=>refine .of (KQ cu cu) λB0 B σ H0 H Q f q=>h1 B0 B σ H0 H _ f λv H1 cW g r=>?_;cases r;refine#[true,rfl,?_];exact h2 rfl B0 B σ H1 cW _ (f.grow g) λu H2 fG g2 r2=>q u H2 fG (g.trans g2) r2
 |false=>refine .of (KQ cu y9) λB0 B σ H0 H Q f q=>h1 B0 B σ H0 H _ f λv H1 cW g r=>?_;cases r;refine#[false,rfl,?_];exact q _ H1 cW g (.bl false)
theorem tR{k1 k2:Bool}(h1:VE X a δ (.bool k1))(h2:k1=false->VE X (.BoolOp .Or (b::rest) pos) δ (.bool k2)):VE X (.BoolOp .Or (a::b::rest) pos) δ (.bool (k1||k2)):=by
 cases k1 with
 |false=>refine .of (Q5 cu cu) λB0 B σ H0 H Q f q=>h1 B0 B σ H0 H _ f λv H1 cW g r=>?_;cases r;refine#[false,rfl,?_];exact h2 rfl B0 B σ H1 cW _ (f.grow g) λu H2 fG g2 r2=>q u H2 fG (g.trans g2) r2
 |true=>refine .of (Q5 cu y9) λB0 B σ H0 H Q f q=>h1 B0 B σ H0 H _ f λv H1 cW g r=>?_;cases r;refine#[true,rfl,?_];exact q _ H1 cW g (.bl true)
def qL:!Bool->Bool:=λl=>l.all id
theorem jl(hc:X.calm=true):iz X (.builtin "all") (λxs H Q=>∃p bs,xs=[.ref p]/\jb X.K H p (bs.map V.bl)/\Q (.bl (qL bs)) H):=by
 intro pins s σ H xs us Q I r h;let#[p,bs,rfl,hq,q]:=h;let#[u,rfl,rx]:=vals1 r;cases rx;let#[its,rv,pl,hz]:=I.list hq;let hl:=rv.length;simp only[ae]at hl;refine call_all_walkS (lW pl.isList ?_);let hbl:∀(i:Nat)v,its.toArray[i]?>>v->v=.bool (bs.getD i false):=λi v hv=>by
  let Om:its[i]?>>v:=by simpa using hv
  let e:=rv.getD i;let e2:its.getD i lI=v:=by rw[aR,Om];rfl
  let hi:i<bs.length:=by let:=(av.mp Om).1;omega
  let e3:(bs.map V.bl).getD i .non=.bl (bs.getD i false):=by rw[aR,aH,aR,aD hi];rfl
  rw[e2,e3]at e;exact e
 refine#[_,_,_,_,_,_,_,λi=>bs.getD i false,rfl,(Walks.list (by simp[I.ok.hd hc]) _ p (a8 (aZ pl.isList.choose_spec.1)) its.toArray).toS,#[#[_,bh _ rfl,rfl,rfl],pl.isList.push _],?_,λs' hm=>?_]
 .intro i v Q' E' s' hv q';rw[hbl i v hv];exact ft q'
 .let ea:(cj its.toArray.size).all (λi=>bs.getD i false)=qL bs:=by
   rw[bJ,<-hl];unfold qL;rw[f6,cO,cO];constructor
   .intro h x hx;let#[i,hi]:=lJ.mp hx;let:=h i (fN.mpr (av.mp hi).1);rwa[aR,hi]at this
   .intro h i hi;let hi:=fN.mp hi;rw[aR,aD hi];exact h _ (dM hi)
  rw[ea];let#[h',g',d',Bg,Vq]:=s';let eg:=hm.gens;let ed:=hm.drawn;let eo:=hm.os;subst eg;subst ed;subst eo;refine#[.bl _,H,I.kept λb o e=>hm.heap b o ?_ (aB _ e),rfl,q];let:=aZ e;simp;exact a8 this
theorem bU.bls:∀{bs:!Bool}{xs:!V},bU K H xs (bs.map .bool)->xs=bs.map V.bl
 | [],_,r=>by cases r;rfl
 |x::ss,_,r=>by cases r with|cons a t=>cases a;rw[bU.bls t];rfl
theorem rS{bs:!Bool}:nI K (λxs H Q=>∃p bs,xs=[.ref p]/\jb K H p (bs.map V.bl)/\Q (.bl (qL bs)) H) [.list (bs.map .bool)] (.bool (qL bs)):=λvs H0 H Q s r q=>by
 let#[v,rfl,r1]:=r.one;cases r1 with
 |lst hq rs=>let e:=rs.bls;subst e;exact#[_,bs,rfl,s.seq hq,q _ _ _ (.refl s) (.bl _)]
theorem Rg(hr:ei k X.A)(hs:Bc d2=true)(l1:Lay 20 d1)(l2:Lay 20 d2)(h1:VE X a δ d1)(h2:VE X b δ d2)(hm:behindInMarks .In b=false:=by with_unfolding_all rfl):VE X (.Compare a [.In] [b] pos) δ (.bool (qJ d1 d2)):=uf (Lx (yV hr)) (O6 hs l1 l2) h1 h2 hm
theorem LN(hr:ei k X.A)(hs:Bc d2=true)(l1:Lay 20 d1)(l2:Lay 20 d2)(h1:VE X a δ d1)(h2:VE X b δ d2)(hm:behindInMarks .NotIn b=false:=by with_unfolding_all rfl):VE X (.Compare a [.NotIn] [b] pos) δ (.bool (not (qJ d1 d2))):=uf (Bd (yV hr)) (O6 (neg:=true) hs l1 l2) h1 h2 hm
theorem HV(hr:ei k X.A)(l1:Lay 20 d1)(l2:Lay 20 d2)(h1:VE X a δ d1)(h2:VE X b δ d2):VE X (.Compare a [.NotEq] [b] pos) δ (.bool (not (c9 d1 d2))):=uf (FZ (yV hr)) (DW l1 l2) h1 h2 (f7 _)
end
end L2
namespace L2
open PySem PySem.Spec PyProof.Rows PySem.Builtin PySem.Builtin.Str
variable{i n:Int}{ap:Pos}{K:aj}
section
variable{X:Cx}
def TJ:V->!V->Hp->VK->Prop:=λx vs H Q=>∃z y,x=.str z/\vs=[.str y]/\(y.length==0)=false/\z.length+2<=sizeLine/\∀l,H l=none->Q (.ref l) (upd H l (.lst ((cv z y).map V.str)))
theorem vb:∀(l:!(Str×Tok)),dA ((l.map (·.1)).map V.str) (strValues l)
 | []=>.nil
 |(x,t)::l=>.cons #[t,rfl] (vb l)
theorem split_len{z y:Str}(hz:z.length+2<=sizeLine):(cv z y).length<=sizeLine/\(partsBetween z (occurrences z y 0 z.length (z.length+1)) y.length).length<=sizeLine:=by
 let e1:=Dp z y 0 z.length (z.length+1);let e2:(partsBetween z (occurrences z y 0 z.length (z.length+1)) y.length).length<=sizeLine:=by rw[xS];omega
 refine#[?_,e2];unfold cv;split
 .show 1<=sizeLine;omega
 .split
  .show 1<=sizeLine;omega
  .exact e2
theorem LQ:Vs X "str.split" TJ:=by
 intro pins s σ H x vs v us Q I rx rv h;obtain⟨z,y,rfl,rfl,hy,hz,q⟩:=h;obtain⟨t,rfl⟩:=rx;obtain⟨u,rfl,ru⟩:=rv.one;obtain⟨tu,rfl⟩:=ru;obtain⟨sl,sp⟩:=split_len hz;let fin:∀(l:!(Str×Tok))(k:Nat),l.map (·.1)=cv z y->EP X pins σ Q _ { s with heap:=s.heap.push { cls:=.type "list",data:=.seq (strValues l).toArray },toks:=k }:=λl k e=>by refine#[.ref s.heap.objs.size,_,I.laid (λb o e=>aB _ e) ∅ (show fV X.prog X.w _ _ _ (.lst ((cv z y).map V.str)) from#[[ae]▸sl,strValues l,0,[<-e]▸vb l,bh _ rfl]),rfl,q _ (I.hok.fresh ∅)]
 cases h1:(decide (z.length<y.length)||decide (strKind z<strKind y)) with
 |true=>exact jU Al (tZ _ _ _) yG (xT _ _) (meets_str_split_cannot_occur z y t tu h1) (fin [(z,t)] s.toks (by unfold cv;rw[qQ3 h1];rfl))
 |false=>
  cases hf:(occurrences z y 0 z.length _).isEmpty with
  |true=>exact jU Al (tZ _ _ _) yG (xT _ _) (meets_str_split_not_found z y t tu h1 hy hf) (fin [(z,t)] s.toks (by unfold cv;rw[qQ2 (by rw[h1];decide),qQ3 hf];rfl))
  |false=>refine jU Al (tZ _ _ _) yG (xT _ _) (meets_str_split_sep z y t tu h1 hy hf ∅ sp) ?_;rw[strsFrom_eq];exact fin (numbered s.toks _) _ ((numbered_texts _ _).trans (by unfold cv;rw[qQ2 (by rw[h1];decide),qQ2 (by rw[hf];decide)]))
def rJoin(K:aj):V->!V->Hp->VK->Prop:=λx vs H Q=>∃y p zs,x=.str y/\vs=[.ref p]/\(jb K H p (zs.map V.str)\/nV K H p (zs.map V.str))/\(zs.map (·.length)).sum+zs.length*y.length<=16777216/\Q (.str (bM y zs)) H
theorem y_:∀{zs:!Str}{us:!aA},dA (zs.map V.str) us->StrsAre us zs
 | [],_,r=>by cases r;exact .nil
 |z::zs,_,r=>by cases r with|cons a t=>let#[tk,rfl]:=a;exact .cons z tk (y_ t)
theorem HW:Vs X "str.join" (rJoin X.K):=by
 intro pins s σ H x vs v us Q I rx rv h;let#[y,p,zs,rfl,rfl,hq,hz,q]:=h;let#[t,rfl]:=rx;let#[u,rfl,ru]:=rv.one;cases ru;let e:Txt.join y zs=bM y zs:=StrLaws.glued_eq_join y zs;rcases hq with hq|hq
 .let#[its,r,pl,_]:=I.list hq;exact join_list pl.isList ↑(y_ r) hz λt' k=>#[.str _,H,I.tok k,#[t',by rw[e]],q]
 .let#[its,r,pl,_]:=I.tuple hq;exact join_tuple pl ↑(y_ r) hz λt' k=>#[.str _,H,I.tok k,#[t',by rw[e]],q]
theorem Aw:iz X (.type "int") (λxs H Q=>∃x n,xs=[.str x]/\intText? x>>n/\x.length<=640/\Q (.int n) H):=by intro pins s σ H xs us Q I r h;let#[x,n,rfl,hn,hl,q]:=h;let#[u,rfl,t,rfl]:=vals1 r;exact PySem.W.KIN.call_text hn hl #[.int n,H,I.tok _,#[_,rfl],q]
def gb(x:Str):Nat->Str
 |0=>fE
 |n+1=>x++gb x n
theorem HX(x:Str):∀(n:Nat)(acc:Array Nat),(bp n x.cps).foldl (· ++ ·) acc=acc++(gb x n).cps
 |0,acc=>by show acc=acc ++ #[];simp
 |n+1,acc=>by rw[ez,fk,HX x n];show acc++x.cps++(gb x n).cps=acc++(x.cps++(gb x n).cps);rw[Array.append_assoc]
theorem HY(x:Str):∀n,(gb x n).length=n*x.length
 |0=>by show(fE).length=_;simp[fE,Str.length]
 |n+1=>by show(x++gb x n).length=_;rw[cD,HY x n,Fs,Nat.add_comm]
theorem Pa:sN X (binaryOp .Mult) (λx y H Q=>∃z n,x=.str z/\y=.int n/\0<=n/\n<=1000/\z.length<=1000/\Q (.str (gb z n.toNat)) H):=by
 intro pins s σ H x y v u Q I rx ry h;let#[z,n,rfl,rfl,h0,h1,hz,q]:=h;let#[t,rfl]:=rx;let#[t',rfl]:=ry;let h63:1000<2^63:=⋯;let e63:2^63=9223372036854775808:=⋯;refine PySem.P.mul_str (by rw[qQ0 ∅,qQ0 ∅];rfl) (λha _=>?_) (λ_ _=>?_) ?_
 .let:(2^63-1)/n>=1000:=by rw[ge_iff_le,Int.le_ediv_iff_mul_le ∅];omega
  omega
 .unfold tooLong;rw[qQ0];rw[cM];let:z.length*n.toNat<=1000*1000:=gF hz ∅;omega
 .by_cases hn:n<1
  .rw[qQ3 hn];let:n.toNat=0:=∅;rw[this]at q;exact#[⋯,.str _,H,I.tok _,#[_,rfl],q]
  .rw[qQ2 hn];by_cases hc:(n==1||z.length==0)=true
   .rw[qQ3 hc];let e:gb z n.toNat=z:=by
     rw[Bool.or_eq_true]at hc;rcases hc with hc|hc
     .let:n=1:=by simpa using hc
      subst this;cases z with|mk c=>show(#[c ++ #[]]:Str)=#[c];simp
     .let hz0:z.length=0:=by simpa using hc
      let:z=fE:=by cases z with|mk c=>simp[Str.length]at hz0;simp[fE,hz0]
      subst this;let:∀m,gb fE m=fE:=by
       intro m;induction m with
       |zero=>rfl
       |succ m ih=>show fE++gb fE m=_;rw[ih];rfl
      exact this _
    rw[e]at q;exact#[.str _,H,I.tok _,#[_,rfl],q]
   .rw[qQ2 hc];let e:(#[(bp n.toNat z.cps).foldl (· ++ ·) #[]]:Str)=gb z n.toNat:=by rw[HX];simp
    rw[e];refine#[?_,.str _,H,I.tok _,#[_,rfl],q];rw[HY,cM];let:n.toNat*z.length<=1000*1000:=gF ∅ hz;omega
def Its(x:Str):It:=#[λi _=>i<x.cps.size,λi H v H'=>H'=H/\∃c,x.cps[i]?>>c/\v=.str #[(bE [c])],λi _=>x.cps.size<=i]
theorem LV{P:bx}{w:b_}{tg:bw}(it:ay)(x:Str)(t:Tok){ty:String}(hty:ty="str_ascii_iterator"\/ty="str_iterator"):Turn P w K tg (Its x) [it] it (λi h=>h.IsStrIter it ty x t i) where
 mem:=by simp
 obj:=λi h st b hb=>by
  let e:b=it:=by simpa using hb
  subst e;let#[o,e,c,d]:=st;exact#[o,e,λv z=>by rw[d]at z;cases z]
 keep:=λi h h' st k=>let#[o,e,r]:=st;#[o,k it (by simp) o e,r]
 item:=by
  intro X hP hw hK hc i pins s σ H E I hf st hg;subst hP hw hK;let#[f0,f1,f2,f3,f4,f5]:=hf it (by simp);let fin:∀v h' tk,SignAt x i v->h'.IsStrIter it ty x t (i+1)->(∀b o,b∉[it]->s.heap.get? b>>o->h'.get? b>>o)->∃u,some v>>u/\wpAny (model X.prog X.w) X.A (letOwnedTupleGo tg (.ref it) u) (λ_ s2=>∃y H',Inv X pins σ H' s2/\RelV y u/\(Its x).Wi i H y H'/\s2.heap.IsStrIter it ty x t (i+1)/\∀b∈[it],H' b=none) E { s with heap:=h',toks:=tk }:=by intro v h' tk hv uW kk;let#[c,u,hcu,rfl]:=hv;let I1:Inv X pins σ H { s with heap:=h',toks:=tk }:=I.turned (λb o hb e=>kk b o ↑hb e) f0 f1 f3 f4 f5;let#[o,e,cc,d]:=id uW;exact#[_,rfl,A4 (s:={ s with heap:=h',toks:=tk }) e cc d (by rcases hty with rfl|rfl<;>decide) #[.str #[(bE [c])],H,I1,#[u,rfl],#[rfl,c,hcu,rfl],uW,λb hb=>(hf b hb).1]]
  rcases hty with rfl|rfl
  .exact(Walks.strAscii (I.ok.hd hc) it x t).item i s _ _ hg st λv h' tk hv uW kk=>fin v h' tk hv uW kk
  .exact(Walks.strWide (I.ok.hd hc) it x t).item i s _ _ hg st λv h' tk hv uW kk=>fin v h' tk hv uW kk
 done:=by
  intro X hP hw hK hc i pins s σ H E I hf st hg;subst hP hw hK;let#[f0,f1,f2,f3,f4,f5]:=hf it (by simp);let hge:=hg;rcases hty with rfl|rfl
  .exact wpAny_pyNext_ascii_end (I.ok.hd hc) st (by simp;exact hge) λh' eb=>#[rfl,I.turned (λb o hb e=>eb b o hb e) f0 f1 f3 f4 f5]
  .exact wpAny_pyNext_wide_end (I.ok.hd hc) st (by simp;exact hge) λh' eb=>#[rfl,I.turned (λb o hb e=>eb b o hb e) f0 f1 f3 f4 f5]
 self:=λ_ _ _ _ _ st h=>by
  rcases hty with rfl|rfl
  .exact wpAny_pyIter_striter_ascii st h
  .exact wpAny_pyIter_striter_wide st h
def za5(tl:TE):TI:=λσ H R=>tl σ H λv H1=>∃x,v=.str x/\R (Its x) H1
theorem TK{tg l:bw}{tl:TE}(hl:PE X l tl):PI X tg l (za5 tl):=by
 intro pins s σ H R I h;refine fF (hl pins s σ H _ I h) λv s1 #[y,H1,I1,r1,q1]=>?_;let#[x,e,q]:=q1;subst e;let#[t,rfl]:=r1;let go:∀ty,(ty="str_ascii_iterator"\/ty="str_iterator")->∀o:Obj,o.cls=.type ty->o.data=.fields (bE [.str x t,.int 0 0])->o.isFreed=false->PIE X pins σ tg R _ { s1 with heap:=s1.heap.push o }:=λty hty o c d fr=>
  #[s1.heap.objs.size,_,_,_,H1,rfl,I1.kept λb o e=>aB _ e,LV _ x t hty,#[o,bh _ fr,c,d],λb hb=>by
   let e:b=s1.heap.objs.size:=by simpa using hb
   subst e;exact I1.xY (aE _) (I1.hok.fresh (aE _)),q];cases ha:x.cps.all (·<128)
 .exact wpAny_pyIter_wide ha (go "str_iterator" (.inr rfl) _ rfl rfl rfl)
 .exact wpAny_pyIter_ascii ha (go "str_ascii_iterator" (.inl rfl) _ rfl rfl rfl)
end
section
variable{X:Cx}{tg a b c e:bw}{es:!bw}{δ:!Slot}{d d1 d2 d3:ai}{ds:!ai}{pos p p2 rR:Pos}{k:Nat}{x y z:Str}
def mh(x:Str):!ai:=x.cps.toList.map λc=>.str #[(bE [c])]
theorem F3(h:VE X a δ (.str x)):VI X tg a δ (mh x):=#[_,TK cu,λB0 B σ H0 H R f q=>h B0 B σ H0 H _ f λv H1 cW g r=>by
 cases r;let hl:(mh x).length=x.cps.size:=by unfold mh;rw[ae,ck]
 refine#[x,rfl,q _ H1 cW g λHa Hb s1 s2 i=>#[λhi=>(show i<x.cps.size by omega),λhi=>(show x.cps.size<=i by omega),λv x3 d hd #[e,c,hc,ev]=>?_]];subst e;subst ev;unfold mh at hd;rw[aH,iY,hc]at hd;cases hd;exact#[Ha,.refl s2,.str _]]
theorem odS(h:x.length+y.length<=sizeLine):yT K (λx y H Q=>∃i j,x=.str i/\y=.str j/\i.length+j.length<=sizeLine/\Q (.str (i++j)) H) (.str x) (.str y) (.str (x++y)):=λv u H0 H Q s r1 r2 k=>by cases r1;cases r2;exact#[_,_,rfl,rfl,h,k _ _ _ (.refl s) (.str _)]
theorem eN(h1:VE X a δ (.str x))(h2:VE X b δ (.str y))(h:x.length+y.length<=sizeLine):VE X (.BinOp a .Add b pos) δ (.str (x++y)):=wj FG (odS h) h1 h2
theorem TL(h0:0<=n)(h1:n<=1000)(hz:x.length<=1000):yT K (λx y H Q=>∃z n,x=.str z/\y=.int n/\0<=n/\n<=1000/\z.length<=1000/\Q (.str (gb z n.toNat)) H) (.str x) (.int n) (.str (gb x n.toNat)):=λv u H0 H Q s r1 r2 k=>by cases r1;cases r2;exact#[_,_,rfl,rfl,h0,h1,hz,k _ _ _ (.refl s) (.str _)]
theorem qc(h1:VE X a δ (.str x))(h2:VE X b δ (.int n))(h0:0<=n)(hn:n<=1000)(hz:x.length<=1000):VE X (.BinOp a .Mult b pos) δ (.str (gb x n.toNat)):=wj Pa (TL h0 hn hz) h1 h2
theorem Rh{c:Nat}(hz:x.length<=sizeLine)(h:tF x.cps.toList i>>c):yT K (ZC K) (.str x) (.int i) (.str #[(bE [c])]):=λv u H0 H Q s r1 r2 k=>by cases r1;cases r2;exact .inr (.inr #[x,i,c,rfl,rfl,hz,h,k _ _ _ (.refl s) (.str _)])
theorem TN{c:Nat}(h1:VE X a δ (.str x))(h2:VE X b δ (.int i))(hz:x.length<=sizeLine)(h:tF x.cps.toList i>>c)(hs:oo b:=by intro _ _;rfl):VE X (.Subscript a b pos) δ (.str #[(bE [c])]):=FX oP (Rh hz h) h1 h2 hs
def DZ(x y:Str):Bool:=not (occurrences y x 0 y.length 1).isEmpty
theorem Xf:yT K (λx y H Q=>∃i j,x=.str i/\y=.str j/\Q (.bl (not (occurrences j i 0 j.length 1).isEmpty)) H) (.str x) (.str y) (.bool (DZ x y)):=λv u H0 H Q s r1 r2 k=>by cases r1;cases r2;exact#[_,_,rfl,rfl,k _ _ _ (.refl s) (.bl _)]
theorem TQ(h1:VE X a δ (.str x))(h2:VE X b δ (.str y))(hm:behindInMarks .In b=false:=by with_unfolding_all rfl):VE X (.Compare a [.In] [b] pos) δ (.bool (DZ x y)):=uf Jb Xf h1 h2 hm
theorem TR(hz:x.length<=sizeLine):nI K (λxs H Q=>∃z,xs=[.str z]/\z.length<=sizeLine/\Q (.int z.length) H) [.str x] (.int x.length):=λvs H0 H Q s r k=>by let#[v,rfl,r1]:=r.one;cases r1;exact#[x,rfl,hz,k _ _ _ (.refl s) (.int _)]
theorem HZ(h:VE X a δ (.str x))(hz:x.length<=sizeLine)(hm:X.mg "len"=none)(hg:Gl X "len":=by rfl)(hs:kB X a []:=by rfl):VE X (.Call (.Name "len" p) [a] [] pos) δ (.int x.length):=fX B7 (TR hz) (cY h c5 hs) hm tq hg (he:=hs)
theorem TV(h:i.natAbs.log2<1920):nI K (λxs H Q=>∃i,xs=[.int i]/\i.natAbs.log2<1920/\Q (.str (toString i)) H) [.int i] (.str (toString i)):=λvs H0 H Q s r k=>by let#[v,rfl,r1]:=r.one;cases r1;exact#[i,rfl,h,k _ _ _ (.refl s) (.str _)]
theorem TX(h:intText? x>>n)(hl:x.length<=640):nI K (λxs H Q=>∃x n,xs=[.str x]/\intText? x>>n/\x.length<=640/\Q (.int n) H) [.str x] (.int n):=λvs H0 H Q s r k=>by let#[v,rfl,r1]:=r.one;cases r1;exact#[x,n,rfl,h,hl,k _ _ _ (.refl s) (.int _)]
theorem ow(h:VE X a δ (.int i))(hl:i.natAbs.log2<1920)(hm:X.mg "str"=none)(hg:Gl X "str":=by rfl)(hs:kB X a []:=by rfl):VE X (.Call (.Name "str" p) [a] [] pos) δ (.str (toString i)):=kf B3 (TV hl) (cY h c5 hs) hm rfl hg (he:=hs)
theorem Pb(h:VE X a δ (.str x))(hn:intText? x>>n)(hl:x.length<=640)(hm:X.mg "int"=none)(hg:Gl X "int":=by rfl)(hs:kB X a []:=by rfl):VE X (.Call (.Name "int" p) [a] [] pos) δ (.int n):=kf Aw (TX hn hl) (cY h c5 hs) hm rfl hg (he:=hs)
theorem jm(h1:VE X a δ (.str x))(h2:VE X b δ (.str y))(hy:(y.length==0)=false)(hz:x.length+2<=sizeLine)
  (hs:kB X b []:=by rfl)(fW:vK X a "split":=by rfl)
  (k8:Ht X pos [b]:=by rfl)
  (hline:(ap.endLine==pos.line)=true:=by rfl)(fu:pU X pos []:=by rfl):VO X (.Call (.Attribute a "split" ap) [b] [] pos) δ ((cv x y).map .str):=
 .of (qI pT PySem.F.slot_str_split PySem.F.type_str_split LQ cu (cy cu dF hs) fW k8 hline hs fu) λB0 B σ H0 H Q f q=>h1 B0 B σ H0 H _ f λv H1 cW g r1=>by
  cases r1;refine#[rfl,h2 B0 B σ H1 cW _ (f.grow g) λu H2 fG g2 r2=>?_];cases r2;refine#[x,y,rfl,rfl,hy,hz,λl hl=>?_];let gg:=g.trans g2;refine q l _ H2 _ (gg.trans (.loose g2.sub hl)) (gg.big.free hl) (g2.sub.free hl) aT ?_;let go:∀l:!Str,bU X.K H2 (l.map V.str) (l.map aO):=by
   intro l;induction l with
   |nil=>exact .nil
   |cons z l ih=>exact .cons (.str z) ih
  exact go _
theorem lG{zs:!Str}(h1:VE X a δ (.str y))(h2:VE X b δ (.list (zs.map .str)))(hz:(zs.map (·.length)).sum+zs.length*y.length<=16777216)
  (hs:kB X b []:=by rfl)(fW:vK X a "join":=by rfl)
  (k8:Ht X pos [b]:=by rfl)
  (hline:(ap.endLine==pos.line)=true:=by rfl)(fu:pU X pos []:=by rfl):VE X (.Call (.Attribute a "join" ap) [b] [] pos) δ (.str (bM y zs)):=
 .of (qI pT Dq Dr HW cu (cy cu dF hs) fW k8 hline hs fu) λB0 B σ H0 H Q f q=>h1 B0 B σ H0 H _ f λv H1 cW g r1=>by
  cases r1;refine#[rfl,h2 B0 B σ H1 cW _ (f.grow g) λu H2 fG g2 r2=>?_];cases r2 with
  |lst hq rs=>let e:=rs.strs;subst e;exact#[y,_,zs,rfl,rfl,.inl (g2.sub.seq hq),hz,q _ H2 fG (g.trans g2) (.str _)]
end
end L2
namespace L2
open PySem PySem.Spec PyProof.Rows
variable{a it l l1 l2:ay}{items xs ys:Array aA}{X:Cx}{h:cI}{H:Hp}{pins:!(ay×Obj)}{elts:!bw}{ds:!ai}{i:Nat}{d:Option ai}{o:Option V}{tp:Pos}{K:aj}{s:aK}{x:aA}{Q:aA->aK->Prop}
def iM(kvs:!(Str×ai)):ai:=.dict (kvs.map λp=>(.str p.1,p.2))
def qd(kvs:!((Str×Str)×ai)):ai:=.dict ((.none,.bool true)::kvs.map λp=>(.tuple [.str p.1.1,.str p.1.2],p.2))
def Pg(fs:!(Str×ai)):ai:=.dict ((.none,.none)::fs.map λp=>(.str p.1,p.2))
def ik{κ:Type}[DecidableEq κ](kvs:!(κ×ai))(k:κ):Option ai:=(kvs.find? λp=>decide (p.1=k)).map (·.2)
theorem dR{κ:Type}[DecidableEq κ]{p:κ×ai}{r:!(κ×ai)}{k:κ}(e:p.1=k):ik (p::r) k>>p.2:=by simp[ik,dW,e]
theorem bT{κ:Type}[DecidableEq κ]{p:κ×ai}{r:!(κ×ai)}{k:κ}(e:¬p.1=k):ik (p::r) k=ik r k:=by simp[ik,dW,e]
def D0(K:aj)(H:Hp):Option V->Option ai->Prop
 |none,none=>True
 |some v,some d=>Rep K H v d
 |_,_=>False
theorem D0.some_of{d:ai}(h:D0 K H o (some d)):∃v,o>>v/\Rep K H v d:=by
 cases o with
 |none=>exact h.elim
 |some v=>exact#[v,rfl,h]
theorem D0.isSome(h:D0 K H o d):o.isSome=d.isSome:=by cases o<;>cases d<;>first|rfl|exact h.elim
theorem D0.getD{v:V}{e:ai}(h:D0 K H o d)(r:Rep K H v e):Rep K H (o.getD v) (d.getD e):=by cases o<;>cases d<;>first|exact r|exact h|exact h.elim
section
variable{K:aj}{H:Hp}{v:V}
theorem Rep.kI{kvs:!(Str×ai)}(r:Rep K H v (iM kvs)):∃a ws,v=.ref a/\H a>>(.dK ws)/\ws.map (·.1)=kvs.map (λp=>(bf p.1:Key))/\bU K H (ws.map (·.2)) (kvs.map (·.2)):=by
 unfold iM at r;generalize e:kvs.map (λp=>(aO p.1,p.2))=ds at r;cases r with
 |dct h k t=>
  rename_i a ws
  refine#[a,ws,rfl,h,?_,?_]
  .let k2:ws.map (λp=>mN p.1)=kvs.map λp=>aO p.1:=by rw[<-k,<-e,aG];rfl
   clear k t h e;induction ws generalizing kvs with
   |nil=>cases kvs with|nil=>rfl|cons p l=>simp at k2
   |cons q ws ih=>
    cases kvs with
    |nil=>simp at k2
    |cons p l=>
     rw[aq,aq]at k2 ⊢;injection k2 with h1 h2
     rw[ih h2]
     congr 1
     cases eq:q.1 with
     |inl i=>rw[eq]at h1;cases h1
     |inr x=>rw[eq]at h1;injection h1 with h1;rw[h1]
  .rw[<-e,aG]at t;exact t
 |O4 _ _ _=>cases kvs with|nil=>simp at e|cons p l=>simp at e
 |obj _ _ _ _ _=>cases kvs with|nil=>simp at e|cons p l=>simp at e
 |ZF _ _ _ _ _=>cases kvs with|nil=>simp at e|cons p l=>simp at e
 |Vw _ _ _=>cases kvs with|nil=>simp at e|cons p l=>simp at e
 |Vx _ _ _ _ _ _=>cases kvs with|nil=>simp at e|cons p l=>simp at e
theorem wo:∀{kvs:!(Str×ai)}{ws:!(Key×V)},ws.map (·.1)=kvs.map (λp=>(bf p.1:Key))->bU K H (ws.map (·.2)) (kvs.map (·.2))->∀k,D0 K H (gW ws (bf k)) (ik kvs k)
 | [],ws,e,_,k=>by
  let:ws=[]:=by simpa using e
  subst this;exact e8
 |p::kvs,ws,e,r,k=>by
  cases ws with
  |nil=>simp at e
  |cons q ws=>
   rw[aq,aq]at e r;injection e with e1 e2
   cases r with
   |cons r1 r2=>
    by_cases h:p.1=k
    .rwa[dR h,kF (by rw[e1,h])]
    .rw[bT h,h8 (λz=>h (by rw[e1]at z;injection z))];exact wo e2 r2 k
def lM(p:Str×Str):!Key:=[.inr p.1,.inr p.2]
theorem za{p q:Str×Str}(e:lM p=lM q):p=q:=by
 injection e with e1 e2
 injection e2 with e2 _
 injection e1 with e1
 injection e2 with e2
 exact Prod.ext e1 e2
theorem Rep.nL{kvs:!((Str×Str)×ai)}(r:Rep K H v (qd kvs)):∃a ws,v=.ref a/\H a>>(.dT ws)/\ws.map (·.1)=kvs.map (λp=>lM p.1)/\bU K H (ws.map (·.2)) (kvs.map (·.2)):=by
 unfold qd at r;generalize e:kvs.map (λp=>(dg [.str p.1.1,.str p.1.2],p.2))=ds at r;cases r with
 |dct h k t=>
  rename_i a ws
  exfalso;cases ws with
  |nil=>simp at k
  |cons q ws=>
   rw[aq,aq]at k;injection k with k1 _
   cases eq:q.1 with
   |inl i=>rw[eq]at k1;cases k1
   |inr x=>rw[eq]at k1;cases k1
 |O4 h k t=>
  rename_i a ws
  refine#[a,ws,rfl,h,?_,?_]
  .let k2:ws.map (λp=>dg (p.1.map mN))=kvs.map λp=>dg [.str p.1.1,.str p.1.2]:=by rw[<-k,<-e,aG];rfl
   clear k t h e;induction ws generalizing kvs with
   |nil=>cases kvs with|nil=>rfl|cons p l=>simp at k2
   |cons q ws ih=>
    cases kvs with
    |nil=>simp at k2
    |cons p l=>
     rw[aq,aq]at k2 ⊢;injection k2 with h1 h2
     rw[ih h2]
     congr 1
     injection h1 with h1
     let one:∀(k:Key)(x:Str),mN k=.str x->k=.inr x:=λk x h=>by
      cases k with
      |inl i=>cases h
      |inr y=>injection h with h;rw[h]
     cases e0:q.1 with
     |nil=>rw[e0]at h1;cases h1
     |cons k1 l1=>
      rw[e0]at h1;injection h1 with g1 g2
      cases l1 with
      |nil=>cases g2
      |cons k2 l2=>
       injection g2 with g2 g3
       let:l2=[]:=by simpa using g3
       subst this;rw[one k1 _ g1,one k2 _ g2];rfl
  .rwa[<-e,aG]at t
theorem LW:∀{kvs:!((Str×Str)×ai)}{ws:!(!Key×V)},ws.map (·.1)=kvs.map (λp=>lM p.1)->bU K H (ws.map (·.2)) (kvs.map (·.2))->∀k,D0 K H (gW ws (lM k)) (ik kvs k)
 | [],ws,e,_,k=>by
  let:ws=[]:=by simpa using e
  subst this;exact e8
 |p::kvs,ws,e,r,k=>by
  cases ws with
  |nil=>simp at e
  |cons q ws=>
   rw[aq,aq]at e r;injection e with e1 e2
   cases r with
   |cons r1 r2=>
    by_cases h:p.1=k
    .rwa[dR h,kF (by rw[e1,h])]
    .rw[bT h,h8 (λz=>h (za (e1.symm.trans z)))];exact LW e2 r2 k
theorem Rep.LX{fs:!(Str×ai)}(r:Rep K H v (Pg fs)):∃a C dx ws,v=.ref a/\H a>>(.ins C dx ws)/\yK K C/\(∀f∈ws.map (·.1),gG K C f)/\ws.map (·.1)=fs.map (·.1)/\bU K H (ws.map (·.2)) (fs.map (·.2)):=by
 unfold Pg at r;generalize e:fs.map (λp=>(aO p.1,p.2))=ds at r;cases r with
 |dct h k t=>
  rename_i a ws
  exfalso;cases ws with
  |nil=>simp at k
  |cons q ws=>
   rw[aq,aq]at k;injection k with k1 _
   cases eq:q.1 with
   |inl i=>rw[eq]at k1;cases k1
   |inr x=>rw[eq]at k1;cases k1
 |obj h c nn k t=>
  rename_i a C dx ws
  refine#[a,C,dx,ws,rfl,h,c,nn,?_,?_]
  .let k2:ws.map (λp=>aO p.1)=fs.map λp=>aO p.1:=by rw[<-k,<-e,aG];rfl
   clear k t h e nn;induction ws generalizing fs with
   |nil=>cases fs with|nil=>rfl|cons p l=>simp at k2
   |cons q ws ih=>
    cases fs with
    |nil=>simp at k2
    |cons p l=>
     rw[aq,aq]at k2 ⊢;injection k2 with h1 h2
     injection h1 with h1
     rw[ih h2,h1]
  .rwa[<-e,aG]at t
theorem LY:∀{fs:!(Str×ai)}{ws:!(Str×V)},ws.map (·.1)=fs.map (·.1)->bU K H (ws.map (·.2)) (fs.map (·.2))->∀k d,ik fs k>>d->∃u,ws.lookup k>>u/\k∈ws.map (·.1)/\Rep K H u d
 | [],ws,e,_,k,d,h=>by cases h
 |p::fs,ws,e,r,k,d,h=>by
  cases ws with
  |nil=>simp at e
  |cons q ws=>
   let#[q1,q2]:=q;injection e with e1 e2
   let e1:q1=p.1:=e1;cases r with
   |cons r1 r2=>
    by_cases hk:p.1=k
    .rw[dR hk]at h;cases h;refine#[q2,?_,?_,r1]
     .rw[dJ,e1,hk];simp
     .rw[aq,e1,hk];exact aJ
    .rw[bT hk]at h;let#[u,h1,h2,h3]:=LY e2 r2 k d h;refine#[u,?_,aM _ h2,h3];rw[dJ];let:(k==q1)=false:=by rw[beq_eq_false_iff_ne,e1];exact λz=>hk z.symm
     rwa[this]
end
section
variable{X:Cx}{a b c e:bw}{δ:!Slot}{d d1 d2 d3:ai}{ds:!ai}{pos ap:Pos}{k:Nat}{kvs fs:!(Str×ai)}{tvs:!((Str×Str)×ai)}{x y z:Str}
theorem Jw(hr:ei k X.A):X.A.units+1<cLine:=by let:=hr.un;omega
theorem iF{f:Str}(h:VE X a δ (Pg fs))(hf:ik fs f>>d)(hb:vK X a f:=by rfl):VE X (.Attribute a f pos) δ d:=
 .of (pW cu hb) λB0 B σ H0 H Q fr q=>h B0 B σ H0 H _ fr λv H1 cW g r=>by let#[p,C,dx,ws,rfl,hp,cl,nn,ke,rs]:=r.LX;let#[u,h1,h2,h3]:=LY ke rs f d hf;exact#[p,C,dx,ws,u,rfl,g.sub _ _ hp,cl,nn f h2,h1,q u H1 cW g h3]
theorem eV(hr:ei k X.A)(h1:VE X a δ (iM kvs))(h2:VE X b δ (.str x))(hx:ik kvs x>>d)(hs:B8 b:=by intro _ _;rfl):VE X (.Subscript a b pos) δ d:=
 .of (B_ (Jw hr) cu cu hs) λB0 B σ H0 H Q fr q=>h1 B0 B σ H0 H _ fr λv H1 cW g r=>h2 B0 B σ H1 cW _ (fr.grow g) λu H2 fG g2 r2=>by let#[p,ws,rfl,hp,ke,rs]:=r.kI;cases r2;let o:=wo ke rs x;rw[hx]at o;let#[w,hw,pP]:=o.some_of;refine#[p,w,rfl,?_,q w H2 fG (g.trans g2) (pP.mono g2.eD)];rw[<-hw];exact rH.k (k:=.inr x) (g2.sub _ _ (g2.eD _ _ hp))
theorem Ck(hr:ei k X.A)(h2:VE X b δ (.str x))(h1:VE X a δ (iM kvs))(hm:behindInMarks .In a=false:=by with_unfolding_all rfl):VE X (.Compare b [.In] [a] pos) δ (.bool (ik kvs x).isSome):=
 .of (Fy (Le (Jw hr) cu cu) hm) λB0 B σ H0 H Q fr q=>h2 B0 B σ H0 H _ fr λu H1 cW g r2=>h1 B0 B σ H1 cW _ (fr.grow g) λv H2 fG g2 r=>by let#[p,ws,rfl,hp,ke,rs]:=r.kI;cases r2;refine#[p,_,rfl,rH.k (k:=.inr x) (g2.sub _ _ hp),q _ H2 fG (g.trans g2) ?_];rw[(wo ke rs x).isSome];exact .bl _
theorem Bh(hr:ei k X.A)(h2:VE X b δ (.str x))(h1:VE X a δ (iM kvs))(hm:behindInMarks .NotIn a=false:=by with_unfolding_all rfl):VE X (.Compare b [.NotIn] [a] pos) δ (.bool (not (ik kvs x).isSome)):=
 .of (Fy (Jo (Jw hr) cu cu) hm) λB0 B σ H0 H Q fr q=>h2 B0 B σ H0 H _ fr λu H1 cW g r2=>h1 B0 B σ H1 cW _ (fr.grow g) λv H2 fG g2 r=>by let#[p,ws,rfl,hp,ke,rs]:=r.kI;cases r2;refine#[p,_,rfl,rH.k (k:=.inr x) (g2.sub _ _ hp),q _ H2 fG (g.trans g2) ?_];rw[(wo ke rs x).isSome];exact .bl _
theorem Ph{x1}(hr:ei k X.A)(h1:VE X a δ (.str x))(h2:VE X b δ (.str y))(h3:VE X c δ (qd tvs))(hm:behindInMarks .In c=false:=by with_unfolding_all rfl)
  (hs:kB X a [b]:=by rfl)(o5:kB X b []:=by rfl):VE X (.Compare (.Tuple [a,b] x1 tp) [.In] [c] pos) δ (.bool (ik tvs (x,y)).isSome):=
 .of (Fy (Le (Jw hr) (yM (cy cu (cy cu dF o5) hs)) cu) hm) λB0 B σ H0 H Q fr q=>h1 B0 B σ H0 H _ fr λv H1 cW g r1=>h2 B0 B σ H1 cW _ (fr.grow g) λu H2 fG g2 r2=>by cases r1;cases r2;refine#[by show 2<=sizeLine;rw[cM];decide,λt ht=>?_];let g3:=(g.trans g2).trans (dm.loose (o:=HO.tup [.str x,.str y]) g2.sub ht);refine h3 B0 B σ H2 _ _ (fr.grow g3) λv H4 H4' g4 r=>?_;let#[p,ws,rfl,hp,ke,rs]:=r.nL;refine#[p,_,rfl,rH.t (k:=lM (x,y)) (g4.sub _ _ hp) (g4.big _ _ aT),q _ H4 H4' (g3.trans g4) ?_];rw[(LW ke rs (x,y)).isSome];exact .bl _
end
section
variable{prog:bx}{w:b_}{A:dz}{E:aA->aK->Prop}{s:aK}
theorem za7:(cC l==lI)=false:=rfl
theorem F4(hit:s.heap.IsTupleIter it l i)(hl:s.heap.IsTuple l items)(hx:items[i]?>>x)
  (hQ:∀h',h'.IsTupleIter it l (i+1)->gk it s.heap h'->Q x { s with heap:=h' }):wpAny (model prog w) A (iD (.ref it)) Q E s:=by let#[o,ho,hc,hd]:=_root_.id hit;let#[ol,Vy,LZ,nl,L0]:=hl;refine ao (eZ hit.typeIs jI (gM jI hit.typeIs Ds ?_ (BP _)));show wpAny _ _ (field _ 0 >>= _) _ _ s;refine ao (eY ho hd rfl ?_);refine ao (eY ho hd rfl ?_);refine ao (gT Vy L0 ?_);simp[c7,hx];refine ao (vQ ho hd (by simp) (aU #[x,rfl,aU (hQ _ ?_ (kZ ..))]));refine#[_,sL _ ho (Ho (oK hd _)),(Obj.cls_mapFields ..).trans hc,?_];rw[oK hd];simp[rawInt]
theorem Jx(hh:A.handled=none)(hit:s.heap.IsTupleIter it l i)(hl:s.heap.IsTuple l items)(hx:items[i]?=none)
  (hE:∀h' e,Hq it s.heap h'->(∃o,h'.get? e>>o/\o.cls=.type "StopIteration")->E (.ref e) { s with heap:=h' }):wpAny (model prog w) A (iD (.ref it)) Q E s:=by
 let#[o,ho,hc,hd]:=_root_.id hit;let#[ol,Vy,LZ,nl,L0]:=hl;refine ao (eZ hit.typeIs jI (gM jI hit.typeIs Ds ?_ (BP _)));show wpAny _ _ (field (.ref it) 0 >>= _) _ _ s;refine ao (eY ho hd (x:=.ref l) rfl ?_);rw[qQ2 (by rw[za7];decide)];refine ao (eY ho hd rfl ?_);refine ao (gT Vy L0 ?_);simp only[c7,hx];refine ao (tY (ao (vQ ho hd (by simp) ?_)));refine ao ?_;simp only[newExc,newTuple];refine ao (dE ?_ (by size_fits));refine ao (wpAny_of_eq (by first|rfl|(simp;rfl)) ?_);refine dE ?_ (by size_fits);simp only[raiseNew];refine ao (wpAny_handled ?_)
 first|rw[show A.in1.handled=none from hh]|rw[hh]
 exact ao (aU (wpAny_throw (hE _ _ (((kZ ..).extBut.push _).push _) #[_,bh _ rfl,rfl])))
end
inductive F5 where|lst|tup
variable{k k1 k2:F5}
def pA(k:F5)(h:cI)(l:ay)(xs:Array aA):Prop:=match k with | .lst=>h.IsList l xs | .tup=>h.IsTuple l xs
def wq(k:F5)(h:cI)(i l:ay)(n:Nat):Prop:=match k with | .lst=>h.IsListIter i l n | .tup=>h.IsTupleIter i l n
theorem wq.at{h': cI}{i: ay}{n:Nat}(x:wq k h i l n)(e:∀o,h.get? i>>o->h'.get? i>>o):wq k h' i l n:=by
 cases k with
 |lst=>let#[o,a,r]:=x;exact(#[o,e o a,r])
 |tup=>let#[o,a,r]:=x;exact(#[o,e o a,r])
theorem pA.at{h': cI}(x:pA k h l xs)(e:∀o,h.get? l>>o->h'.get? l>>o):pA k h' l xs:=by
 cases k with
 |lst=>let#[o,a,r]:=x;exact(#[o,e o a,r])
 |tup=>let#[o,a,r]:=x;exact(#[o,e o a,r])
theorem wq.get{i: ay}{n:Nat}(x:wq k h i l n):∃o,h.get? i>>o/\∀v,o.data≠.cell v:=by
 cases k with
 |lst=>let#[o,a,_,d]:=x;exact#[o,a,λv z=>by rw[d]at z;cases z]
 |tup=>let#[o,a,_,d]:=x;exact#[o,a,λv z=>by rw[d]at z;cases z]
theorem pA.get(x:pA k h l xs):∃o,h.get? l>>o:=by
 cases k with
 |lst=>let#[o,a,_]:=x;exact#[o,a]
 |tup=>let#[o,a,_]:=x;exact#[o,a]
section
variable{prog:bx}{w:b_}{A:dz}{E:aA->aK->Prop}{s:aK}
theorem next_item(hit:wq k s.heap it l i)(hl:pA k s.heap l items)(hx:items[i]?>>x)
  (hQ:∀h',wq k h' it l (i+1)->gk it s.heap h'->Q x { s with heap:=h' }):wpAny (model prog w) A (iD (.ref it)) Q E s:=by
 cases k with
 |lst=>exact wpAny_nextOf_list_item hit hl hx hQ
 |tup=>exact F4 hit hl hx hQ
theorem next_end(hh:A.handled=none)(hit:wq k s.heap it l i)(hl:pA k s.heap l items)(hx:items[i]?=none)
  (hE:∀h' e,Hq it s.heap h'->(∃o,h'.get? e>>o/\o.cls=.type "StopIteration")->E (.ref e) { s with heap:=h' }):wpAny (model prog w) A (iD (.ref it)) Q E s:=by
 cases k with
 |lst=>exact wpAny_nextOf_list_end hh hit hl hx hE
 |tup=>exact Jx hh hit hl hx hE
structure Zp(k1 k2:F5)(h:cI)(z TI TO i1 i2 l1 l2:ay)(f0:aA)(a b:aA)(n1 n2:Nat)(xs ys:Array aA):Prop where
 hz:IsZip h z TI TO f0
 hTI:BQ h TI (.ref i1) (.ref i2)
 hTO:BQ h TO a b
 h1:wq k1 h i1 l1 n1
 h2:wq k2 h i2 l2 n2
 s1:pA k1 h l1 xs
 s2:pA k2 h l2 ys
theorem Jy{z TI TO i1 i2: ay}{n1 n2:Nat}{y a b: aA}{Q:Option aA->aK->Prop}(D:ZipApart z TI TO i1 i2 l1 l2)(Z:Zp k1 k2 s.heap z TI TO i1 i2 l1 l2 .none a b n1 n2 xs ys)(hx:xs[n1]?>>x)(hy:ys[n2]?>>y)
  (hQ:∀h',Zp k1 k2 h' z TI TO i1 i2 l1 l2 (rawInt s.heap.objs.size) x y (n1+1) (n2+1) xs ys->BQ h' s.heap.objs.size x y->(∀c o,c≠z->c≠TO->c≠i1->c≠i2->s.heap.get? c>>o->h'.get? c>>o)->Q (some (.ref s.heap.objs.size)) { s with heap:=h' }):
  wpAny (model prog w) A (pyNext (.ref z)) Q E s:=by
 let#[hz,hTI,hTO,h1,h2,s1,s2]:=Z;let hT:s.TypeIs (.ref z) "zip":=#[_,hz,rfl];unfold pyNext;refine ao (q_ (eZ hT tN (gM tN hT F.entry_zip_next ?_ (F.args_zip_next_1 _))));show wpAny _ _ (field (.ref z) 2 >>= _) _ _ _;refine ao (eY hz rfl rfl ?_);refine ao (eY hz rfl rfl (ao (gT hTI rfl ?_)));refine ao ?_;refine ao (eY hz rfl rfl (aU ?_));simp only[if_true];refine ao (tY (ao (eY hz rfl rfl (ao (jf hz (by simp) λha Ri sa=>?_)))));replace Ri:IsZip ha z TI TO .ellipsis:=Ri;refine ao ?_;refine ao (ao (yg ?_));refine ao (next_item (h1.at λo e=>sa.extBut _ o D.i1z e) (s1.at λo e=>sa.extBut _ o D.l1z e) hx λhb h1b sb=>aU ?_);let tb:=sb.extBut _ _ D.TOi1 (sa.extBut _ _ D.TOz hTO);refine ao (gT tb rfl (ao (vR tb λhc tc sc=>?_)));replace tc:BQ hc TO x b:=tc;refine ao (wpAny_letGo (aU (ao (ao (yg ?_)))));refine ao (next_item (h2.at λo e=>sc.extBut _ o D.TOi2.symm (sb.extBut _ o D.i12.symm (sa.extBut _ o D.i2z e))) (s2.at λo e=>sc.extBut _ o D.l2TO (sb.extBut _ o D.l2i1 (sa.extBut _ o D.l2z e))) hy λhd h2d sd=>aU ?_);let td:=sd.extBut _ _ D.TOi2 tc;refine ao (gT td rfl (ao (vR td λhe te se=>?_)));replace te:BQ he TO x y:=te;refine ao (wpAny_letGo (aU (aU (ao (gT te rfl (ao (wpAny_newTuple ?_)))))));let hsz:he.objs.size=s.heap.objs.size:=by rw[se.1,sd.1,sc.1,sb.1,sa.1]
 let kp:∀c o,c≠z->c≠TO->c≠i1->c≠i2->s.heap.get? c>>o->he.get? c>>o:=λc o c1 c2 c3 c4 e=>se.extBut _ _ c2 (sd.extBut _ _ c4 (sc.extBut _ _ c2 (sb.extBut _ _ c3 (sa.extBut _ _ c1 e))));let ze:=se.extBut _ _ D.TOz.symm (sd.extBut _ _ D.i2z.symm (sc.extBut _ _ D.TOz.symm (sb.extBut _ _ D.i1z.symm Ri)));let h1e:=h1b.at λo e=>se.extBut _ o D.TOi1.symm (sd.extBut _ o D.i12 (sc.extBut _ o D.TOi1.symm e));let h2e:=h2d.at λo e=>se.extBut _ o D.TOi2.symm e;refine ao ?_;let zf:IsZip (he.push { cls:=.type "tuple",data:=.seq (bE [x,y]) }) z TI TO .ellipsis:=aB _ ze;refine ao (jf zf (by simp) λhg zg sg=>?_);replace zg:IsZip hg z TI TO (rawInt he.objs.size):=zg;refine jf zg (by simp) λhi zi si=>?_;replace zi:IsZip hi z TI TO (rawInt he.objs.size):=zi;let up:∀c o,c≠z->he.get? c>>o->hi.get? c>>o:=λc o c1 e=>si.extBut _ _ c1 (sg.extBut _ _ c1 (aB _ e));let ti:=si.extBut _ _ (fM (aZ ze)) (sg.extBut _ _ (fM (aZ ze)) (bh _ rfl));rw[hsz]at zi ti;refine aU #[_,rfl,?_];rw[hsz];refine aU (hQ hi #[zi,up _ _ D.TIz (kp _ _ D.TIz D.TITO D.TIi1 D.TIi2 hTI),up _ _ D.TOz te,h1e.at λo e=>up _ o D.i1z e,h2e.at λo e=>up _ o D.i2z e,s1.at λo e=>up _ o D.l1z (kp _ o D.l1z D.l1TO D.l1i1 D.l1i2 e),s2.at λo e=>up _ o D.l2z (kp _ o D.l2z D.l2TO D.l2i1 D.l2i2 e)] ti λc o c1 c2 c3 c4 e=>up c o c1 (kp c o c1 c2 c3 c4 e))
theorem L1{z TI TO i1 i2: ay}{n1 n2:Nat}{a b:aA}{Q:Option aA->aK->Prop}(hh:A.handled=none)(D:ZipApart z TI TO i1 i2 l1 l2)(Z:Zp k1 k2 s.heap z TI TO i1 i2 l1 l2 .none a b n1 n2 xs ys)(Pj:xs[n1]?=none\/ys[n2]?=none)
  (hQ:∀h',(∀c o,c≠z->c≠TO->c≠i1->c≠i2->s.heap.get? c>>o->h'.get? c>>o)->Q none { s with heap:=h' }):wpAny (model prog w) A (pyNext (.ref z)) Q E s:=by
 let#[hz,hTI,hTO,h1,h2,s1,s2]:=Z;let hT:s.TypeIs (.ref z) "zip":=#[_,hz,rfl];let fin:∀h' e,(∀c o,c≠z->c≠TO->c≠i1->c≠i2->s.heap.get? c>>o->h'.get? c>>o)->(∃o,h'.get? e>>o/\o.cls=.type "StopIteration")->wpAny (model prog w) A (do if <-isInstance (.ref e) (.type "StopIteration")then pure none else throw (.ref e)) Q E { s with heap:=h' }:=by intro h' e hk #[o,ho,hc];exact ao (wpAny_isInstance #[o,ho,hc] isSubtype_stop (aU (hQ _ hk)))
 refine ao (q_ (eZ hT tN (gM tN hT F.entry_zip_next ?_ (F.args_zip_next_1 _))));show wpAny _ _ (field _ 2 >>= _) _ _ _;refine ao (eY hz rfl rfl ?_);refine ao (eY hz rfl rfl (ao (gT hTI rfl ?_)));refine ao ?_;refine ao (eY hz rfl rfl (aU ?_));simp only[if_true];refine ao (tY (ao (eY hz rfl rfl (ao (jf hz (by simp) λha Ri sa=>?_)))));replace Ri:IsZip ha z TI TO .ellipsis:=Ri;refine ao ?_;refine ao (ao (yg ?_));cases hx:xs[n1]? with
 |none=>
  refine ao (next_end hh (h1.at λo e=>sa.extBut _ o D.i1z e) (s1.at λo e=>sa.extBut _ o D.l1z e) hx λhb e sb he=>?_);let#[oe,TY,Xg]:=he;let zb:=sb _ _ D.i1z.symm Ri;let ne:e≠z:=λx=>by subst x;rw[zb]at TY;cases TY;simp at Xg
  exact jf zb (by simp) λhc _ sc=>fin hc e (λc o c1 _ c3 _ x=>sc.extBut _ _ c1 (sb _ _ c3 (sa.extBut _ _ c1 x))) #[oe,sc.extBut _ _ ne TY,Xg]
 |some x=>
  let hy:ys[n2]?=none:=by
   rcases Pj with h|h
   .rw[hx]at h;cases h
   .exact h
  refine ao (next_item (h1.at λo e=>sa.extBut _ o D.i1z e) (s1.at λo e=>sa.extBut _ o D.l1z e) hx λhb h1b sb=>aU ?_);let tb:=sb.extBut _ _ D.TOi1 (sa.extBut _ _ D.TOz hTO);refine ao (gT tb rfl (ao (vR tb λhc tc sc=>?_)));refine ao (wpAny_letGo (aU (ao (ao (yg ?_)))));refine ao (next_end hh (h2.at λo e=>sc.extBut _ o D.TOi2.symm (sb.extBut _ o D.i12.symm (sa.extBut _ o D.i2z e))) (s2.at λo e=>sc.extBut _ o D.l2TO (sb.extBut _ o D.l2i1 (sa.extBut _ o D.l2z e))) hy λhd e sd he=>?_);let#[oe,TY,Xg]:=he;let zd:=sd _ _ D.i2z.symm (sc.extBut _ _ D.TOz.symm (sb.extBut _ _ D.i1z.symm Ri));let ne:e≠z:=λx=>by subst x;rw[zd]at TY;cases TY;simp at Xg
  exact jf zd (by simp) λhg _ sg=>fin hg e (λc o c1 c2 c3 c4 x=>sg.extBut _ _ c1 (sd _ _ c4 (sc.extBut _ _ c2 (sb.extBut _ _ c3 (sa.extBut _ _ c1 x))))) #[oe,sg.extBut _ _ ne TY,Xg]
def rT(k:F5)(l:ay):Obj:=match k with | .lst=>{ cls:=.type "list_iterator",data:=.fields (bE [.ref l,.int 0 0]) } | .tup=>{ cls:=.type "tuple_iterator",data:=.fields (bE [.ref l,.int 0 0]) }
theorem H_(hl:pA k s.heap l xs)(h:Q (.ref s.heap.objs.size) { s with heap:=s.heap.push (rT k l) }):wpAny (model prog w) A (pyIter (.ref l)) Q E s:=by
 cases k with
 |lst=>exact lW hl h
 |tup=>exact yD hl h
def F6(k1 k2:F5)(h:cI)(l1 l2:ay):cI:=(h.push (rT k1 l1)).push (rT k2 l2)
def zH5(k1 k2:F5)(h:cI)(l1 l2:ay):cI:=(((F6 k1 k2 h l1 l2).push { cls:=.type "tuple",data:=.seq (bE [.ref h.objs.size,.ref (h.push (rT k1 l1)).objs.size]) }).push { cls:=.type "tuple",data:=.seq (bE [.none,.none]) }).push
 { cls:=.type "zip",data:=.fields (bE [.none,.bool false,.bool false,.ref (F6 k1 k2 h l1 l2).objs.size,.ref ((F6 k1 k2 h l1 l2).push { cls:=.type "tuple",data:=.seq (bE [.ref h.objs.size,.ref (h.push (rT k1 l1)).objs.size]) }).objs.size]) }
theorem pA.push(x:pA k h l xs)(o:Obj):pA k (h.push o) l xs:=x.at λ_ e=>aB _ e
theorem F7(k1 k2:F5)(l1 l2:ay)(xs ys:Array aA):Meets (t_.«zip.__new__» #[[.type "zip",.ref l1,.ref l2],[]]) (λ_ R s=>pA k1 s.heap l1 xs/\pA k2 s.heap l2 ys/\
  R (.ok (.ret (.ref (((F6 k1 k2 s.heap l1 l2).push { cls:=.type "tuple",data:=.seq (bE [.ref s.heap.objs.size,.ref (s.heap.push (rT k1 l1)).objs.size]) }).push { cls:=.type "tuple",data:=.seq (bE [.none,.none]) }).objs.size))) { s with heap:=zH5 k1 k2 s.heap l1 l2 }):=
 .of_wp λprog w A R s h=>by
  let#[hp,g,d,tk,os]:=s;let#[D1,Cm,h]:=h;let FV:=sub_zip;let a1:pA k1 (aK.heap #[hp,g,d,tk,os]) l1 xs:=D1;let a2:pA k2 (aK.heap #[hp.push (rT k1 l1),g,d,tk,os]) l2 ys:=Cm.push _
  wp_walk using H_ a1,H_ a2
  exact#[_,rfl,h]
theorem D2{i: ay}(e:h.get? i>>(rT k l)):wq k h i l 0:=by
 cases k with
 |lst=>exact(#[_,e,rfl,rfl])
 |tup=>exact(#[_,e,rfl,rfl])
theorem zc(k:F5)(l:ay):(rT k l).isFreed=false:=by cases k<;>rfl
theorem Jz(D1:pA k1 s.heap l1 xs)(Cm:pA k2 s.heap l2 ys)
  (h:∀h',Zp k1 k2 h' (s.heap.objs.size+4) (s.heap.objs.size+2) (s.heap.objs.size+3) s.heap.objs.size (s.heap.objs.size+1) l1 l2 .none .none .none 0 0 xs ys->(∀c o,s.heap.get? c>>o->h'.get? c>>o)->Q (.ref (s.heap.objs.size+4)) { s with heap:=h' }):
  wpAny (model prog w) A (call (.type "zip") [.ref l1,.ref l2]) Q E s:=by
 refine callType_new F.called_zip ⋯ (F.typeCall_zip_2 _ _) (F.newCall_zip_2 _ _) (λobj=>F.args_object_init_3 obj _ _) F.entry_zip_new (F7 k1 k2 l1 l2 xs ys) #[D1,Cm,?_];let z1:(s.heap.push (rT k1 l1)).objs.size=s.heap.objs.size+1:=gC ..;let z2:(F6 k1 k2 s.heap l1 l2).objs.size=s.heap.objs.size+2:=by unfold F6;rw[gC,z1]
 generalize hT:({ cls:=.type "tuple",data:=.seq (bE [.ref s.heap.objs.size,.ref (s.heap.push _).objs.size]) }:Obj)=tI;generalize hT2:({ cls:=.type "tuple",data:=.seq (bE [.none,.none]) }:Obj)=tO;let z3:((F6 k1 k2 s.heap l1 l2).push tI).objs.size=s.heap.objs.size+3:=by rw[gC,z2]
 let z4:(((F6 k1 k2 s.heap l1 l2).push tI).push tO).objs.size=s.heap.objs.size+4:=by rw[gC,z3]
 let fI:tI.isFreed=false:=by rw[<-hT];rfl
 let fO:tO.isFreed=false:=by rw[<-hT2];rfl
 let eq:zH5 k1 k2 s.heap l1 l2=(((F6 k1 k2 s.heap l1 l2).push tI).push tO).push { cls:=.type "zip",data:=.fields (bE [.none,.bool false,.bool false,.ref (s.heap.objs.size+2),.ref (s.heap.objs.size+3)]) }:=by unfold zH5;rw[hT,hT2,z2,z3]
 rw[eq,z4];let g5:((((F6 k1 k2 s.heap l1 l2).push tI).push tO).push { cls:=.type "zip",data:=.fields (bE [.none,.bool false,.bool false,.ref (s.heap.objs.size+2),.ref (s.heap.objs.size+3)]) }).get? (s.heap.objs.size+4)=some { cls:=.type "zip",data:=.fields (bE [.none,.bool false,.bool false,.ref (s.heap.objs.size+2),.ref (s.heap.objs.size+3)]) }:=by rw[<-z4];exact bh _ rfl
 let up3:∀c o,((F6 k1 k2 s.heap l1 l2).push tI).get? c>>o->((((F6 k1 k2 s.heap l1 l2).push tI).push tO).push { cls:=.type "zip",data:=.fields (bE [.none,.bool false,.bool false,.ref (s.heap.objs.size+2),.ref (s.heap.objs.size+3)]) }).get? c>>o:=λc o e=>aB _ (aB _ e);let Xh:=λc o e=>up3 c o (aB _ e);let up0:∀c o,s.heap.get? c>>o->(F6 k1 k2 s.heap l1 l2).get? c>>o:=λc o e=>aB _ (aB _ e);refine#[#[_,g5,rfl],h _ #[g5,?_,?_,?_,?_,?_,?_] λc o e=>Xh c o (up0 c o e)]
 .refine up3 _ _ ?_;rw[<-z2];let:=bh (F6 k1 k2 s.heap l1 l2) fI;rw[this,<-hT,z1]
 .refine aB _ ?_;rw[<-z3];let:=bh ((F6 k1 k2 s.heap l1 l2).push tI) fO;rw[this,<-hT2]
 .exact D2 (Xh _ _ (aB _ (bh _ (zc k1 l1))))
 .refine D2 (Xh _ _ ?_);let:=bh (s.heap.push (rT k1 l1)) (zc k2 l2);rwa[z1]at this
 .exact D1.at λo e=>Xh _ o (up0 _ o e)
 .exact Cm.at λo e=>Xh _ o (up0 _ o e)
end
def Ia(k:F5)(K:aj)(H:Hp)(a:ay)(xs:!V):Prop:=match k with | .lst=>jb K H a xs | .tup=>nV K H a xs
theorem Inv.sq{σ:St}{xs:!V}(I:Inv X pins σ H s)(h:Ia k X.K H a xs):∃its,dA xs its/\pA k s.heap a its.toArray/\xs.length<=sizeLine:=by
 cases k with
 |lst=>let#[its,r,p,z]:=I.list h;exact#[its,r,p.isList,z]
 |tup=>let#[its,r,p,z]:=I.tuple h;exact#[its,r,p,z]
theorem Inv.L3{σ:St}{xs ys:!V}(I:Inv X pins σ H s)(h:Ia k X.K H a xs)(h':Ia k X.K H a ys):xs=ys:=by
 cases k with
 |lst=>exact I.yI h h'
 |tup=>exact I.A2 h h'
theorem cz.Rj{H': Hp}{xs:!V}(e:cz H H')(h:Ia k K H a xs):Ia k K H' a xs:=by
 cases k with
 |lst=>exact e.seq h
 |tup=>exact e.nF h
def Itz(k1 k2:F5)(K:aj)(a b:ay):It:=
 #[λi H=>∃xs x ys y,Ia k1 K H a xs/\xs[i]?>>x/\Ia k2 K H b ys/\ys[i]?>>y,
  λi H v H'=>∃t x y,v=.ref t/\H t=none/\H'=upd H t (.tup [x,y])/\(∀xs,Ia k1 K H a xs->xs[i]?>>x)/\∀ys,Ia k2 K H b ys->ys[i]?>>y,
  λi H=>∃xs ys,Ia k1 K H a xs/\Ia k2 K H b ys/\(xs.length<=i\/ys.length<=i)]
theorem L4{P:bx}{w:b_}{kk}{z TI TO i1 i2: ay}(D:ZipApart z TI TO i1 i2 l1 l2):
  Turn P w K (.Tuple elts kk tp) (Itz k1 k2 K l1 l2) [z,TI,TO,i1,i2] z (λi h=>IsZip h z TI TO .none/\BQ h TI (.ref i1) (.ref i2)/\(∃a b,BQ h TO a b)/\wq k1 h i1 l1 i/\wq k2 h i2 l2 i) where
 mem:=by simp
 obj:=λi h st b hb=>by
  let#[hz,hTI,#[a,c,hTO],h1,h2]:=st;simp[ax,a9,or_false]at hb;rcases hb with rfl|rfl|rfl|rfl|rfl
  .exact#[_,hz,λv z=>by cases z]
  .exact#[_,hTI,λv z=>by cases z]
  .exact#[_,hTO,λv z=>by cases z]
  .exact h1.get
  .exact h2.get
 keep:=λi h h' st kp=>by let#[hz,hTI,#[a,c,hTO],h1,h2]:=st;exact#[kp z (by simp) _ hz,kp TI (by simp) _ hTI,#[a,c,kp TO (by simp) _ hTO],h1.at λo e=>kp i1 (by simp) o e,h2.at λo e=>kp i2 (by simp) o e]
 item:=by
  intro X hP hw hK hc i pins s σ H E I hf st hg;subst hP hw hK;let#[hz,hTI,#[a,c,hTO],h1,h2]:=st;let#[xs,x,ys,y,L5,hx,Jt,hy]:=hg;let#[its,rv,p1,_]:=I.sq L5;let#[jts,N4,p2,_]:=I.sq Jt;let#[u,hu,ru]:=rv.get hx;let#[u2,hu2,Xi]:=N4.get hy;refine Jy D #[hz,hTI,hTO,h1,h2,p1,p2] ↑hu ↑hu2 λha Z ht hk=>?_;let#[az,aTI,aTO,a1,a2,_,_]:=Z;refine#[_,rfl,wpAny_letOwnedTupleGo_zip az λhb bz sb=>?_];let zlt:=aZ hz;let k2:∀b o,b∉[z,TI,TO,i1,i2]->s.heap.get? b>>o->hb.get? b>>o:=λb o nb q=>by let n1:b≠z:=λe=>nb (by simp[e]);let n3:b≠i1:=λe=>nb (by simp[e]);let n4:b≠i2:=λe=>nb (by simp[e]);exact(sb.2 b n1).trans (hk b o n1 (λe=>nb (by simp[e])) n3 n4 q)
  let T1:BQ hb s.heap.objs.size u u2:=(sb.2 _ (fM zlt)).trans ht;let fT:uV X pins H s.heap.objs.size:=I.xY (aE _) I.fresh;let I3:Inv X pins σ (upd H s.heap.objs.size (.tup [x,y])) { s with heap:=hb,toks:=s.toks }:=
   (I.yn k2 hf).track fT #[by show 2<=sizeLine;rw[cM];decide,_,.cons ru (.cons Xi .nil),#[_,T1,rfl,_,rfl]]
  let up:∀b o,b≠z->ha.get? b>>o->hb.get? b>>o:=λb o nb q=>(sb.2 b nb).trans q;refine#[.ref s.heap.objs.size,_,I3,rfl,#[_,x,y,rfl,I.fresh,rfl,λzs hy'=>[I.L3 hy' L5]▸hx,λzs hy'=>[I.L3 hy' Jt]▸hy],#[bz,up _ _ D.TIz aTI,#[_,_,up _ _ D.TOz aTO],a1.at λo q=>up _ o D.i1z q,a2.at λo q=>up _ o D.i2z q],λb Pk=>?_];let nE:b<s.heap.objs.size:=by
   simp[ax,a9,or_false]at Pk;rcases Pk with rfl|rfl|rfl|rfl|rfl
   .exact zlt
   .exact aZ hTI
   .exact aZ hTO
   .let#[o,q,_]:=h1.get;exact aZ q
   .let#[o,q,_]:=h2.get;exact aZ q
  rw[aI (a8 nE)];exact(hf b Pk).1
 done:=by
  intro X hP hw hK hc i pins s σ H E I hf st hg;subst hP hw hK;let#[hz,hTI,#[a,c,hTO],h1,h2]:=st;let#[xs,ys,L5,Jt,hx]:=hg;let#[its,rv,p1,_]:=I.sq L5;let#[jts,N4,p2,_]:=I.sq Jt;let e1:=rv.length;let e2:=N4.length;refine L1 (I.ok.hd hc) D #[hz,hTI,hTO,h1,h2,p1,p2] ?_ λh' hk=>#[rfl,I.yn (λb o hb q=>hk b o (λe=>hb (by simp[e])) (λe=>hb (by simp[e])) (λe=>hb (by simp[e])) (λe=>hb (by simp[e])) q) hf];rcases hx with hx|hx
  .left;simp;omega
  .right;simp;omega
 self:=λ_ _ _ _ _ st h=>wpAny_pyIter_zip st.1 h
def zbc(k1 k2:F5)(K:aj)(ta:TA):TI:=λσ H R=>ta σ H λvs H1=>∃a b,vs=[.ref a,.ref b]/\(∃xs,Ia k1 K H1 a xs)/\(∃ys,Ia k2 K H1 b ys)/\R (Itz k1 k2 K a b) H1
theorem boot_zip:bootBuiltins "zip"=some (.type "zip"):=rfl
theorem T2{a b:bw}{ta:TA}{p pos: Pos}{kk}(k1 k2:F5)(hg:Gl X "zip")(hm:X.mg "zip"=none)(ha:PA X [a,b] ta)(hs:starEach [a,b] X.env=[(false,eval a X.env),(false,eval b X.env)]:=by rfl)(o5:starEach [b] X.env=[(false,eval b X.env)]:=by rfl):
  PI X (.Tuple elts kk tp) (.Call (.Name "zip" p) [a,b] [] pos) (zbc k1 k2 X.K ta):=by
 intro pins s σ H R I h;refine Call_ (vV I hg hm boot_zip (iB (fF (ha pos pins s σ H _ I h) λus s1 #[vs,H1,I1,r1,q1]=>?_) (by rw[hs,o5]) (by rw[o5];rfl)));let#[l1,l2,e,#[xs,L5],#[ys,Jt],q]:=q1;subst e;let#[u,u2,rfl,rx,rx2]:=vals2 r1;cases rx;cases rx2;let#[its,rv,p1,_]:=I1.sq L5;let#[jts,N4,p2,_]:=I1.sq Jt;let#[o1,e1]:=p1.get;let#[o2,e2]:=p2.get;let ZH:=aZ e1;let ZI:=aZ e2;refine Jz p1 p2 λh' Z hk=>wpAny_pyIter_zip Z.hz ?_;let I2:=I1.kept (t':=s1.toks) hk;let D:ZipApart (s1.heap.objs.size+4) (s1.heap.objs.size+2) (s1.heap.objs.size+3) s1.heap.objs.size (s1.heap.objs.size+1) l1 l2:=by
  constructor
  .exact a8 ∅
  .exact a8 ∅
  .exact a8 ∅
  .exact a8 ∅
  .exact a8 ∅
  .exact fM ∅
  .exact fM ∅
  .exact fM ∅
  .exact fM ∅
  .exact a8 ∅
  .exact a8 (bV ZH ∅)
  .exact a8 (bV ZH ∅)
  .exact a8 ZH
  .exact a8 (bV ZH ∅)
  .exact a8 (bV ZI ∅)
  .exact a8 (bV ZI ∅)
  .exact a8 ZI
  .exact a8 (bV ZI ∅)
 refine#[_,_,_,_,H1,rfl,I2,L4 D,#[Z.hz,Z.hTI,#[_,_,Z.hTO],Z.h1,Z.h2],λb hb=>?_,q];let hle:s1.heap.objs.size<=b:=by
  simp[ax,a9,or_false]at hb;rcases hb with rfl|rfl|rfl|rfl|rfl
  .exact qS _ _
  .exact qS _ _
  .exact qS _ _
  .exact aE _
  .exact qS _ _
 exact I1.xY hle (I1.hok.fresh hle)
def tG(ds es:!ai):!ai:=(ds.zip es).map λp=>.tuple [p.1,p.2]
theorem oy(ds es:!ai):(tG ds es).length=min ds.length es.length:=by simp[tG]
theorem zh{es: !ai}{d:ai}(h:(tG ds es)[i]?>>d):∃x y,ds[i]?>>x/\es[i]?>>y/\d=.tuple [x,y]:=by
 unfold tG at h;rw[aH]at h;cases e:(ds.zip es)[i]? with
 |none=>rw[e]at h;cases h
 |some p=>rw[e]at h;cases h;rw[oV]at e;exact#[_,_,e.1,e.2,rfl]
def T3(k:F5)(ds:!ai):ai:=match k with | .lst=>.list ds | .tup=>.tuple ds
theorem Rep.Rj{v:V}(r:Rep K H v (T3 k ds)):∃a xs,v=.ref a/\Ia k K H a xs/\bU K H xs ds:=by
 cases k with
 |lst=>cases(show Rep K H v (.list ds)from r)with|lst h t=>exact#[_,_,rfl,h,t]
 |tup=>cases(show Rep K H v (.tuple ds)from r)with|tup h t=>exact#[_,_,rfl,h,t]
theorem wt{a b:bw}{δ:!Slot}{es: !ai}{p pos: Pos}{kk}(k1 k2:F5)(h1:VE X a δ (T3 k1 ds))(h2:VE X b δ (T3 k2 es))(hm:X.mg "zip"=none)(hg:Gl X "zip":=by rfl)(hs:kB X a [b]:=by rfl)(o5:kB X b []:=by rfl)(hn:starEach [] X.env=[]:=by rfl):
  VI X (.Tuple elts kk tp) (.Call (.Name "zip" p) [a,b] [] pos) δ (tG ds es):=
 #[_,T2 k1 k2 hg hm (cy cu (cy cu dF o5) hs) (by rw[hs,o5,hn]) (by rw[o5,hn]),λB0 B σ H0 H R f q=>h1 B0 B σ H0 H _ f λv H1 cW g r1=>h2 B0 B σ H1 cW _ (f.grow g) λu H2 fG g2 r2=>by
  let#[a1,xs,rfl,L5,Xj]:=r1.Rj;let#[a2,ys,rfl,Jt,Ib]:=r2.Rj;let Xj:=Xj.mono g2.eD;let L5:=g2.eD.Rj L5;refine#[a1,a2,rfl,#[_,g2.sub.Rj L5],#[_,g2.sub.Rj Jt],q _ H2 fG (g.trans g2) λHa Hb s1 s2 i=>?_];let l1:=Xj.length;let l2:=Ib.length;let Vz:=(s1.trans s2).Rj L5;let hS2:=(s1.trans s2).Rj Jt;refine#[λhi=>?_,λhi=>#[_,_,Vz,hS2,by rw[oy]at hi;omega],λx x3 d hd #[t,x1,y1,e1,e2,e3,e4,e5]=>?_]
  .rw[oy]at hi;let#[x,hx,_]:=Xj.get (i:=i) (d:=ds[i]'∅) (by simp);let#[y,hy,_]:=Ib.get (i:=i) (d:=es[i]'∅) (by simp);exact#[_,x,_,y,Vz,hx,hS2,hy]
  .let#[dx,dy,hx,hy,rfl]:=zh hd;subst e1;subst e3;refine#[_,.laid s2 e2,.tup (nV.of aT) (.cons ?_ (.cons ?_ .nil))]
   .exact((Xj.mono s1).at hx (e4 _ Vz)).mono (dm.laid s2 e2).eD
   .exact((Ib.mono s1).at hy (e5 _ hS2)).mono (dm.laid s2 e2).eD]
end L2
namespace L2
open PySem PySem.Spec PyProof.Rows
open AutoSeq1 (wpAny_loadPart')
theorem JA(l:ay)(items:Array aA)(n:Nat)(dd:Option ay)(sl:Array (Option aA))(x:aA)(e:aA->Bool)(i j:Nat)(t:Tok)(vX:i<=j)(hj:j<items.size)(T4:(j:Int)<2^63-1)
  (hit:e items[j]=true)(v7:∀m (hm:m<items.size),i<=m->m<j->e items[m]=false):
  Meets (t_.«list.index» #[[.ref l,x,.int i t],[]])
   (λA R s=>s.heap.get? l=some { cls:=.type "list",dict:=dd,data:=.seq items n,slots:=sl }/\(∀y,y∈items->SeqAt.EqAt A.in1 s y x (e y))/\R (.ok (.ret (.int j s.toks))) { s with toks:=s.toks+1 }):=by
 intro prog w A R s h;let#[hp,g,d,tk,os]:=s;let#[hl,he,h]:=h
 wp_walk using fB hl
 let a1:((λi:Int=>if i<0 then max 0 (i+(items.size:Int))else i) ((some (i:Int)).getD 0))=((i:Nat):Int):=by show(if(i:Int)<0 then max 0 ((i:Int)+(items.size:Int)) else(i:Int))=_;rw[qQ2 ∅]
 let a2:((λi:Int=>if i<0 then max 0 (i+(items.size:Int))else i) ((none:Option Int).getD (2^63-1)))=2^63-1:=by simp
 rw[a1,a2];exact#[yf rg _,kU PySem.MeetsSeq.entry_index_loop (by rw[dz.under_plainId rg _];exact SeqAt.index_loopAt l items n dd sl x e (2^63-1) j hj T4 hit _ i rfl vX v7 prog w A R _ #[hl,he,h])]
section
variable{X:Cx}{a b c e:bw}{es:!bw}{δ:!Slot}{d d1 d2 d3:ai}{ds:!ai}{pos:Pos}{k:Nat}
def Pm(K:aj)(n:Nat):V->!V->Hp->VK->Prop:=λx vs H Q=>∃p ds y d i j,x=.ref p/\vs=[y,.int ((i:Nat):Int)]/\Rep K H (.ref p) (.list ds)/\Rep K H y d/\Lay n (.list ds)/\Lay n d/\i<=j/\(∃h:j<ds.length,c9 ds[j] d=true)/\
 (∀m (h:m<ds.length),i<=m->m<j->c9 ds[m] d=false)/\Q (.int j) H
theorem JB{n:Nat}(hu:X.A.units+n+2<cLine):Vs X "list.index" (Pm X.K n):=by
 intro pins s σ H x vs v us Q I rx rv h;let#[p,ds,y,d,i,j,rfl,rfl,r1,r2,l1,l2,vX,#[hj,hit],v7,q]:=h;cases rx;let#[u,u2,rfl,ru,Xi]:=vals2 rv;let#[t2,rfl]:=Xi;let#[bs,rb]:=jM I d l2.1 r2 ru;cases r1 with
 |lst hq rs=>
  let#[its,rvs,#[#[cls,dd,data,sl],m,eo,ec,_,ed],hz]:=I.list hq;simp only at ec ed;subst ec ed;let#[as,ra]:=oq I ds l1.1 rs rvs;let hl:=rvs.length;let Cm:=rs.length;let rd:∀i (h1:i<its.length) (h2:i<ds.length),vS s.heap its[i]=ds[i]:=λi h1 h2=>by
   let e1:(its.map (vS s.heap))[i]?>>(vS s.heap its[i]):=by simp[h1]
   rw[SeqAt.readsAll_map ds its as l1.1 ra]at e1;rw[aD h2]at e1;exact(b9 e1).symm
  let h1:=l2.2;let hn:=rE;let zgC:=cM;refine jU F.slot_list_index #[_,eo,rfl] F.entry_list_index (F.args_list_index_3 _ _ _) (JA p its.toArray m dd sl u (λy=>c9 (vS s.heap y) d) i j t2 vX (by simp;omega) ∅ ?_ ?_) #[eo,?_,?_]
  .let:=rd j ∅ hj;simp;rwa[this]
  .intro i' hi zbe zbf;simp only[bJ]at hi;let:=rd i' hi ∅;simp;rw[this];exact v7 i' ∅ zbe zbf
  .exact SeqAt.items_eqAt ↑ra rb l1.1 l2.1 ∅
  .exact#[.int j,H,I.tok _,#[_,rfl],q]
theorem JC{i j:Nat}{ap:Pos}(hr:ei k X.A)(h1:VE X a δ (.list ds))(h2:VE X b δ d)(h3:VE X c δ (.int (i:Nat)))(l1:Lay 20 (.list ds))(l2:Lay 20 d)(vX:i<=j)(hj:∃h:j<ds.length,c9 ds[j] d=true)(v7:∀m (h:m<ds.length),i<=m->m<j->c9 ds[m] d=false)
  (hs:kB X b [c]:=by rfl)(o5:kB X c []:=by rfl)(fW:vK X a "index":=by rfl)
  (k8:Ht X pos [b,c]:=by rfl)
  (hline:(ap.endLine==pos.line)=true:=by rfl)(fu:pU X pos [c]:=by rfl):VE X (.Call (.Attribute a "index" ap) [b,c] [] pos) δ (.int j):=
 .of (qI di PySem.F.slot_list_index PySem.F.type_list_index (JB (yV hr)) cu (cy cu (cy cu dF o5) hs) fW k8 hline hs fu) λB0 B σ H0 H Q f q=>h1 B0 B σ H0 H _ f λv H1 cW g r1=>by
  cases r1 with
  |lst hq rs=>refine#[.inl #[rfl,_,g.sub.seq hq],h2 B0 B σ H1 cW _ (f.grow g) λu H2 fG g2 r2=>h3 B0 B σ H2 fG _ ((f.grow g).grow g2) λu3 H3 wg g3 r3=>?_];cases r3;let gg:=g2.trans g3;exact#[_,ds,u,d,i,j,rfl,rfl,.lst (gg.sub.seq (gg.eD.seq hq)) (rs.mono (gg.eD.trans gg.sub)),(r2.mono g3.eD).mono g3.sub,l1,l2,vX,hj,v7,q _ H3 wg (g.trans gg) (.int _)]
theorem yt{d1 d2:!ai}(h1:VE X a δ (.tuple d1))(h2:VE X b δ (.tuple d2))(hn:d1≠[])(hz:d1.length+d2.length<=sizeLine):VE X (.BinOp a .Add b pos) δ (.tuple (d1++d2)):=by
 refine .of (DH Ox cu cu) λB0 B σ H0 H Q f q=>h1 B0 B σ H0 H _ f λv H1 cW g1 r1=>h2 B0 B σ H1 cW _ (f.grow g1) λu H2 fG g2 r2=>?_;cases r1 with
 |tup hq r1=>
  cases r2 with
  |tup Jt r2=>
   let gg:=g1.trans g2;let e1:=r1.length;let hx:∀xs:!V,xs.length=d1.length->xs≠[]:=λxs h z=>by rw[z]at h;exact hn (mx h.symm)
   refine#[_,_,_,_,rfl,rfl,g2.sub.nF (g2.eD.nF hq),g2.sub.nF Jt,hx _ e1,[e1,r2.length]▸hz,λhy=>?_,λ_ p hp=>q _ _ _ (gg.trans (.laid g2.sub hp)) (.tup (nV.of aT) (((r1.mono g2.eD).append r2).mono (dm.laid g2.sub hp).eD))];subst hy;cases r2;rw[cn]at q;exact q _ H2 fG gg (.tup (g2.eD.nF hq) (r1.mono g2.eD))
end
end L2
namespace L2
open PySem PySem.Spec PyProof.Rows
variable{a p:ay}{H:Hp}{kvs:!(Key×V)}{as:!ay}{xs:!V}{i:Nat}{P:bx}{d:ai}{K:aj}{tgt:Du}{Q:aA->aK->Prop}{w:b_}
def L6(K:aj)(b:ay)(ws:!Str):Prop:=∃(o:Obj)(its:Array aA)(n:Nat),K.lookup b>>o/\o.cls=.type "tuple"/\o.data=.seq its n/\its.size<=sizeLine/\dA (ws.map V.str) its.toList
inductive GE(pr:BM)(K:aj):!fU->!(Str×!Str)->Prop
 |nil:GE pr K [] []
 |cons {h:Int} {k:Str} {t:Tok} {b:ay} {ws:!Str} {es:!fU} {kvs:!(Str×!Str)}:h=ai.keyHash pr k->L6 K b ws->GE pr K es kvs->GE pr K (⟨h,.str k t,.ref b⟩::es) ((k,ws)::kvs)
structure GD(pr:BM)(K:aj)(a:ay)(kvs:!(Str×!Str)):Prop where
 nm:(a==sysModules)=false
 nd:(kvs.map (·.1)).Nodup
 ob:∃o es ep,K.lookup a>>o/\o.ExactDict/\o.data=.dict es ep/\GE pr K es.toList kvs
def jo(kvs:!(Str×!Str))(k:Str):Option (!Str):=(kvs.find? λp=>decide (p.1=k)).map (·.2)
theorem GE.pairs{P:bx}{w:b_}{K:aj}:∀{es:!fU}{kvs:!(Str×!Str)},GE w.params K es kvs->∃vs:!(Key×aA),Pairs (eG P w) es vs/\vs.map (·.1)=kvs.map (λp=>(bf p.1:Key))/\
  (∀e∈es,∃k,(eG P w).is k e.key=true/\e.hash=(eG P w).hash k)/\∀k,match jo kvs k with|none=>valueAt vs (bf k)=none|some ws=>∃b,valueAt vs (bf k)>>(.ref b)/\L6 K b ws
 |_,_,.nil=>#[[],.nil,rfl,λe h=>by(cases h),λk=>rfl]
 |_,_,@GE.cons _ _ hh k t b ws es kvs e kt r=>by
  obtain⟨vs,h1,h2,h3,h4⟩:=GE.pairs r;refine#[(.inr k,.ref b)::vs,.cons (rA P w k t) rfl h1,by rw[aq,aq,h2],λx hx=>?_,λj=>?_]
  .rcases ax.mp hx with rfl|hx
   .exact#[.inr k,rA P w k t,by rw[e];rfl]
   .exact h3 x hx
  .by_cases hj:k=j
   .subst hj;let:jo ((k,ws)::kvs) k>>ws:=by simp[jo,dW]
    rw[this];exact#[b,by simp[valueAt,dW],kt]
   .let:jo ((k,ws)::kvs) j=jo kvs j:=by simp[jo,dW,hj]
    rw[this];let e2:valueAt ((bf k,cC b)::vs) (bf j)=valueAt vs (bf j):=by let:¬(bf k:Key)=bf j:=λz=>hj (by injection z);simp[valueAt,dW,this]
    rw[e2];exact h4 j
theorem GD.dict{h:cI}{kvs:!(Str×!Str)}(g:GD w.params K a kvs)(V3:K.In h):∃vs:!(Key×aA),h.DictOf (eG P w) a vs/\∀k,match jo kvs k with|none=>valueAt vs (bf k)=none|some ws=>∃b,valueAt vs (bf k)>>(.ref b)/\L6 K b ws:=by
 obtain⟨o,es,ep,h1,h2,h3,h4⟩:=g.ob;obtain⟨vs,p1,p2,p3,p4⟩:=h4.pairs;refine#[vs,#[o,es,ep,V3 a o h1,h2,h3,λe he=>p3 e ↑he,p1,?_],p4];rw[p2];let nd:=g.nd;induction kvs with
 |nil=>exact gD
 |cons p l ih=>
  rw[aq,cx]at nd ⊢;refine#[λz=>nd.1 ?_,?_]
  .obtain⟨q,hq,e⟩:=au.mp z;injection e with e
   exact au.mpr #[q,hq,e]
  .let go:∀l:!(Str×!Str),(l.map (·.1)).Nodup->(l.map λp=>(bf p.1:Key)).Nodup:=by
    intro l;induction l with
    |nil=>intro _;exact gD
    |cons p l ih=>
     intro nd;rw[aq,cx]at nd ⊢;refine#[λz=>nd.1 ?_,ih nd.2];obtain⟨q,hq,e⟩:=au.mp z;injection e with e
     exact au.mpr #[q,hq,e]
   exact go l nd.2
section
variable{X:Cx}{a b c e:bw}{δ:!Slot}{pos p:Pos}{k:Nat}{x y:Str}{kvs:!(Str×!Str)}{ws:!Str}{g:ay}
theorem wu:∀l:!Str,bU K H (l.map V.str) (l.map aO)
 | []=>.nil
 |z::l=>.cons (.str z) (wu l)
theorem Ie(hm:X.mg x>>(.ref g))(G:GD X.w.params X.K g kvs)(h:VE X b δ (.str y))(hk:jo kvs y>>ws)(hg:Gl X x:=by rfl)(hs:B8 b:=by intro _ _;rfl)(hd:uc x:=by decide):VE X (.Subscript (.Name x p) b pos) δ (.tuple (ws.map .str)):=by
 let pe:PE X (.Subscript (.Name x p) b pos) (λσ H Q=>cE X b σ H λv H1=>v=.str y/\∀q,L6 X.K q ws->Q (.ref q) H1):=by intro pins s σ H Q I hw;refine B9 nX.lookup hs (fF (yj hg hm (v:=.ref g) rfl hd pins s σ H (λv H'=>v=.ref g/\H'=H) I #[rfl,rfl]) λu s1 #[vx,H1,I1,rx,ex,eH]=>?_);subst ex eH;obtain rfl:u=cC g:=rx;refine fF (hw pins s1 I1) λiv s2 #[v,H2,I2,rv,ev,q]=>?_;subst ev;obtain⟨vs,dd,hv⟩:=G.dict I2.Aq;let hv:=hv y;rw[hk]at hv;obtain⟨bb,hb,kt⟩:=hv;exact#[dd.typeIs,wpAny_getItem_of (rG (k:=.inr y) rv) dd.mapOf hb (#[.ref bb,H2,I2.tok _,rfl,q bb kt])]
 exact .of pe λB0 B σ H0 H Q f q=>h B0 B σ H0 H _ f λv H1 cW g1 r=>by cases r;exact#[rfl,λb' hb=>q _ H1 cW g1 (.tup (.inr hb) (wu ws))]
theorem Bi(hm:X.mg x>>(.ref g))(G:GD X.w.params X.K g kvs)(h:VE X b δ (.str y))(hg:Gl X x:=by rfl)(hd:uc x:=by decide)(hmk:behindInMarks .NotIn (.Name x p)=false:=by with_unfolding_all rfl):VT X (.Compare b [.NotIn] [.Name x p] pos) δ (not (jo kvs y).isSome):=by
 let pc:PC X .NotIn b (.Name x p) (λσ H Q=>cE X b σ H λv H1=>v=.str y/\Q (.bl (not (jo kvs y).isSome)) H1):=by
  intro pins s σ H Q I hw;refine fF (hw pins s I) λiv s1 #[v,H1,I1,rv,ev,q]=>?_;subst ev;refine fF (yj hg hm (v:=.ref g) rfl hd pins s1 σ H1 (λv H'=>v=.ref g/\H'=H1) I1 #[rfl,rfl]) λu s2 #[vx,H2,I2,rx,ex,eH]=>?_;subst ex eH;obtain rfl:u=cC g:=rx;obtain⟨vs,dd,hv⟩:=G.dict I2.Aq;let hv:=hv y;refine wpAny_notIn_of (rG (k:=.inr y) rv) G.nm dd.mapOf ?_;let e:(valueAt vs (bf y)).isSome=(jo kvs y).isSome:=by
   cases el:jo kvs y with
   |none=>rw[el]at hv;rw[hv];rfl
   |some ws=>rw[el]at hv;obtain⟨bb,hb,_⟩:=hv;rw[hb];rfl
  rw[e];exact#[.bl _,H2,I2.tok _,rfl,q]
 exact .of (SK pc hmk) λB0 B σ H0 H Q f q=>h B0 B σ H0 H _ f λv H1 cW g1 r=>by cases r;exact#[rfl,_,rfl,q H1 cW g1]
end
section
variable{X:Cx}{a b c e:bw}{δ:!Slot}{d d1 d2:ai}{ds:!ai}{pos px py p:Pos}{x y:Str}{k:Nat}{kvs:!(Str×ai)}
theorem T5:Zz X (λx lo hi H Q=>∃z,x=.str z/\z.length<=sizeLine/\Q (.str (g_ z lo hi)) H):=by
 intro pins s σ H x v vl vu lo hi sl Q I rx hs pl pu h;let#[z,rfl,hz,q]:=h;let#[t,rfl]:=rx;refine#["str",_,PySem.F.slot_str_getitem.lookup,tZ _ _ _,?_];let fin:∀(l u:Option (Int×Tok)),l.map (·.1)=lo->u.map (·.1)=hi->s.heap.IsSlice sl l u none->wpAny (model X.prog X.w) X.A (getItem (.str z t) (.ref sl)) (EP X pins σ Q) X.xe s:=by intro l u e1 e2 hl;subst e1 e2;refine wpAny_getItem_str_slice hl rfl (post_val_or_str #[bZ (Ft z _ _) hz,λt' k=>?_]);exact#[.str (g_ z _ _),H,I.tok _,#[t',rfl],q]
 let#[os,h1,h2,h3]:=hs;cases pl with
 |none=>cases pu with
  |none=>exact fin none none rfl rfl #[os,h1,h2,h3]
  |int j t2=>exact fin none (some (j,t2)) rfl rfl #[os,h1,h2,h3]
 |int i t1=>cases pu with
  |none=>exact fin (some (i,t1)) none rfl rfl #[os,h1,h2,h3]
  |int j t2=>exact fin (some (i,t1)) (some (j,t2)) rfl rfl #[os,h1,h2,h3]
theorem Bj{lo hi:Option bw}{l u:Option Int}{p2:Pos}(h:VE X a δ (.str x))(hz:x.length<=sizeLine)(hl:tQ X δ lo l)(hh:tQ X δ hi u):VE X (.Subscript a (.Slice lo hi none p2) pos) δ (.str (g_ x l u)):=by let#[tl,pl,ql]:=hl.ok;let#[th,ph,qh]:=hh.ok;refine .of (yP T5 cu pl ph) λB0 B σ H0 H Q f q=>h B0 B σ H0 H _ f λv H1 cW g r=>ql B0 B σ H1 cW _ (f.grow g) λH2 fG g2=>qh B0 B σ H2 fG _ ((f.grow g).grow g2) λH3 wg g3=>?_;cases r;exact#[x,rfl,hz,q _ _ _ ((g.trans g2).trans g3) (.str _)]
inductive VP(X:Cx)(δ:!Slot):!(Option bw)->!bw->!(Str×ai)->Prop
 |nil:VP X δ [] [] []
 |cons {k v:bw} {ks vs} {x:Str} {d:ai} {r}:VE X k δ (.str x)->VE X v δ d->VP X δ ks vs r->VP X δ (some k::ks) (v::vs) ((x,d)::r)
theorem VP.ok{keys vals}(h:VP X δ keys vals kvs):keys.all (·.isSome)=true/\keys.length=vals.length/\keys.length=kvs.length/\∃Jl,WT X pos keys vals Jl/\∀B0 B σ H0 H Q,fQ X.K B0 B H0 H σ δ->
  (∀cQ H' (ws:!(Key×V)),dm H0 H cQ H'->ws.map (·.1)=kvs.map (λp=>(bf p.1:Key))->bU X.K cQ (ws.map (·.2)) (kvs.map (·.2))->Q (ws.map λkv=>(kV kv.1,kv.2)) H')->Ca Jl σ H Q:=by
 induction h with
 |nil=>exact#[rfl,rfl,rfl,[],OV,λB0 B σ H0 H Q f q=>q _ _ [] (.refl f.sub) rfl .nil]
 | @cons k v ks vs x d r hk hv _ ih=>let#[a1,a2,a3,Jl,pp,ht]:=ih;refine#[by simpa using a1,by simp[a2],by simp[a3],_,Lg cu cu pp,λB0 B σ H0 H Q f q=>?_];refine hk B0 B σ H0 H _ f λu H1 cW g1 r1=>hv B0 B σ H1 cW _ (f.grow g1) λw H2 fG g2 r2=>?_;cases r1;exact ht B0 B σ H2 fG _ ((f.grow g1).grow g2) λH3 wg ws g3 e1 rs=>(q H3 wg ((bf x,w)::ws) ((g1.trans g2).trans g3) (by simp[e1]) (.cons (r2.mono g3.eD) rs))
theorem Pn:∀{kvs:!(Key×V)}{k:Key}{v:V},k∉kvs.map (·.1)->putK kvs k v=kvs ++ [(k,v)]:=by
 intro kvs k v h;unfold putK
 first
  |(rw[qQ2];simpa using h)
  |(simp at h;simp[h])
theorem Bk:∀{more kvs:!(Key×V)},((kvs++more).map (·.1)).Nodup->rJ kvs more=kvs++more
 | [],kvs,_=>by simp[rJ]
 |p::more,kvs,h=>by
  show rJ (putK kvs p.1 p.2) more=_;let hp:=λz=>by rw[aQ,aq]at h;exact(cJ.mp h).2.2 _ z _ (aJ) rfl
  rw[Pn hp,Bk ↑h];simp
theorem Ig{keys vals}(h:VP X δ keys vals kvs)(hn:(kvs.map (·.1)).Nodup)(h0:kvs≠[])(h15:kvs.length<=15):VE X (.Dict keys vals pos) δ (iM kvs):=by
 obtain⟨a1,a2,a3,Jl,pp,ht⟩:=h.ok;refine .of (OW pp a1 a2 (λz=>h0 (iw.mp (by rw[<-a3,z];rfl))) ∅) λB0 B σ H0 H Q f q=>λp hp=>?_;refine ht B0 B σ H0 _ _ (f.grow (.loose f.sub hp)) λH1 cW ws g e1 rs=>?_;let gp:=g.big _ _ (aT);let wl:ws.length=kvs.length:=by let:=qQ6 dU e1;simpa using this
 refine#[gp,ws,rfl,∅,?_];rw[Bk (by
  rw[m_,e1];let:(kvs.map λp=>(bf p.1:Key))=(kvs.map (·.1)).map (bf:Str->Key):=by rw[aG];rfl
  rw[this];exact my _ (λa b JD z=>JD (j9 z)) hn),m_];refine q (.ref p) (upd H1 p (.dK ws)) _ #[λb u eb=>?_,λb u eb=>?_,λb u eb=>?_,λb eb=>?_] ?_
 .let hb:b≠p:=bB eb hp;rw[aI hb];exact g.big _ _ ([aI hb]▸eb)
 .let hb:b≠p:=bB eb (f.sub.free hp);rw[aI hb];exact g.eD _ _ eb
 .by_cases hb:b=p
  .subst hb;rw[aT]at eb ⊢;exact eb
  .rw[aI hb]at eb ⊢;exact g.sub _ _ eb
 .by_cases hb:b=p
  .subst hb;exact .inr hp
  .rw[aI hb]at eb;rcases g.new b eb with z|z
   .exact .inl z
   .rw[aI hb]at z;exact .inr z
 .refine .dct (kvs:=ws) aT ?_ ?_
  .rw[aG];let:ws.map (λp=>mN p.1)=(ws.map (·.1)).map mN:=by rw[aG];rfl
   rw[this,e1,aG];rfl
  .rw[aG];refine(rs.mono λb u eb=>?_);rw[aI (bB eb (g.still (f.sub.free hp) aT))];exact eb
theorem L7{ap:Pos}(hr:ei k X.A)(h3:VE X c δ (iM kvs))(h1:VE X a δ (.str x))(h4:VE X e δ d)(m:M2 X c "get" ap a e pos:=by exact#[rfl,rfl,rfl,rfl]):VE X (.Call (.Attribute c "get" ap) [a,e] [] pos) δ ((ik kvs x).getD d):=
 .of (Li (Jw hr) cu cu cu m) λB0 B σ H0 H Q fr q=>h3 B0 B σ H0 H _ fr λv H1 cW g r=>by let#[p,ws,rfl,hp,ke,rs]:=r.kI;refine#[p,rfl,.inl #[ws,.inl (g.sub _ _ hp)],?_];refine h1 B0 B σ H1 cW _ (fr.grow g) λv H2 fG g2 r1=>h4 B0 B σ H2 fG _ ((fr.grow g).grow g2) λu H3 wg g3 r2=>?_;cases r1;let gg:=g2.trans g3;refine#[_,.inl #[ws,bf x,.inl (gg.big _ _ (g.sub _ _ hp)),rfl,rfl],q _ H3 wg (g.trans gg) ?_];exact(wo ke (rs.mono gg.eD) x).getD r2
end
section
variable{X:Cx}{a b c e e1 e2:bw}{δ:!Slot}{d d1 d2:ai}{ds DU Pp:!ai}{pos px py p:Pos}{x y:Str}{k:Nat}
end
section
variable{X:Cx}{K:aj}{B0 B H0 H cQ H' C0 C Ha Hb:Hp}{σ σ':St}{δ δ':!Slot}{a:ay}{ps:!ay}{gs:!(!ai)}
end
section
variable{X:Cx}{B0 B H0 H cQ H' Ha Hb:Hp}{σ σ':St}{D:Ends}{st:eO}{rest body orelse:!eO}{δ δ':!Slot}{a:ay}{ps:!ay}{gs:!(!ai)}{e c tg iter e1 e2 ea:bw}{d:ai}{ds:!ai}{pos px nZ:Pos}{x y:Str}
def pC{α:Type}(l:!α)(i:Nat)(y:α):!α:=l.take i++y::l.drop i
def Pq:V->!V->Hp->VK->Prop:=λx vs H Q=>∃(l:ay)(xs:!V)(j:Int)(y:V),x=.ref l/\vs=[.int j,y]/\H l>>(.lst xs)/\0<=j/\j<=xs.length/\xs.length<sizeLine/\Q .non (upd H l (.lst (pC xs j.toNat y)))
theorem dA.ins{us:!aA}{y:V}{u:aA}(r:dA xs us)(ru:RelV y u)(i:Nat):dA (pC xs i y) (pC us i u):=(r.take i).append (.cons ru (r.drop i))
theorem JF:Vs X "list.insert" Pq:=by
 intro pins s σ H x vs v us Q I rx rv h;let#[l,xs,j,y,rfl,rfl,hH,h0,hi,hz,q]:=h;cases rx;let#[u1,u2,rfl,ru1,Xi]:=rv.two;let#[t,rfl]:=ru1;let#[z,its,n,r,hl,e]:=I.Td hH;let T6:vI j=true:=by let:=cM;unfold vI;simp;omega
 refine jU F.slot_list_insert #[_,e,rfl] F.entry_list_insert (F.args_list_insert_3 _ _ _) (PySem.AutoSeq1.list_insert_list_int_val_1 l its.toArray n j t u2 (by rw[T6];decide) (by rw[bJ];omega)) #[e,?_];refine#[.non,_,I.Tc hH e ?_ (r.ins Xi j.toNat) ?_,rfl,q]
 .show(its.toArray.extract 0 (if j<0 then(j+(its.toArray.size:Int)).toNat else min j.toNat its.toArray.size)).push u2++its.toArray.extract (if j<0 then(j+(its.toArray.size:Int)).toNat else min j.toNat its.toArray.size)=_;rw[qQ2 ∅,bJ,nu ∅];unfold pC;apply Array.toList_inj.mp;simp;rw[gq (by simp)]
 .unfold pC;rw[aX,bH,cN,iu];omega
theorem bU.ins{v:V}(r:bU K H xs ds)(rv:Rep K H v d)(i:Nat):bU K H (pC xs i v) (pC ds i d):=(r.take i).append (.cons rv (r.drop i))
end
section
variable{X:Cx}{a b c:bw}{δ:!Slot}{d1 d2 d3:ai}{pos px py pz:Pos}{x y z:Str}
theorem vd{k:Bool}(h:VE X a δ (.bool k)):VE X (.UnaryOp .Not a pos) δ (.bool (not k)):=.of (SQ cu) λB0 B σ H0 H Q f q=>h B0 B σ H0 H _ f λv H1 cW g r=>by cases r;exact#[k,rfl,q _ H1 cW g (.bl _)]
theorem pD{st:!eO}{o:Out}(h:∀B0 B σ H0 H D,fQ X.K B0 B H0 H σ δ->uk X.K B0 B H0 D o->Ce X st D σ H):y6 X st δ o:=h
end
section
variable{X:Cx}{a:bw}{δ:!Slot}{pos p:Pos}{x:Str}{ds:!ai}
theorem Ax:iz X (.type "str") (λxs H Q=>∃x,xs=[.str x]/\Q (.str x) H):=by intro pins s σ H xs us Q I r h;let#[x,rfl,q]:=h;let#[u,rfl,t,rfl]:=vals1 r;exact PySem.P.str_of_str #[.str x,H,I,#[t,rfl],q]
theorem T7:nI K (λxs H Q=>∃x,xs=[.str x]/\Q (.str x) H) [.str x] (.str x):=λvs H0 H Q s r k=>by let#[v,rfl,r1]:=r.one;cases r1;exact#[x,rfl,k _ _ _ (.refl s) (.str _)]
theorem Pr(h:VE X a δ (.str x))(hm:X.mg "str"=none)(hg:Gl X "str":=by rfl)(hs:kB X a []:=by rfl):VE X (.Call (.Name "str" p) [a] [] pos) δ (.str x):=kf Ax T7 (cY h c5 hs) hm rfl hg (he:=hs)
theorem Pt:HP K (λxs H Q=>∃p ys,xs=[.ref p]/\(jb K H p ys\/nV K H p ys)/\∀l,H l=none->Q (.ref l) (upd H l (.lst ys))) [.tuple ds] ds:=λvs H0 H Q s r q=>by
 let#[v,rfl,r1]:=r.one;cases r1 with
 |tup hq rs=>exact#[_,_,rfl,.inr (s.nF hq),λl hl=>(q l _ H0 _ (.loose s hl) hl (s.free hl) aT rs)]
end
section
variable{prog:bx}{w:b_}{A:dz}{E:aA->aK->Prop}{s:aK}
theorem Ay{l:ay}{items:Array aA}(hh:A.handled=none)(hl:s.heap.IsTuple l items)(T:Nat->cI->Prop)
  (t0:∀led h',h'.get? s.heap.objs.size>>(jh led)->(∀b o,s.heap.get? b>>o->h'.get? b>>o)->T 0 h')
  (keep:∀i h h',T i h->(∀b o,b≠s.heap.objs.size+1->h.get? b>>o->h'.get? b>>o)->T i h')
  (add:∀i v (s':aK) (Q:Bool->aK->Prop) (E:aA->aK->Prop),i<items.size->items[i]?>>v->T i s'.heap->(∀h' tk b,s'.toks<=tk->gk s.heap.objs.size s'.heap h'->T (i+1) h'->Q b { s' with heap:=h',toks:=tk })->wpAny (model prog w) A.in1.in1.in1 (setAdd s.heap.objs.size v) Q E s')
  (h:∀(h':cI)(tk:Nat),T items.size h'->(∀b o,b<s.heap.objs.size->s.heap.get? b>>o->h'.get? b>>o)->Q (.ref s.heap.objs.size) { s with heap:=h',toks:=tk }):
  wpAny (model prog w) A (call (.type "set") [.ref l]) Q E s:=by
 let#[c,tl,zgF]:=jV.mro;let zec:=jV.made;let FV:=jV.sub;refine wpAny_call (codeAny_of_tree ?_);show wpAny _ _ (callAny (.type "set") _) _ _ _;refine aU #[Code.quiet_builtin _ ∎,kU F.entry_type_call ?_];rw[dz.under_plain (weight_type_call_type "set" [.ref l] []) rfl];let h1:=jV.notType;let h2:=jV.canCreate;let hct:=F.typeCall_set_1 (.ref l)
 repeat (any_goals (first|assumption|wp_step))
 refine oY (code_set_new_1 (.ref l) (E:=E) (Q₁:=λobj s₁=>∃led:Bool,obj=.ref s.heap.objs.size/\s₁={ s with heap:=s.heap.push (jh led) }) λled=>#[led,rfl,rfl]) λr s₁ hr=>?_;cases r with
 |error e=>exact hr
 |ok fl=>
  cases fl with
  |ret obj=>
   let#[led,rfl,rfl]:=hr;let hS:(s.heap.push (jh led)).get? s.heap.objs.size>>(jh led):=bh _ rfl;let hT:aK.TypeIs { s with heap:=s.heap.push (jh led) } (.ref s.heap.objs.size) "set":=#[_,hS,rfl];let hli:=jV.init.lookup;let hbi:=jV.init.bind (.ref s.heap.objs.size)
   repeat (any_goals (first|assumption|wp_step))
   refine oY (codeAny_call_builtin (R:=wants (λr s₂=>r=.none/\∃h' tk,s₂={ s with heap:=h',toks:=tk }/\T items.size h'/\(∀b o,b<s.heap.objs.size->s.heap.get? b>>o->h'.get? b>>o)) E) jV.init.plain F.entry_set_init (check_set_init_1 hT ?_)) λr₂ s₂ hr₂=>?_
   .let#[ol,Vy,LZ,nl,L0]:=hl;let#[zbh,Rk,Xk,L8]:=ol;simp only at LZ L0;subst LZ;subst L0;let zbi:(s.heap.push (jh led)).get? l=some { cls:=.type "tuple",dict:=Rk,data:=.seq items nl,slots:=L8 }:=aB _ Vy;let zgH:=F.sub_tuple_set;let zgI:=F.sub_tuple_frozenset;let yr:(uR "tuple"==uR "dict")=false:=⋯;let D1:(s.heap.push (jh led)).IsTuple l items:=#[_,zbi,rfl,nl,rfl];unfold t_.«set.__init__» noKeywords t_.Frozenset.updateFrom;generalize hPI:pyIter=PI
    wp_walk
    subst hPI;refine yD D1 ?_;refine ao (wpAny_runValue ?_);let Xl:l<s.heap.objs.size:=aZ Vy;let hh3:A.in1.in1.in1.handled=none:=by simp[hh]
    let yk:(s.heap.push (jh led)).objs.size=s.heap.objs.size+1:=gC _ _;let T8:l≠(s.heap.push (jh led)).objs.size:=[yk]▸a8 (pK Xl);let Tp:s.heap.objs.size∉[(s.heap.push (jh led)).objs.size,l]:=by rw[yk];simp only[ax,aF,a9,or_false,not_or];exact#[a8 (yF _),fM Xl]
    refine Lk ((Walks.tuple hh3 _ l T8 items).toS) s.heap.objs.size Tp T (λi h h' t k=>keep i h h' t λb o hb e=>k b o ?_ e) (λi v s' Q E hi hv t q=>add i v s' Q E hi hv t q) (items.size-0) 0 _ ∅ (aW _)
     #[#[_,bh _ rfl,rfl,rfl],(D1.push _)] ?hS0 ?hR
    .rw[yk];intro z;rw[aF]at z;exact hb z
    case hS0=>exact t0 led _ (aB _ hS) λb o e=>aB _ (aB _ e)
    case hR=>intro s' hm Tr;let#[h',g',d',Bg,Vq]:=s';let eg:g'=s.gens:=hm.gens;let ed:d'=s.drawn:=hm.drawn;let eo:Vq=s.os:=hm.os;subst eg;subst ed;subst eo;show wpAny _ _ _ _ _ _;refine aU ?_;show wpAny _ _ (ret lI) _ _ _;refine aU #[rfl,h',Bg,rfl,Tr,λb o hb e=>?_];let Xm:b≠s.heap.objs.size:=a8 hb;let Kz:b≠(s.heap.push (jh led)).objs.size:=[yk]▸a8 (pK hb);exact hm.heap b o (by simp only[ax,aF,a9,or_false,not_or];exact#[Xm,Kz]) (aB _ (aB _ e))
   .cases r₂ with
    |error e=>exact hr₂
    |ok fl₂=>
     cases fl₂ with
     |ret r=>
      let#[rfl,h',tk,rfl,Tr,ZJ]:=hr₂
      repeat (any_goals (first|assumption|wp_step))
      exact h _ _ Tr ZJ
     |_=>exact hr₂.elim
  |_=>exact hr.elim
end
section
variable{X:Cx}{a b c e:bw}{δ:!Slot}{d d1 d2:ai}{ds:!ai}{pos p p2 rR:Pos}{k:Nat}
def T9(K:aj):!V->Hp->VK->Prop:=λxs H Q=>∃(a:ay)(ss:!Str),xs=[.ref a]/\nV K H a (ss.map V.str)/\ss.length<4000/\∀l,H l=none->Q (.ref l) (upd H l (.ext (Jv l (dd [] ss).length)))
theorem zj(hc:X.calm=true):iz X (.type "set") (T9 X.K):=by
 intro pins s σ H xs us Q I r h;let#[a,ss,rfl,hq,h4,q]:=h;let#[u,rfl,rx]:=vals1 r;cases rx;let#[its,rv,pl,hz]:=I.tuple hq;let hlv:=rv.length;simp only[ae]at hlv;let hsz:its.toArray.size=ss.length:=by simp;omega
 refine Ay (I.ok.hd hc) pl (λi h=>(∀b o,s.heap.get? b>>o->h.get? b>>o)/\h.SetOf (strKind X.prog X.w) s.heap.objs.size (λk=>decide (k∈dd [] (ss.take i))) (dd [] (ss.take i)).length) (λled h' e k=>?_) (λi h h' #[k1,T] k=>?_) (λi v s' Q' E' hi hv #[k1,T] q'=>?_) (λh' tk #[k1,T] _=>?_)
 .let n0:dd [] (ss.take 0)=[]:=by rw[AW];rfl
  refine#[k,?_];rw[n0];refine#[_,#[],0,_,e,#[rfl,rfl,rfl],rfl,(λe he=>by cases he),(λk=>#[λz=>by simp at z,λ#[e,he,_]=>by cases he]),(by show 0<scanBound;unfold scanBound;omega),rfl,rfl]
 .refine#[λb o e=>k b o ?_ (k1 b o e),?_]
  .let:=aZ e;exact a8 (pK this)
  .let#[o,es,ep,t,ho,rest]:=T;exact#[o,es,ep,t,k _ _ ∅ ho,rest]
 .rw[hsz]at hi;let#[x,t,hx,rfl]:=Bf rv i v ↑hv;let his:(strKind X.prog X.w).is x (.str x t)=true:=by show uM x (.str x t)=true;simp[uM]
  let hle:=wm (ss.take i) [];simp only[cR,rh,cN]at hle;let etk:ss.take (i+1)=ss.take i ++ [x]:=by rw[cB,hx];rfl
  refine iA (ao ((strKind X.prog X.w).pyHash his ?_));refine wpAny_setAddHashed_of his rfl T (by unfold scanBound;omega) λh' sb T'=>q' h' _ _ (Ad _) sb #[λb o e=>?_,?_]
  .let hb:=aZ e;rw[sb.2 b (a8 hb)];exact k1 b o e
  .let ed:dd [] (ss.take (i+1))=if decide (x∈dd [] (ss.take i))=true then dd [] (ss.take i)else dd [] (ss.take i) ++ [x]:=by rw[etk,Be];rfl
   rw[ed];by_cases hm:decide (x∈dd [] (ss.take i))=true
   .rw[qQ3 hm]at T' ⊢;refine SetOf_congr T' (λk=>?_) rfl;by_cases hk:k=x
    .subst hk;rw[hm];rfl
    .simp[hk]
   .rw[qQ2 hm]at T' ⊢;refine SetOf_congr T' (λk=>?_) (by simp);rw[f6];simp
 .rw[hsz,du]at T;exact#[.ref s.heap.objs.size,_,I.laid k1 (aE _) (SetOf.za2 T).ok,rfl,q _ (I.hok.fresh (aE _))]
theorem D3{ss:!Str}(h:VE X a δ (.tuple (ss.map .str)))(hl:ss.length<4000)(hc:X.calm=true)(m1:X.mg "len"=none)(m2:X.mg "set"=none)(hg:Gl X "len":=by rfl)(O_:Gl X "set":=by rfl)
  (hs:kB X a []:=by rfl)(o5:starEach [.Call (.Name "set" p2) [a] [] rR] X.env=(false,eval (.Call (.Name "set" p2) [a] [] rR) X.env)::starEach [] X.env:=by rfl)(lB:pU X rR []:=by rfl)(zbl:pU X pos []:=by rfl):
  VE X (.Call (.Name "len" p) [.Call (.Name "set" p2) [a] [] rR] [] pos) δ (.int (dd [] ss).length):=
 .of (rF Av hg m1 tq (cy (k7 (zj hc) O_ m2 (by rfl) (cy cu dF hs) ⋯ ⋯ hs lB) dF o5) ⋯ ⋯ o5 zbl) λB0 B σ H0 H Q f q=>h B0 B σ H0 H _ f λv H1 cW g r=>by
  cases r with
  |tup hq rs=>let e:=rs.strs;subst e;let:=wm ss [];exact#[_,ss,rfl,g.sub.nF hq,hl,λl hl'=>#[l,_,rfl,aT,by simp at this;omega,q _ H1 _ (g.trans (.loose g.sub hl')) (.int _)]]
def Bl:!Bool->Bool:=λl=>l.any id
theorem L9(hc:X.calm=true):iz X (.builtin "any") (λxs H Q=>∃p bs,xs=[.ref p]/\jb X.K H p (bs.map V.bl)/\Q (.bl (Bl bs)) H):=by
 intro pins s σ H xs us Q I r h;let#[p,bs,rfl,hq,q]:=h;let#[u,rfl,rx]:=vals1 r;cases rx;let#[its,rv,pl,hz]:=I.list hq;let hl:=rv.length;simp only[ae]at hl;refine call_any_walkS (lW pl.isList ?_);let hbl:∀(i:Nat)v,its.toArray[i]?>>v->v=.bool (bs.getD i false):=λi v hv=>by
  let Om:its[i]?>>v:=by simpa using hv
  let e:=rv.getD i;let e2:its.getD i lI=v:=by rw[aR,Om];rfl
  let hi:i<bs.length:=by let:=(av.mp Om).1;omega
  let e3:(bs.map V.bl).getD i .non=.bl (bs.getD i false):=by rw[aR,aH,aR,aD hi];rfl
  rw[e2,e3]at e;exact e
 refine#[_,_,_,_,_,_,_,λi=>bs.getD i false,rfl,(Walks.list (by simp[I.ok.hd hc]) _ p (a8 (aZ pl.isList.choose_spec.1)) its.toArray).toS,#[#[_,bh _ rfl,rfl,rfl],pl.isList.push _],?_,λs' hm=>?_]
 .intro i v Q' E' s' hv q';rw[hbl i v hv];exact ft q'
 .let ea:(cj its.toArray.size).any (λi=>bs.getD i false)=Bl bs:=by
   rw[bJ,<-hl];unfold Bl;rw[f6,lV,lV];constructor
   .rintro⟨i,hi,h⟩;let hi:=fN.mp hi;rw[aR,aD hi]at h;exact#[_,dM hi,h]
   .rintro⟨x,hx,h⟩;let#[i,hi]:=lJ.mp hx;refine#[i,fN.mpr (av.mp hi).1,?_];rwa[aR,hi]
  rw[ea];let#[h',g',d',Bg,Vq]:=s';let eg:=hm.gens;let ed:=hm.drawn;let eo:=hm.os;subst eg;subst ed;subst eo;refine#[.bl _,H,I.kept λb o e=>hm.heap b o ?_ (aB _ e),rfl,q];let:=aZ e;simp;exact a8 this
theorem Xn{bs:!Bool}:nI K (λxs H Q=>∃p bs,xs=[.ref p]/\jb K H p (bs.map V.bl)/\Q (.bl (Bl bs)) H) [.list (bs.map .bool)] (.bool (Bl bs)):=λvs H0 H Q s r q=>by
 let#[v,rfl,r1]:=r.one;cases r1 with
 |lst hq rs=>let e:=rs.bls;subst e;exact#[_,bs,rfl,s.seq hq,q _ _ _ (.refl s) (.bl _)]
theorem wx:fillsNumberSlot (.type "tuple") "mul"=pure false:=
 PySem.fillsNumberSlot_seq Am.lookup ∎ F.slot_tuple_rmul.lookup ∎
theorem Cp:seqRepeat? (.type "tuple")=pure (some (.builtin "tuple.__mul__")):=by unfold seqRepeat?;rfl
theorem zk(i:Int)(t:Tok)(l:ay)(items:Array aA)(n:Nat)(dd:Option ay)(sl:Array (Option aA)):
  Meets (t_.«int.__rmul__» #[[.int i t,.ref l],[]]) (λ_ R s=>s.heap.get? l=some { cls:=.type "tuple",dict:=dd,data:=.seq items n,slots:=sl }/\R (.ok (.ret aA.notImplemented)) s):=
 .of_wp λprog w A R s h=>by let#[hp,g,d,tk,os]:=s;let#[hl,h]:=h;wp_walk;exact#[_,rfl,h]
theorem Az(l:ay)(items:Array aA)(n:Nat)(dd:Option ay)(sl:Array (Option aA))(t:Tok):
  Meets (t_.«tuple.__mul__» #[[.ref l,.int 1 t],[]]) (λ_ R s=>s.heap.get? l=some { cls:=.type "tuple",dict:=dd,data:=.seq items n,slots:=sl }/\R (.ok (.ret (.ref l))) s):=
 .of_wp λprog w A R s h=>by
  let#[hp,g,d,tk,os]:=s;let#[hl,h]:=h;let f1:=Hr;let f2:=Ae;let c1:(items.isEmpty||(1:Int)==1)=true:=by simp
  wp_walk using fB hl
  exact#[_,rfl,h]
theorem zm(l:ay)(its:!aA)(n:Nat)(dd:Option ay)(sl:Array (Option aA))(k:Int)(t:Tok)(hk:2<=k)(T_:k<2^63)(yr:its≠[])(hsz:its.length*k.toNat<=sizeLine):
  Meets (t_.«tuple.__mul__» #[[.ref l,.int k t],[]]) (λ_ R s=>s.heap.get? l=some { cls:=.type "tuple",dict:=dd,data:=.seq its.toArray n,slots:=sl }/\R (.ok (.ret (.ref s.heap.objs.size))) { s with heap:=s.heap.push { cls:=uR "tuple",data:=Data.seq (bp k.toNat its).flatten.toArray } }):=
 .of_wp λprog w A R s h=>by
  obtain⟨hp,g,d,tk,os⟩:=s;obtain⟨hl,h⟩:=h;let f1:=Hr;let f2:=Ae;let Xo:its.toArray.isEmpty=false:=by cases its with|nil=>exact qQ7 rfl yr|cons _ _=>rfl
  let zgN:its.toArray.size*k.toNat<=sizeLine:=[bJ]▸hsz;let Xp:List.foldl (λx1 x2=>x1++x2) #[] (bp k.toNat its.toArray)=(bp k.toNat its).flatten.toArray:=by let:=foldl_rep its k.toNat [];rw[m_]at this;exact this
  generalize hI:its.toArray=items at *;let ZK:¬(decide (k < -2^63)||decide (k>=2^63))=true:=by simp;omega
  let hc1:¬(items.isEmpty||k==1)=true:=by rw[Xo];simp;omega
  let hc2:¬(decide (k<=0)||items.isEmpty)=true:=by rw[Xo];simp;omega
  let hmul:(items.size:Int)*k=((items.size*k.toNat:Nat):Int):=by rw[Int.natCast_mul,jW ∅]
  let hsl:(sizeLine:Int)<=(2^63-1)/8:=⋯;let hc3:¬((items.size:Int)*k>(2^63-1)/8):=by rw[hmul];omega
  wp_walk using fB hl
  refine kW (qQ0 ZK) ?_
  wp_walk using fB hl
  refine kW (qQ0 hc1) ?_
  wp_walk using fB hl
  refine kW (qQ0 hc2) ?_
  wp_walk using fB hl
  refine kW (qQ0 hc3) ?_
  wp_walk using fB hl
  refine kW (qQ0 (by unfold t_.Tuple.tupleTooMany;rw[hmul];simp only[gt_iff_lt,decide_eq_true_eq];omega)) ?_
  wp_walk using fB hl
  rw[Xp];refine kW (qQ0 ?_) ?_
  .rw[bJ,len_rep];let:items.size=its.length:=by rw[<-hI,bJ]
   rw[Nat.mul_comm];omega
  wp_walk
  exact#[_,rfl,h]
def Xq(K:aj):R2:=λx y H Q=>∃a k xs,x=.ref a/\y=.int k/\nV K H a xs/\1<=k/\k<2^63/\xs≠[]/\xs.length*k.toNat<=sizeLine/\(k=1->Q (.ref a) H)/\(k≠1->∀p,H p=none->Q (.ref p) (upd H p (.tup (bp k.toNat xs).flatten)))
theorem Pu:sN X (binaryOp .Mult) (Xq X.K):=by
 intro pins s σ H x y v u Q I rx ry h;let#[a,k,xs,rfl,rfl,ha,h1,h2,hx,hz,q1,q2]:=h;cases rx;let#[t,rfl]:=ry;let#[its,r1,p1,_]:=I.tuple ha;let#[#[cls,dd,data,sl],ho,hc,n,hd]:=id p1;subst hc hd;refine wpAny_binaryOp_repeat_ref ⋯ #[_,ho,rfl] (λs'=>typeIs_int s' k t) wx F.fills_int_mul F.slot_int_rmul Cp F.slot_int_index.lookup
  (jU F.slot_int_rmul (typeIs_int s k t) F.entry_int_rmul (F.args_int_rmul_2 _ _) (zk k t a its.toArray n dd sl) #[ho,rfl,#[_,ho,rfl],?_]);by_cases hk:k=1
 .subst hk;exact jU Am #[_,ho,rfl] F.entry_tuple_mul (F.args_tuple_mul_2 _ _) (Az a its.toArray n dd sl t) #[ho,.ref a,H,I,rfl,q1 rfl]
 .refine jU Am #[_,ho,rfl] F.entry_tuple_mul (F.args_tuple_mul_2 _ _) (zm a its n dd sl k t ∅ h2 (λz=>hx (r1.yl.mp z)) ([<-r1.length]▸hz)) #[ho,?_];refine#[.ref s.heap.objs.size,_,I.laid (λb ob q=>aB _ q) ∅ ?_,rfl,q2 hk _ (I.hok.fresh ∅)];exact#[[len_rep,Nat.mul_comm]▸hz,_,r1.rep k.toNat,tL _ _]
theorem Pw{n:Int}(h1:VE X a δ (.tuple ds))(h2:VE X b δ (.int n))(hn:1<=n)(Zw:n<=1000)(hz:ds.length<=100)(yr:ds≠[]):VE X (.BinOp a .Mult b pos) δ (.tuple (bp n.toNat ds).flatten):=by
 refine .of (DH Pu cu cu) λB0 B σ H0 H Q f q=>h1 B0 B σ H0 H _ f λv H1 cW g1 r1=>h2 B0 B σ H1 cW _ (f.grow g1) λu H2 fG g2 r2=>?_;cases r2;cases r1 with
 |tup hq rs=>
  rename_i ad xs
  let gg:=g1.trans g2;let hl:=rs.length;let Ib:=rs.mono g2.eD;let go:∀m,bU X.K H2 (bp m xs).flatten (bp m ds).flatten:=by
   intro m;induction m with
   |zero=>exact .nil
   |succ m ih=>rw[ez,fc,ez,fc];exact Ib.append ih
  refine#[_,n,_,rfl,rfl,g2.sub.nF (g2.eD.nF hq),hn,∅,λz=>?_,?_,λe=>?_,λ_ p hp=>?_]
  .rw[z]at hl;exact yr (mx hl.symm)
  .rw[cM,hl];let:n.toNat<=1000:=∅;let:=gF hz this;omega
  .refine q _ H2 fG gg ?_;let e2:(bp n.toNat ds).flatten=ds:=by rw[e];simp
   rw[e2];exact .tup (g2.eD.nF hq) Ib
  .exact q _ _ _ (gg.trans (.laid g2.sub hp)) (.tup (nV.of aT) ((go _).mono (dm.laid g2.sub hp).eD))
end
def kS(as:!ay)(H H0:Hp):Hp:=λq=>if q∈as then H q else H0 q
theorem iU{H0: Hp}{q:ay}(h:q∈as):kS as H H0 q=H q:=qQ3 h
theorem jN{H0: Hp}{q:ay}(h:q∉as):kS as H H0 q=H0 q:=qQ2 h
abbrev OR:=Hp->Hp->!ay->Prop
def bL(R:OR):Prop:=∀H0 H Ha Hb as,R H0 H as->cz H0 Ha->(∀a∈as,Hb a=H a)->R Ha Hb as
structure OF(K:aj)(B0 B:Hp)(R:OR)(H0 H:Hp)(σ:St)(δ:!Slot):Prop where
 fr:fQ K B0 B H0 H σ δ
 no:noOwn δ=true
 ex:∃as:!ay,(∀a∈as,H0 a=none/\B a=none/\H a≠none)/\R H0 H as
section
variable{K:aj}{B0 B H0 H cQ H' C0 C Ha Hb:Hp}{σ σ':St}{δ δ':!Slot}{R R':OR}
theorem cz.eq{H': Hp}(s:cz H H')(h:H a≠none):H' a=H a:=by
 cases e:H a with
 |none=>exact qQ7 e h
 |some o=>exact s a o e
theorem OF.go(m:bL R)(G:OF K B0 B R H0 H σ δ)(f':fQ K H0 H Ha Hb σ' δ')(hn:noOwn δ'=true):OF K B0 B R Ha Hb σ' δ':=by
 let#[as,h1,h2]:=G.ex;refine#[f'.re hn (G.fr.ent.trans f'.ent),hn,as,λa ha=>?_,m _ _ _ _ _ h2 f'.ent.eD λa ha=>f'.ent.big.eq (h1 a ha).2.2];let#[z1,z2,z3]:=h1 a ha;cases e:H a with
 |none=>exact qQ7 e z3
 |some o=>exact#[f'.ent.still z1 e,z2,f'.ent.big.ne z3]
theorem OF.from(G:OF K B0 B R H0 H σ δ)(g:dm C0 B H0 H):OF K C0 B R H0 H σ δ:=#[G.fr.re G.no g,G.no,G.ex]
theorem OF.own(G:OF K B0 B R H0 H σ δ):fQ K H0 H H0 H σ δ:=G.fr.re G.no (.refl G.fr.sub)
theorem OF.forget(m:bL R)(G:OF K B0 B R H0 H σ δ)(hf:N2 δ δ')(hn:noOwn δ'=true):OF K B0 B R H0 H σ δ':=G.go m (G.own.forget hf.len hf.at) hn
theorem OF.imp(G:OF K B0 B R H0 H σ δ)(h:∀as,R H0 H as->R' H0 H as):OF K B0 B R' H0 H σ δ:=by let#[as,h1,h2]:=G.ex;exact#[G.fr,G.no,as,h1,h as h2]
theorem jO(sb:cz H0 H):cz H0 (kS as H H0):=λb u e=>by
 by_cases hb:b∈as
 .rw[iU hb];exact sb b u e
 .rwa[jN hb]
theorem vf(sb:cz H0 H):cz (kS as H H0) H:=λb u e=>by
 by_cases hb:b∈as
 .rwa[iU hb]at e
 .rw[jN hb]at e;exact sb b u e
theorem OF.Xr(G:OF K B0 B R H0 H σ δ)(hi:δ[i]?>>(.ref p))(hR:∀Ha Hb as,cz Ha Hb->R Ha Hb as->Rep K (kS as Hb Ha) (.ref p) d):∃as,(∀a∈as,H0 a=none/\B a=none/\H a≠none)/\R H0 H as/\fQ K (kS as H H0) H (kS as H H0) H σ (δ.set i (.val d)):=by
 let#[as,h1,h2]:=G.ex;let sm:=jO (as:=as) G.fr.sub;let hs:σ[i]?>>(some (.ref p)):=G.fr.slot i _ hi;let f0:fQ K (kS as H H0) H (kS as H H0) H σ δ:=by
  refine#[.refl (vf G.fr.sub),G.fr.len,λi sl e=>?_,G.fr.apart];let q:=G.fr.slot i sl e;cases sl with
  |un=>trivial
  |ref _=>exact q
  |val d=>let#[v,g1,g2]:=q;exact#[v,g1,g2.mono sm]
  |own ds=>exact qQ7 e (fJ G.no i ds)
 let f1:=f0.n_ (i:=i) (v:=.ref p) (sl:=.val d) #[_,rfl,hR H0 H as G.fr.sub h2] rfl;let e:σ.set i (some (.ref p))=σ:=by
  apply hG;intro j;by_cases h:j=i
  .subst h;rw[aY (av.mp hs).1,hs]
  .rw[aS (bF h)]
 rw[e]at f1;exact#[as,h1,h2,f1]
theorem OF.look(G:OF K B0 B R H0 H σ δ)(hi:δ[i]?>>(.ref p))(hR:∀Ha Hb as,cz Ha Hb->R Ha Hb as->Rep K (kS as Hb Ha) (.ref p) d):∃C0,fQ K C0 H C0 H σ (δ.set i (.val d)):=
 let#[_,_,_,f]:=G.Xr hi hR;#[_,f]
end
section
variable{X:Cx}{B0 B H0 H cQ H' Ha Hb:Hp}{σ σ':St}{D:Ends}{st:eO}{rest body orelse:!eO}{δ δ':!Slot}{a p:ay}{e c tg iter:bw}{d dp:ai}{ds:!ai}{pos px nZ:Pos}{x y:Str}{R:OR}
theorem Cq(m:bL R)(G:OF X.K B0 B R H0 H σ δ)(h:VS X st δ (.nx δ'))(hn:noOwn δ'=true)(q:∀σ' cQ H',OF X.K B0 B R cQ H' σ' δ'->D.nx σ' H'):cS X st D σ H:=
 h H0 H σ H0 H D G.own λσ' Ha Hb sm f'=>q σ' Ha Hb (G.go m f' hn)
theorem Ua(m:bL R)(G:OF X.K B0 B R H0 H σ δ)(i j:Nat)(hi:δ[i]?>>(.ref p))(hR:∀Ha Hb as,cz Ha Hb->R Ha Hb as->Rep X.K (kS as Hb Ha) (.ref p) dp)(h:VE X e (δ.set i (.val dp)) d)(hs:qK d=true)(hn:noOwn (δ.set j (.val d))=true)(q:∀σ' cQ H',OF X.K B0 B R cQ H' σ' (δ.set j (.val d))->D.nx σ' H')(hN:X.N.Nodup)
  (hj:X.N[j]?>>y:=by rfl)(hx:Loc X.env.scope y:=by left)(lZ:A0 X pos e (.Name y px):=by rfl)(hf:yi X y:=by left):
  cS X (.Assign [.Name y px] e pos) D σ H:=λpins s I=>by refine rC hN hj hx cu lZ hf pins s σ H D I ?_;let#[C0,f1]:=G.look hi hR;refine h C0 H σ C0 H _ f1 λv C1 H1 g1 r=>?_;let G1:=G.go m (G.own.grow (.far G.fr.sub g1.big)) G.no;exact q _ H0 H1 (G1.go m (G1.own.n_ #[_,rfl,r.y8 hs] rfl) hn)
section
variable{X:Cx}{B0 B H0 H:Hp}{σ:St}{D:Ends}{body:!eO}{tg iter:bw}{ds:!ai}{pos:Pos}
theorem L_(Rs:Nat->OR)(δs:Nat->!Slot)(m:∀k,bL (Rs k))(G:OF X.K B0 B (Rs 0) H0 H σ (δs 0))(hp:wY (model X.prog X.w) X.A X.env X.xe)(hc:X.calm=true)(hi:VI X tg iter (δs 0) ds)(hg:PG X tg (F1 X.K tgt))
  (step:∀k d,ds[k]?>>d->∃δ',ui tgt d (δs k)>>δ'/\noOwn δ'=true/\∀(D:Ends)C0 σ' cQ H',OF X.K C0 B (Rs k) cQ H' σ' δ'->(∀σ2 Ha Hb,OF X.K C0 B (Rs (k+1)) Ha Hb σ2 (δs (k+1))->D.nx σ2 Hb)->Ce X body D σ' H')
  (q:∀σ2 Ha Hb,OF X.K B0 B (Rs ds.length) Ha Hb σ2 (δs ds.length)->D.nx σ2 Hb)
  (hs:Fx X iter:=by intro _;rfl):cS X (.For tg iter body [] pos) D σ H:=λpins s I=>by
 let#[wi,pi,qi]:=hi;refine B1 hp hc pi hg kG hs pins s σ H D I ?_;refine qi H0 H σ H0 H _ G.own λJ H1 cW g it=>?_;let G1:=G.go (m 0) (G.own.grow g) G.no;refine#[λi mm σ' H'=>i<=ds.length/\mm=ds.length-i/\∃Ha,OF X.K H1 B (Rs i) Ha H' σ' (δs i),#[_,aW _,rfl,H1,G1.from #[G1.fr.ent.big,cz.refl _,G1.fr.sub,λ_ z=>.inl z]],?_];rintro i mm σ' H' ⟨hi,rfl,Ha,Ga⟩;let#[i1,i2,i3]:=it Ha H' Ga.fr.ent.eD Ga.fr.sub i;by_cases nE:i<ds.length
 .let hd:ds[i]?>>ds[i]:=by simp[nE]
  let#[δ',e1,e2,e3]:=step i _ hd;refine .inr #[i1 nE,λσ'' x3=>∃Hb,_,λσ'' x3 #[Hb,z]=>#[_,∅,nE,rfl,Hb,z],λv H2 y=>?_];let#[Hb,g2,rx]:=i3 v H2 _ hd y;exact rM (Ga.own.grow g2) rx e1 λσ3 f3=>(e3 _ H1 σ3 Hb H2 (Ga.go (m i) f3 e2) λσ2 Hc Hd z=>#[Hc,z])
 .let e:i=ds.length:=∅;subst e;refine .inl #[i2 ∅,q σ' Ha H' (Ga.from #[Ga.fr.ent.big,G1.fr.ent.eD.trans Ga.fr.ent.eD,Ga.fr.sub,λb z=>?_])];rcases Ga.fr.ent.new b z with z|z
  .exact G1.fr.ent.new b z
  .exact .inr z
end
theorem xn(Rs:Nat->OR)(m:∀k,bL (Rs k))(G:OF X.K B0 B (Rs 0) H0 H σ δ)(hp:wY (model X.prog X.w) X.A X.env X.xe)(hc:X.calm=true)(hi:VI X tg iter δ ds)(hg:PG X tg (F1 X.K tgt))
  (step:∀k d,ds[k]?>>d->∃δ',ui tgt d δ>>δ'/\noOwn δ'=true/\∀(D:Ends)C0 σ' cQ H',OF X.K C0 B (Rs k) cQ H' σ' δ'->(∀σ2 Ha Hb,OF X.K C0 B (Rs (k+1)) Ha Hb σ2 δ->D.nx σ2 Hb)->Ce X body D σ' H')
  (q:∀σ2 Ha Hb,OF X.K B0 B (Rs ds.length) Ha Hb σ2 δ->D.nx σ2 Hb)
  (hs:Fx X iter:=by intro _;rfl):cS X (.For tg iter body [] pos) D σ H:=L_ Rs (λ_=>δ) m G hp hc hi hg step q hs
def Ma(K:aj)(S:Type)(PR:ay->S->OR)(ok:S->ai->S->Prop):Sp:=λvs H Q _=>∃(H0:Hp)(p:ay)(v:V)(as:!ay)(s s':S)(d:ai),vs=[.ref p,v]/\cz H0 H/\Rep K H0 v d/\(∀a∈as,H0 a=none/\H a≠none)/\PR p s H0 H as/\ok s d s'/\
 ∀(cQ H':Hp)(as':!ay),cz H0 cQ->cz cQ H'->(∀a,cQ a≠none->H0 a≠none\/H a=none)->(∀a∈as',cQ a=none/\H' a≠none/\(a∈as\/H a=none))->(∀b o,H b>>o->b∉as->H' b>>o)->PR p s' cQ H' as'->Q .non H'
theorem Xs{S:Type}{PR:ay->S->OR}{ok:S->ai->S->Prop}{k:Nat}{f:Str}{ps:!Str}{p0 p1 pc:Pos}{s s':S}(C:bu X.prog X.w X.K X.mg X.base k f ps (Ma X.K S PR ok))(hr:ei k X.A)(G:OF X.K B0 B (PR p s) H0 H σ δ)(m:bL (PR p s))(i:Nat)(hi:δ[i]?>>(.ref p))(h:VE X e δ d)(hok:ok s d s')
  (q:∀cQ H',OF X.K B0 B (PR p s') cQ H' σ δ->D.nx σ H')
  (hN:tE X i x:=by ac_rfl)
  (hg:Gl X f:=by rfl)(o6:uc f:=by decide)(he:starEach [.Name x p0,e] X.env=(false,eval (.Name x p0) X.env)::starEach [e] X.env:=by rfl)(Tx:kB X e []:=by rfl)(lB:pU X pc [e]:=by rfl)
  (lZ:V4 X pos (.Call (.Name f p1) [.Name x p0,e] [] pc):=by rfl):
  cS X (.Expr (.Call (.Name f p1) [.Name x p0,e] [] pc) pos) D σ H:=λpins s0 I=>by
 let#[fa,fd,F,hm,hk,hb]:=C;refine kD (pX F hr hg hm hk hb .nil xj (cy (vL hN) (cy cu dF Tx) he) o6 he lB) lZ pins s0 σ H D I ?_;refine#[_,G.fr.slot i _ hi,?_];refine h H0 H σ H0 H _ G.own λv H1 cW g r=>?_;let G1:=G.go m (G.own.grow g) G.no;let#[as,h1,h2]:=G1.ex;refine#[H1,p,v,as,s,s',d,rfl,G1.fr.sub,r,λa ha=>#[(h1 a ha).1,(h1 a ha).2.2],h2,hok,λcQ H' as' a1 a2 a3 a4 a5 a6=>?_];let hB:∀b,B b≠none->b∉as:=λb hb z=>hb (h1 b z).2.1;refine q cQ H' #[#[#[λb u e=>a5 b u (G1.fr.ent.big b u e) (hB b (by rw[e];simp)),G1.fr.ent.eD.trans a1,a2,λb z=>?_],G1.fr.len,λj sl e=>?_,G1.fr.apart],G.no,as',λa ha=>?_,a6]
 .rcases a3 b z with z|z
  .exact G1.fr.ent.new b z
  .exact .inr (G1.fr.ent.big.free z)
 .let qq:=G1.fr.slot j sl e;cases sl with
  |un=>trivial
  |ref _=>exact qq
  |val d=>let#[v,g1,g2]:=qq;exact#[v,g1,g2.mono a1]
  |own ds=>exact qQ7 e (fJ G.no j ds)
 .let#[z1,z2,z3]:=a4 a ha;refine#[z1,?_,z2];rcases z3 with z3|z3
  .exact(h1 a z3).2.1
  .exact G1.fr.ent.big.free z3
end
theorem wy{α:Type}{g:α->ai}:∀{l:!α}{cs:!ay},cs.length=l.length->(∀(i:Nat)c q,cs[i]?>>c->l[i]?>>q->Rep K H (.ref c) (g q))->bU K H (cs.map V.ref) (l.map g)
 | [],[],_,_=>.nil
 | [],_::_,h,_=>by cases h
 |_::_,[],h,_=>by cases h
 |q::l,c::cs,h,k=>.cons (k 0 c q rfl rfl) (wy ↑h λi c' q' e1 e2=>k (i+1) c' q' ↑e1 ↑e2)
section
variable{K:aj}{B0 B H0 H Ha Hb:Hp}{σ:St}{δ:!Slot}{R R':OR}
theorem OF.put(G:OF K B0 B R H0 H σ δ)(m:bL R)(g:dm H0 H Ha Hb){x:ay}{o:HO}(hR:∀as,R Ha Hb as->x∈as/\∃as',(∀a∈as',a∈as)/\R' Ha (upd Hb x o) as'):OF K B0 B R' Ha (upd Hb x o) σ δ:=by
 let G1:=G.go m (G.own.grow g) G.no;let#[as,h1,h2]:=G1.ex;let#[hx,as',hs,r']:=hR as h2;let#[z1,z2,z3]:=h1 x hx;refine#[G1.fr.touch z1 z2 (fJ G1.no),G1.no,as',λb hb=>?_,r'];let#[w1,w2,w3]:=h1 b (hs b hb);refine#[w1,w2,?_];by_cases e:b=x
 .subst e;rw[aT];exact nofun
 .rwa[aI e]
end
section
variable{K:aj}{B0 B H0 H:Hp}{σ:St}{δ:!Slot}{R:OR}{d:ai}{p:ay}
theorem OF.done(G:OF K B0 B R H0 H σ δ)(hi:δ[i]?>>(.ref p))(hR:∀Ha Hb as,cz Ha Hb->R Ha Hb as->Rep K (kS as Hb Ha) (.ref p) d):∃Ha,cz H0 Ha/\fQ K B0 B Ha H σ (δ.set i (.val d)):=by
 let#[as,h1,h2]:=G.ex;let sm:=jO (as:=as) G.fr.sub;let hs:=G.fr.slot i _ hi;let f0:fQ K B0 B (kS as H H0) H σ δ:=by
  refine#[#[G.fr.ent.big,G.fr.ent.eD.trans sm,vf G.fr.sub,λb e=>?_],G.fr.len,λi sl e=>?_,G.fr.apart]
  .by_cases hb:b∈as
   .exact .inr (h1 b hb).2.1
   .rw[jN hb]at e;exact G.fr.ent.new b e
  let q:=G.fr.slot i sl e;cases sl with
  |un=>trivial
  |ref _=>exact q
  |val d=>let#[v,g1,g2]:=q;exact#[v,g1,g2.mono sm]
  |own ds=>exact qQ7 e (fJ G.no i ds)
 let f1:=f0.n_ (i:=i) (sl:=.val d) #[_,rfl,hR H0 H as G.fr.sub h2] rfl;let e:σ.set i (some (.ref p))=σ:=by
  apply hG;intro j;by_cases h:j=i
  .subst h;rw[aY (av.mp hs).1,hs]
  .rw[aS (bF h)]
 rw[e]at f1;exact#[_,sm,f1]
end
def LL(K:aj)(a:ay)(ps:!ay)(gs:!(!ai)):OR:=λH0 H as=>as=a::ps/\(a::ps).Nodup/\H a>>(.lst (ps.map V.ref))/\ps.length=gs.length/\∀(i:Nat)p ds,ps[i]?>>p->gs[i]?>>ds->∃xs,H p>>(.lst xs)/\bU K H0 xs ds
section
variable{K:aj}{B0 B H0 H:Hp}{σ:St}{δ:!Slot}{a:ay}{ps:!ay}{gs:!(!ai)}
theorem LL.mono:bL (LL K a ps gs):=by rintro H0 H Ha Hb as ⟨rfl,nd,h1,h2,h3⟩ sm hb;refine#[rfl,nd,[hb a (by simp)]▸h1,h2,λi p ds e1 e2=>?_];let#[xs,y1,y2]:=h3 i p ds e1 e2;exact#[xs,[hb p (by simp[aP e1])]▸y1,y2.mono sm]
theorem LL.rep(Ha Hb:Hp)(as:!ay)(s:cz Ha Hb)(h:LL K a ps gs Ha Hb as):Rep K (kS as Hb Ha) (.ref a) (.list (gs.map .list)):=by let#[rfl,nd,h1,h2,h3]:=h;refine .lst (jb.of ((iU (by simp)).trans h1)) (wy h2 λi c q e1 e2=>?_);let#[xs,y1,y2]:=h3 i c q e1 e2;exact .lst (jb.of ([iU (by simp[aP e1])]▸y1)) (y2.mono (jO s))
theorem LL.row{Ha Hb Hc Hd:Hp}{j:Nat}{l':!ai}(h:LL K a ps gs Ha Hb as)(hp:ps[j]?>>p)(sm:cz Ha Hc)(hk:∀x∈a::ps,x≠p->Hd x=Hb x)(hx:Hd p>>(.lst xs))(r:bU K Hc xs l'):LL K a ps (gs.set j l') Hc Hd (a::ps):=by
 let#[e,nd,h1,h2,h3]:=h;let n:=cx.mp nd;let Ub:a≠p:=λz=>n.1 ([z]▸aP hp);refine#[rfl,nd,[hk a (by simp) Ub]▸h1,[fZ]▸h2,λi q ds e1 e2=>?_];by_cases hi:i=j
 .subst hi;rw[hp]at e1;cases e1;let hl:i<gs.length:=[<-h2]▸(av.mp hp).1;rw[aY hl]at e2;cases e2;exact#[xs,hx,r]
 .rw[aS (bF hi)]at e2;let hq:q≠p:=λz=>hi ((List.getElem?_inj (av.mp e1).1 n.2).mp (by rw[e1,hp,z]));let#[ys,y1,y2]:=h3 i q ds e1 e2;exact#[ys,[hk q (by simp[aP e1]) hq]▸y1,y2.mono sm]
end
section
variable{X:Cx}{sc:jx}{own N:!Str}{cap:!Nat}{cl:!(Str×ay)}{tg iter:bw}{δ:!Slot}{ds:!ai}{pos px nZ lp:Pos}{tgt:Du}{x:Str}{B0 B H0 H:Hp}{σ:St}{D:Ends}
theorem Px(i:Nat)(f:fQ X.K B0 B H0 H σ δ)(v7:noOwn δ=true)(hc:X.calm=true)(CS:h_ X sc own cap N cl)(hi:VI X tg iter δ ds)(hg:∀f s3 H3,PG (eQ X sc N cl f s3 H3) tg (F1 X.K tgt))(ht:pw own.length tgt=true)(hz:ds.length<=sizeLine)
  (step:∀d∈ds,∃δ',ui tgt d (mK own cap δ)>>δ')(hN:X.N.Nodup)(q:∀σ' a ps cQ H',OF X.K B0 B (LL X.K a ps (bp ds.length [])) cQ H' σ' (δ.set i (.ref a))->D.nx σ' H')(hn:∀a,noOwn (δ.set i (.ref a))=true)(Lr:X.N[i]?>>x:=by rfl)(hx:Loc X.env.scope x:=by left)
  (lZ:swapsWith (.ListComp (.List [] lp) [#[tg,iter,[],0]] sc pos) (some (.Name x px)) nZ.line X.env=pure true:=by rfl)(hs:Fx X iter:=by intro _;rfl)(hf:yi X x:=by left):
  cS X (.Assign [.Name x px] (.ListComp (.List [] lp) [#[tg,iter,[],0]] sc pos) nZ) D σ H:=λpins s I=>by
 let#[wi,pi,qi]:=hi;refine p_ (tc:=Xa X sc N cl []) (te:=teC X sc N cl _) hN Lr hx hc CS pi hg (λf s3 H3 pins s σ H Q I h=>h f s3 H3 pins s I) (λf s3 H3 pins s σ H Q I h=>h f s3 H3 pins s I) lZ hs hf pins s σ H D I ?_;refine qi B0 B σ H0 H _ f λJ H1 cW g it=>?_;let f1:=f.grow g;intro L hL;let hBL:=f1.ent.big.free hL;refine#[λi m ys σ' H'=>i<=ds.length/\m=ds.length-i/\∃Ha ps,dm H1 cW Ha H'/\fQ X.K B0 B Ha H' σ' _/\Ha L=none/\ys=ps.map V.ref/\H' L>>(.lst ys)/\L∉ps/\ps.Nodup/\ps.length=i/\∀p∈ps,B p=none/\Ha p=none/\H' p>>(.lst []),
  #[_,aW _,rfl,H1,[],.loose f1.sub hL,(f1.comp own cap).touch (f1.sub.free hL) hBL ou,f1.sub.free hL,rfl,aT,by simp,by simp,rfl,λp hp=>by cases hp],?_];rintro n m ys σ' H' ⟨hn1,rfl,Ha,ps,g1,fa,hLa,rfl,Xt,hLp,AA,lB,Uc⟩;let#[i1,i2,i3]:=it Ha H' g1.eD g1.sub n;by_cases nE:n<ds.length
 .refine .inr #[i1 nE,λv H2 y=>?_];let#[Hb,g2,rx]:=i3 v H2 ds[n] (by simp[nE]) y;let#[δ',e1]:=step ds[n] (dM nE);let#[k1,k2]:=comp_back ht e1;refine rM (fa.grow g2) rx e1 λσ3 f3=>?_;intro fp s3 H3;refine mO B0 B σ3 Hb H2 _ f3 λHc H4 g4=>?_;rw[qQ3 rfl];intro fp' s3' wg;refine (dO (ds:=[]) c5) B0 B σ3 Hc H4 _ (f3.grow g4) λp xs Hd H5 g5 a1 a2 a3 a4=>?_;cases a4;let N1:=(g2.trans g4).trans g5;let hL5:=N1.still hLa Xt;let nLp:L≠p:=λz=>by let:=(g2.trans g4).big _ _ Xt;rw[z,a1]at this;cases this
  let pB:=(f3.grow g4).ent.big.free a1;refine#[N1.big _ _ Xt,by rw[ae,lB];omega,_,∅,nE,rfl,Hd,ps ++ [p],?_,((f3.grow g4).grow g5 |>.forget k1.symm k2).touch hL5 hBL ou,hL5,by simp,aT,by simp[hLp,nLp],?_,by simp[lB],λp' hp'=>?_]
  .let gg:=g1.trans N1;exact#[λb u e=>[aI (bB e hL)]▸gg.big b u e,gg.eD,λb u e=>[aI (bB e hL5)]▸gg.sub b u e,gg.new]
  .rw[cJ];refine#[AA,by simp,λb hb c hc=>?_];simp only[aF]at hc;subst hc;intro z;subst z;let:=(g2.trans g4).big _ _ (Uc b hb).2.2;rw[a1]at this;cases this
  .rcases aV.mp hp' with h|h
   .let#[h1,h2,h3]:=Uc p' h;exact#[h1,N1.still h2 h3,by rw[aI (λz=>hLp ([<-z]▸h))];exact N1.big _ _ h3]
   .simp only[aF]at h;subst h;exact#[pB,a2,[aI (bF nLp)]▸a3]
 .let e:n=ds.length:=∅;subst e;refine .inl #[i2 ∅,q _ L ps Ha H' ?_];refine#[(f.grow (g.trans g1)).n_ rfl rfl,hn L,_,λz hz=>?_,rfl,cx.mpr #[hLp,AA],Xt,by simp[lB],λj p es e1 e2=>?_]
  .rcases ax.mp hz with rfl|hz
   .exact#[hLa,hBL,[Xt]▸nofun]
   .let#[h1,h2,h3]:=Uc z hz;exact#[h2,h1,[h3]▸nofun]
  .let#[h1,h2,h3]:=Uc p (aP e1);rw[cG]at e2;split at e2<;>cases e2;exact#[[],h3,.nil]
end
section
variable{X:Cx}{B0 B H0 H:Hp}{σ:St}{D:Ends}{δ:!Slot}{a:ay}{ps:!ay}{gs:!(!ai)}{e1 e2 ea:bw}{d:ai}{ds:!ai}{pos px:Pos}{x:Str}{R:OR}{rest:!eO}
end
section
variable{X:Cx}{pins:!(ay×Obj)}{σ:St}{H:Hp}{s:aK}{a:ay}{kvs:!(Key×V)}{k:Key}{d:V}{u r:aA}{A:dz}{E:aA->aK->Prop}
theorem Mb(I:Inv X pins σ H s)(e:H a>>(.dK kvs))(ry:RelV (kV k) u)(rd:RelV d r)(hl:kvs.length<sizeLine)(h1:∀v w' s',gW kvs k>>v->Inv X pins σ H s'->RelV v w'->Q w' s')
  (h2:∀s',gW kvs k=none->Inv X pins σ (upd H a (.dK (putK kvs k d))) s'->Q r s'):wpAny (model X.prog X.w) A (call (.builtin "dict.setdefault") [.ref a,u,r]) Q E s:=by
 let#[z,hd,vs,rel,dd]:=Ba I.hok e;let rv:=rel.val k;refine Ak xU dd.typeIs PySem.F.entry_dict_setdefault (PySem.F.args_dict_setdefault_3 _ _ _) (kt_meets_setdefault _ a (rG ry) hd r) #[vs,dd,[<-rel.length]▸z,λv hv=>?_,λhn h' DQ hs=>?_]
 .rw[hv]at rv;cases ev:gW kvs k with
  |none=>rw[ev]at rv;exact rv.elim
  |some w=>rw[ev]at rv;exact h1 w v _ ev (I.tok _) rv
 .let Cm:(putK kvs k d).length<=sizeLine:=by let:=lK kvs k d;omega
  let he:∃q,h'.get? a>>q:=let#[q,_,_,hq,_]:=DQ;#[q,hq];rw[hn]at rv;refine h2 _ ?_ (uZ I ([e]▸e8) hs he (wa Cm hd (rel.put k rd) DQ));cases ev:gW kvs k with
  |none=>rfl
  |some w=>rw[ev]at rv;exact rv.elim
end
def Xu(td ty tx:TE):TE:=λσ H Q=>td σ H λx H1=>∃a,x=.ref a/\IsD H1 a/\ty σ H1 λy H2=>tx σ H2 λz H3=>∃kvs k,H3 a>>(.dK kvs)/\y=kV k/\kvs.length<sizeLine/\
 (∀v,gW kvs k>>v->Q v H3)/\(gW kvs k=none->Q z (upd H3 a (.dK (putK kvs k z))))
section
variable{X:Cx}{o e f:bw}{apos nY:Pos}{td ty tx:TE}
theorem Ih(ho:PE X o td)(he:PE X e ty)(hf:PE X f tx)(m:M2 X o "setdefault" apos e f nY):PE X (.Call (.Attribute o "setdefault" apos) [e,f] [] nY) (Xu td ty tx):=by
 intro pins s σ H Q I h;refine wpAny_Call_method m.base m.few m.line oZ xU PySem.F.type_dict_setdefault (fF (ho pins s σ H _ I h) λu s1 #[x,H1,I1,rx,a,ex,d,q1]=>?_);subst ex;obtain rfl:u=cC a:=rx;let#[t1,t2,_]:=Lh I1 d;refine#[t1,t2,?_];rw[m.trees];refine kR rfl (tj (kr (fF (he pins s1 σ H1 _ I1 q1) λiv s2 #[y,H2,I2,ry,q2]=>kr (fF (hf pins s2 σ H2 _ I2 q2) λfv s3 #[z,H3,I3,rz,kvs,k,ea,ey,hl,q3,q4]=>vN ?_))));subst ey;exact Mb I3 ea ry rz hl (λv w' s' ev I4 pP=>#[v,H3,I4,pP,q3 v ev]) λs' ev I4=>#[z,_,I4,rz,q4 ev]
end
section
variable{X:Cx}{B0 B H0 H:Hp}{σ:St}{D:Ends}{st:eO}{rest body orelse:!eO}{δ δ':!Slot}{a p C dx:ay}{e c ek ev:bw}{d:ai}{pos px po ps pa pc:Pos}{x y fl:Str}{fs:!(Str×V)}{k:Nat}
theorem Xv(f:fQ X.K B0 B H0 H σ δ)(h:VS X st δ (.nx δ'))(q:∀σ' Ha Hb,cz H0 Ha->fQ X.K B0 B Ha Hb σ' δ'->D.nx σ' Hb):cS X st D σ H:=h B0 B σ H0 H D f q
theorem Bm(f:fQ X.K B0 B H0 H σ δ)(h:VT X c δ true)(q:∀Ha Hb,dm H0 H Ha Hb->Ce X body D σ Hb):cS X (.If c body orelse pos) D σ H:=λpins s I=>w_ nG kG jy pins s σ H D I (h B0 B σ H0 H _ f λH1 cW g=>OO (q H1 cW g))
theorem jP(f:fQ X.K B0 B H0 H σ δ)(h:VT X c δ false)(q:∀Ha Hb,dm H0 H Ha Hb->Ce X orelse D σ Hb):cS X (.If c body orelse pos) D σ H:=λpins s I=>w_ nG jy kG pins s σ H D I (h B0 B σ H0 H _ f λH1 cW g=>OL (q H1 cW g))
theorem Ud(i:Nat){fi:ay}{fd:eE}{ps':!Str}{sp:Sp}{j:Nat}{p0 pk:Pos}(M:Mk X.K C fi)(F:dZ X.prog X.w X.K X.mg X.base jL j fi fd ps' sp)(hr:ei (j+1) X.A)(hm:X.mg x>>(.ref C))(hb:Binds X.K fd ps' [])
  (q:∀p dx E,H p=none->H dx=none->dx≠p->sp [.ref p] (upd (upd H dx (.own p)) p (.ins C dx [])) (λv H2=>v=.non/\D.nx (σ.set i (some (.ref p))) H2) E)
  (hN:X.N.Nodup)(hi:X.N[i]?>>y:=by rfl)(hx:Loc X.env.scope y:=by left)(hs:A0 X pos (.Call (.Name x p0) [] [] pk) (.Name y px):=by rfl)(hf:yi X y:=by left)
  (hg:Gl X x:=by rfl)(o6:uc x:=by decide):cS X (.Assign [.Name y px] (.Call (.Name x p0) [] [] pk) pos) D σ H:=λpins s I=>by exact rC (i:=i) hN hi hx (K3 M F hr hg hm hb .nil xj o6) hs hf pins s σ H D I (λp dx h1 h2 h3=>q p dx _ h1 h2 h3)
theorem Md(f:fQ X.K B0 B H0 H σ δ)(hr:ei k X.A)(i:Nat)(hi:δ[i]?>>(.ref p))(ins:H p>>(.ins C dx fs))(cl:yK X.K C)(na:gG X.K C fl)(lk:fs.lookup fl>>(.ref a))(hd:H a>>(.dK kvs))(hk:VE X ek δ (.str y))(hv:VE X ev δ d)(hl:kvs.length<sizeLine)
  (q:∀v Ha Hb,dm H0 H Ha Hb->Rep X.K Ha v d->D.nx σ (upd Hb a (.dK (putK kvs (bf y) v))))
  (hN:tE X i x:=by ac_rfl)
  (hb:vK X (.Name x px) fl:=by rfl)(hs:A0 X pos ev (.Subscript (.Attribute (.Name x px) fl po) ek ps):=by rfl):
  cS X (.Assign [.Subscript (.Attribute (.Name x px) fl po) ek ps] ev pos) D σ H:=λpins s I=>by refine ym (Jw hr) (pW (vL hN) hb) cu cu hs pins s σ H D I ?_;refine hv B0 B σ H0 H _ f λv H1 cW g1 r1=>?_;refine#[_,f.slot i _ hi,p,C,dx,fs,_,rfl,g1.big _ _ ins,cl,na,lk,?_];refine hk B0 B σ H1 cW _ (f.grow g1) λu H2 fG g2 r2=>?_;cases r2;exact#[a,_,rfl,As.k (k:=bf y) (g2.big _ _ (g1.big _ _ hd)) hl,q v H2 fG (g1.trans g2) (r1.mono g2.eD)]
theorem Ue(f:fQ X.K B0 B H0 H σ δ)(hr:ei k X.A)(i:Nat){kvs:!(!Key×V)}{e1 e2:bw}{z1 z2:Str}{x1}{pt:Pos}(hi:δ[i]?>>(.ref p))(ins:H p>>(.ins C dx fs))(cl:yK X.K C)(na:gG X.K C fl)(lk:fs.lookup fl>>(.ref a))(hd:H a>>(.dT kvs))(N0:VE X e1 δ (.str z1))(T_:VE X e2 δ (.str z2))(hv:VE X ev δ d)(hl:kvs.length<sizeLine)
  (q:∀v t Ha Hb,dm H0 H Ha Hb->Hb t=none->Rep X.K Ha v d->D.nx σ (upd (upd Hb t (.tup [.str z1,.str z2])) a (.dT (putK kvs (lM (z1,z2)) v))))
  (hN:tE X i x:=by ac_rfl)
  (hb:vK X (.Name x px) fl:=by rfl)(hs:A0 X pos ev (.Subscript (.Attribute (.Name x px) fl po) (.Tuple [e1,e2] x1 pt) ps):=by rfl)
  (Fk:kB X e1 [e2]:=by rfl)(o5:kB X e2 []:=by rfl):
  cS X (.Assign [.Subscript (.Attribute (.Name x px) fl po) (.Tuple [e1,e2] x1 pt) ps] ev pos) D σ H:=λpins s I=>by refine ym (Jw hr) (pW (vL hN) hb) (yM (cy cu (cy cu dF o5) Fk)) cu hs pins s σ H D I ?_;refine hv B0 B σ H0 H _ f λv H1 cW g1 r1=>?_;refine#[_,f.slot i _ hi,p,C,dx,fs,_,rfl,g1.big _ _ ins,cl,na,lk,?_];refine N0 B0 B σ H1 cW _ (f.grow g1) λu H2 fG g2 r2=>?_;cases r2;refine T_ B0 B σ H2 fG _ ((f.grow g1).grow g2) λu H3 wg g3 r3=>?_;cases r3;let gg:=(g1.trans g2).trans g3;refine#[by show 2<=sizeLine;rw[cM];decide,λt ht=>?_];exact#[a,_,rfl,As.t (k:=lM (z1,z2)) ([aI (bB (gg.big _ _ hd) ht)]▸gg.big _ _ hd) aT hl,q v t H3 wg gg ht ((r1.mono g2.eD).mono g3.eD)]
theorem zo(f:fQ X.K B0 B H0 H σ δ)(i:Nat)(hi:δ[i]?>>(.ref p))(ins:H p>>(.ins C dx fs))(cl:yK X.K C)(na:gG X.K C fl)(lk:fs.lookup fl>>(.ref a))(hd:H a>>(.lst xs))(hv:VE X e δ d)(hl:xs.length<sizeLine)
  (q:∀v Ha Hb,dm H0 H Ha Hb->Rep X.K Ha v d->D.nx σ (upd Hb a (.lst (xs ++ [v]))))
  (hN:tE X i x:=by ac_rfl)
  (hb:vK X (.Name x px) fl:=by rfl)(fW:vK X (.Attribute (.Name x px) fl po) "append":=by rfl)
  (hs:kB X e []:=by rfl)
  (k8:Ht X pc [e]:=by rfl)
  (hline:(pa.endLine==pc.line)=true:=by rfl)(fu:pU X pc []:=by rfl)(lZ:swapsWith (.Call (.Attribute (.Attribute (.Name x px) fl po) "append" pa) [e] [] pc) none pos.line X.env=pure false:=by rfl):
  cS X (.Expr (.Call (.Attribute (.Attribute (.Name x px) fl po) "append" pa) [e] [] pc) pos) D σ H:=λpins s I=>by refine kD (qI di eA eB ka (pW (vL hN) hb) (cy cu dF hs) fW k8 hline hs fu) lZ pins s σ H D I ?_;refine#[_,f.slot i _ hi,p,C,dx,fs,_,rfl,ins,cl,na,lk,.inl #[rfl,_,jb.of hd],?_];exact hv B0 B σ H0 H _ f λv H1 cW g1 r1=>(#[a,xs,v,rfl,rfl,g1.big _ _ hd,hl,q v H1 cW g1 r1])
theorem Mf(f:fQ X.K B0 B H0 H σ δ)(i:Nat){pl Cr Mh:Pos}(hi:δ[i]?>>(.ref p))(ins:H p>>(.ins C dx fs))(cl:yK X.K C)(na:gG X.K C fl)(lk:fs.lookup fl>>(.ref a))(hd:H a>>(.dK kvs))(hk:VE X ek δ (.str y))(hv:VE X e δ d)(hl:kvs.length<sizeLine)(v7:noOwn δ=true)(ha0:H0 a=none)
  (hc:∀v,gW kvs (bf y)>>v->∃c xs,v=.ref c/\H c>>(.lst xs)/\xs.length<sizeLine)
  (q1:∀c xs v t Ha Hb,gW kvs (bf y)>>(.ref c)->H c>>(.lst xs)->H t=none->dm H0 H Ha Hb->Ha t=none->Rep X.K Ha v d->D.nx σ (upd Hb c (.lst (xs ++ [v]))))
  (q2:∀v c Ha Hb,gW kvs (bf y)=none->H c=none->cz H0 Ha->cz Ha Hb->(∀b,Ha b≠none->H0 b≠none\/H b=none)->(∀b o,H b>>o->b≠a->Hb b>>o)->Hb a>>(.dK (putK kvs (bf y) (.ref c)))->Hb c>>(.lst [])->Ha c=none->Ha a=none->Rep X.K Ha v d->D.nx σ (upd Hb c (.lst [v])))
  (hN:tE X i x:=by ac_rfl)
  (hb:vK X (.Name x px) fl:=by rfl)(m:M2 X (.Attribute (.Name x px) fl po) "setdefault" Cr ek (.List [] pl) Mh:=by exact#[rfl,rfl,rfl,rfl])
  (fW:attributeBase (.Call (.Attribute (.Attribute (.Name x px) fl po) "setdefault" Cr) [ek,.List [] pl] [] Mh) "append" X.env (eval (.Call (.Attribute (.Attribute (.Name x px) fl po) "setdefault" Cr) [ek,.List [] pl] [] Mh) X.env)=eval (.Call (.Attribute (.Attribute (.Name x px) fl po) "setdefault" Cr) [ek,.List [] pl] [] Mh) X.env:=by rfl)
  (hs:kB X e []:=by rfl)
  (k8:Ht X pc [e]:=by rfl)
  (hline:(pa.endLine==pc.line)=true:=by rfl)(fu:pU X pc []:=by rfl)(lZ:swapsWith (.Call (.Attribute (.Call (.Attribute (.Attribute (.Name x px) fl po) "setdefault" Cr) [ek,.List [] pl] [] Mh) "append" pa) [e] [] pc) none pos.line X.env=pure false:=by rfl):
  cS X (.Expr (.Call (.Attribute (.Call (.Attribute (.Attribute (.Name x px) fl po) "setdefault" Cr) [ek,.List [] pl] [] Mh) "append" pa) [e] [] pc) pos) D σ H:=λpins s I=>by
 refine kD (qI di eA eB ka (Ih (pW (vL hN) hb) cu (vZ dF) m) (cy cu dF hs) fW k8 hline hs fu) lZ pins s σ H D I ?_;refine#[_,f.slot i _ hi,p,C,dx,fs,_,rfl,ins,cl,na,lk,a,rfl,.inl #[kvs,.inl hd],?_];refine hk B0 B σ H0 H _ f λu H1 cW g1 r1=>?_;cases r1;refine#[by exact aW _,λt ht=>?_];let VB:=bB (g1.big _ _ hd) ht;let gl:dm H0 H H1 (upd cW t (.lst [])):=g1.trans (.loose g1.sub ht);refine#[kvs,bf y,[aI VB]▸g1.big _ _ hd,rfl,hl,λv AF=>?_,λhn=>?_]
 .let#[c,xs,rfl,LZ,Py]:=hc v AF;refine#[.inl #[rfl,_,jb.of ([aI (bB (g1.big _ _ LZ) ht)]▸g1.big _ _ LZ)],?_];refine hv B0 B σ H1 _ _ (f.grow gl) λv H2 fG g2 r2=>?_;let gg:=gl.trans g2;exact#[c,xs,v,rfl,rfl,gg.big _ _ LZ,Py,q1 c xs v t H2 fG AF LZ (g1.big.free ht) gg (g2.still (g1.sub.free ht) aT) r2]
 .let hca:=bF VB;refine#[.inl #[rfl,_,jb.of ((aI hca).trans aT)],?_];let h1a:=g1.still ha0 hd;let h1t:=g1.sub.free ht;generalize hM:upd _ a _=Hm;let m0:∀b o,H b>>o->b≠a->Hm b>>o:=λb o e hb=>by rw[<-hM,aI hb,aI (bB (g1.big _ _ e) ht)];exact g1.big _ _ e
  let m1:Hm a>>(.dK (putK kvs (bf y) (.ref t))):=[<-hM]▸aT;let m2:Hm t>>(.lst []):=[<-hM,aI hca]▸aT;let sm:cz H1 Hm:=λb u e=>by rw[<-hM,aI (bB e h1a),aI (bB e h1t)];exact g1.sub b u e
  let fm:fQ X.K H1 Hm H1 Hm σ δ:=by
   let f1:=f.grow g1;refine#[.refl sm,f1.len,λj sl e=>?_,f1.apart];let qq:=f1.slot j sl e;cases sl with
   |un=>trivial
   |ref _=>exact qq
   |val d=>exact qq
   |own ds=>exact qQ7 e (fJ v7 j ds)
  refine hv H1 Hm σ H1 Hm _ fm λv H2 fG g2 r2=>?_;refine#[t,[],v,rfl,rfl,g2.big _ _ m2,by rw[cM];decide,?_];refine q2 v t H2 fG hn (g1.big.free ht) (g1.eD.trans g2.eD) g2.sub (λb z=>?_) (λb o e hb=>g2.big _ _ (m0 b o e hb)) (g2.big _ _ m1) (g2.big _ _ m2) (g2.still h1t m2) (g2.still h1a m1) r2;rcases g2.new b z with z|z
  .exact g1.new b z
  .refine .inr ?_;cases e:H b with
   |none=>rfl
   |some o=>
    exfalso;by_cases hb:b=a
    .subst hb;rw[m1]at z;cases z
    .rw[m0 b o e hb]at z;cases z
end
section
variable{X:Cx}{a b e:bw}{δ:!Slot}{d:ai}{ds:!ai}{pos:Pos}{k:Nat}
theorem Ii{k:Key}{v:aA}(h:(eG P w).is k v=true):RelV (kV k) v:=by
 rcases gi h with⟨i,t,rfl,rfl⟩|⟨x,t,rfl,rfl⟩
 .exact#[t,rfl]
 .exact#[t,rfl]
theorem rU(hc:X.calm=true):iz X (.type "list") (λxs H Q=>∃p kvs,xs=[.ref p]/\H p>>(.dK kvs)/\∀l,H l=none->Q (.ref l) (upd H l (.lst (kvs.map λq=>kV q.1)))):=by
 intro pins s σ H xs us Q I r h;let#[p,kvs,rfl,hp,q]:=h;let#[u,rfl,rx]:=vals1 r;cases rx;let#[z,hd,vs,rel,dd]:=Ba I.hok hp;let#[ep,ZL]:=dd.dictAt;let hlen:=rel.length;refine PySem.W.kdl_call (PySem.W.kdl_dict hd) (I.ok.hd hc) ZL ([<-hlen]▸z) λh' tk JG c' hk hD JH=>?_;let go:∀(kvs:!(Key×V))(vs:!(Key×aA))(l:!aA),KV kvs vs->l.length=vs.length->(∀(j:Nat)v,l[j]?>>v->∃k x,vs[j]?>>(k,x)/\(eG X.prog X.w).is k v=true)->dA (kvs.map λq=>kV q.1) l:=by
  intro kvs;induction kvs with
  |nil=>
   intro vs l r hl _;cases r;cases l with
   |nil=>exact .nil
   |cons _ _=>cases hl
  |cons q kvs ih=>
   intro vs l r hl hx;cases r with
   |cons h1 h2=>
    cases l with
    |nil=>cases hl
    |cons v l=>let#[k,x,e1,e2]:=hx 0 v rfl;cases e1;refine .cons ?_ (ih _ l h2 ↑hl λj v hj=>by simpa using hx (j+1) v ↑hj);let:q.1=k:=h1.1;show RelV (kV q.1) v;rw[this];exact Ii e2
 let rv:=go kvs vs JG.toList rel (ck.trans JH.1) λj v hj=>JH.2 j v (iY.symm.trans hj);exact#[.ref _,_,I.laid hk ∅ (show fV X.prog X.w _ h' _ (.lst _) from#[[ae]▸z,_,c',rv,by simpa using hD]),rfl,q _ (I.hok.fresh ∅)]
theorem Ij{kvs:!(Str×ai)}:HP K (λxs H Q=>∃p kvs,xs=[.ref p]/\H p>>(.dK kvs)/\∀l,H l=none->Q (.ref l) (upd H l (.lst (kvs.map λq=>kV q.1)))) [iM kvs] (kvs.map λq=>.str q.1):=λvs H0 H Q s r q=>by
 let#[v,rfl,r1]:=r.one;let#[a,ws,rfl,ha,hk,_]:=r1.kI;refine#[a,ws,rfl,s _ _ ha,λl hl=>q l _ H0 _ (.loose s hl) hl (s.free hl) aT ?_];let e:(ws.map λq=>kV q.1)=(ws.map (·.1)).map kV:=by rw[aG];rfl
 rw[e,hk,aG];let go:∀l:!(Str×ai),bU K H0 (l.map (kV∘λp=>(bf p.1))) (l.map λq=>.str q.1):=by
  intro l;induction l with
  |nil=>exact .nil
  |cons p l ih=>exact .cons (.str p.1) ih
 exact go kvs
end
end L2
namespace PySem
variable{tk:Tok}
theorem Ct:typeLookup (.type "list") "keys"=pure none:=by rw[typeLookup_type,builtinLookup_eq_fast];kernel_rfl
theorem x4:typeLookup (.type "list") "__getattr__"=pure none:=by rw[typeLookup_type,builtinLookup_eq_fast];kernel_rfl
section
variable{prog:bx}{w:b_}{A:dz}{E:aA->aK->Prop}{h:cI}{g:Array sZ}{d:Drawn}{t:Nat}{os:OsState}{a:ay}{items:Array aA}{n:Nat}{sl}
theorem x5{Q:Fin->aK->Prop}(hx:h.get? a=some { cls:=.type "list",dict:=none,data:=.seq items n,slots:=sl })(hh:A.handled=none)
  (hq:∀h' Bg e,rj h h' e (.ref a) "keys"->E (.ref e) #[h',g,d,Bg,os]):
  wpAny (model prog w) A (t_.«object.__getattribute__» #[[.ref a,.str "keys" tk],[]]) Q E #[h,g,d,t,os]:=by
 let hT:(#[h,g,d,t,os]:aK).TypeIs (.ref a) "list":=#[_,hx,rfl];let f4:=Ct
 repeat (any_goals (first|assumption|with_reducible refine wpAny_raiseAttrError hh (λh' Bg e k=>hq h' Bg e k) ∎|wp_step))
theorem zp{R:vM->aK->Prop}(hx:h.get? a=some { cls:=.type "list",dict:=none,data:=.seq items n,slots:=sl })(hh:A.handled=none)
  (hq:∀h' Bg e,rj h h' e (.ref a) "keys"->R (.error (.ref e)) #[h',g,d,Bg,os]):
  codeAny (model prog w) A (.call (.builtin "list.__getattribute__") #[[.ref a,.str "keys" tk],[]]) R #[h,g,d,t,os]:=
 codeAny_call_builtin kA.plain F.entry_list_ga (kA.check _ _ _ _ _ _ _ _ (show(#[h,g,d,t,os]:aK).TypeIs _ "list" from#[_,hx,rfl]) (F.args_list_getattribute_2 _ _) (x5 hx hh hq))
theorem Cu{Q:aA->aK->Prop}(hx:h.get? a=some { cls:=.type "list",dict:=none,data:=.seq items n,slots:=sl })(hh:A.handled=none)
  (hq:∀h' Bg e,rj h h' e (.ref a) "keys"->E (.ref e) #[h',g,d,Bg,os]):
  wpAny (model prog w) A (getAttrBy (.ref a) (.str "keys" tk) false) Q E #[h,g,d,t,os]:=by
 let hT:(#[h,g,d,t,os]:aK).TypeIs (.ref a) "list":=#[_,hx,rfl];let f2:=kA.lookup;let f3:=kA.bind (.ref a);let f4:=x4;let f5:=sub_AttributeError
 repeat (any_goals (first|assumption|wp_step))
 refine zp hx hh (λh' Bg e k=>?_);let hTe:(#[h',g,d,Bg,os]:aK).TypeIs (.ref e) "AttributeError":=by let#[_,_,he]:=k.there;exact#[_,he,rfl]
 repeat (any_goals (first|assumption|wp_step))
 exact hq _ _ _ k
theorem zq{Q:Option aA->aK->Prop}(hx:h.get? a=some { cls:=.type "list",dict:=none,data:=.seq items n,slots:=sl })(hh:A.handled=none)
  (hq:∀h' Bg e,rj h h' e (.ref a) "keys"->Q none #[h',g,d,Bg,os]):
  wpAny (model prog w) A (getAttr? (.ref a) "keys") Q E #[h,g,d,t,os]:=by
 refine ao (wpAny_mkText (ao (q_ (Cu hx hh (λh' Bg e k=>?_)))));let hTe:(#[h',g,d,Bg,os]:aK).TypeIs (.ref e) "AttributeError":=by let#[_,_,he]:=k.there;exact#[_,he,rfl]
 let f5:=sub_AttributeError;let hQ:=hq h' Bg e k
 repeat (any_goals (first|assumption|wp_step))
end
end PySem
namespace PySem.F
theorem kJ:entryFor table "dict.update.loop"=some t_.«dict.update.loop»:=entryFor_of_tree (by kernel_rfl)
theorem kK:plainId "dict.update.loop"=true:=∎
end PySem.F
namespace L2
open PySem PySem.Spec PyProof.Rows
section
variable{prog:bx}{w:b_}{A:dz}{R:vM->aK->Prop}{I:ay}{fp wr:!ay}{G:Array sZ->Array sZ->Prop}{n:Nat}{P:Nat->aA->Prop}{St:Nat->aK->Prop}
theorem JK(W:WalksS prog w A.in1 I fp wr G n P St)(S:ay)(Tp:S∉fp)(T:Nat->cI->Prop)(keep:∀i h h',T i h->(∀b o,b∉wr->h.get? b>>o->h'.get? b>>o)->T i h')
  (add:∀i v (s:aK),i<n->P i v->T i s.heap->∃a x y,v=.ref a/\s.heap.IsTuple a (bE [x,y])/\∀(Q:Unit->aK->Prop)(E:aA->aK->Prop),(∀h' tk,s.toks<=tk->gk S s.heap h'->T (i+1) h'->Q () { s with heap:=h',toks:=tk })->wpAny (model prog w) A.in1 (dictSet S x y) Q E s):
  ∀(k i:Nat)(j:Int)(u:Tok)(s:aK),n-i=k->i<=n->St i s->T i s.heap->(∀s',Moved (S::wr) G s s'->T n s'.heap->R (.ok (.ret .none)) s')->
   codeAny (model prog w) A (.builtin "dict.update.loop" #[[.ref S,.ref I,.int j u,.none],[]]) R s:=by
 let FV:∀b∈wr,b∈S::wr:=λb hb=>aM _ hb;intro k;induction k with
 |zero=>intro i j u s hk hi I0 hS hR;let Vt:i=n:=∅;subst Vt;refine kU F.kJ ?_;refine ao (W.done s _ _ I0 λs' hm=>?_);exact ao (aU (aU (hR s' (hm.mono FV) (keep _ _ _ hS λb o hb e=>hm.heap b o hb e))))
 |succ k ih=>
  intro i j u s hk hi I0 hS hR;let nE:i<n:=∅;refine kU F.kJ ?_;refine ao (W.item i s _ _ nE I0 λv s' hP Tq hm=>?_);let#[a,x,y,rfl,#[o,ho,hc,m,hd],q]:=add i v s' nE hP (keep _ _ _ hS λb o hb e=>hm.heap b o hb e);refine ao (iA ?_);refine ao (wpAny_tryCatch ?_);refine ao (wpAny_typeOf #[_,ho,hc] ?_);refine ao (gT ho hd ?_);refine aU ?_;refine iA (q _ _ λh' tk Vp Ts hT=>?_);refine aU #[yf F.kK _,ih (i+1) _ _ _ ∅ nE (W.frame _ s' _ _ Tq Vp λb hb o e=>?_) hT λQ_ Tt Tv=>?_]
  .rwa[Ts.2 b (λh:b=S=>Tp ([<-h]▸hb))]
  .refine hR Q_ (Moved.trans W.gtrans ((hm.mono FV).then_heap Vp λb o hb e=>?_) Tt) Tv;rwa[Ts.2 b (λh:b=S=>hb ([h]▸aJ))]
end
section
variable{prog:bx}{w:b_}{A:dz}{E:aA->aK->Prop}{s:aK}
theorem AG{l:ay}{items:Array aA}{Q:aA->aK->Prop}(hh:A.handled=none)(hx:PlainL s.heap l items)(T:Nat->cI->Prop)
  (t0:∀h',h'.get? s.heap.objs.size=some { cls:=.type "dict",data:=.dict #[] }->(∀b o,s.heap.get? b>>o->h'.get? b>>o)->T 0 h')
  (keep:∀i h h' c,s.heap.objs.size<c->T i h->(∀b o,b≠c->h.get? b>>o->h'.get? b>>o)->T i h')
  (add:∀i v (s':aK),i<items.size->items[i]?>>v->T i s'.heap->∃a x y,v=.ref a/\s'.heap.IsTuple a (bE [x,y])/\∀(Q:Unit->aK->Prop)(E:aA->aK->Prop),(∀h' tk,s'.toks<=tk->gk s.heap.objs.size s'.heap h'->T (i+1) h'->Q () { s' with heap:=h',toks:=tk })->wpAny (model prog w) A.in1.in1 (dictSet s.heap.objs.size x y) Q E s')
  (h:∀(h':cI)(tk:Nat),T items.size h'->(∀b o,b<s.heap.objs.size->s.heap.get? b>>o->h'.get? b>>o)->Q (.ref s.heap.objs.size) { s with heap:=h',toks:=tk }):
  wpAny (model prog w) A (call (.type "dict") [.ref l]) Q E s:=by
 refine callType_codes (Q₁:=λobj s₁=>obj=.ref s.heap.objs.size/\s₁={ s with heap:=s.heap.push { cls:=.type "dict",data:=.dict #[] } }) F.kt_called_dict (F.kt_typeCall_dict_1 _) F.entry_dict_init (kt_code_dict_new _ #[rfl,rfl]) ?_;rintro obj s₁ ⟨rfl,rfl⟩;let#[#[zbh,Rk,Xk,L8],m,ho,hc,hdn,hd]:=hx;subst hc hdn hd;let hS:(s.heap.push { cls:=.type "dict",data:=.dict #[] }).get? s.heap.objs.size=some { cls:=.type "dict",data:=.dict #[] }:=bh _ rfl;let hT:aK.TypeIs { s with heap:=s.heap.push { cls:=.type "dict",data:=.dict #[] } } (.ref s.heap.objs.size) "dict":=#[_,hS,rfl];let BR:=aB (o:={ cls:=.type "dict",data:=.dict #[] }) ho;refine#[hT,F.args_dict_init_2 _ _,?_];refine ao ?_;refine ao (wpAny_notOrdered_dict hT ?_);refine aU ?_;show wpAny _ _ (t_.Dict.updateFrom "dict.__init__" s.heap.objs.size _ [] .none) _ _ _;refine ao (wpAny_typeOf #[_,BR,rfl] ?_);refine ao (zq BR (by simp[hh]) λh1 tk1 e ne=>?_);refine ao (tY ?_);let D1:h1.IsList l items:=#[_,ne.keeps _ _ BR,rfl,m,rfl];refine ao (lW D1 ?_);let Vz:=ne.keeps _ _ hS;let ZM:=aZ Vz;let Xl:=aZ ho;let T8:=a8 (xR Xl ZM);let Tp:s.heap.objs.size∉[h1.objs.size,l]:=by simp;exact#[a8 ZM,fM Xl]
 refine aU #[yf F.kK _,?_];refine JK ((Walks.list (by simp[hh]) h1.objs.size l T8 items).toS) s.heap.objs.size Tp T (λi h h' t k=>keep i h h' h1.objs.size ZM t λb o hb e=>k b o (by rwa [aF]) e) (λi v s' hi hv t=>add i v s' hi hv t) (items.size-0) 0 _ _ _ ∅ ∅
  #[#[_,bh _ rfl,rfl,rfl],(D1.push _)] ?hS0 ?hR
 case hS0=>exact t0 _ (aB _ Vz) λb o e=>aB _ (ne.keeps _ _ (aB _ e))
 case hR=>intro s' hm Tr;let#[h',g',d',Bg,Vq]:=s';let eg:=hm.gens;let ed:=hm.drawn;let eo:=hm.os;subst eg;subst ed;subst eo;refine#[rfl,h h' Bg Tr λb o hb e=>?_];let Xm:=a8 hb;let Kz:=a8 (xR hb ZM);exact hm.heap b o (by simp;exact#[Xm,Kz]) (aB _ (ne.keeps _ _ (aB _ e)))
end
section
variable{X:Cx}
end
section
variable{ε:Type}{X:Cx}{sc:jx}{own N:!Str}{cap:!Nat}{cl:!(Str×ay)}{tg elt iter:bw}{ifs:!bw}{δ:!Slot}{ds:!ai}{pos:Pos}{tgt:Du}{Er:Hp->V->ε->Prop}
end
section
variable{X:Cx}{a b c:bw}{δ:!Slot}{d:ai}{pos p:Pos}{k:Nat}{z1 z2:Str}
end
inductive D4:ai->Prop
 |non:D4 .none
 |bl (b:Bool):D4 (.bool b)
 |int (i:Int):D4 (.int i)
 |str (x:Str):D4 (.str x)
 |lst {ds:!ai}:(∀d∈ds,D4 d)->D4 (.list ds)
 |tup {ds:!ai}:(∀d∈ds,D4 d)->D4 (.tuple ds)
def tH(H:Hp)(p:ay):Hp:=λq=>if q=p then none else H q
theorem sS{H:Hp}{p q:ay}(h:q≠p):tH H p q=H q:=qQ2 h
theorem Ik{H:Hp}{p:ay}:tH H p p=none:=qQ3 rfl
section
variable{K:aj}{H:Hp}{p:ay}{kvs:!(Key×V)}
end
def n_(kv:!(Str×ai))(y:Str)(d:ai):!(Str×ai):=kv.map λq=>if q.1=y then(q.1,d)else q
section
variable{X:Cx}{B0 B H0 H:Hp}{σ:St}{D:Ends}{δ:!Slot}{ev:bw}{d:ai}{pos px ps pk:Pos}{x y:Str}{k:Nat}{jk}
theorem Mi{st:!eO}(h:y6 X st δ (.rt d))(f:fQ X.K B0 B H0 H σ δ)(ok:∀v cQ H',dm B0 B cQ H'->Rep X.K cQ v d->D.rt v H'):Ce X st D σ H:=h B0 B σ H0 H D f ok
end
end L2
namespace L2
open PySem
section
variable{M:Model}{A:dz}{E:aA->aK->Prop}{s:aK}
end
section
variable{prog:bx}{w:b_}{A:dz}{E:aA->aK->Prop}{R:vM->aK->Prop}{h:cI}{g:Array sZ}{d:Drawn}{t:Nat}{os:OsState}
variable{nm q:Str}{C N:ay}{bs bm bmB:!aA}{zbs:Bool}{sn:!Str}{sub:!aA}{ab:Bool}{col:Option Bool}{dd:Option ay}{k0 k1 k2 k3 k5:Option aA}{B newId Ug:String}
end
end L2
namespace L2
open PySem PySem.Spec PyProof.Rows
section
variable{prog:bx}{w:b_}{A:dz}{E:aA->aK->Prop}{R:vM->aK->Prop}{h:cI}{g:Array sZ}{d:Drawn}{t:Nat}{os:OsState}
variable{nm q:Str}{C N e t0:ay}{bs bm bmB:!aA}{zbs:Bool}{sn:!Str}{sub:!aA}{ab:Bool}{col:Option Bool}{dd dx:Option ay}{k0 k1 k2 k3 k5:Option aA}{B newId Ug:String}{sl:Array (Option aA)}
end
section
variable{prog:bx}{w:b_}{A:dz}{E:aA->aK->Prop}{s:aK}{K:aj}{C e t0 dx:ay}{sl:Array (Option aA)}{name:Str}{v:aA}{mA:Str->Option aA}
end
section
variable{X:Cx}{pins:!(ay×Obj)}{σ:St}{H:Hp}{s:aK}{C e dx:ay}{f:Str}{y:V}{u:aA}{fs:!(Str×V)}{A:dz}{E:aA->aK->Prop}
end
section
variable{X:Cx}{o value a1 a2:bw}{f x y:Str}{pos pos' p p2 ap p3 p4:Pos}{j4:Nat}{ta tv:TE}{C M dx:ay}{i:Nat}
end
section
variable{X:Cx}{CX:Kv}{k:Nat}{f C:ay}{fd:eE}{ps:!Str}{sp:Sp}{E:XK}
end
section
variable{H:Hp}{ex:!ay}{e T b:ay}{o1 o2:HO}
end
section
variable{P:bx}{w:b_}{fs ex:!ay}{H0 H:Hp}{h0 h h':cI}{L e T:ay}{oe:Obj}{o1 o2:HO}
end
section
variable{P:bx}{w:b_}{K:aj}{mg:Str->Option aA}{base:cI}{N:!Str}{qual:Str}{scope:jx}{f:ay}{cd:aA}{A:dz}{outer:!Env}{s0:aK}{H0:Hp}{E:XK}
variable{pins:!(ay×Obj)}{σ:St}{H:Hp}{s:aK}
end
section
variable{X:Cx}{B0 B H0 H:Hp}{σ:St}{D:Ends}{δ:!Slot}{a1 a2 tg iter:bw}{p:Int}{wd x y:Str}{np nY pos:Pos}{k:Nat}{fI C:ay}{fd:eE}{body:!eO}{ds:!ai}
end
section
variable{M:Model}{A:dz}{E:aA->aK->Prop}{s:aK}
end
section
variable{X:Cx}{pins:!(ay×Obj)}{σ:St}{H:Hp}{s:aK}{C M e dx T:ay}{E:aA->aK->Prop}
end
section
variable{X:Cx}{B0 B H0 H:Hp}{σ:St}{D:Ends}{δ:!Slot}{pins:!(ay×Obj)}{s:aK}
end
section
variable{X:Cx}{CX:Kv}{k:Nat}{f:ay}{fd:eE}{ps:!Str}{sp:Sp}{E:XK}{Ex:aA->aK->Prop}
end
section
variable{X:Cx}{B0 B H0 H:Hp}{σ:St}{D:Ends}{δ:!Slot}{C M fa:ay}{fd:eE}{ps:!Str}{ds:!ai}{R:!ai->Int->Str->Prop}{k jn jc:Nat}{p:Int}{wd y g xM n xc:Str}{a:bw}{as:!bw}{p1 p2 p3 p4 p5 p6 p7 p8 hp pos:Pos}
end
end L2
namespace L2
open PySem PySem.Spec PyProof.Rows PySem.W
section
variable{prog:bx}{w:b_}{A:dz}{E:aA->aK->Prop}{s:aK}{K:aj}{x C:ay}{ox:Obj}{od:Option Obj}{name:Str}
end
end L2
namespace L2
open PySem PySem.Spec PyProof.Rows
variable{a:ay}{b:Bool}{H:Hp}{kv:!(Str×ai)}{d:ai}{K:aj}{y:Str}{v:V}
section
variable{X:Cx}{pins:!(ay×Obj)}{σ:St}{H H':Hp}{s:aK}{e C:ay}{p:Int}{wd f x:Str}
end
section
variable{X:Cx}{δ:!Slot}{pos px:Pos}{a b e:bw}{x:Str}{d:ai}{ds:!ai}{k:Int}{j:Nat}
theorem bU.put(rv:Rep K H v d):∀{xs:!V}{ds:!ai}(j:Nat),bU K H xs ds->bU K H (xs.set j v) (ds.set j d)
 |_,_,_,.nil=>.nil
 |_,_,0,.cons _ r=>.cons rv r
 |_,_,j+1,.cons a r=>.cons a (bU.put rv j r)
theorem fQ.put{B0 B H0: Hp}{σ:St}(f:fQ K B0 B H0 H σ δ){i:Nat}{p:ay}{xs:!V}{y:V}(hi:δ[i]?>>(.own ds))(hp:σ[i]?>>(some (.ref p)))(h1:H p>>(.lst xs))(ry:Rep K H0 y d):
  fQ K B0 B H0 (upd H p (.lst (xs.set j y))) σ (δ.set i (.own (ds.set j d))):=by
 let#[p',xs',e1,e2,e3,e4,e5]:=f.slot i _ hi;rw[hp]at e1;cases e1;rw[h1]at e2;cases e2;let hl:i < δ.length:=(av.mp hi).1;refine#[#[λb u e=>?_,f.ent.eD,λb u e=>?_,f.ent.new],by simp[f.len],λj sl e=>?_,λj k Ky es q Fj a1 a2 a3=>?_]
 .let:b≠p:=bB e e4;rw[aI this];exact f.ent.big b u e
 .let:b≠p:=bB e e3;rw[aI this];exact f.ent.sub b u e
 .by_cases hj:j=i
  .subst hj;rw[aY hl]at e;cases e;exact#[p,_,hp,aT,e3,e4,e5.put ry _]
  .rw[aS (bF hj)]at e;let q:=f.slot j sl e;cases sl with
   |un=>trivial
   |ref a=>exact q
   |val d=>exact q
   |own Ky=>
    let#[p2,O5,g1,g2,g3,g4,g5]:=q;let:p2≠p:=λz=>by subst z;exact f.apart i j ds Ky p2 (bF hj) hi e hp g1
    exact#[p2,O5,g1,[aI this]▸g2,g3,g4,g5]
 .let c1:∃DU,δ[j]?>>(.own DU):=by
   by_cases hj:j=i
   .subst hj;exact#[_,hi]
   .rw[aS (bF hj)]at a1;exact#[_,a1]
  let c2:∃DU,δ[k]?>>(.own DU):=by
   by_cases hk:k=i
   .subst hk;exact#[_,hi]
   .rw[aS (bF hk)]at a2;exact#[_,a2]
  let#[d1,c1]:=c1;let#[d2,c2]:=c2;exact f.apart j k d1 d2 q Fj c1 c2 a3
end
theorem bU.y8{H': Hp}:∀{xs:!V}{ds:!ai},bU K H xs ds->(∀d∈ds,qK d=true)->bU K H' xs ds
 |_,_,.nil,_=>.nil
 |_,_,.cons a r,h=>.cons (a.y8 (h _ aJ)) (bU.y8 r λd hd=>h d (aM _ hd))
section
variable{X:Cx}{sc:jx}{own N:!Str}{cap:!Nat}{cl:!(Str×ay)}{tg elt iter:bw}{ifs:!bw}{δ:!Slot}{ds rs:!ai}{pos px nZ:Pos}{tgt:Du}{x:Str}
end
section
variable{X:Cx}{δ:!Slot}{pos px p:Pos}{a e:bw}{x:Str}{d:ai}
theorem Uh:nI K (λxs H Q=>(∃i,xs=[.int i]/\Q (.int i) H)\/∃k,xs=[.bl k]/\Q (.int (if k then 1 else 0)) H) [.bool b] (.int (if b then 1 else 0)):=λvs H0 H Q s r k=>by let#[v,rfl,rv]:=r.one;cases rv;exact .inr #[b,rfl,k _ _ _ (.refl s) (.int _)]
theorem Pz(h:VE X a δ (.bool b))(hm:X.mg "int"=none)(hg:Gl X "int":=by rfl)(hs:kB X a []:=by rfl):VE X (.Call (.Name "int" p) [a] [] pos) δ (.int (if b then 1 else 0)):=kf Jc Uh (cY h c5 hs) hm rfl hg (he:=hs)
end
def D5(kv:!(Str×ai))(y:Str)(d:ai):!(Str×ai):=if(kv.any λq=>decide (q.1=y))=true then n_ kv y d else kv ++ [(y,d)]
def DR(K:aj)(a:ay)(kv:!(Str×ai)):OR:=λH0 H as=>as=[a]/\∃kvs:!(Key×V),H a>>(.dK kvs)/\kvs.map (·.1)=kv.map (λp=>(bf p.1:Key))/\bU K H0 (kvs.map (·.2)) (kv.map (·.2))
theorem DR.mono:bL (DR K a kv):=λH0 H Ha Hb as #[e,kvs,h1,h2,h3] sm hb=>#[e,kvs,by rw[hb a (by rw[e];simp)];exact h1,h2,h3.mono sm]
theorem DR.rep(Ha Hb:Hp)(as:!ay)(s:cz Ha Hb)(h:DR K a kv Ha Hb as):Rep K (kS as Hb Ha) (.ref a) (iM kv):=by
 let#[e,kvs,h1,h2,h3]:=h;refine .dct (by rw[iU (by rw[e];simp)];exact h1) ?_ ?_
 .let e2:=qQ6 (qH mN) h2;rw[aG,aG]at e2;rw[aG];exact e2.symm
 .rw[aG];exact h3.mono (jO s)
theorem Il:∀{kv:!(Str×ai)}{kvs:!(Key×V)},kvs.map (·.1)=kv.map (λp=>(bf p.1:Key))->(kvs.any λz=>decide (z.1=(bf y:Key)))=kv.any λq=>decide (q.1=y)
 | [],[],_=>rfl
 | [],_::_,e=>by simp at e
 |_::_,[],e=>by simp at e
 |q::kv,z::kvs,e=>by
  rw[aq,aq]at e;injection e with e1 e2
  rw[lY,lY,Il e2,e1]
  congr 1
  by_cases h:q.1=y
  .rw[qQ1 h,qQ1 (by rw[h])]
  .rw[qQ0 h,qQ0 λz=>h (j9 z)]
theorem Mj(r:Rep K H v d):∀{kv:!(Str×ai)}{kvs:!(Key×V)},kvs.map (·.1)=kv.map (λp=>(bf p.1:Key))->bU K H (kvs.map (·.2)) (kv.map (·.2))->
  (kvs.map λq=>if q.1=bf y then(q.1,v)else q).map (·.1)=(n_ kv y d).map (λp=>(bf p.1:Key))/\bU K H ((kvs.map λq=>if q.1=bf y then(q.1,v)else q).map (·.2)) ((n_ kv y d).map (·.2))
 | [],[],_,_=>#[rfl,.nil]
 | [],_::_,e,_=>by simp at e
 |_::_,[],e,_=>by simp at e
 |q::kv,z::kvs,e,t=>by
  rw[aq,aq]at e t;injection e with e1 e2
  cases t with
  |cons a t=>
   let#[g1,g2]:=Mj r e2 t;unfold n_ at g1 g2 ⊢;rw[aq,aq,aq,aq,aq,aq];by_cases h:q.1=y
   .let hz:z.1=(bf y):=by rw[e1,h]
    rw[qQ3 h,qQ3 hz,g1];exact#[by rw[e1],.cons r g2]
   .let hz:=λz'=>h (j9 (e1.symm.trans z'));rw[qQ2 h,qQ2 hz,g1];exact#[by rw[e1],.cons a g2]
theorem PB(r:Rep K H v d){kvs:!(Key×V)}(h1:kvs.map (·.1)=kv.map (λp=>(bf p.1:Key)))(h2:bU K H (kvs.map (·.2)) (kv.map (·.2))):
  (putK kvs (bf y) v).map (·.1)=(D5 kv y d).map (λp=>(bf p.1:Key))/\bU K H ((putK kvs (bf y) v).map (·.2)) ((D5 kv y d).map (·.2)):=by
 unfold putK D5;rw[Il h1];split
 .exact Mj r h1 h2
 .rw[aQ,aQ,aQ,aQ,h1];exact#[rfl,h2.append (.cons r .nil)]
section
variable{X:Cx}{B0 B H0 H:Hp}{σ:St}{D:Ends}{δ:!Slot}{a:ay}{ek ev:bw}{d:ai}{pos px pd ps:Pos}{x y:Str}{kv:!(Str×ai)}{k:Nat}
theorem Ml(G:OF X.K B0 B (DR X.K a kv) H0 H σ δ)(hr:ei k X.A)(i:Nat)(hi:δ[i]?>>(.ref a))(hk:VE X ek δ (.str y))(hv:VE X ev δ d)(hl:kv.length<sizeLine)(q:∀cQ H',OF X.K B0 B (DR X.K a (D5 kv y d)) cQ H' σ δ->D.nx σ H')
  (hN:tE X i x:=by ac_rfl)
  (hs:A0 X pos ev (.Subscript (.Name x px) ek ps):=by rfl):
  cS X (.Assign [.Subscript (.Name x px) ek ps] ev pos) D σ H:=λpins s I=>by
 refine ym (Jw hr) (vL hN) cu cu hs pins s σ H D I ?_;refine hv H0 H σ H0 H _ G.own λv H1 cW g1 r1=>?_;let G1:=G.go DR.mono (G.own.grow g1) G.no;refine#[_,G1.fr.slot i _ hi,hk H1 cW σ H1 cW _ G1.own λu H2 fG g2 r2=>?_];cases r2;let G2:=G1.go DR.mono (G1.own.grow g2) G1.no;obtain⟨as,h1,e,kvs,ha,N0,AF⟩:=G2.ex;subst e;obtain⟨p1,p2⟩:=PB (r1.mono g2.eD) N0 AF;obtain⟨z1,z2,z3⟩:=h1 a (by simp);let hlen:kvs.length=kv.length:=by let:=qQ6 dU N0;simpa using this
 refine#[a,_,rfl,As.k (k:=bf y) ha ∅,q H2 _ #[G2.fr.touch z1 z2 (fJ G2.no),G2.no,[a],λb hb=>?_,rfl,_,aT,p1,p2]];rw[aF.mp hb];exact#[z1,z2,by rw[aT];simp]
end
section
variable{X:Cx}{a b:bw}{δ:!Slot}{pos rR p p2:Pos}
end
end L2
namespace PySem
open Sem (wp)
section
variable{prog:bx}{w:b_}{A:dz}{E:aA->aK->Prop}{s:aK}{r:ay}{a b c:Int}{t u v:Tok}{n:Nat}
end
section
variable{prog:bx}{w:b_}{A:dz}{E:aA->aK->Prop}{s:aK}{r:ay}{a b c:Int}{t u v:Tok}{n:Nat}
end
end PySem
namespace L2
open PySem PySem.Spec PyProof.Rows
variable{a b f p:ay}{kb:Bool}{fd:eE}{base:cI}{H H0:Hp}{kl:!(Str×!ai)}{kvs l:!(Str×ai)}{as:!ay}{ds:!ai}{N ps:!Str}{k:Nat}{P:bx}{d:ai}{K:aj}{st:eO}{x:Str}{mg:Str->Option aA}{tn:String}{v:V}{Q:V->Hp->Prop}{w:b_}
section
variable{X:Cx}{a b:bw}{δ:!Slot}{pos rR p p2:Pos}
end
section
variable{X:Cx}{B0 B H0 H:Hp}{σ:St}{D:Ends}{body:!eO}{tg iter:bw}{ds:!ai}{pos:Pos}
end
def mU(kvs:!(Key×V))(l:!(Key×V)):!(Key×V):=l.foldl (λkvs q=>putK kvs q.1 q.2) kvs
theorem rV:∀(l kvs:!(Key×V)),(mU kvs l).length<=kvs.length+l.length
 | [],kvs=>aE _
 |q::l,kvs=>by let h1:=rV l (putK kvs q.1 q.2);let h2:=lK kvs q.1 q.2;show(mU (putK kvs q.1 q.2) l).length<=kvs.length+(l.length+1);omega
theorem Cv(kvs l:!(Key×V))(q:Key×V):mU kvs (l ++ [q])=putK (mU kvs l) q.1 q.2:=by unfold mU;rw[eC];rfl
theorem xo:∀(l kvs:!(Key×V)),((kvs++l).map (·.1)).Nodup->mU kvs l=kvs++l
 | [],kvs,_=>(cn _).symm
 |q::l,kvs,h=>by
  let hn:(kvs.any λz=>decide (z.1=q.1))=false:=by rw[wZ];intro z hz e;rw[aQ,aq,cJ]at h;exact h.2.2 z.1 (au.mpr #[z,hz,rfl]) q.1 aJ (qQ4 e)
  let hp:putK kvs q.1 q.2=kvs ++ [q]:=by unfold putK;rw[hn,qQ2 kx]
  show mU (putK kvs q.1 q.2) l=_;rw[hp,xo l _ ([dw]▸h),dw];rfl
section
variable{X:Cx}
def Mm(K:aj):!V->Hp->VK->Prop:=λxs H Q=>∃(p:ay)(qs:!(ay×Key×V)),xs=[.ref p]/\jb K H p (qs.map λq=>.ref q.1)/\
 (∀q∈qs,nV K H q.1 [kV q.2.1,q.2.2])/\∀l,H l=none->Q (.ref l) (upd H l (.dK (mU [] (qs.map (·.2)))))
theorem wz(hc:X.calm=true):iz X (.type "dict") (Mm X.K):=by
 intro pins s σ H xs us Q I r h;obtain⟨p,qs,rfl,hp,hqs,q⟩:=h;obtain⟨u,rfl,rx⟩:=vals1 r;cases rx;obtain⟨its,rv,pl,hz⟩:=I.list hp;let hlv:=rv.length;simp only[ae]at hlv hz;let hsz:its.toArray.size=qs.length:=by simp;omega
 refine AG (I.ok.hd hc) pl (λi h=>(∀b o,s.heap.get? b>>o->h.get? b>>o)/\∃vs,KV (mU [] ((qs.take i).map (·.2))) vs/\h.DictOf (eG X.prog X.w) s.heap.objs.size vs)
  (λh' e k=>#[k,[],.nil,?_]) (λi h h' c hc #[k1,vs,kv,dd] k=>?_) (λi v s' hi hv #[k1,vs,kv,dd]=>?_) (λh' tk #[k1,vs,kv,dd] _=>?_)
 .exact#[_,#[],0,e,#[rfl,rfl,rfl],rfl,(by intro _ h;exact nomatch h),.nil,gD]
 .obtain⟨o,es,ep,ho,rest⟩:=dd;exact#[λb o e=>k b o (a8 (xR (aZ e) hc)) (k1 b o e),vs,kv,o,es,ep,k _ _ ∅ ho,rest]
 .rw[hsz]at hi;let Om:its[i]?>>v:=by simpa using hv
  let ZN:=aD hi;generalize qs[i]=q0 at ZN;obtain⟨u0,hu0,ru0⟩:=rv.get (by rw[aH,ZN];rfl);rw[Om]at hu0;cases hu0;cases ru0;obtain⟨it2,N4,pl2,_⟩:=I.tuple (hqs q0 (aP ZN));obtain⟨u1,u2,rfl,r1,r2⟩:∃u1 u2,it2=[u1,u2]/\RelV _ u1/\RelV q0.2.2 u2:=by cases N4 with|cons a t=>cases t with|cons b t2=>cases t2;exact#[_,_,rfl,a,b]
  obtain⟨o2,Vr,Xw⟩:=pl2;refine#[q0.1,u1,u2,rfl,#[o2,k1 _ _ Vr,Xw],λQ' E' q'=>?_];let etk:qs.take (i+1)=qs.take i ++ [q0]:=by rw[cB,ZN];rfl
  let Py:vs.length<=sizeLine:=by let e1:=kv.length;let e2:=rV ((qs.take i).map (·.2)) [];simp only[cR,ae,cN,rh]at e2;omega
  refine wpAny_dictSet_pairs (rG r1) dd (λh' DQ sb=>q' h' _ ∅ sb #[λb o e=>?_,_,?_,DQ]) Py
  .rw[sb.2 b (a8 (aZ e))];exact k1 b o e
  .rw[etk,aQ,aq,d_,Cv];exact kv.put q0.2.1 r2
 .rw[hsz,du]at kv;let hlen:=rV (qs.map (·.2)) [];simp[cR,ae,rh]at hlen;exact#[.ref s.heap.objs.size,_,I.laid k1 ∅ (wa ∅ (beq_eq_false_iff_ne.mpr (bF (a8 I.big))) kv dd),rfl,q _ (I.hok.fresh ∅)]
def pairD(q:Str×ai):ai:=.tuple [.str q.1,q.2]
theorem D6:∀{l:!(Str×ai)}{xs:!V},bU K H xs (l.map pairD)->∃qs:!(ay×Key×V),xs=qs.map (λq=>.ref q.1)/\(∀q∈qs,nV K H q.1 [kV q.2.1,q.2.2])/\qs.map (·.2.1)=l.map (λp=>(bf p.1:Key))/\bU K H (qs.map (·.2.2)) (l.map (·.2))
 | [],_,.nil=>#[[],rfl,(by intro _ h;cases h),rfl,.nil]
 |q::l,_,.cons a r=>by
  let#[qs,e1,e2,e3,e4]:=D6 r;cases a with
  |tup hq rs=>
   cases rs with
   |cons b rs=>
    cases b;cases rs with
    |cons c rs=>
     cases rs;refine#[(_,.inr q.1,_)::qs,by rw[e1];rfl,λz hz=>?_,by rw[aq,aq,e3],.cons c e4];rcases ax.mp hz with rfl|hz
     .exact hq
     .exact e2 z hz
theorem PD(hn:(l.map (·.1)).Nodup):nI K (Mm K) [.list (l.map pairD)] (iM l):=λvs H0 H Q s r k=>by
 let#[v,rfl,rv]:=r.one;cases rv with
 |lst hq rs=>
  let#[qs,e1,e2,e3,e4]:=D6 rs;subst e1;let hnn:((qs.map (·.2)).map (·.1)).Nodup:=by rw[aG];show(qs.map (·.2.1)).Nodup;rw[e3,show(l.map λp=>(bf p.1))=(l.map (·.1)).map bf by rw[aG];rfl];exact my _ (λa b JD z=>JD (j9 z)) hn
  refine#[_,qs,rfl,s.seq hq,λq FP=>s.nF (e2 q FP),λp hp=>?_];rw[xo _ [] ([m_]▸hnn),m_];let g:=dm.laid s (o:=.dK (qs.map (·.2))) hp;refine k _ _ _ g (.dct aT ?_ ?_)
  .let e:=qQ6 (qH mN) e3;simp only[aG]at e ⊢;exact e.symm
  .simp;exact e4.mono g.eD
end
section
variable{X:Cx}{a:bw}{δ:!Slot}{pos p:Pos}
theorem zr(h:VE X a δ (.list (l.map pairD)))(hn:(l.map (·.1)).Nodup)(hc:X.calm=true)(hm:X.mg "dict"=none)(hg:Gl X "dict":=by rfl)(hs:kB X a []:=by rfl):VE X (.Call (.Name "dict" p) [a] [] pos) δ (iM l):=kf (wz hc) (PD hn) (cY h c5 hs) hm rfl hg (he:=hs)
end
def AH(kvs:!(Str×ai)):ai:=.dict ((.none,.int 1)::kvs.map λp=>(.str p.1,p.2))
section
variable{K:aj}{H:Hp}{v:V}
theorem Im:∀{kvs:!(Str×ai)}{ws:!(Key×V)},(ws.map λp=>mN p.1)=(kvs.map λp=>aO p.1)->ws.map (·.1)=kvs.map (λp=>(bf p.1:Key))
 | [],ws,e=>by cases ws with|nil=>rfl|cons q l=>simp at e
 |p::kvs,ws,e=>by
  cases ws with
  |nil=>simp at e
  |cons q ws=>
   rw[aq,aq]at e ⊢;injection e with h1 h2
   rw[Im h2]
   congr 1
   cases eq:q.1 with
   |inl i=>rw[eq]at h1;cases h1
   |inr x=>rw[eq]at h1;injection h1 with h1;rw[h1]
theorem Rep.D7(r:Rep K H v (AH kvs)):∃a o ws,v=.ref a/\H a>>(.ky o (.dK ws))/\ws.map (·.1)=kvs.map (λp=>(bf p.1:Key))/\bU K H (ws.map (·.2)) (kvs.map (·.2)):=by
 unfold AH at r;generalize e:kvs.map (λp=>(aO p.1,p.2))=ds at r;cases r with
 |dct h k t=>
  rename_i a ws
  exfalso;cases ws with
  |nil=>simp at k
  |cons q ws=>
   rw[aq,aq]at k;injection k with k1 _
   cases eq:q.1 with
   |inl i=>rw[eq]at k1;cases k1
   |inr x=>rw[eq]at k1;cases k1
 |Vw h k t=>
  rename_i a o ws
  refine#[a,o,ws,rfl,h,Im ?_,?_]
  .rw[<-k,<-e,aG];rfl
  .rwa[<-e,aG]at t
def Ui(H:Hp)(p:ay):Prop:=∀o,H p>>o->∀xs,o≠.lst xs/\o≠.tup xs/\∀u,o≠.ky u (.lst xs)/\o≠.ky u (.tup xs)
theorem Rep.PF(hp:Ui H p)(r:Rep K H v d):D4 d->Rep K (tH H p) v d:=by
 refine Rep.rec (motive_1:=λv d _=>D4 d->Rep K (tH H p) v d) (motive_2:=λxs ds _=>(∀d∈ds,D4 d)->bU K (tH H p) xs ds) ?_ ?_ ?_ ?_ ?_ ?_ ?_ ?_ ?_ ?_ ?_ ?_ ?_ ?_ r
 .exact λ_=>.non
 .exact λb _=>.bl b
 .exact λi _=>.int i
 .exact λx _=>.str x
 .intro a xs ds h _ t n;cases n with
  |lst n=>
   refine .lst ?_ (t n);rcases h with(h|⟨o,h⟩)|h
   .exact .inl (.inl (by rw[sS (λz=>by subst z;exact(hp _ h xs).1 rfl)];exact h))
   .exact .inl (.inr #[o,by rw[sS (λz=>by subst z;exact((hp _ h xs).2.2 o).1 rfl)];exact h])
   .exact .inr h
 .intro a xs ds h _ t n;cases n with
  |tup n=>
   refine .tup ?_ (t n);rcases h with(h|⟨o,h⟩)|h
   .exact .inl (.inl (by rw[sS (λz=>by subst z;exact(hp _ h xs).2.1 rfl)];exact h))
   .exact .inl (.inr #[o,by rw[sS (λz=>by subst z;exact((hp _ h xs).2.2 o).2 rfl)];exact h])
   .exact .inr h
 .intro a kvs ds _ _ _ _ n;cases n
 .intro a kvs ds _ _ _ _ n;cases n
 .intro a C dx fs ds _ _ _ _ _ _ n;cases n
 .intro a o kvs ds _ _ _ _ n;cases n
 .intro a C dx fs ds _ _ _ _ _ _ n;cases n
 .intro a o kvs es ep ts ds _ _ _ _ _ _ _ n;cases n
 .exact λ_=>.nil
 .intro x d xs ds _ _ a t n;exact .cons (a (n d aJ)) (t λd hd=>n d (aM _ hd))
theorem bU.PF(hp:Ui H p):∀{ds:!ai}{xs:!V},bU K H xs ds->(∀d∈ds,D4 d)->bU K (tH H p) xs ds
 | [],_,r,_=>by cases r;exact .nil
 |d::ds,_,r,n=>by cases r with|cons a t=>exact .cons (a.PF hp (n d aJ)) (bU.PF hp t λd hd=>n d (aM _ hd))
theorem PH{ws:!(Key×V)}(h:H p>>(.dK ws)):Ui H p:=λo e xs=>by rw[h]at e;cases e;exact#[nofun,nofun,λu=>#[nofun,nofun]]
end
section
variable{X:Cx}{pins:!(ay×Obj)}{σ:St}{H:Hp}{s:aK}{a:ay}{ws:!(Key×V)}
theorem Inv.freeze(I:Inv X pins σ H s)(h:H a>>(.dK ws)):∃o,Inv X pins σ (upd H a (.ky o (.dK ws))) s:=by let#[z,hd,vs,rel,dd]:=Ba I.hok h;let#[o,es,ep,ho,rest]:=id dd;refine#[o,?_];let:=I.write (t':=s.toks) (o:=.ky o (.dK ws)) (by rw[h];trivial) (.inl rfl) (λb u _ q=>q) #[o,ho] #[ho,z,hd,vs,rel,dd];exact this
theorem Inv.zbt{o:Obj}(I:Inv X pins σ H s)(h:H a>>(.ky o (.dK ws)))(hn:∀o u,X.H₀ a≠some (.ky o u)):Inv X pins σ (upd H a (.dK ws)) s:=by
 let ne:∀{b:ay},H b=none->b≠a:=λe z=>by subst z;rw[h]at e;cases e
 let ob:=(Rd.ok (.inr #[o,h]) I.hok);refine#[I.ok,I.os,I.bare,#[I.base.keep,I.base.slot,λb u e n hx=>?_,I.base.there,λb xs e=>?_,λb ob u e=>?_,λb ps e=>?_],I.loc,I.cell,?_,λx c e=>?_,λp hp=>?_,λb u e=>?_,I.len]
 .let q:=I.base.free b u e n hx;rwa[aI (ne q)]
 .let q:=I.base.tups b xs e;rwa[aI (λz=>by subst z;rw[h]at q;cases q)]
 .let q:=I.base.ub b ob u e;rwa[aI (λz=>by subst z;exact hn _ _ e)]
 .let#[more,q]:=I.base.xW b ps e;exact#[more,by rw[aI (λz=>by subst z;rw[h]at q;cases q)];exact q]
 .rw[aI (ne I.free)];exact I.free
 .rw[aI (ne (I.nz x c e))];exact I.nz x c e
 .let#[q1,q2,q3]:=I.pin p hp;exact#[q1,[aI (ne q2)]▸q2,q3]
 .let st:∀{b:ay}{u:HO},fV X.prog X.w H s.heap b u->fV X.prog X.w (upd H a (.dK ws)) s.heap b u:=λx=>x.stay (λc v _ q=>q) (λc q=>by rw[aI (λz=>by subst z;rw[h]at q;cases q)];exact q) λc xs q=>by rw[aI (λz=>by subst z;rw[h]at q;cases q)];exact q
  by_cases hb:b=a
  .subst hb;rw[aT]at e;cases e;exact st ob
  .rw[aI hb]at e;exact st (I.hok b u e)
end
section
variable{X:Cx}{e:bw}{δ δ':!Slot}{es:!ai}{kvs:!(Str×ai)}
end
def Itk(a:ay)(o:Obj)(kvs:!(Key×V)):It:=#[λi H=>i<kvs.length/\H a>>(.ky o (.dK kvs)),λi H x H'=>H'=H/\∃q,kvs[i]?>>q/\x=kV q.1,λi H=>kvs.length<=i/\H a>>(.ky o (.dK kvs))]
section
variable{X:Cx}{pins:!(ay×Obj)}{σ:St}{H:Hp}{s:aK}{a it:ay}{kvs:!(Key×V)}{o:Obj}{es:Array fU}{ep:Nat}
theorem uo(I:Inv X pins σ H s)(h:H a>>(.ky o (.dK kvs))):(a==sysModules)=false/\∃vs es ep,KV kvs vs/\o.data=.dict es ep/\s.heap.DictAt (eG X.prog X.w) a vs ep:=by let#[ho,z,hd,vs,rel,o',es,ep,BR,c1,c2,c3]:=(I.hok a _ h);rw[ho]at BR;cases BR;exact#[hd,vs,es,ep,rel,c2,o,es,ho,c1,c2,c3]
theorem JL{tg:bw}(a it:ay)(he:o.data=.dict es ep):Turn P w K tg (Itk a o kvs) [it] it (λi h=>h.IsKeyIter it a i kvs.length ep) where
 mem:=by simp
 obj:=λi h st b hb=>by
  let e:b=it:=by simpa using hb
  subst e;let#[o,e,c,d]:=st;exact#[o,e,λv z=>by rw[d]at z;cases z]
 keep:=λi h h' st k=>let#[o,e,r]:=st;#[o,k it (by simp) o e,r]
 item:=by
  intro X hP hw hK hc i pins s σ H E I hf st hg;subst hP hw hK;let#[f0,f1,f2,f3,f4,f5]:=hf it (by simp);let#[hi,ha]:=hg;let#[hd,vs,Vl,Vm,rel,Xx,dd]:=uo I ha;rw[he]at Xx;cases Xx;let hl:=rel.length;obtain⟨q,hq⟩:∃q,kvs[i]?>>q:=#[kvs[i],aD hi];obtain⟨⟨k,x⟩,hx⟩:∃p,vs[i]?>>p:=#[vs[i]'∅,aD ∅];let hk:q.1=k:=by let e1:=qQ6 (·[i]?) rel.keys;simp only[aH,hq,hx,fe]at e1;exact b9 e1
  refine wpAny_pyNext_dict_item ([<-hl]▸st) dd hx λkey h' S6 uW sb=>?_;let#[o,e,c,d]:=id uW;exact#[key,rfl,A4 (s:={ s with heap:=h' }) e c d ⋯ #[kV q.1,H,I.turned (t':=s.toks) (λb o hb e=>(sb.2 b hb).trans e) f0 f1 f3 f4 f5,[hk]▸Ii S6,#[rfl,q,hq,rfl],[hl]▸uW,λb hb=>(hf b hb).1]]
 done:=by intro X hP hw hK hc i pins s σ H E I hf st hg;subst hP hw hK;let#[f0,f1,f2,f3,f4,f5]:=hf it (by simp);let#[hi,ha]:=hg;let#[hd,vs,Vl,Vm,rel,Xx,dd]:=uo I ha;rw[he]at Xx;cases Xx;let hl:=rel.length;exact wpAny_pyNext_dict_end (I.ok.hd hc) ([<-hl]▸st) dd (fz ∅) λh' eb=>#[rfl,I.turned (λb o hb e=>eb b o hb e) f0 f1 f3 f4 f5]
 self:=λ_ _ _ _ _ st h=>vT st h
def Xy(tl:TE):TI:=λσ H R=>tl σ H λv H1=>∃a o kvs,v=.ref a/\H1 a>>(.ky o (.dK kvs))/\R (Itk a o kvs) H1
theorem Io{tg l:bw}{tl:TE}(hl:PE X l tl):PI X tg l (Xy tl):=by
 intro pins s σ H R I h;refine fF (hl pins s σ H _ I h) λv s1 #[y,H1,I1,r1,q1]=>?_;let#[a,o,kvs,e,ha,q]:=q1;subst e;cases r1;let#[hd,vs,es,ep,rel,he,dd]:=uo I1 ha;refine wpAny_pyIter_dict hd dd ?_;rw[<-rel.length];refine#[s1.heap.objs.size,_,_,_,H1,rfl,I1.kept λb o e=>aB _ e,JL a _ he,#[_,bh _ rfl,rfl,rfl],λb hb=>?_,q];let e:b=s1.heap.objs.size:=by simpa using hb
 subst e;exact I1.xY ∅ (I1.hok.fresh ∅)
end
section
variable{X:Cx}{tg a b:bw}{δ:!Slot}{d:ai}{kvs:!(Str×ai)}{pos p:Pos}{k:Nat}{x:Str}
theorem D8(h:VE X a δ (AH kvs)):VI X tg a δ (kvs.map λq=>.str q.1):=#[_,Io cu,λB0 B σ H0 H R f q=>h B0 B σ H0 H _ f λv H1 cW g r=>by
 let#[p,o,ws,rfl,hp,ke,rs]:=r.D7;let hl:ws.length=kvs.length:=by let:=qQ6 dU ke;simpa using this
 refine#[p,o,ws,rfl,g.sub _ _ hp,q _ H1 cW g λHa Hb s1 s2 i=>#[λhi=>#[by simpa[hl]using hi,s2 _ _ (s1 _ _ hp)],λhi=>#[by simpa[hl]using hi,s2 _ _ (s1 _ _ hp)],λx x3 d hd #[e,z,hz,ex]=>?_]];subst e;subst ex;let e1:=qQ6 (·[i]?) ke;simp[aH,hz,fe]at e1;rw[aH]at hd;cases hk:kvs[i]? with
 |none=>rw[hk]at hd;cases hd
 |some w=>rw[hk]at hd e1;cases hd;rw[b9 e1];exact#[Ha,.refl s2,.str w.1]]
theorem zt(hr:ei k X.A)(h1:VE X a δ (AH kvs))(h2:VE X b δ (.str x))(hx:ik kvs x>>d)(hs:B8 b:=by intro _ _;rfl):VE X (.Subscript a b pos) δ d:=
 .of (B_ (Jw hr) cu cu hs) λB0 B σ H0 H Q fr q=>h1 B0 B σ H0 H _ fr λv H1 cW g r=>h2 B0 B σ H1 cW _ (fr.grow g) λu H2 fG g2 r2=>by let#[p,o,ws,rfl,hp,ke,rs]:=r.D7;cases r2;let ov:=wo ke rs x;rw[hx]at ov;let#[w,hw,pP]:=ov.some_of;refine#[p,w,rfl,?_,q w H2 fG (g.trans g2) (pP.mono g2.eD)];rw[<-hw];exact .inl #[ws,.inr x,.inr #[o,g2.sub _ _ (g2.eD _ _ hp)],rfl,rfl]
end
section
variable{X:Cx}{pins:!(ay×Obj)}{σ:St}{H:Hp}{s:aK}{A:dz}
theorem lN:∀{l:!(Str×ai)},(l.map (·.1)).Nodup->∀q∈l,ik l q.1>>q.2
 | [],_,q,h=>by cases h
 |p::l,hn,q,h=>by
  rw[aq,cx]at hn;rcases ax.mp h with rfl|h
  .exact dR rfl
  .rw[bT (λz=>hn.1 ([z]▸au.mpr #[q,h,rfl]))];exact lN hn.2 q h
end
abbrev UR:=Hp->V->Hp->Hp->Prop
variable{R:!ai->UR->Prop}
section
variable{X:Cx}{st:eO}{rest body orelse:!eO}{δ δ':!Slot}{o:Out}{a b c e:bw}{d:ai}{ds:!ai}{pos px:Pos}{x:Str}{w:Str}
def VU(X:Cx)(e:bw)(δ:!Slot)(U:UR):Prop:=∀B0 B σ H0 H Q,fQ X.K B0 B H0 H σ δ->(∀v cQ H',dm H0 H cQ H'->U H v cQ H'->Q v H')->cE X e σ H Q
def ZO(K:aj)(R:!ai->UR->Prop):Sp:=λvs H Q _=>∃H0 ds U,cz H0 H/\bU K H0 vs ds/\R ds U/\∀v cQ H',dm H0 H cQ H'->U H v cQ H'->Q v H'
def Rm(U:UR):Prop:=∀B H v Ha Hb,cz B H->U H v Ha Hb->U B v Ha Hb
theorem yu{U:UR}{es:!bw}{p:Pos}(C:bu X.prog X.w X.K X.mg X.base k x ps (ZO X.K R))(hr:ei k X.A)(hm:Rm U)(ha:VA X (e::es) δ ds)(hp:R ds U)(hg:Gl X x:=by rfl)(o6:uc x:=by decide)
  (he:kB X e es:=by rfl)(lB:pU X pos es:=by rfl):VU X (.Call (.Name x p) (e::es) [] pos) δ U:=by let#[f,fd,F,Kx,hk,hb]:=C;let#[t,pa,qa]:=ha;intro B0 B σ H0 H Q fr q pins s I;refine pX F hr hg Kx hk hb .nil xj pa o6 he lB pins s σ H Q I (qa B0 B σ H0 H _ fr λvs H1 cW g1 rs=>?_);rw[cn];exact#[H1,ds,U,g1.sub,rs,hp,λv H2 fG g2 u=>q v H2 fG (g1.trans g2) (hm _ _ _ _ _ g1.big u)]
theorem zbu{w:b_}{qual: Str}(F:kE K x qual st f fd)(S:cw N ps (bG st))(hl:∀ds U,R ds U->ds.length=ps.length)(hb:∀ds U,R ds U->rQ P w K mg base N qual st f k ds (.ru U)):dZ P w K mg base jL (k+1) f fd ps (ZO K R):=by
 refine F.ok S (λvs H Q E h=>?_) (λgu A outer s H vs Q E hr h=>?_)
 .let#[H0,ds,d,_,r,hp,_]:=h;rw[r.length,hl ds d hp]
 .let#[H0,ds,d,sm,r,hp,q]:=h;exact#[_,kG,hb ds d hp gu A outer s H E hr H0 H _ H0 H _ (.start sm r) q]
end
section
variable{X:Cx}{B0 B H0 H:Hp}{σ:St}{D:Ends}{δ δ2:!Slot}{t p:ay}{e c:bw}{d dp:ai}{ds:!ai}{pos px po pk pa pc:Pos}{x w:Str}{R:OR}{body:!eO}{k:Nat}
end
section
variable{K:aj}{H:Hp}
theorem PJ{kv:!(Str×ai)}{kvs:!(Key×V)}(h1:H a>>(.dK kvs))(h2:kvs.map (·.1)=kv.map (λp=>(bf p.1:Key)))(h3:bU K H (kvs.map (·.2)) (kv.map (·.2))):Rep K H (.ref a) (iM kv):=by
 refine .dct h1 ?_ ?_
 .let e2:=qQ6 (qH mN) h2;rw[aG,aG]at e2;rw[aG];exact e2.symm
 .rwa[aG]
end
section
variable{P:bx}{w:b_}{K:aj}{mg:Str->Option aA}{base:cI}{x qual:Str}{st:eO}{f:ay}{fd:eE}{N:!Str}{k:Nat}{a1 a2:Str}
end
section
variable{X:Cx}{B0 B H0 H:Hp}{σ:St}{D:Ends}{δ δ2:!Slot}{e b:bw}{d:ai}{ds:!ai}{pos px:Pos}{x:Str}{k:Nat}
theorem mV(h:D.nx σ H):Ce X [] D σ H:=λpins s I=>HB pins s σ H D I h
end
section
variable{X:Cx}{B0 B H0 H:Hp}{σ:St}{D:Ends}{δ:!Slot}{a c:ay}{e ek ev:bw}{d:ai}{ds:!ai}{pos px po ps pa pc pk py:Pos}{x y z:Str}{k:Nat}{kvs zgX:!(Key×V)}{κ:Key}{xs:!V}{j}
end
section
variable{X:Cx}{B0 B H0 H:Hp}{σ:St}{D:Ends}{δ:!Slot}{body orelse:!eO}{tg iter c e:bw}{ds:!ai}{d:ai}{pos:Pos}{R:OR}
theorem Mp(G:OF X.K B0 B R H0 H σ δ)(h:VE X e δ d)(q:∀v cQ H',dm B0 B cQ H'->Rep X.K cQ v d->D.rt v H'):cS X (.Return (some e) pos) D σ H:=
 cg h B0 B σ H0 H D G.fr q
end
section
variable{X:Cx}{δ δ2:!Slot}{body rest:!eO}{tg iter c:bw}{ds:!ai}{o:Out}{pos p1 p2:Pos}
end
section
variable{X:Cx}{sc:jx}{own N:!Str}{cap:!Nat}{cl:!(Str×ay)}{tg elt iter:bw}{ifs:!bw}{δ:!Slot}{ds:!ai}{pos:Pos}{tgt:Du}
end
def LR(K:aj)(d:ay)(ds:!ai):OR:=λH0 H as=>as=[d]/\∃xs,H d>>(.lst xs)/\bU K H0 xs ds
theorem LR.mono{d:ay}:bL (LR K d ds):=λH0 H Ha Hb as #[e,xs,h1,h2] sm hb=>#[e,xs,by rw[hb d (by rw[e];simp)];exact h1,h2.mono sm]
def xq(kl:!(Str×!ai))(cs:!ay):!(Key×V):=(kl.zip cs).map λz=>(bf z.1.1,.ref z.2)
def Uj(K:aj)(H0 H:Hp)(kl:!(Str×!ai))(cs:!ay):Prop:=cs.length=kl.length/\∀(i:Nat)c q,cs[i]?>>c->kl[i]?>>q->∃xs,H c>>(.lst xs)/\bU K H0 xs q.2
section
variable{K:aj}{d a:ay}{day:!ai}{kl:!(Str×!ai)}
theorem vg:∀{kl:!(Str×!ai)}{cs:!ay},cs.length=kl.length->(xq kl cs).map (·.1)=kl.map λq=>(bf q.1:Key)
 | [],[],_=>rfl
 | [],_::_,e=>by cases e
 |_::_,[],e=>by cases e
 |q::h,c::cs,e=>by let:=vg ↑e;unfold xq at this ⊢;rw[eM,aq,aq,this];rfl
theorem D9:∀{kl:!(Str×!ai)}{cs:!ay},cs.length=kl.length->(xq kl cs).map (·.2)=cs.map V.ref
 | [],[],_=>rfl
 | [],_::_,e=>by cases e
 |_::_,[],e=>by cases e
 |q::h,c::cs,e=>by let:=D9 ↑e;unfold xq at this ⊢;rw[eM,aq,aq,this];rfl
theorem Cw:∀{kl:!(Str×!ai)}{cs:!ay}{j:Nat}{q:Str×!ai}{c:ay},(kl.map (·.1)).Nodup->kl[j]?>>q->cs[j]?>>c->gW (xq kl cs) (bf q.1)>>(.ref c)
 | [],_,_,_,_,_,h,_=>by simp at h
 |_::_,[],_,_,_,_,_,h=>by simp at h
 |p::kl,b::cs,0,q,c,_,h1,h2=>by cases h1;cases h2;exact kF rfl
 |p::kl,b::cs,j+1,q,c,nd,h1,h2=>by
  rw[aq,cx]at nd;let Xz:kl[j]?>>q:=by simpa using h1
  let ne:¬(bf p.1:Key)=bf q.1:=λz=>nd.1 ([j9 z]▸au.mpr #[q,aP Xz,rfl]);let e:xq (p::kl) (b::cs)=(bf p.1,V.ref b)::xq kl cs:=rfl;rw[e,h8 ne];exact Cw nd.2 Xz ↑h2
theorem set_same{α β:Type}{f:α->β}{l:!α}{j:Nat}{x y:α}(h:l[j]?>>x)(e:f y=f x):(l.map f).set j (f y)=l.map f:=by
 refine hG λn=>?_;by_cases hn:n=j
 .subst hn;rw[aY ([ae]▸(av.mp h).1),aH,h,e];rfl
 .rw[aS (bF hn)]
theorem D_:∀{kl kl':!(Str×!ai)}{cs:!ay},kl'.map (·.1)=kl.map (·.1)->xq kl' cs=xq kl cs
 | [],[],_,_=>rfl
 | [],_::_,_,e=>by cases e
 |_::_,[],_,e=>by cases e
 |q::h,q'::h',cs,e=>by
  let#[e1,e2]:=iK e;cases cs with
  |nil=>rfl
  |cons c cs=>show(bf q'.1,V.ref c)::xq h' cs=(bf q.1,V.ref c)::xq h cs;rw[show q'.1=q.1 from e1,D_ e2]
end
section
variable{X:Cx}{B0 B H0 H:Hp}{σ:St}{D:Ends}{δ:!Slot}{a d:ay}{e ek:bw}{dv:ai}{day:!ai}{kl:!(Str×!ai)}{pos px po pa pc pd p0:Pos}{x y:Str}{k j:Nat}{rs:!Str}{ds:!ai}
variable{c:bw}{dp:ai}{R:OR}{p:ay}{body orelse:!eO}{kb:Bool}
end
section
variable{X:Cx}{B0 B H0 H:Hp}{σ:St}{D:Ends}{δ:!Slot}{ev:bw}{d:ai}{pos px ps pk:Pos}{x y:Str}{k:Nat}{jk}
end
section
variable{P:bx}{w:b_}{K:aj}{mg:Str->Option aA}{base:cI}{x qual:Str}{st:eO}{f:ay}{fd:eE}{N ps:!Str}{k:Nat}
end
section
variable{X:Cx}{e a:bw}{te:TE}{δ:!Slot}{ds:!ai}{pos p2 pu pk:Pos}{j}
end
section
variable{X:Cx}{B0 B H0 H:Hp}{σ:St}{D:Ends}{δ:!Slot}{e:bw}{pos rR px p:Pos}{x:Str}{kv:!(Str×ai)}
theorem F8:iz X (.type "dict") (λxs H Q=>∃a kvs,xs=[.ref a]/\H a>>(.dK kvs)/\∀p,H p=none->Q (.ref p) (upd H p (.dK kvs))):=by intro pins s σ H xs us Q I r h;let#[a,kvs,rfl,ha,q]:=h;let#[u,rfl,rx]:=vals1 r;cases rx;exact Lj I (.of ha) λp s' hp I'=>#[.ref p,_,I',rfl,q p hp]
theorem Ip(f:fQ X.K B0 B H0 H σ δ)(i:Nat)(hN:X.N.Nodup)(hn:∀p,noOwn (δ.set i (.ref p))=true)(he:VE X e δ (iM kv))(hm:X.mg "dict"=none)(q:∀p σ' cQ H',cz H0 cQ->OF X.K B0 B (DR X.K p kv) cQ H' σ' (δ.set i (.ref p))->D.nx σ' H')(hg:Gl X "dict":=by rfl)
  (hi:X.N[i]?>>x:=by rfl)(hx:Loc X.env.scope x:=by left)(hs:A0 X pos (.Call (.Name "dict" p) [e] [] rR) (.Name x px):=by rfl)(hf:yi X x:=by left)
  (Fk:kB X e []:=by rfl)(lB:pU X rR []:=by rfl):
  cS X (.Assign [.Name x px] (.Call (.Name "dict" p) [e] [] rR) pos) D σ H:=λpins s I=>by refine rC (i:=i) hN hi hx (k7 F8 hg hm (by rfl) (cy cu dF Fk) ⋯ ⋯ Fk lB) hs hf pins s σ H D I ?_;refine he B0 B σ H0 H _ f λv H1 cW g r=>?_;let#[a,kvs,rfl,ha,hk,hv]:=r.kI;refine#[a,kvs,rfl,g.sub _ _ ha,λp hp=>?_];let f1:=f.grow g;refine q p _ H1 _ g.eD #[(f1.grow (.loose f1.sub hp)).n_ (v:=.ref p) (sl:=.ref p) rfl rfl,hn p,[p],λb hb=>?_,rfl,kvs,aT,hk,hv];rw[aF.mp hb];exact#[f1.sub.free hp,f1.ent.big.free hp,by rw[aT];simp]
end
inductive AI:ai->Prop
 |non:AI .none
 |bl (b:Bool):AI (.bool b)
 |int (i:Int):AI (.int i)
 |str (x:Str):AI (.str x)
 |tup {ds:!ai}:(∀d∈ds,AI d)->AI (.tuple ds)
def mW(as:!ay)(H:Hp):Hp:=λb=>if b∈as then none else H b
theorem vh(h:b∈as):mW as H b=none:=qQ3 h
theorem iN(h:b∉as):mW as H b=H b:=qQ2 h
def F9(H:Hp)(a:ay):Prop:=∀xs,H a≠some (.tup xs)/\∀o,H a≠some (.ky o (.tup xs))
section
variable{K:aj}{C:Hp}{as:!ay}
theorem nV.out(hn:∀a∈as,F9 C a){xs:!V}(h:nV K C a xs):nV K (mW as C) a xs:=by
 rcases h with(h|⟨o,h⟩)|h
 .exact .inl (.inl ((iN λz=>(hn a z xs).1 h).trans h))
 .exact .inl (.inr #[o,[iN λz=>(hn a z xs).2 o h]▸h])
 .exact .inr h
theorem bU.outs:∀{ds:!ai}{xs:!V},bU K C xs ds->(∀d∈ds,∀v,Rep K C v d->Rep K (mW as C) v d)->bU K (mW as C) xs ds
 | [],_,r,_=>by cases r;exact .nil
 |d::ds,_,r,h=>by
  cases r with
  |cons a t=>exact .cons (h d aJ _ a) (bU.outs t λz hz=>h z (aM _ hz))
theorem Rep.out(hn:∀a∈as,F9 C a)(h:AI d):∀v,Rep K C v d->Rep K (mW as C) v d:=by
 induction h with
 |non=>intro v r;cases r;exact .non
 |bl b=>intro v r;cases r;exact .bl b
 |int i=>intro v r;cases r;exact .int i
 |str x=>intro v r;cases r;exact .str x
 |tup _ ih=>
  intro v r;cases r with
  |tup hq rs=>exact .tup (hq.out hn) (rs.outs λd hd v r=>ih d hd v r)
end
section
variable{X:Cx}{B0 B H0 H:Hp}{σ:St}{D:Ends}{δ:!Slot}{p:ay}{e:bw}{d dp:ai}{pos px:Pos}{y:Str}{R:OR}
end
section
variable{X:Cx}{B0 B H0 H:Hp}{σ:St}{D:Ends}{δ:!Slot}{p:ay}{e1 e2 e3:bw}{d1 d2 d3:ai}{pos px:Pos}{x:Str}
end
section
variable{X:Cx}{a b:bw}{δ:!Slot}{pos px:Pos}{k:Nat}{x:Int}{l:!Int}{y:Str}{ds:!ai}
end
section
variable{X:Cx}{B0 B H0 H:Hp}{σ:St}{D:Ends}{δ:!Slot}{p b:ay}{e ek tg iter:bw}{body:!eO}{d dp:ai}{ds:!ai}{pos px ps:Pos}{x y:Str}{R R':OR}{k:Nat}{κ:Key}
end
section
variable{K:aj}{B0 B H0 H Ha Hb:Hp}{σ:St}{δ:!Slot}{R R':OR}{as:!ay}
theorem Ea:cz (mW as H) H:=λb u e=>by
 by_cases h:b∈as
 .rw[vh h]at e;cases e
 .rwa [iN h]at e
end
def Uk(R:ay->OR):UR:=λB v H0 H=>∃a as,v=.ref a/\(∀x∈as,B x=none/\H0 x=none/\H x≠none)/\R a H0 H as
theorem vi{R:ay->OR}:Rm (Uk R):=λ_ _ _ _ _ s #[a,as,e,h1,h2]=>#[a,as,e,λx hx=>#[s.free (h1 x hx).1,(h1 x hx).2],h2]
def DL(K:aj)(a:ay)(kl:!(Str×!ai)):OR:=λH0 H as=>∃cs,as=a::cs/\(a::cs).Nodup/\H a>>(.dK (xq kl cs))/\Uj K H0 H kl cs
theorem DL.mono:bL (DL K a kl):=by rintro H0 H Ha Hb as ⟨cs,rfl,nd,h3,h4,h5⟩ sm hb;refine#[cs,rfl,nd,[hb a (by simp)]▸h3,h4,λi c q e1 e2=>?_];let#[ys,y1,y2]:=h5 i c q e1 e2;exact#[ys,[hb c (by simp[aP e1])]▸y1,y2.mono sm]
section
variable{X:Cx}{B0 B H0 H:Hp}{σ:St}{D:Ends}{δ:!Slot}{a p:ay}{e:bw}{d:ai}{pos px pc p0:Pos}{x:Str}{R:ay->OR}{R':OR}{rs:!Str}{l:!(Str×ai)}
theorem Ul(f:fQ X.K B0 B H0 H σ δ)(i:Nat)(h:VU X e δ (Uk R))(hN:X.N.Nodup)(hn:∀p,noOwn (δ.set i (.ref p))=true)(q:∀a σ' cQ H',OF X.K B0 B (R a) cQ H' σ' (δ.set i (.ref a))->D.nx σ' H')
  (hi:X.N[i]?>>x:=by rfl)(hx:Loc X.env.scope x:=by left)(hs:A0 X pos e (.Name x px):=by rfl)(hf:yi X x:=by left):
  cS X (.Assign [.Name x px] e pos) D σ H:=λpins s I=>by refine rC hN hi hx cu hs hf pins s σ H D I (h B0 B σ H0 H _ f λv H1 cW g u=>?_);let#[a,as,rfl,h1,h2]:=u;exact q a _ H1 _ #[(f.grow g).n_ rfl rfl,hn a,as,λb hb=>#[(h1 b hb).2.1,f.ent.big.free (h1 b hb).1,(h1 b hb).2.2],h2]
theorem Cy(h:VU X e δ (Uk R))(hR:∀a Ha Hb as,cz Ha Hb->R a Ha Hb as->Rep X.K (kS as Hb Ha) (.ref a) d):VE X e δ d:=λB0 B σ H0 H Q f q=>h B0 B σ H0 H _ f λv Ha Hb g u=>by
 let#[a,as,rfl,h1,h2]:=u;refine q _ _ Hb #[g.big,g.eD.trans (jO g.sub),vf g.sub,λb z=>?_] (hR a Ha Hb as g.sub h2);by_cases hb:b∈as
 .exact .inr (h1 b hb).1
 .rw[jN hb]at z;exact g.new b z
theorem Um(G:OF X.K B0 B R' H0 H σ δ)(i:Nat)(hi:δ[i]?>>(.ref p))(hR:∀Ha Hb as,R' Ha Hb as->∃ZP,(∀a∈ZP,a∈as)/\R p Ha Hb ZP)(q:∀v cQ H',dm B0 B cQ H'->Uk R B v cQ H'->D.rt v H')
  (hN:tE X i x:=by ac_rfl):
  cS X (.Return (some (.Name x px)) pos) D σ H:=λpins s I=>vW (vL hN) pins s σ H D I (by let#[as,h1,h2]:=G.ex;let#[ZP,h3,h4]:=hR _ _ _ h2;exact#[_,G.fr.slot i _ hi,q _ H0 H G.fr.ent #[p,ZP,rfl,λx hx=>#[(h1 x (h3 x hx)).2.1,(h1 x (h3 x hx)).1,(h1 x (h3 x hx)).2.2],h4]])
end
section
variable{X:Cx}{B0 B H0 H:Hp}{σ:St}{D:Ends}{δ:!Slot}{d:ay}{e:bw}{dv:ai}{ds:!ai}{pos px pa pc pd:Pos}{x:Str}{R:OR}
end
section
variable{X:Cx}{B0 B H0 H:Hp}{σ:St}{D:Ends}{δ:!Slot}{a d:ay}{ps as0:!ay}{gs:!(!ai)}{e ix:bw}{es:!bw}{dv dl:ai}{l l' ds:!ai}{pos px py pa pc pd p0 p1 p4 p5:Pos}{x y:Str}
end
section
variable{X:Cx}{δ:!Slot}{e:bw}{ds es:!ai}{x:Str}{px pos:Pos}
end
section
variable{X:Cx}{o e:bw}{es:!bw}{δ:!Slot}{d:ai}{ds zs:!ai}{fs:!(Str×ai)}{C:ay}{m:Str}{ps:!Str}{k:Nat}{pos apos:Pos}{pl:Sem Bool}
end
section
variable{X:Cx}{B0 B H0 H:Hp}{σ:St}{D:Ends}{δ:!Slot}{p C dx a c:ay}{e ek ev:bw}{es:!bw}{d dp:ai}{ds:!ai}{pos px po ps pa pc p0 apos:Pos}{x y fl:Str}{fs:!(Str×V)}{R:OR}{k:Nat}{κ:Key}{kvs:!(Key×V)}{xs:!V}
def VC(X:Cx)(B0 B:Hp)(R:OR)(σ:St)(δ:!Slot)(e:bw)(d:ai):Prop:=∀H0 H,OF X.K B0 B R H0 H σ δ->∀Q:V->Hp->Prop,(∀v Ha Hb,dm H0 H Ha Hb->Rep X.K Ha v d->Q v Hb)->cE X e σ H Q
theorem Iq(h:VE X e δ d):VC X B0 B R σ δ e d:=λH0 H G Q q=>h H0 H σ H0 H Q G.own q
def VD(X:Cx)(B0 B:Hp)(R:OR)(σ:St)(δ:!Slot)(es:!bw)(ds:!ai):Prop:=∃t,PA X es t/\∀H0 H,OF X.K B0 B R H0 H σ δ->∀Q:!V->Hp->Prop,(∀vs Ha Hb,dm H0 H Ha Hb->bU X.K Ha vs ds->Q vs Hb)->t σ H Q
theorem Cz:VD X B0 B R σ δ [] []:=#[_,dF,λH0 H G Q q=>q [] H0 H (.refl G.fr.sub) .nil]
theorem vj(m:bL R)(h:VC X B0 B R σ δ e d)(ha:VD X B0 B R σ δ es ds)(he:kB X e es:=by rfl):VD X B0 B R σ δ (e::es) (d::ds):=by let#[t,pt,qt]:=ha;refine#[_,cy cu pt he,λH0 H G Q q=>h H0 H G _ λv H1 cW g r=>?_];exact qt H1 cW (G.go m (G.own.grow g) G.no) _ λvs H2 fG g2 rs=>q _ H2 fG (g.trans g2) (.cons (r.mono g2.eD) rs)
end
section
variable{X:Cx}{a b c:bw}{δ:!Slot}{d1 d2 d3:ai}{pos:Pos}{k:Nat}{x:Int}{l:!Int}
end
section
variable{X:Cx}{a e:bw}{δ:!Slot}{ds es:!ai}{pos p p2 rR px:Pos}{k:Nat}{x:Str}
end
section
variable{X:Cx}{B0 B H0 H:Hp}{σ:St}{D:Ends}{δ:!Slot}{p C dx a:ay}{e ek ev:bw}{es:!bw}{ds:!ai}{pos px po ps pk p0:Pos}{x y fl:Str}{fs:!(Str×V)}{R:OR}{k:Nat}{κ:Key}{kvs:!(Key×V)}{P:Hp->HO->Prop}
def VF(X:Cx)(σ:St)(H0 H:Hp)(e:bw)(P:Hp->HO->Prop):Prop:=∀Q:V->Hp->Prop,(∀l o Ha Hb,dm H0 H Ha Hb->H l=none->Ha l=none->Hb l>>o->P Ha o->Q (.ref l) Hb)->cE X e σ H Q
theorem PK(sm:cz H0 H):VF X σ H0 H (.Dict [] [] pos) (λ_ o=>o=.dK []):=λQ q pins s I=>o9 pins s σ H Q I λl hl=>q l _ H0 _ (.loose sm hl) hl (sm.free hl) aT rfl
theorem PL(f:fQ X.K B0 B H0 H σ δ)(h:VO X e δ ds):VF X σ H0 H e (λHa o=>∃xs,o=.lst xs/\bU X.K Ha xs ds):=λQ q=>h B0 B σ H0 H Q f λa xs H1 cW g h1 h2 h3 r=>q a _ H1 cW g h1 h2 h3 #[xs,rfl,r]
end
theorem Mq{X:Cx}(hk:bo X.K (.type "dict") (.type tn)>>kb):iz X (.builtin "isinstance") (λxs H Q=>∃a ws,xs=[.ref a,.ty tn]/\Rd H a (.dK ws)/\Q (.bl kb) H):=by intro pins s σ H xs us Q I r h;let#[a,ws,rfl,rx,q]:=h;let#[u,w',rfl,r1,r2]:=vals2 r;cases r2;cases r1;let#[_,_,vs,_,o,es,ep,e,ex,_]:=rx.ok I.hok;exact gL Hs I.Aq #[o,e,ex.1] hk (λz=>nomatch z) λtk=>#[.bl kb,H,I.tok tk,rfl,q]
theorem zu{X:Cx}{a:bw}{δ:!Slot}{pos p p2:Pos}(h:VE X a δ (iM kvs))(hk:bo X.K (.type "dict") (.type tn)>>kb)(hb:bootBuiltins x>>(.type tn))(m1:X.mg "isinstance"=none)(m2:X.mg x=none)(hv:bootBuiltins "isinstance"=some (.builtin "isinstance"))
  (hg:Gl X "isinstance":=by rfl)(O_:Gl X x:=by rfl)(hn:x≠"__name__":=by decide)(o6:uc x:=by decide)(hs:starEach [a,.Name x p2] X.env=(false,eval a X.env)::starEach [.Name x p2] X.env:=by rfl)(o5:starEach [.Name x p2] X.env=(false,eval (.Name x p2) X.env)::starEach [] X.env:=by rfl)
  (lB:pU X pos [.Name x p2]:=by rfl):VE X (.Call (.Name "isinstance" p) [a,.Name x p2] [] pos) δ (.bool kb):=
 .of (rF (Mq hk) hg m1 hv (cy cu (cy (BW O_ m2 hb (v:=.ty tn) rfl hn o6) dF o5) hs) ⋯ ⋯ hs lB) λB0 B σ H0 H Q f q=>h B0 B σ H0 H _ f λv H1 cW g r=>by let#[b,ws,rfl,hb,_,_]:=r.kI;exact#[b,ws,rfl,.inl (g.sub _ _ hb),q _ H1 cW g (.bl _)]
section
variable{X:Cx}{B0 B H0 H:Hp}{σ:St}{D:Ends}{δ:!Slot}{t a c:ay}{e ek:bw}{d:ai}{pos px po p0 pa pc q0:Pos}{x:Str}{j:Nat}{jj}{k:Nat}{κ:Key}{kvs:!(Key×V)}{xs us:!V}{rest:!eO}
end
def Sep(R F:OR):OR:=λH0 H as=>∃a1 a2,as=a1++a2/\(∀a∈a1,a∉a2)/\R H0 H a1/\F H0 H a2
def N5(R:OR):Prop:=∀H0 H as,R H0 H as->∀a∈as,F9 H a
def wA(K:aj)(R:OR)(p:ay)(d:ai):Prop:=∀Ha Hb as,cz Ha Hb->R Ha Hb as->Rep K (kS as Hb Ha) (.ref p) d
section
variable{K:aj}{B0 B H0 H Ha Hb:Hp}{σ σ':St}{δ δ':!Slot}{R R' F F':OR}{a p:ay}{d:ai}{as:!ay}
theorem Sep.mono(m:bL R)(n:bL F):bL (Sep R F):=by rintro H0 H Ha Hb as ⟨a1,a2,rfl,dj,h1,h2⟩ sm hb;exact#[a1,a2,rfl,dj,m _ _ _ _ _ h1 sm λa ha=>hb a (bP _ ha),n _ _ _ _ _ h2 sm λa ha=>hb a (bD _ ha)]
theorem Sep.nt(m:N5 R)(n:N5 F):N5 (Sep R F):=by
 rintro H0 H as ⟨a1,a2,rfl,dj,h1,h2⟩ a ha;rcases aV.mp ha with ha|ha
 .exact m _ _ _ h1 a ha
 .exact n _ _ _ h2 a ha
theorem Mr{a1: !ay}(sb:cz Ha Hb)(h:∀a∈a1,a∈as):cz (kS a1 Hb Ha) (kS as Hb Ha):=λx u e=>by
 by_cases hx:x∈a1
 .rw[iU hx]at e;rw[iU (h x hx)];exact e
 .rw[jN hx]at e;by_cases hy:x∈as
  .rw[iU hy];exact sb x u e
  .rw[jN hy];exact e
theorem Sep.Uo(h:wA K R p d):wA K (Sep R F) p d:=by rintro Ha Hb as sb ⟨a1,a2,rfl,dj,h1,h2⟩;exact(h Ha Hb a1 sb h1).mono (Mr sb λa ha=>bP _ ha)
theorem Sep.zbw(h:wA K F p d):wA K (Sep R F) p d:=by rintro Ha Hb as sb ⟨a1,a2,rfl,dj,h1,h2⟩;exact(h Ha Hb a2 sb h2).mono (Mr sb λa ha=>bD _ ha)
theorem OF.swap(G:OF K B0 B (Sep R F) H0 H σ δ):OF K B0 B (Sep F R) H0 H σ δ:=by let#[_,h1,a1,a2,rfl,dj,h2,h3]:=G.ex;exact#[G.fr,G.no,a2++a1,λa ha=>h1 a (by rw[aV]at ha ⊢;exact ha.symm),a2,a1,rfl,λa ha hb=>dj a hb ha,h3,h2]
theorem OF.rot{R3:OR}(G:OF K B0 B (Sep R (Sep F R3)) H0 H σ δ):OF K B0 B (Sep F (Sep R3 R)) H0 H σ δ:=by
 let#[_,h1,a1,_,rfl,dj,h2,a2,a3,rfl,dj2,h3,h4]:=G.ex;refine#[G.fr,G.no,a2++(a3++a1),λa ha=>h1 a (by simp only[aV]at ha ⊢;rcases ha with h|h|h<;>simp[h]),a2,a3++a1,rfl,λa ha hb=>?_,h3,a3,a1,rfl,λa ha hb=>dj a hb (by simp[ha]),h4,h2];rcases aV.mp hb with hb|hb
 .exact dj2 a ha hb
 .exact dj a hb (by simp[ha])
theorem OF.assoc{R3:OR}(G:OF K B0 B (Sep (Sep R F) R3) H0 H σ δ):OF K B0 B (Sep R (Sep F R3)) H0 H σ δ:=by
 let#[_,h1,_,a3,rfl,dj,#[a1,a2,rfl,dj2,h2,h3],h4]:=G.ex;refine#[G.fr,G.no,a1++(a2++a3),λa ha=>h1 a (by simp only[aV]at ha ⊢;rcases ha with h|h|h<;>simp[h]),a1,a2++a3,rfl,λa ha hb=>?_,h2,a2,a3,rfl,λa ha hb=>dj a (by simp[ha]) hb,h3,h4];rcases aV.mp hb with hb|hb
 .exact dj2 a ha hb
 .exact dj a (by simp[ha]) hb
theorem OF.frame(mF:bL F)(G:OF K B0 B (Sep R F) H0 H σ δ):∃as,OF K H0 (mW as H) R H0 H σ δ/\∀{R':OR}{Ha Hb:Hp}{σ':St}{δ':!Slot},OF K H0 (mW as H) R' Ha Hb σ' δ'->OF K B0 B (Sep R' F) Ha Hb σ' δ':=by
 let#[_,h1,a1,a2,rfl,dj,h2,h3]:=G.ex;let o1:∀a∈a1,H0 a=none/\B a=none/\H a≠none:=λa ha=>h1 a (bP _ ha);let o2:∀a∈a2,H0 a=none/\B a=none/\H a≠none:=λa ha=>h1 a (bD _ ha);let nb:∀b,mW a1 H b=none->B b=none:=λb z=>by
  by_cases hb:b∈a1
  .exact(o1 b hb).2.1
  .rw[iN hb]at z;exact G.fr.ent.big.free z
 let ZQ:∀b∈a2,mW a1 H b=H b:=λb hb=>iN λz=>dj b z hb;refine#[a1,#[G.fr.re G.no #[Ea,cz.refl _,G.fr.sub,λ_ z=>.inl z],G.no,a1,λa ha=>#[(o1 a ha).1,vh ha,(o1 a ha).2.2],h2],λ{R' Ha Hb σ' δ'}G'=>?_];let#[as',w1,w2]:=G'.ex;let e:=G'.fr.ent;let keep:∀b∈a2,Hb b=H b:=λb hb=>by let:=e.big.eq (a:=b) ([ZQ b hb]▸(o2 b hb).2.2);rw[this,ZQ b hb]
 let gg:dm B0 B Ha Hb:=#[λb u z=>e.big b u ([iN λy=>(by let:=(o1 b y).2.1;rw[z]at this;cases this)]▸G.fr.ent.big b u z),G.fr.ent.eD.trans e.eD,e.sub,λb z=>by
  rcases e.new b z with y|y
  .exact G.fr.ent.new b y
  .exact .inr (nb b y)];refine#[G'.fr.re G'.no gg,G'.no,as'++a2,λa ha=>?_,as',a2,rfl,λa ha hb=>?_,w2,mF _ _ _ _ _ h3 e.eD keep]
 .rcases aV.mp ha with ha|ha
  .let#[y1,y2,y3]:=w1 a ha;exact#[y1,nb a y2,y3]
  .let#[y1,y2,y3]:=o2 a ha;refine#[?_,y2,[keep a ha]▸y3];cases z:Ha a with
   |none=>rfl
   |some o=>
    rcases e.new a (by rw[z];simp)with y|y
    .exact qQ7 y1 y
    .rw[ZQ a ha]at y;exact qQ7 y y3
 .let:=(w1 a ha).2.1;rw[ZQ a hb]at this;exact(o2 a hb).2.2 this
theorem OF.new{R:OR}(m:bL R)(G:OF K B0 B R H0 H σ δ){R':OR}(h:∀as,(∀a∈as,H a≠none)->R Ha Hb as->∃a1,(∀a∈a1,H a=none/\Ha a=none/\Hb a≠none)/\R' Ha Hb a1)(g:dm H0 H Ha Hb):OF K B0 B (Sep R' R) Ha Hb σ δ:=by
 let G1:=G.go m (G.own.grow g) G.no;let#[as,h1,h2]:=G.ex;let#[a1,w1,w2]:=h as (λa ha=>(h1 a ha).2.2) (m _ _ _ _ _ h2 g.eD λa ha=>g.big.eq (h1 a ha).2.2);refine#[G1.fr,G1.no,a1++as,λa ha=>?_,a1,as,rfl,λa ha hb=>(h1 a hb).2.2 (w1 a ha).1,w2,m _ _ _ _ _ h2 g.eD λa ha=>g.big.eq (h1 a ha).2.2];rcases aV.mp ha with ha|ha
 .let#[y1,y2,y3]:=w1 a ha;exact#[y2,G.fr.ent.big.free y1,y3]
 .let#[y1,y2,y3]:=h1 a ha;cases z:H a with
  |none=>exact qQ7 z y3
  |some o=>exact#[g.still y1 z,y2,by rw[g.big _ _ z];simp]
def Seen(K:aj)(R:OR)(δ δ':!Slot):Prop:=δ'.length=δ.length/\∀(j:Nat)(sl:Slot),δ'[j]?>>sl->δ[j]?>>sl\/∃p d,δ[j]?>>(.ref p)/\sl=.val d/\wA K R p d
theorem Seen.refl:Seen K R δ δ:=#[rfl,λ_ _ h=>.inl h]
theorem Seen.set(s:Seen K R δ δ')(i:Nat)(hi:δ[i]?>>(.ref p))(h:wA K R p d):Seen K R δ (δ'.set i (.val d)):=by
 refine#[[fZ]▸s.1,λj sl e=>?_];by_cases hj:j=i
 .subst hj;let hl:j < δ'.length:=[s.1]▸(av.mp hi).1;rw[aY hl]at e;exact .inr #[p,d,hi,(b9 e).symm,h]
 .rw[aS (bF hj)]at e;exact s.2 j sl e
theorem Seen.no(s:Seen K R δ δ')(h:noOwn δ=true)(j:Nat)(ds:!ai):δ'[j]?≠some (.own ds):=λe=>by
 rcases s.2 j _ e with e|⟨_,_,_,e,_⟩
 .exact fJ h j ds e
 .cases e
theorem OF.Ir(G:OF K B0 B R H0 H σ δ)(s:Seen K R δ δ'):∃as,(∀a∈as,H0 a=none/\B a=none/\H a≠none)/\R H0 H as/\fQ K (kS as H H0) H (kS as H H0) H σ δ':=by
 let#[as,h1,h2]:=G.ex;let sm:=jO (as:=as) G.fr.sub;refine#[as,h1,h2,.refl (vf G.fr.sub),[s.1]▸G.fr.len,λi sl e=>?_,λi j ds es p _ e=>qQ7 e (s.no G.no i ds)];rcases s.2 i sl e with e2|⟨p,d,e2,rfl,hp⟩
 .let q:=G.fr.slot i sl e2;cases sl with
  |un=>trivial
  |ref _=>exact q
  |val d=>let#[v,g1,g2]:=q;exact#[v,g1,g2.mono sm]
  |own ds=>exact qQ7 e2 (fJ G.no i ds)
 .exact#[.ref p,G.fr.slot i _ e2,hp H0 H as G.fr.sub h2]
end
section
variable{X:Cx}{B0 B H0 H:Hp}{σ:St}{D:Ends}{δ δ':!Slot}{p:ay}{e c:bw}{d:ai}{ds:!ai}{R:OR}{body orelse:!eO}{pos px:Pos}{kb:Bool}{y:Str}
theorem OF.Up(G:OF X.K B0 B R H0 H σ δ)(h1:∀a∈as,H0 a=none/\B a=none/\H a≠none){C1 H1:Hp}(g:dm (kS as H H0) H C1 H1):dm H0 H (mW as C1) H1:=by
 let hC:∀b,b∉as->∀u,H0 b>>u->C1 b>>u:=λb hb u z=>g.eD b u ([jN hb]▸z);refine#[g.big,λb u z=>?_,λb u z=>?_,λb z=>?_]
 .let hb:b∉as:=λy=>by rw[(h1 b y).1]at z;cases z
  rw[iN hb];exact hC b hb u z
 .by_cases hb:b∈as
  .rw[vh hb]at z;cases z
  .rw[iN hb]at z;exact g.sub b u z
 .by_cases hb:b∈as
  .rw[vh hb]at z;exact qQ7 rfl z
  .rw[iN hb]at z;rcases g.new b z with w|w
   .rw[jN hb]at w;exact .inl w
   .exact .inr w
theorem XB{C1:Hp}(nt:N5 R)(h1:∀a∈as,H0 a=none/\B a=none/\H a≠none)(h2:R H0 H as)(sm:cz (kS as H H0) C1):∀a∈as,F9 C1 a:=λa ha=>by
 let e:C1 a=H a:=by
  cases w:H a with
  |none=>exact qQ7 w (h1 a ha).2.2
  |some o=>exact sm a o ([iU ha]▸w)
 unfold F9;rw[e];exact nt _ _ _ h2 a ha
theorem Ms(nt:N5 R)(s:Seen X.K R δ δ')(h:VE X e δ' d)(hd:AI d):VC X B0 B R σ δ e d:=λH0 H G Q q=>by let#[as,h1,h2,f1]:=G.Ir s;refine h _ H σ _ H _ f1 λv C1 H1 g r=>?_;exact q v (mW as C1) H1 (G.Up h1 g) (Rep.out (λa ha xs=>XB nt h1 h2 g.eD a ha xs) hd v r)
theorem bU.out{C:Hp}(hn:∀a∈as,F9 C a):∀{ds:!ai}{vs:!V},(∀d∈ds,AI d)->bU K C vs ds->bU K (mW as C) vs ds
 | [],_,_,r=>by cases r;exact .nil
 |d::ds,_,h,r=>by
  cases r with
  |cons a t=>exact .cons (Rep.out (λa ha xs=>hn a ha xs) (h d aJ) _ a) (bU.out hn (λd hd=>h d (aM _ hd)) t)
theorem xr(m:bL R)(G:OF X.K B0 B R H0 H σ δ)(s:Seen X.K R δ δ')(h:VT X c δ' kb)(qT:kb=true->∀H',OF X.K B0 B R H0 H' σ δ->Ce X body D σ H')(qF:kb=false->∀H',OF X.K B0 B R H0 H' σ δ->Ce X orelse D σ H'):
  cS X (.If c body orelse pos) D σ H:=λpins s0 I=>by
 let#[as,h1,h2,f1]:=G.Ir s;cases kb with
 |true=>refine w_ nG kG jy pins s0 σ H D I ?_;exact h _ H σ _ H _ f1 λC1 H1 g1=>OO (qT rfl H1 (G.go m (G.own.grow (.far G.fr.sub g1.big)) G.no))
 |false=>refine w_ nG jy kG pins s0 σ H D I ?_;exact h _ H σ _ H _ f1 λC1 H1 g1=>OL (qF rfl H1 (G.go m (G.own.grow (.far G.fr.sub g1.big)) G.no))
theorem Uq(m:bL R)(nt:N5 R)(G:OF X.K B0 B R H0 H σ δ)(j:Nat)(h:VC X B0 B R σ δ e d)(hn:noOwn (δ.set j (.val d))=true)(q:∀σ' cQ H',OF X.K B0 B R cQ H' σ' (δ.set j (.val d))->D.nx σ' H')(hN:X.N.Nodup)
  (hj:X.N[j]?>>y:=by rfl)(hx:Loc X.env.scope y:=by left)(lZ:A0 X pos e (.Name y px):=by rfl)(hf:yi X y:=by left):
  cS X (.Assign [.Name y px] e pos) D σ H:=λpins s I=>by refine rC (i:=j) hN hj hx cu lZ hf pins s σ H D I ?_;refine h H0 H G _ λv H1 cW g r=>?_;let G1:=G.go m (G.own.grow g) G.no;exact q _ H1 cW (G1.go m (G1.own.n_ (v:=v) (sl:=.val d) #[_,rfl,r] rfl) hn)
end
abbrev UV:=V->OR
def zv(K:aj)(S:Type)(PR:ay->S->OR)(ok:S->!ai->S->UV->Prop):Sp:=λvs H Q _=>∃(H0:Hp)(p:ay)(v2:!V)(as:!ay)(s s':S)(d2:!ai)(U:UV),vs=.ref p::v2/\cz H0 H/\bU K H0 v2 d2/\(∀a∈as,H0 a=none/\H a≠none)/\PR p s H0 H as/\ok s d2 s' U/\
 ∀(v:V)(cQ H':Hp)(as':!ay),cz H0 cQ->cz cQ H'->(∀a,cQ a≠none->H0 a≠none\/H a=none\/a∈as)->(∀b o,H b>>o->b∉as->H' b>>o)->(∀a∈as',cQ a=none/\H' a≠none/\(a∈as\/H a=none))->Sep (U v) (PR p s') cQ H' as'->Q v H'
def jQ(K:aj)(d:ai):UV:=λv H0 _ as=>as=[]/\Rep K H0 v d
theorem jQ.mono:bL (jQ K d v):=λ_ _ _ _ _ #[h1,h2] sm _=>#[h1,h2.mono sm]
theorem LR.nt:N5 (LR K a ds):=by rintro H0 H as ⟨rfl,xs,h1,_⟩ b hb;rw[aF.mp hb];unfold F9;rw[h1];exact λys=>#[nofun,λo=>nofun]
theorem LR.see:wA K (LR K a ds) a (.list ds):=by rintro Ha Hb as sb ⟨rfl,xs,h1,h2⟩;exact .lst (jb.of ([iU (by simp)]▸h1)) (h2.mono (jO sb))
section
variable{X:Cx}{B0 B H0 H:Hp}{σ:St}{D:Ends}{δ δ':!Slot}{p a b C dx:ay}{e c:bw}{es:!bw}{d:ai}{ds:!ai}{R F:OR}{body orelse:!eO}{pos px po p0 p1 pc pa apos:Pos}{x y fl:Str}{k:Nat}{fs:!(Str×V)}{xs:!V}{U:UV}
theorem Rn(i:Nat)(h:cE X e σ H (λv H'=>D.nx (σ.set i (some v)) H'))(hN:X.N.Nodup)(hi:X.N[i]?>>y:=by rfl)(hx:Loc X.env.scope y:=by left)(lZ:A0 X pos e (.Name y px):=by rfl)(hf:yi X y:=by left):
  cS X (.Assign [.Name y px] e pos) D σ H:=λpins s I=>rC (i:=i) hN hi hx cu lZ hf pins s σ H D I h
theorem Iu(h:cE X e σ H D.rt):cS X (.Return (some e) pos) D σ H:=λpins s I=>vW cu pins s σ H D I h
theorem PN(own:∀a∈as,H0 a=none/\H a≠none)(h:R H0 H as)(f:fQ X.K H0 H H0 H σ δ)(hn:noOwn δ=true):OF X.K H0 (mW as H) R H0 H σ δ:=
 #[f.re hn #[Ea,cz.refl _,f.sub,λ_ z=>.inl z],hn,as,λa ha=>#[(own a ha).1,vh ha,(own a ha).2],h]
theorem XC{Ha Hb:Hp}(G:OF X.K H0 (mW as H) R Ha Hb σ δ):∃as',cz H0 Ha/\cz Ha Hb/\(∀a,Ha a≠none->H0 a≠none\/H a=none\/a∈as)/\(∀b o,H b>>o->b∉as->Hb b>>o)/\(∀a∈as',Ha a=none/\Hb a≠none/\(a∈as\/H a=none))/\R Ha Hb as':=by
 let#[as',h1,h2]:=G.ex;let nb:∀b,mW as H b=none->H b=none\/b∈as:=λb z=>by
  by_cases hb:b∈as
  .exact .inr hb
  .rw[iN hb]at z;exact .inl z
 refine#[as',G.fr.ent.eD,G.fr.sub,λa z=>(G.fr.ent.new a z).imp id (nb a),λb o z hb=>G.fr.ent.big b o ([iN hb]▸z),λa ha=>?_,h2];let#[y1,y2,y3]:=h1 a ha;exact#[y1,y3,(nb a y2).symm]
theorem Mt{S:Type}{PR:ay->S->OR}{s s':S}(m:bL (PR p s))(mF:bL F)(G:OF X.K B0 B (Sep (PR p s) F) H0 H σ δ){Ha Hb:Hp}(g:dm H0 H Ha Hb)(q:∀v Hc Hd,OF X.K B0 B (Sep (U v) (Sep (PR p s') F)) Hc Hd σ δ->Q v Hd):
  ∃as,(∀a∈as,Ha a=none/\Hb a≠none)/\PR p s Ha Hb as/\∀(v:V)(cQ H':Hp)(as':!ay),cz Ha cQ->cz cQ H'->(∀a,cQ a≠none->Ha a≠none\/Hb a=none\/a∈as)->(∀b o,Hb b>>o->b∉as->H' b>>o)->(∀a∈as',cQ a=none/\H' a≠none/\(a∈as\/Hb a=none))->Sep (U v) (PR p s') cQ H' as'->Q v H':=by
 let G1:=G.go (Sep.mono m mF) (G.own.grow g) G.no;let#[as,G2,back]:=OF.frame mF G1;let#[_,h1,a1,a2,rfl,dj,h2,h3]:=G1.ex;let o1:∀a∈a1,Ha a=none/\B a=none/\Hb a≠none:=λa ha=>h1 a (bP _ ha);let o2:∀a∈a2,Ha a=none/\B a=none/\Hb a≠none:=λa ha=>h1 a (bD _ ha);refine#[a1,λa ha=>#[(o1 a ha).1,(o1 a ha).2.2],h2,λv cQ H' as' z1 z2 z3 z4 z5 z6=>q v cQ H' ?_];let keep:∀b∈a2,H' b=Hb b:=λb hb=>by
  cases e:Hb b with
  |none=>exact qQ7 e (o2 b hb).2.2
  |some o=>exact z4 b o e λz=>dj b z hb
 let nB:∀b,Hb b=none\/b∈a1->B b=none:=λb z=>z.elim (λz=>G1.fr.ent.big.free z) λz=>(o1 b z).2.1;let f:fQ X.K B0 B cQ H' σ δ:=by
  refine#[#[λb u z=>z4 b u (G1.fr.ent.big b u z) λy=>(by let:=(o1 b y).2.1;rw[z]at this;cases this),G1.fr.ent.eD.trans z1,z2,λb z=>?_],G1.fr.len,λj sl e=>?_,G1.fr.apart]
  .rcases z3 b z with y|y
   .exact G1.fr.ent.new b y
   .exact .inr (nB b y)
  .let qq:=G1.fr.slot j sl e;cases sl with
   |un=>trivial
   |ref _=>exact qq
   |val d=>let#[v,g1,g2]:=qq;exact#[v,g1,g2.mono z1]
   |own ds=>exact qQ7 e (fJ G1.no j ds)
 let#[u1,u2,rfl,dju,w1,w2]:=z6;let apart:∀a∈u1++u2,a∉a2:=λa ha hb=>by
  rcases(z5 a ha).2.2 with y|y
  .exact dj a y hb
  .exact(o2 a hb).2.2 y
 refine#[f,G1.no,u1++(u2++a2),λa ha=>?_,u1,u2++a2,rfl,λa ha hb=>?_,w1,u2,a2,rfl,λa ha=>apart a (by simp[ha]),w2,mF _ _ _ _ _ h3 z1 keep]
 .rw[<-dw]at ha;rcases aV.mp ha with ha|ha
  .let#[y1,y2,y3]:=z5 a ha;exact#[y1,nB a y3.symm,y2]
  .let#[y1,y2,y3]:=o2 a ha;refine#[?_,y2,[keep a ha]▸y3];cases z:cQ a with
   |none=>rfl
   |some o=>
    rcases z3 a (by rw[z];simp)with y|y|y
    .exact qQ7 y1 y
    .exact qQ7 y y3
    .exact qQ7 ha (dj a y)
 .rcases aV.mp hb with hb|hb
  .exact dju a ha hb
  .exact apart a (by simp[ha]) hb
theorem Iv{S:Type}{PR:ay->S->OR}{ok:S->!ai->S->UV->Prop}{s s':S}{f:Str}{ns:!Str}(M:bu X.prog X.w X.K X.mg X.base k f ns (zv X.K S PR ok))(hr:ei k X.A)(mR:bL (PR p s))(mF:bL F)(G:OF X.K B0 B (Sep (PR p s) F) H0 H σ δ)(i:Nat)(hi:δ[i]?>>(.ref p))(ha:VD X B0 B (Sep (PR p s) F) σ δ es ds)(hok:ok s ds s' U)
  (q:∀v Ha Hb,OF X.K B0 B (Sep (U v) (Sep (PR p s') F)) Ha Hb σ δ->Q v Hb)
  (hN:tE X i x:=by ac_rfl)
  (hg:Gl X f:=by rfl)(o6:uc f:=by decide)(he:starEach (.Name x p0::es) X.env=(false,eval (.Name x p0) X.env)::starEach es X.env:=by rfl)(lB:pU X pc es:=by rfl):
  cE X (.Call (.Name f p1) (.Name x p0::es) [] pc) σ H Q:=λpins s0 I=>by let#[fa,fd,Fn,hm,hk,hb]:=M;let#[t,pa,qa]:=ha;refine pX Fn hr hg hm hk hb .nil xj (cy (vL hN) pa he) o6 he lB pins s0 σ H Q I ?_;refine#[.ref p,G.fr.slot i _ hi,?_];refine qa H0 H G _ λvs H1 cW g rs=>?_;show zv _ _ _ _ ((V.ref p::vs) ++ []) _ _ _;rw[cn];let#[as,w1,w2,w3]:=Mt (U:=U) mR mF G g q;exact#[H1,p,vs,as,s,s',ds,U,rfl,g.sub,rs,w1,w2,hok,w3]
theorem OF.dat(m:bL R)(G:OF X.K B0 B (Sep (jQ X.K d v) R) H0 H σ δ):Rep X.K H0 v d/\OF X.K B0 B R H0 H σ δ:=by let#[_,h1,a1,a2,rfl,dj,#[rfl,h2],h3]:=G.ex;exact#[h2,G.fr,G.no,a2,λa ha=>h1 a ↑ha,h3]
theorem OF.zby(m:bL R)(G:OF X.K B0 B R H0 H σ δ)(i:Nat)(hn:noOwn (δ.set i (.ref a))=true):OF X.K B0 B R H0 H (σ.set i (some (.ref a))) (δ.set i (.ref a)):=G.go m (G.own.n_ (v:=.ref a) (sl:=.ref a) rfl rfl) hn
theorem OF.Ur(m:bL R)(G:OF X.K B0 B R H0 H σ δ)(i:Nat)(r:Rep X.K H0 v d)(hn:noOwn (δ.set i (.val d))=true):OF X.K B0 B R H0 H (σ.set i (some v)) (δ.set i (.val d)):=G.go m (G.own.n_ (v:=v) (sl:=.val d) #[_,rfl,r] rfl) hn
end
section
variable{X:Cx}{pins:!(ay×Obj)}{σ:St}{H:Hp}{s:aK}{a it:ay}{kvs:!(Key×V)}{o:Obj}{es:Array fU}{ep:Nat}
end
def DC(K:aj)(a:ay)(cs:!ay)(kl:!(Str×!ai)):OR:=λH0 H as=>as=a::cs/\(a::cs).Nodup/\H a>>(.dK (xq kl cs))/\Uj K H0 H kl cs
section
variable{K:aj}{B0 B H0 H Ha Hb:Hp}{σ:St}{δ:!Slot}{R R' F:OR}{a l x c:ay}{o:Obj}{cs as:!ay}{kl:!(Str×!ai)}{y:Str}{j:Nat}{ds es:!ai}{ys:!V}{q:Str×!ai}
theorem Uj.mono(h:Uj K H0 H kl cs)(sm:cz H0 Ha)(e:∀c∈cs,Hb c=H c):Uj K Ha Hb kl cs:=#[h.1,λi c q e1 e2=>by let#[xs,h1,h2]:=h.2 i c q e1 e2;exact#[xs,[e c (aP e1)]▸h1,h2.mono sm]]
theorem DC.mono:bL (DC K a cs kl):=λH0 H Ha Hb as #[e,nd,h1,h2] sm hb=>#[e,nd,by rw[hb a (by rw[e];simp)];exact h1,h2.mono sm λc hc=>hb c (by rw[e];simp[hc])]
theorem Uj.see(sb:cz Ha Hb)(h:Uj K Ha Hb kl cs)(hs:∀c∈cs,c∈as):bU K (kS as Hb Ha) (cs.map V.ref) (kl.map λq=>.list q.2):=wy h.1 λi c q e1 e2=>by let#[ys,y1,y2]:=h.2 i c q e1 e2;exact .lst (jb.of ([iU (hs c (aP e1))]▸y1)) (y2.mono (jO sb))
def VG(kl:!(Str×!ai)):!(Str×ai):=kl.map λq=>(q.1,oM q.2)
theorem DC.see:wA K (DC K a cs kl) a (iM (VG kl)):=by rintro Ha Hb as sb ⟨rfl,nd,h1,h2⟩;refine PJ (kvs:=xq kl cs) ([iU (by simp)]▸h1) (by rw[vg h2.1];unfold VG;rw[aG];rfl) ?_;rw[D9 h2.1];unfold VG;rw[aG];exact h2.see sb λc hc=>by simp[hc]
theorem DC.row(h:DC K a cs kl H0 H as)(hj:kl[j]?>>(y,ds))(hc:cs[j]?>>c)(r:bU K H0 ys es):DC K a cs (kl.set j (y,es)) H0 (upd H c (.lst ys)) as:=by
 let#[e,nd,h1,h2]:=h;let hcm:=aP hc;let nc:a≠c:=λz=>(cx.mp nd).1 ([z]▸hcm);let Gg:=(av.mp hj).1;refine#[e,nd,?_,[fZ]▸h2.1,λi b q e1 e2=>?_]
 .rw[aI nc,h1,D_ (kl:=kl.set j (y,es)) (kl':=kl)];let:=set_same (f:=Prod.fst) (y:=(y,es)) hj rfl;rw[jG];exact this.symm
 .by_cases vX:i=j
  .subst vX;rw[hc]at e1;cases e1;rw[aY Gg]at e2;cases e2;exact#[ys,aT,r]
  .rw[aS (bF vX)]at e2;let#[xs,w1,w2]:=h2.2 i b q e1 e2;refine#[xs,?_,w2];rw[aI]
   .exact w1
   .intro z;subst z;let nd2:=(cx.mp nd).2;exact vX ((List.getElem?_inj (av.mp e1).1 nd2).mp (e1.trans hc.symm))
theorem DC.push(h:DC K a cs kl H0 H as)(hy:y∉kl.map (·.1))(hl:l∉as)(hv:H l>>(.lst ys))(r:bU K H0 ys es):DC K a (cs ++ [l]) (kl ++ [(y,es)]) H0 (upd H a (.dK (putK (xq kl cs) (bf y) (.ref l)))) (as ++ [l]):=by
 let#[rfl,nd,h1,h2]:=h;let#[n1,n2]:=cx.mp nd;let Ro:l≠a:=λz=>hl (by simp[z]);let e1:putK (xq kl cs) (bf y) (.ref l)=xq (kl ++ [(y,es)]) (cs ++ [l]):=by
  let hn:¬((xq kl cs).any λz=>decide (z.1=(bf y:Key)))=true:=by rw[lV];rintro⟨z,hz,e⟩;let ZR:z.1∈(xq kl cs).map (·.1):=au.mpr #[z,hz,rfl];rw[qQ4 e,vg h2.1]at ZR;let#[w,hw,ew]:=au.mp ZR;exact hy (au.mpr #[w,hw,j9 ew])
  unfold putK;rw[qQ2 hn];unfold xq;rw[Af h2.1.symm,aQ];rfl
 refine#[rfl,?_,[e1]▸aT,by simp[h2.1],λi c q e2 e3=>?_]
 .refine cx.mpr #[λz=>?_,cJ.mpr #[n2,by simp,λb hb c hc=>?_]]
  .rcases aV.mp z with z|z
   .exact n1 z
   .exact Ro (aF.mp z).symm
  .rw[aF.mp hc];rintro rfl;exact hl (by simp[hb])
 .by_cases hi:i<cs.length
  .rw[bO hi]at e2;rw[bO ([<-h2.1]▸hi)]at e3;let#[xs,w1,w2]:=h2.2 i c q e2 e3;exact#[xs,by rw[aI λz=>n1 ([<-z]▸aP e2)];exact w1,w2]
  .let hi':i=cs.length:=by let:=(av.mp e2).1;rw[aX,i_]at this;omega
   subst hi';rw[bK (aE _),xV]at e2;rw[bK ([h2.1]▸aE _),h2.1,xV]at e3;cases e2;cases e3;exact#[ys,[aI Ro]▸hv,r]
theorem OF.putL{ob:HO}(mR:bL R)(mF:bL F)(G:OF K B0 B (Sep R F) H0 H σ δ)(g:dm H0 H Ha Hb)(hR:∀as,R Ha Hb as->x∈as/\∃as',(∀a∈as',a∈as)/\R' Ha (upd Hb x ob) as'):OF K B0 B (Sep R' F) Ha (upd Hb x ob) σ δ:=by
 refine G.put (Sep.mono mR mF) g ?_;rintro _ ⟨a1,a2,rfl,dj,h1,h2⟩;let#[hx,as',s1,r']:=hR a1 h1;refine#[bP _ hx,as'++a2,λa ha=>?_,as',a2,rfl,λa ha=>dj a (s1 a ha),r',mF _ _ _ _ _ h2 (cz.refl _) λa ha=>aI λz=>dj x hx ([<-z]▸ha)];rcases aV.mp ha with ha|ha
 .exact bP _ (s1 a ha)
 .exact bD _ ha
theorem OF.XD{ob ob':HO}(mR:bL R)(mF:bL F)(G:OF K B0 B (Sep R F) H0 H σ δ)(g:dm H0 H Ha Hb)(hl:H l=none)(Cm:Ha l=none)(hl3:Hb l>>ob)(hR:∀as,l∉as->R Ha Hb as->x∈as/\∃as',(∀a∈as',a=l\/a∈as)/\R' Ha (upd Hb x ob') as'):OF K B0 B (Sep R' F) Ha (upd Hb x ob') σ δ:=by
 let#[_,h0,a1,a2,rfl,dj,h1,h2]:=G.ex;let G1:=G.go (Sep.mono mR mF) (G.own.grow g) G.no;let Ro:l∉a1++a2:=λz=>(h0 l z).2.2 hl;let h0':∀a∈a1++a2,Ha a=none/\B a=none/\Hb a≠none:=λa ha=>by
  let#[y1,y2,y3]:=h0 a ha;cases z:H a with
  |none=>exact qQ7 z y3
  |some o=>exact#[g.still y1 z,y2,[g.big _ _ z]▸nofun]
 let kp:∀a∈a1++a2,Hb a=H a:=λa ha=>g.big.eq (h0 a ha).2.2;let#[hx,as',s1,r']:=hR a1 (λz=>Ro (bP _ z)) (mR _ _ _ _ _ h1 g.eD λa ha=>kp a (bP _ ha));let#[z1,z2,z3]:=h0' x (bP _ hx);refine#[G1.fr.touch z1 z2 (fJ G1.no),G1.no,as'++a2,λb hb=>?_,as',a2,rfl,λb hb Kz=>?_,r',mF _ _ _ _ _ h2 g.eD λa ha=>by rw[aI λz=>dj x hx ([<-z]▸ha)];exact kp a (bD _ ha)]
 .let Pk:b=l\/b∈a1++a2:=by
   rcases aV.mp hb with hb|hb
   .exact(s1 b hb).imp id λz=>bP _ z
   .exact .inr (bD _ hb)
  rcases Pk with rfl|hb
  .exact#[Cm,G.fr.ent.big.free hl,by rw[aI λz:b=x=>Ro ([z]▸bP _ hx),hl3];exact nofun]
  .let#[w1,w2,w3]:=h0' b hb;refine#[w1,w2,?_];by_cases e:b=x
   .subst e;rw[aT];exact nofun
   .rw[aI e];exact w3
 .rcases s1 b hb with rfl|hb
  .exact Ro (bD _ Kz)
  .exact dj b hb Kz
theorem OF.at(G:OF K B0 B (Sep R F) H0 H σ δ):∃as,(∀a∈as,H0 a=none/\B a=none/\H a≠none)/\R H0 H as:=by let#[_,h0,a1,a2,rfl,dj,h1,h2]:=G.ex;exact#[a1,λa ha=>h0 a (bP _ ha),h1]
end
section
variable{X:Cx}{B0 B H0 H:Hp}{σ:St}{D:Ends}{δ:!Slot}{a:ay}{o:Obj}{cs:!ay}{kl:!(Str×!ai)}{F:OR}{rest body:!eO}{e:bw}{x y:Str}{px py tp apos nY pos:Pos}{kk}
end
def Gh(N:!Str)(p:ay)(ds:!ai):!Slot:=.ref p::oT N.tail ds
theorem Bn:∀{N:!Str}{ds:!ai},noOwn (oT N ds)=true:=λ{N ds}=>by unfold noOwn oT;rw[List.all_append,gy,cO,cO];exact#[λx hx=>by let#[d,_,rfl]:=au.mp hx;rfl,λx hx=>by rw[(iQ.mp hx).2];rfl]
theorem JM{vs:!V}(s:cz H0 H)(r:bU K H0 vs ds)(hN:N≠[]):fQ K H0 H H0 H (start N (.ref p::vs)) (Gh N p ds):=by
 let f:=fQ.start (N:=N.tail) s r;let e:start N (.ref p::vs)=some (.ref p)::start N.tail vs:=by
  cases N with
  |nil=>exact qQ7 rfl hN
  |cons x N=>unfold L2.start;simp
 rw[e];refine#[.refl s,by show _+1=_+1;rw[f.len],λi sl h=>?_,λi j a b q _ h=>?_]
 .cases i with
  |zero=>cases h;rfl
  |succ i=>exact f.slot i sl h
 .cases i with
  |zero=>cases h
  |succ i=>exact qQ7 (show(oT N.tail ds)[i]?=some (.own a)from h) (fJ Bn i a)
abbrev XF(P:bx)(w:b_)(K:aj)(mg:Str->Option aA)(base:cI)(N:!Str)(qual:Str)(st:eO)(f:ay)(k:Nat)(R:OR)(W:UV)(p:ay)(ds:!ai):Prop:=
 ∀gu A outer s H E,ei k (A.deeper (envOfC qual (bG st) s.heap.objs.size f gu))->∀B0 B H0 Hh σ (D:Ends),OF K B0 B R H0 Hh σ (Gh N p ds)->(∀v σ' δ' Ha Hb,OF K B0 B (W v) Ha Hb σ' δ'->D.rt v Hb)->(∀σ' δ' Ha Hb,OF K B0 B (W .non) Ha Hb σ' δ'->D.nx σ' Hb)->Ce (B4 jL P w K mg base N qual (bG st) f gu A outer s H E).Q6 (lD st) D σ Hh
theorem Mu{qual: Str}{S:Type}{PR:ay->S->OR}{ok:S->!ai->S->UV->Prop}(F:kE K x qual st f fd)(Sc:cw N ps (bG st))(hN:N≠[])(hl:∀s d2 s' U,ok s d2 s' U->d2.length+1=ps.length)(hb:∀p s d2 s' U,ok s d2 s' U->XF P w K mg base N qual st f k (PR p s) (λv=>Sep (U v) (PR p s')) p d2):dZ P w K mg base jL (k+1) f fd ps (zv K S PR ok):=by
 refine F.ok Sc (λvs H Q E h=>?_) (λgu A outer s0 H vs Q E hr h=>?_)
 .let#[H0,p,v2,as,s,s',d2,U,rfl,sm,r2,own,W,hok,q]:=h;rw[bH,r2.length];exact hl _ _ _ _ hok
 .let#[H0,p,v2,as,s,s',d2,U,rfl,sm,r2,own,W,hok,q]:=h;let fin:∀v σ' δ' Ha Hb,OF K H0 (mW as H) (Sep (U v) (PR p s')) Ha Hb σ' δ'->Q v Hb:=λv σ' δ' Ha Hb G=>by let G':OF (B4 jL P w K mg base N qual (bG st) f gu A outer s0 H E).Q6.K H0 (mW as H) (Sep (U v) (PR p s')) Ha Hb σ' δ':=G;let#[as',z1,z2,z3,z4,z5,z6]:=XC G';exact q v Ha Hb as' z1 z2 z3 z4 z5 z6
  let v7:noOwn (Gh N p d2)=true:=by show noOwn (.ref p::oT N.tail d2)=true;let:=Bn (N:=N.tail) (ds:=d2);unfold noOwn at this ⊢;rw[List.all_cons,this];rfl
  exact#[_,kG,hb p s d2 s' U hok gu A outer s0 H E hr H0 (mW as H) H0 H _ _ (PN (X:=(B4 jL P w K mg base N qual (bG st) f gu A outer s0 H E).Q6) own W (JM sm r2 hN) v7) fin λσ' δ' Ha Hb G=>fin _ _ _ _ _ G]
theorem DL.of{cs:!ay}(h:DC K a cs kl H0 H as):DL K a kl H0 H as:=#[cs,h.1,h.2.1,h.2.2.1,h.2.2.2]
theorem DL.dc(h:DL K a kl H0 H as):∃cs,DC K a cs kl H0 H as:=let#[cs,h1,h2,h3,h4]:=h;#[cs,h1,h2,h3,h4]
theorem DL.see:wA K (DL K a kl) a (iM (VG kl)):=λ_ _ _ sb h=>let#[_,z]:=h.dc;DC.see _ _ _ sb z
section
variable{K:aj}{B0 B H0 H Ha Hb:Hp}{σ:St}{δ:!Slot}{R R' F:OR}{l a:ay}{ob:HO}{kl:!(Str×!ai)}
theorem OF.add(m:bL R)(G:OF K B0 B R H0 H σ δ)(g:dm H0 H Ha Hb)(h1:H l=none)(h2:Ha l=none)(h3:Hb l>>ob)(hR:R' Ha Hb [l]):OF K B0 B (Sep R' R) Ha Hb σ δ:=
 G.new m (λas hn _=>#[[l],λa ha=>[aF.mp ha]▸#[h1,h2,[h3]▸nofun],hR]) g
theorem OF.zbA(G:OF K B0 B (Sep F R) H0 H σ δ)(h:∀as,R H0 H as->R' H0 H as):OF K B0 B (Sep F R') H0 H σ δ:=G.imp λ_ #[a1,a2,e,dj,z1,z2]=>#[a1,a2,e,dj,z1,h a2 z2]
theorem OF.dlx(G:OF K B0 B (Sep (DL K a kl) F) H0 H σ δ):∃cs,OF K B0 B (Sep (DC K a cs kl) F) H0 H σ δ:=by let#[as,h,a1,a2,e,dj,z1,z2]:=G.ex;let#[cs,z]:=z1.dc;exact#[cs,G.fr,G.no,as,h,a1,a2,e,dj,z,z2]
end
section
variable{X:Cx}{B0 B H0 H:Hp}{σ:St}{D:Ends}{δ δ':!Slot}{p a:ay}{e c:bw}{d:ai}{ds es:!ai}{R F:OR}{pos px p0 pc pa:Pos}{x y:Str}{k:Nat}{kl:!(Str×!ai)}{kv:!(Str×ai)}{P:Hp->HO->Prop}
theorem Gi{R':ay->OR}(m:bL R)(m':∀l,bL (R' l))(G:OF X.K B0 B R H0 H σ δ)(j:Nat)(hv:VF X σ H0 H e P)(hP:∀l o Ha Hb,P Ha o->Hb l>>o->R' l Ha Hb [l])(hn:∀l,noOwn (δ.set j (.ref l))=true)(q:∀l σ' cQ H',OF X.K B0 B (Sep (R' l) R) cQ H' σ' (δ.set j (.ref l))->D.nx σ' H')(hN:X.N.Nodup)
  (hj:X.N[j]?>>y:=by rfl)(hx:Loc X.env.scope y:=by left)(lZ:A0 X pos e (.Name y px):=by rfl)(hf:yi X y:=by left):
  cS X (.Assign [.Name y px] e pos) D σ H:=Rn j (hv _ λl o Ha Hb g z1 z2 z3 z4=>by let G1:=G.add (R':=R' l) m g z1 z2 z3 (hP l o Ha Hb z4 z3);exact q l _ Ha Hb (G1.zby (Sep.mono (m' l) m) j (hn l))) hN hj hx lZ hf
theorem qe(G:OF X.K B0 B R H0 H σ δ)(h:VO X e δ ds):VF X σ H0 H e (λHa o=>∃xs,o=.lst xs/\bU X.K Ha xs ds):=PL G.own h
theorem CB(m:bL R)(G:OF X.K B0 B R H0 H σ δ)(j:Nat)(hv:VF X σ H0 H e (λHa o=>∃xs,o=.lst xs/\bU X.K Ha xs ds))(hn:∀l,noOwn (δ.set j (.ref l))=true)(q:∀l σ' cQ H',OF X.K B0 B (Sep (LR X.K l ds) R) cQ H' σ' (δ.set j (.ref l))->D.nx σ' H')(hN:X.N.Nodup)
  (hj:X.N[j]?>>y:=by rfl)(hx:Loc X.env.scope y:=by left)(lZ:A0 X pos e (.Name y px):=by rfl)(hf:yi X y:=by left):
  cS X (.Assign [.Name y px] e pos) D σ H:=Gi m (λ_=>LR.mono) G j hv (λl o Ha Hb #[xs,e,r] h=>#[rfl,xs,by rw[h,e],r]) hn q hN hj hx lZ hf
theorem Us(m:bL R)(G:OF X.K B0 B R H0 H σ δ)(j:Nat)(hn:∀l,noOwn (δ.set j (.ref l))=true)(q:∀l σ' cQ H',OF X.K B0 B (Sep (DL X.K l []) R) cQ H' σ' (δ.set j (.ref l))->D.nx σ' H')(hN:X.N.Nodup)
  (hj:X.N[j]?>>y:=by rfl)(hx:Loc X.env.scope y:=by left)(lZ:A0 X pos (.Dict [] [] pc) (.Name y px):=by rfl)(hf:yi X y:=by left):
  cS X (.Assign [.Name y px] (.Dict [] [] pc) pos) D σ H:=Gi m (λ_=>DL.mono) G j (PK G.fr.sub) (λl o Ha Hb e h=>#[[],rfl,by simp,by rw[h,e];rfl,rfl,λi c q e1=>by simp at e1]) hn q hN hj hx lZ hf
theorem Mv(f:fQ X.K B0 B H0 H σ δ)(i:Nat)(hi:δ[i]?>>(.ref a))(q:D.rt (.ref a) H)(hN:tE X i x:=by ac_rfl):
  cS X (.Return (some (.Name x px)) pos) D σ H:=λpins s I=>vW (vL hN) pins s σ H D I #[_,f.slot i _ hi,q]
end
section
variable{K:aj}{R R1 F:OR}{p:ay}{d:ai}
end
section
variable{X:Cx}{B0 B H0 H:Hp}{σ:St}{D:Ends}{δ:!Slot}{r a C dx:ay}{e ek:bw}{d:ai}{es:!ai}{R:OR}{pos px po ps:Pos}{x fl z:Str}{k:Nat}{kl:!(Str×!ai)}{kv:!(Str×ai)}{P:Hp->HO->Prop}{fs:!(Str×V)}
end
section
variable{X:Cx}{B0 B H0 H:Hp}{σ:St}{D:Ends}{δ:!Slot}{a:ay}{e e1 e2 ek c tg iter:bw}{d d1 d2:ai}{ds es:!ai}{R F:OR}{pos px po p0 p1 pc pa ps pj apos nY:Pos}{x y z:Str}{k:Nat}{kl:!(Str×!ai)}{kv:!(Str×ai)}{body orelse:!eO}{ns:!Int}{g:Int}{U:UV}
end
def EM:OR:=λ_ _ as=>as=[]
theorem EM.mono:bL EM:=λ_ _ _ _ _ h _ _=>h
theorem EM.nt:N5 EM:=λ_ _ as h a ha=>by rw[show as=[]from h]at ha;cases ha
section
variable{K:aj}{B0 B H0 H:Hp}{σ:St}{δ:!Slot}{R:OR}
theorem OF.em(G:OF K B0 B R H0 H σ δ):OF K B0 B (Sep R EM) H0 H σ δ:=by let#[as,h1,h2]:=G.ex;exact#[G.fr,G.no,as,h1,as,[],(cn _).symm,λa _ h=>(by cases h),h2,rfl]
theorem OF.em'(G:OF K B0 B (Sep R EM) H0 H σ δ):OF K B0 B R H0 H σ δ:=by let#[as,h1,a1,a2,e,_,h2,h3]:=G.ex;let h3:a2=[]:=h3;subst h3;rw[cn]at e;subst e;exact#[G.fr,G.no,_,h1,h2]
end
section
variable{X:Cx}{B0 B H0 H:Hp}{σ:St}{D:Ends}{δ δ':!Slot}{R:OR}{e:bw}{ds:!ai}{body orelse:!eO}{pos p1:Pos}
end
section
variable{X:Cx}{B0 B H0 H:Hp}{σ:St}{D:Ends}{δ δ':!Slot}{R:OR}{sc:jx}{own N:!Str}{cap:!Nat}{cl:!(Str×ay)}{tg iter elt:bw}{tgt:Du}{ifs:!bw}{ds es:!ai}{x:Str}{px pos nZ:Pos}
theorem Ut(m:bL R)(nt:N5 R)(G:OF X.K B0 B R H0 H σ δ)(s:Seen X.K R δ δ')(i:Nat){F:ai->Option ai}(hc:X.calm=true)(CS:h_ X sc own cap N cl)(hi:VI X tg iter δ' ds)(hg:∀f s3 H3,PG (eQ X sc N cl f s3 H3) tg (F1 X.K tgt))(ht:pw own.length tgt=true)(hz:ds.length<=sizeLine)
  (step:∀d∈ds,y0 X sc own cap N cl tgt elt ifs δ' F d)(he:ds.filterMap F=es)(hd:∀d∈es,AI d)(hn:noOwn (δ.set i (.val (.list es)))=true)(q:∀σ' cQ H',OF X.K B0 B R cQ H' σ' (δ.set i (.val (.list es)))->D.nx σ' H')(hN:X.N.Nodup)(Lr:X.N[i]?>>x:=by rfl)(hx:Loc X.env.scope x:=by left)
  (lZ:swapsWith (.ListComp elt [#[tg,iter,ifs,0]] sc pos) (some (.Name x px)) nZ.line X.env=pure true:=by rfl)(hs:Fx X iter:=by intro _;rfl)(hf:yi X x:=by left):
  cS X (.Assign [.Name x px] (.ListComp elt [#[tg,iter,ifs,0]] sc pos) nZ) D σ H:=λpins s0 I=>by
 let#[wi,pi,qi]:=hi;refine p_ (i:=i) (tc:=Xa X sc N cl ifs) (te:=teC X sc N cl elt) hN Lr hx hc CS pi hg (λf s3 H3 pins s σ H Q I h=>h f s3 H3 pins s I) (λf s3 H3 pins s σ H Q I h=>h f s3 H3 pins s I) lZ hs hf pins s0 σ H D I ?_;let#[as,h1,h2,f1]:=G.Ir s;refine qi _ H σ _ H _ f1 λJ C1 cW g it=>?_;refine rO ht hz step (f1.grow g) it λp xs C2 fG g2 a1 a2 a3 a4=>?_;let gg:=g.trans g2;let hp:H p=none:=g.big.free a1;let hpa:p∉as:=λz=>(h1 p z).2.2 hp;let g3:=G.Up h1 gg;let r3:bU X.K (mW as C2) xs es:=bU.out (XB nt h1 h2 gg.eD) hd ([<-he]▸a4);let z2:mW as C2 p=none:=[iN hpa]▸a2;generalize mW as C2=Ha at *;let sm:cz Ha (upd Ha p (.lst xs)):=λb u e=>[aI (bB e z2)]▸e;let g4:dm H0 H (upd Ha p (.lst xs)) fG:=#[g3.big,g3.eD.trans sm,λb u e=>by
  by_cases hb:b=p
  .subst hb;rw[aT]at e;rw[a3];exact e
  .rw[aI hb]at e;exact g3.sub b u e,λb e=>by
  by_cases hb:b=p
  .subst hb;exact .inr hp
  .rw[aI hb]at e;exact g3.new b e];exact q _ _ _ ((G.go m (G.own.grow g4) G.no).Ur m i (.lst (jb.of aT) (r3.mono sm)) hn)
end
end L2
namespace L2
open PySem PySem.Spec PyProof.Rows PySem.W
variable{a p:ay}{kb:Bool}{X:Cx}{D:Ends}{tg:bw}{H H0:Hp}{l:!((Str×Str)×Int)}{es:!bw}{ds:!ai}{δ:!Slot}{body:!eO}{ns:!Str}{vs xs:!V}{k:Nat}{R R':OR}{Q:Option aA->aK->Prop}{p0 p1 pc pos pt DG px:Pos}{d:ai}{K:aj}{r:R2}{f x y z:Str}{tn:String}{tgt:Du}{w:b_}
section
variable{X:Cx}{B0 B H0 H:Hp}{σ:St}{δ:!Slot}{R S1 S2 F:OR}{a b e:bw}{d d1 d2:ai}{pos:Pos}
theorem OF.tr{A C D:OR}(mC:bL C)(G:OF X.K B0 B (Sep A (Sep C D)) H0 H σ δ):OF X.K B0 B (Sep C (Sep A D)) H0 H σ δ:=by let#[as,g,back]:=OF.frame mC G.rot.swap;exact(back g.swap).swap
def XE(X:Cx)(B0 B:Hp)(σ:St)(δ:!Slot)(R:OR)(e:bw)(R':OR)(d:ai):Prop:=
 ∀(F:OR),bL F->∀H0 H,OF X.K B0 B (Sep R F) H0 H σ δ->∀Q:V->Hp->Prop,(∀v Ha Hb,OF X.K B0 B (Sep (jQ X.K d v) (Sep R' F)) Ha Hb σ δ->Q v Hb)->cE X e σ H Q
theorem OF.newD{v:V}(m:bL R)(G:OF X.K B0 B R H0 H σ δ){Ha Hb:Hp}(g:dm H0 H Ha Hb)(r:Rep X.K Ha v d):OF X.K B0 B (Sep (jQ X.K d v) R) Ha Hb σ δ:=
 OF.new m G (λ_ _ _=>#[[],(λa ha=>by cases ha),rfl,r]) g
theorem gZ(m:bL R)(h:VE X e δ d):XE X B0 B σ δ R e R d:=λF mF H0 H G Q q=>h H0 H σ H0 H Q G.own λv Ha Hb g r=>q v Ha Hb (G.newD (Sep.mono m mF) g r)
theorem XG(pe:PE X e (Vo r (cE X a) (cE X b)))(hd:yT X.K r d1 d2 d)(m1:bL S1)(m2:bL S2)(h1:XE X B0 B σ δ R a S1 d1)(h2:XE X B0 B σ δ S1 b S2 d2):XE X B0 B σ δ R e S2 d:=λF mF H0 H G Q q pins s I=>
 pe pins s σ H Q I (h1 F mF H0 H G _ λv Ha Hb G1=>h2 (Sep (jQ X.K d1 v) F) (Sep.mono jQ.mono mF) Ha Hb (G1.tr m1) _ λu Hc Hd G2=>by let#[r2,G3]:=G2.dat (Sep.mono m2 (Sep.mono jQ.mono mF));let#[r1,G4]:=(G3.tr jQ.mono).dat (Sep.mono m2 mF);exact hd v u Hc Hd Q G4.fr.sub r1 r2 λw He Hf g r3=>q w He Hf (G4.newD (Sep.mono m2 mF) g r3))
theorem tS{op:Operator}(ho:sN X (binaryOp op) r)(hd:yT X.K r d1 d2 d)(m1:bL S1)(m2:bL S2)(h1:XE X B0 B σ δ R a S1 d1)(h2:XE X B0 B σ δ S1 b S2 d2):XE X B0 B σ δ R (.BinOp a op b pos) S2 d:=XG (DH ho cu cu) hd m1 m2 h1 h2
theorem Bo(ho:K7 X r)(hd:yT X.K r d1 d2 d)(m1:bL S1)(m2:bL S2)(h1:XE X B0 B σ δ R a S1 d1)(h2:XE X B0 B σ δ S1 b S2 d2)(hs:oo b:=by intro _ _;rfl):XE X B0 B σ δ R (.Subscript a b pos) S2 d:=XG (K8 ho cu cu hs) hd m1 m2 h1 h2
theorem CD{S:Type}{PR:ay->S->OR}{ok:S->!ai->S->UV->Prop}{s s':S}(M:bu X.prog X.w X.K X.mg X.base k f ns (zv X.K S PR ok))(hr:ei k X.A)(mR:bL (PR p s))(i:Nat)(hi:δ[i]?>>(.ref p))(ha:∀F,bL F->VD X B0 B (Sep (PR p s) F) σ δ es ds)(hok:ok s ds s' (jQ X.K d))
  (hN:tE X i x:=by ac_rfl)
  (hg:Gl X f:=by rfl)(o6:uc f:=by decide)(he:starEach (.Name x p0::es) X.env=(false,eval (.Name x p0) X.env)::starEach es X.env:=by rfl)(lB:pU X pc es:=by rfl):
  XE X B0 B σ δ (PR p s) (.Call (.Name f p1) (.Name x p0::es) [] pc) (PR p s') d:=λF mF H0 H G Q q=>Iv M hr mR mF G i hi (ha F mF) hok q hN hg o6 he lB
def Mw(K:aj)(ds:!ai)(vs:!V):OR:=λH0 _ as=>as=[]/\bU K H0 vs ds
theorem OF.Mx(G:OF X.K B0 B (Sep (Mw X.K ds vs) R) H0 H σ δ):bU X.K H0 vs ds/\OF X.K B0 B R H0 H σ δ:=by let#[_,h1,a1,a2,rfl,dj,#[rfl,h2],h3]:=G.ex;exact#[h2,G.fr,G.no,a2,λa ha=>h1 a ↑ha,h3]
theorem OF.Rp(m:bL R)(G:OF X.K B0 B R H0 H σ δ){Ha Hb:Hp}(g:dm H0 H Ha Hb)(r:bU X.K Ha vs ds):OF X.K B0 B (Sep (Mw X.K ds vs) R) Ha Hb σ δ:=
 OF.new m G (λ_ _ _=>#[[],(λa ha=>by cases ha),rfl,r]) g
def XA(X:Cx)(B0 B:Hp)(σ:St)(δ:!Slot)(R:OR)(es:!bw)(R':OR)(ds:!ai):Prop:=
 ∃t,PA X es t/\∀(F:OR),bL F->∀H0 H,OF X.K B0 B (Sep R F) H0 H σ δ->∀Q:!V->Hp->Prop,(∀vs Ha Hb,OF X.K B0 B (Sep (Mw X.K ds vs) (Sep R' F)) Ha Hb σ δ->Q vs Hb)->t σ H Q
theorem k9(m:bL R):XA X B0 B σ δ R [] R []:=#[_,dF,λF mF H0 H G Q q=>q [] H0 H (G.Rp (Sep.mono m mF) (.refl G.fr.sub) .nil)]
theorem eI(m1:bL S1)(m2:bL S2)(h:XE X B0 B σ δ R e S1 d)(ha:XA X B0 B σ δ S1 es S2 ds)(he:kB X e es:=by rfl):XA X B0 B σ δ R (e::es) S2 (d::ds):=by let#[t,pt,qt]:=ha;refine#[_,cy cu pt he,λF mF H0 H G Q q=>h F mF H0 H G _ λv Ha Hb G1=>qt (Sep (jQ X.K d v) F) (Sep.mono jQ.mono mF) Ha Hb (G1.tr m1) _ λvs Hc Hd G2=>?_];let#[rs,G3]:=G2.Mx;let#[r,G4]:=(G3.tr jQ.mono).dat (Sep.mono m2 mF);exact q (v::vs) Hc Hd (G4.Rp (Sep.mono m2 mF) (.refl G4.fr.sub) (.cons r rs))
theorem zx{x1}(m:bL S1)(h:XA X B0 B σ δ R es S1 ds)(hz:ds.length<=sizeLine:=by(simp only[dU];rw[cM];decide)):XE X B0 B σ δ R (.Tuple es x1 pos) S1 (.tuple ds):=by
 let#[t,p,ht]:=h;exact λF mF H0 H G Q q pins s I=>yM p pins s σ H Q I (ht F mF H0 H G _ λvs Ha Hb G1=>by let#[rs,G2]:=G1.Mx;exact#[[rs.length]▸hz,λa ha=>q _ _ _ (G2.newD (Sep.mono m mF) (.laid G2.fr.sub ha) (.tup (nV.of aT) (rs.mono (dm.laid G2.fr.sub ha).eD)))])
theorem XH(m:bL S1)(h:XA X B0 B σ δ R es S1 ds)(hz:ds.length<=sizeLine:=by(simp only[dU];rw[cM];decide)):XE X B0 B σ δ R (.List es pos) S1 (.list ds):=by
 let#[t,p,ht]:=h;exact λF mF H0 H G Q q pins s I=>vZ p pins s σ H Q I (ht F mF H0 H G _ λvs Ha Hb G1=>by let#[rs,G2]:=G1.Mx;exact#[[rs.length]▸hz,λa ha=>q _ _ _ (G2.newD (Sep.mono m mF) (.laid G2.fr.sub ha) (.lst (jb.of aT) (rs.mono (dm.laid G2.fr.sub ha).eD)))])
theorem yv{S:Type}{PR:ay->S->OR}{ok:S->!ai->S->UV->Prop}{s s1 s':S}(M:bu X.prog X.w X.K X.mg X.base k f ns (zv X.K S PR ok))(hr:ei k X.A)(mR:bL (PR p s1))(i:Nat)(hi:δ[i]?>>(.ref p))(ha:XA X B0 B σ δ (PR p s) es (PR p s1) ds)(hok:ok s1 ds s' (jQ X.K d))
  (hN:tE X i x:=by ac_rfl)
  (hg:Gl X f:=by rfl)(o6:uc f:=by decide)(he:starEach (.Name x p0::es) X.env=(false,eval (.Name x p0) X.env)::starEach es X.env:=by rfl)(lB:pU X pc es:=by rfl):
  XE X B0 B σ δ (PR p s) (.Call (.Name f p1) (.Name x p0::es) [] pc) (PR p s') d:=λF mF H0 H G Q q pins s0 I=>by let#[fa,fd,Fn,hm,hk,hb]:=M;let#[t,pa,qa]:=ha;refine pX Fn hr hg hm hk hb .nil xj (cy (vL hN) pa he) o6 he lB pins s0 σ H Q I ?_;refine#[.ref p,G.fr.slot i _ hi,?_];refine qa F mF H0 H G _ λvs H1 cW G1=>?_;let#[rs,G2]:=G1.Mx;show zv _ _ _ _ ((V.ref p::vs) ++ []) _ _ _;rw[cn];let#[as,w1,w2,w3]:=Mt (U:=jQ X.K d) mR mF G2 (.refl G2.fr.sub) q;exact#[H1,p,vs,as,s1,s',ds,jQ X.K d,rfl,G2.fr.sub,rs,w1,w2,hok,w3]
theorem uq(mE:bL R')(h:XE X B0 B σ δ R e R' d)(G:OF X.K B0 B R H0 H σ δ){Q:V->Hp->Prop}(q:∀v Ha Hb,Rep X.K Ha v d->OF X.K B0 B R' Ha Hb σ δ->Q v Hb):cE X e σ H Q:=
 h EM EM.mono H0 H G.em Q λv Ha Hb G1=>by let#[r,G2]:=G1.dat (Sep.mono mE EM.mono);exact q v Ha Hb r G2.em'
theorem j0(i:Nat)(mE:bL R')(h:XE X B0 B σ δ R e R' d)(G:OF X.K B0 B R H0 H σ δ)(v7:noOwn (δ.set i (.val d))=true)(q:∀v Ha Hb,OF X.K B0 B R' Ha Hb (σ.set i (some v)) (δ.set i (.val d))->D.nx (σ.set i (some v)) Hb)
  (hN:X.N.Nodup)(hi:X.N[i]?>>y:=by rfl)(hx:Loc X.env.scope y:=by left)(lZ:A0 X pos e (.Name y px):=by rfl)(hf:yi X y:=by left):
  cS X (.Assign [.Name y px] e pos) D σ H:=Rn i (uq mE h G λv Ha Hb r G2=>q v Ha Hb (G2.Ur mE i r v7)) hN hi hx lZ hf
def XT(X:Cx)(B0 B:Hp)(σ:St)(δ:!Slot)(R:OR)(c:bw)(R':OR)(kb:Bool):Prop:=
 ∀(F:OR),bL F->∀H0 H,OF X.K B0 B (Sep R F) H0 H σ δ->∀Q:Bool->Hp->Prop,(∀Ha Hb,OF X.K B0 B (Sep R' F) Ha Hb σ δ->Q kb Hb)->cT X c σ H Q
theorem Uu{op:Dm}(ho:sN X (compareOp op) r)(hd:yT X.K r d1 d2 (.bool kb))(m1:bL S1)(m2:bL S2)(h1:XE X B0 B σ δ R a S1 d1)(h2:XE X B0 B σ δ S1 b S2 d2)(hm:behindInMarks op b=false):XT X B0 B σ δ R (.Compare a [op] [b] pos) S2 kb:=λF mF H0 H G Q q pins s I=>
 B2 ho cu cu hm pins s σ H Q I (h1 F mF H0 H G _ λv Ha Hb G1=>h2 (Sep (jQ X.K d1 v) F) (Sep.mono jQ.mono mF) Ha Hb (G1.tr m1) _ λu Hc Hd G2=>by let#[r2,G3]:=G2.dat (Sep.mono m2 (Sep.mono jQ.mono mF));let#[r1,G4]:=(G3.tr jQ.mono).dat (Sep.mono m2 mF);exact hd v u Hc Hd _ G4.fr.sub r1 r2 λw He Hf g r3=>by cases r3;exact#[_,rfl,q He Hf (G4.newD (d:=.none) (v:=.non) (Sep.mono m2 mF) g .non |>.dat (Sep.mono m2 mF)).2])
theorem XJ{c:bw}{orelse: !eO}(mE:bL R')(h:XT X B0 B σ δ R c R' kb)(G:OF X.K B0 B R H0 H σ δ)(qT:kb=true->∀Ha Hb,OF X.K B0 B R' Ha Hb σ δ->Ce X body D σ Hb)(qF:kb=false->∀Ha Hb,OF X.K B0 B R' Ha Hb σ δ->Ce X orelse D σ Hb):
  cS X (.If c body orelse pos) D σ H:=λpins s0 I=>by
 cases kb with
 |true=>refine w_ nG kG jy pins s0 σ H D I ?_;exact h EM EM.mono H0 H G.em _ λHa Hb G1=>OO (qT rfl Ha Hb G1.em')
 |false=>refine w_ nG jy kG pins s0 σ H D I ?_;exact h EM EM.mono H0 H G.em _ λHa Hb G1=>OL (qF rfl Ha Hb G1.em')
theorem zy{pa: Pos}{a:ay}(mR:bL R)(mE:bL R')(G:OF X.K B0 B (Sep (LR X.K a ds) R) H0 H σ δ)(i:Nat)(hi:δ[i]?>>(.ref a))(h:XE X B0 B σ δ R e R' d)(hl:ds.length<sizeLine)(q:∀Ha Hb,OF X.K B0 B (Sep (LR X.K a (ds ++ [d])) R') Ha Hb σ δ->D.nx σ Hb)
  (hN:tE X i x:=by ac_rfl)
  (fW:vK X (.Name x px) "append":=by rfl)
  (hs:kB X e []:=by rfl)
  (k8:Ht X pc [e]:=by rfl)
  (hline:(pa.endLine==pc.line)=true:=by rfl)(fu:pU X pc []:=by rfl)(lZ:V4 X pos (.Call (.Attribute (.Name x px) "append" pa) [e] [] pc):=by rfl):
  cS X (.Expr (.Call (.Attribute (.Name x px) "append" pa) [e] [] pc) pos) D σ H:=λpins s I=>by let#[_,_,rfl,xs,h1,h2]:=G.at;refine kD (qI di eA eB ka (vL hN) (cy cu dF hs) fW k8 hline hs fu) lZ pins s σ H D I ?_;refine#[.ref a,G.fr.slot i _ hi,.inl #[rfl,_,jb.of h1],?_];refine h (LR X.K a ds) LR.mono H0 H G.swap _ λv Ha Hb G1=>?_;let#[r,G2]:=G1.dat (Sep.mono mE LR.mono);let G3:=G2.swap;let#[_,_,_,ys,k1,k2]:=G3.at;refine#[a,ys,v,rfl,rfl,k1,[k2.length]▸hl,q Ha _ ?_];exact G3.putL LR.mono mE (.refl G3.fr.sub) λas #[e,_]=>#[by rw[e];simp,as,λ_ z=>z,e,_,aT,k2.append (.cons r .nil)]
def XI(X:Cx)(B0 B:Hp)(σ:St)(δ:!Slot)(R:OR)(tg iter:bw)(R':OR)(ds:!ai):Prop:=
 ∃wi,PI X tg iter wi/\∀(F:OR),bL F->∀H0 H,OF X.K B0 B (Sep R F) H0 H σ δ->∀Q:It->Hp->Prop,(∀J Ha Hb,OF X.K B0 B (Sep R' F) Ha Hb σ δ->ZG X.K J Ha ds->Q J Hb)->wi σ H Q
theorem vk{p:Pos}{n:Int}(mE:bL S1)(h:XE X B0 B σ δ R a S1 (.int n))(hm:X.mg "range"=none)(h1:-(2^62)<=n)(h2:n<2^62)(hg:Gl X "range":=by rfl)(hs:starEach [a] X.env=[(false,eval a X.env)]:=by rfl):XI X B0 B σ δ R tg (.Call (.Name "range" p) [a] [] pos) S1 (f9 n.toNat):=
 #[_,A5 hg hm (cy cu dF hs) hs,λF mF H0 H G Q q=>h F mF H0 H G _ λv H1 cW G1=>by
  let#[r,G2]:=G1.dat (Sep.mono mE mF);cases r;refine#[n,rfl,h1,h2,q _ H1 cW G2 λHa Hb s1 s2 i=>#[λhi=>(show i<n.toNat from by simpa[f9]using hi),λhi=>(show n.toNat<=i from by simpa[f9]using hi),λx x3 d hd #[e,y]=>?_]];subst e;subst y;unfold f9 at hd;rw[aH]at hd;let hi:i<n.toNat:=by
   rcases Nat.lt_or_ge i n.toNat with z|z
   .exact z
   .rw[fz ↑z]at hd;cases hd
  rw[jS hi]at hd;cases hd;exact#[Ha,.refl s2,[Int.zero_add]▸.int _]]
theorem PQ(mE:bL S1)(h:XE X B0 B σ δ R a S1 (.list ds)):XI X B0 B σ δ R tg a S1 ds:=#[_,HC cu,λF mF H0 H G Q q=>h F mF H0 H G _ λv H1 cW G1=>by
 let#[r,G2]:=G1.dat (Sep.mono mE mF);cases r with
 |lst hq r=>
  refine#[_,rfl,#[_,G2.fr.sub.seq hq],q _ H1 cW G2 λHa Hb s1 s2 i=>?_];let hl:=r.length;let hS:=(s1.trans s2).seq hq;refine#[λhi=>?_,λhi=>#[_,hS,∅],λx x3 d hd #[e,y]=>?_]
  .let#[x,hx,_]:=r.get (i:=i) (d:=ds[i]) (by simp[hi]);exact#[_,x,hS,hx]
  .subst e;exact#[Ha,.refl s2,(r.mono s1).at hd (y _ hS)]]
theorem My{iter: bw}(Rs:Nat->OR)(δs:Nat->!Slot)(m:∀k,bL (Rs k))(G:OF X.K B0 B R H0 H σ (δs 0))(hp:wY (model X.prog X.w) X.A X.env X.xe)(hc:X.calm=true)(hi:XI X B0 B σ (δs 0) R tg iter (Rs 0) ds)(hg:PG X tg (F1 X.K tgt))
  (step:∀k d,ds[k]?>>d->∃δ',ui tgt d (δs k)>>δ'/\noOwn δ'=true/\∀(D:Ends)C0 σ' cQ H',OF X.K C0 B (Rs k) cQ H' σ' δ'->(∀σ2 Ha Hb,OF X.K C0 B (Rs (k+1)) Ha Hb σ2 (δs (k+1))->D.nx σ2 Hb)->Ce X body D σ' H')
  (q:∀σ2 Ha Hb,OF X.K B0 B (Rs ds.length) Ha Hb σ2 (δs ds.length)->D.nx σ2 Hb)
  (hs:Fx X iter:=by intro _;rfl):cS X (.For tg iter body [] pos) D σ H:=λpins s I=>by
 let#[wi,pi,qi]:=hi;refine B1 hp hc pi hg kG hs pins s σ H D I ?_;refine qi EM EM.mono H0 H G.em _ λJ H1 cW G0 it=>?_;let G1:=G0.em';refine#[λi mm σ' H'=>i<=ds.length/\mm=ds.length-i/\∃Ha,OF X.K H1 B (Rs i) Ha H' σ' (δs i),#[ds.length,aW _,rfl,H1,G1.from #[G1.fr.ent.big,cz.refl _,G1.fr.sub,λ_ z=>.inl z]],?_];rintro i mm σ' H' ⟨hi,rfl,Ha,Ga⟩;let#[i1,i2,i3]:=it Ha H' Ga.fr.ent.eD Ga.fr.sub i;by_cases nE:i<ds.length
 .let hd:ds[i]?>>ds[i]:=by simp[nE]
  let#[δ',e1,e2,e3]:=step i _ hd;refine .inr #[i1 nE,λσ'' x3=>∃Hb,OF X.K H1 B (Rs (i+1)) Hb x3 σ'' (δs (i+1)),λσ'' x3 #[Hb,z]=>#[ds.length-(i+1),∅,nE,rfl,Hb,z],λv H2 y=>?_];let#[Hb,g2,rx]:=i3 v H2 _ hd y;refine rM (Ga.own.grow g2) rx e1 λσ3 f3=>?_;exact e3 _ H1 σ3 Hb H2 (Ga.go (m i) f3 e2) λσ2 Hc Hd z=>#[Hc,z]
 .let e:i=ds.length:=∅;subst e;refine .inl #[i2 (aE _),q σ' Ha H' (Ga.from #[Ga.fr.ent.big,G1.fr.ent.eD.trans Ga.fr.ent.eD,Ga.fr.sub,λb z=>?_])];rcases Ga.fr.ent.new b z with z|z
  .exact G1.fr.ent.new b z
  .exact .inr z
end
def keepR:Slot->Slot
 | .val d=>.val d
 | .ref p=>.ref p
 |_=>.un
def jR(own:!Str)(cap:!Nat)(δ:!Slot):!Slot:=bp own.length .un++cap.map λi=>keepR (δ.getD i .un)
section
variable{K:aj}{B0 B H0 H:Hp}{σ:St}{δ:!Slot}
theorem fQ.XM(f:fQ K B0 B H0 H σ δ)(own:!Str)(cap:!Nat):fQ K B0 B H0 H (jY own cap σ) (jR own cap δ):=by
 let noOwn:∀(i:Nat)ds,(jR own cap δ)[i]?≠some (.own ds):=λi ds e=>by
  unfold jR at e;by_cases hi:i<own.length
  .rw[bO ↑hi,cG]at e;split at e<;>cases e
  .rw[bK ↑(ef hi),aH]at e;cases q:cap[i-(bp own.length Slot.un).length]? with
   |none=>rw[q]at e;cases e
   |some j=>rw[q]at e;simp only[fe,eP]at e;revert e;cases δ.getD j .un<;>(intro e;cases e)
 refine#[f.ent,by simp[jY,jR],λi sl e=>?_,λi j ds es p _ a1=>qQ7 a1 (noOwn i ds)];unfold jR at e;unfold jY;by_cases hi:i<own.length
 .rw[bO ↑hi,cG]at e;split at e<;>cases e<;>trivial
 .rw[bK ↑(ef hi),aH,dN]at e;rw[bK ↑(ef hi),aH,dN];cases q:cap[i-own.length]? with
  |none=>rw[q]at e;cases e
  |some j=>
   rw[q]at e;simp only[fe,eP]at e ⊢;cases w:δ[j]? with
   |none=>rw[aR,w]at e;subst e;trivial
   |some Sy=>
    rw[aR,w]at e;cases Sy with
    |un=>subst e;trivial
    |ref a=>subst e;let h1:=f.slot j _ w;show some (σ.getD j none)=_;rw[aR,show σ[j]?>>(some (.ref a))from h1];rfl
    |own ds=>subst e;trivial
    |val d=>subst e;let#[v,h1,h2]:=f.slot j _ w;exact#[v,by rw[aR,h1];rfl,h2]
end
theorem zz{own:!Str}{cap:!Nat}{δ': !Slot}(ht:pw own.length tgt=true)(h:ui tgt d (jR own cap δ)>>δ'):
  δ'.length=(jR own cap δ).length/\∀(i:Nat)sl,(jR own cap δ)[i]?>>sl->sl=.un\/δ'[i]?>>sl:=by
 let low:∀(i:Nat)sl,i<own.length->(jR own cap δ)[i]?>>sl->sl=.un:=λi sl hi e=>by unfold jR at e;rw[bO ↑hi,cG]at e;split at e<;>cases e<;>rfl
 cases tgt with
 |one i=>
  cases h;refine#[by simp,λj sl e=>?_];let hi:i<own.length:=by simpa[pw]using ht
  by_cases hj:j<own.length
  .exact .inl (low j sl hj e)
  .exact .inr ([aS ∅]▸e)
 |tup is=>
  cases d with
  |tuple ds=>
   let h':(if ds.length=is.length then some (oQ is ds (jR own cap δ))else none)>>δ':=h;by_cases hl:ds.length=is.length
   .rw[qQ3 hl]at h';cases h';refine#[oS _ _ _,λj sl e=>?_];by_cases hj:j<own.length
    .exact .inl (low j sl hj e)
    .refine .inr ?_;rw[uj _ _ _ _ λz=>hj ?_]
     .exact e
     .let:=cO.mp ht j z;simpa using this
   .rw[qQ2 hl]at h';cases h'
  |_=>cases h
def xt(K:aj)(a:ay)(xs:!V)(ds:!ai):OR:=λH0 H as=>as=[a]/\H a>>(.lst xs)/\bU K H0 xs ds
theorem xt.mono:bL (xt K a xs ds):=λH0 H Ha Hb as #[e,h,r] sm hb=>#[e,by rw[hb a (by rw[e];simp)];exact h,r.mono sm]
section
variable{X:Cx}{B0 B H0 H:Hp}{σ:St}{δ:!Slot}{R F:OR}{sc:jx}{own N:!Str}{cap:!Nat}{cl:!(Str×ay)}{tg elt iter:bw}{ds:!ai}{pos:Pos}{tgt:Du}
theorem Mz(Rs:Nat->OR)(out:Nat->ai)(m:∀k,bL (Rs k))(hc:X.calm=true)(CS:h_ X sc own cap N cl)(hi:XI X B0 B σ δ R tg iter (Rs 0) ds)(hg:∀f s3 H3,PG (eQ X sc N cl f s3 H3) tg (F1 X.K tgt))(ht:pw own.length tgt=true)(hz:ds.length<=sizeLine)(v7:noOwn (jR own cap δ)=true)
  (step:∀k d,ds[k]?>>d->∃δ',ui tgt d (jR own cap δ)>>δ'/\noOwn δ'=true/\∀f s3 H3 C0 C σ',XE (eQ X sc N cl f s3 H3) C0 C σ' δ' (Rs k) elt (Rs (k+1)) (out k))
  (hs:Fx X iter:=by intro _;rfl):XE X B0 B σ δ R (.ListComp elt [#[tg,iter,[],0]] sc pos) (Rs ds.length) (.list ((cj ds.length).map out)):=by
 let#[wi,pi,qi]:=hi;intro F mF H0 H G Q q pins s I;refine HN (tc:=Jq) (te:=teC X sc N cl elt) hc CS pi hg (λf s3 H3=>Cd) (λf s3 H3 pins s σ H Q I h=>h f s3 H3 pins s I) hs pins s σ H Q I ?_;refine qi F mF H0 H G _ λJ H1 cW G1 it=>?_;intro D hD;let hD1:H1 D=none:=G1.fr.sub.free hD;let M:∀i (ys:!V) (es:!ai),bL (Sep (xt X.K D ys es) (Sep (Rs i) F)):=λi ys es=>Sep.mono xt.mono (Sep.mono (m i) mF);let G2:OF X.K B0 B (Sep (xt X.K D [] []) (Sep (Rs 0) F)) H1 (upd cW D (.lst [])) σ δ:=G1.add (Sep.mono (m 0) mF) (.loose G1.fr.sub hD) hD hD1 aT #[rfl,aT,.nil];let G3:OF X.K B0 B (Sep (xt X.K D [] []) (Sep (Rs 0) F)) H1 (upd cW D (.lst [])) (jY own cap σ) (jR own cap δ):=G2.go (M 0 [] []) (G2.own.XM own cap) v7;refine#[λi mm ys σ' H'=>i<=ds.length/\mm=ds.length-i/\∃Ha,OF X.K H1 B (Sep (xt X.K D ys ((cj i).map out)) (Sep (Rs i) F)) Ha H' σ' (jR own cap δ),#[ds.length,aW _,rfl,H1,G3.from #[G3.fr.ent.big,cz.refl _,G3.fr.sub,λ_ z=>.inl z]],?_];rintro i mm ys σ' H' ⟨hi,rfl,Ha,Ga⟩;let#[i1,i2,i3]:=it Ha H' Ga.fr.ent.eD Ga.fr.sub i;by_cases nE:i<ds.length
 .let hd:ds[i]?>>ds[i]:=by simp[nE]
  let#[δ',e1,e2,e3]:=step i _ hd;let#[k1,k2]:=zz ht e1;refine .inr #[i1 nE,λx H2 y=>?_];let#[Hb,g2,rx]:=i3 x H2 _ hd y;refine rM (Ga.own.grow g2) rx e1 λσ3 f3=>?_;simp only[Jq,if_true];intro fp s3 H3;let Gb:=Ga.go (M i _ _) f3 e2;refine e3 fp s3 H3 H1 B σ3 (Sep (xt X.K D ys ((cj i).map out)) F) (Sep.mono xt.mono mF) Hb H2 (Gb.tr (m i)) _ λv Hc Hd Gc=>?_;let#[r,Gd]:=Gc.dat (Sep.mono (m (i+1)) (Sep.mono xt.mono mF));let Ge:=Gd.tr xt.mono;let#[_,_,_,_,rfl,_,#[_,l1,l2],_]:=Ge.ex;let hly:=l2.length;rw[ae,cP]at hly;refine#[l1,∅,ds.length-(i+1),∅,nE,rfl,Hc,?_];let er:(cj (i+1)).map out=(cj i).map out ++ [out i]:=by rw[rn,aQ];rfl
  rw[er];let Gf:OF X.K H1 B (Sep (xt X.K D (ys ++ [v]) ((cj i).map out ++ [out i])) (Sep (Rs (i+1)) F)) Hc (upd Hd D (.lst (ys ++ [v]))) σ3 δ':=
   Ge.putL xt.mono (Sep.mono (m (i+1)) mF) (.refl Ge.fr.sub) λas #[z1,z2,z3]=>#[by rw[z1];simp,as,λ_ z=>z,z1,aT,z3.append (.cons r .nil)];exact Gf.go (Sep.mono xt.mono (Sep.mono (m (i+1)) mF)) (Gf.own.forget k1.symm k2) v7
 .let e:i=ds.length:=∅;subst e;refine .inl #[i2 (aE _),q (.ref D) (upd Ha D (.lst ys)) H' ?_];let#[as,own,a1,a2,rfl,dj,#[rfl,l1,l2],W]:=Ga.ex;let Rc:Ha D=none:=(own D (by simp)).1;let sm:cz Ha (upd Ha D (.lst ys)):=λb u e=>[aI (bB e Rc)]▸e;let Uv:cz H1 (upd Ha D (.lst ys)):=Ga.fr.ent.eD.trans sm;refine#[#[#[Ga.fr.ent.big,G1.fr.ent.eD.trans Uv,λb u e=>?_,λb z=>?_],G1.fr.len,λj sl e=>?_,G1.fr.apart],G1.no,a2,λa ha=>?_,[],a2,rfl,(λa ha=>by cases ha),#[rfl,.lst (jb.of aT) (l2.mono sm)],Sep.mono (m _) mF _ _ _ _ _ W sm λ_ _=>rfl]
  .by_cases hb:b=D
   .subst hb;rw[aT]at e;rw[<-e];exact l1
   .rw[aI hb]at e;exact Ga.fr.sub b u e
  .by_cases hb:b=D
   .subst hb;exact .inr (own b (by simp)).2.1
   .rw[aI hb]at z;rcases Ga.fr.ent.new b z with z|z
    .exact G1.fr.ent.new b z
    .exact .inr z
  .let w:=G1.fr.slot j sl e;cases sl with
   |un=>trivial
   |val d=>let#[v,w1,w2]:=w;exact#[v,w1,w2.mono Uv]
   |ref p=>exact w
   |own es=>exact qQ7 e (fJ G1.no j es)
  .let nd:a≠D:=λz=>dj D (by simp) ([<-z]▸ha);let#[o1,o2,o3]:=own a (by simp[ha]);exact#[[aI nd]▸o1,o2,o3]
end
theorem bU.XO:∀{xs:!V}{ds:!ai}(j:Nat){v:V}{d:ai},bU K H xs ds->Rep K H v d->bU K H (xs.set j v) (ds.set j d)
 |_,_,_,_,_,.nil,_=>.nil
 |_,_,0,_,_,.cons _ t,r=>.cons r t
 |_,_,j+1,_,_,.cons a t,r=>.cons a (bU.XO j t r)
section
variable{X:Cx}{B0 B H0 H:Hp}{σ:St}{δ:!Slot}{F:OR}{b e:bw}{d:ai}{pos px:Pos}{D:Ends}{a:ay}{ds:!ai}{x:Str}
theorem PV{j:Nat}{tp:Pos}(mF:bL F)(G:OF X.K B0 B (Sep (LR X.K a ds) F) H0 H σ δ)(i:Nat)(hi:δ[i]?>>(.ref a))(hb:VE X b δ (.int (j:Nat)))(hj:j<ds.length)(hv:VC X B0 B (Sep (LR X.K a ds) F) σ δ e d)(q:∀Ha Hb,OF X.K B0 B (Sep (LR X.K a (ds.set j d)) F) Ha Hb σ δ->D.nx σ Hb)
  (hN:tE X i x:=by ac_rfl)(hs:swapsWithSole [.Subscript (.Name x px) b tp] e pos.line X.env=pure false:=by rfl)(hw:swappedStores [.Subscript (.Name x px) b tp] e X.env=pure none:=by rfl)
  (h1:(assignEach [.Subscript (.Name x px) b tp] X.env).map (·.2)=[assign (.Subscript (.Name x px) b tp) X.env]:=by rfl)
  (ha:∀v,assign (.Subscript (.Name x px) b tp) X.env v=(do
   let ov <-holding [v] (eval (.Name x px) X.env)
   let iv <-holding [v,ov] (eval b X.env)
   standAt tp
   holding [v,ov,iv] (setItem ov iv v)
   release [v,ov,iv] []):=by intro _;rfl):cS X (.Assign [.Subscript (.Name x px) b tp] e pos) D σ H:=λpins s I=>by let m:bL (Sep (LR X.K a ds) F):=Sep.mono LR.mono mF;refine KS cu (Fz (vL hN) cu set_list ha) hs hw h1 pins s σ H D I (hv H0 H G _ λv H1 cW g r=>?_);let G1:=G.go m (G.own.grow g) G.no;refine#[.ref a,G1.fr.slot i _ hi,hb H1 cW σ H1 cW _ G1.own λv2 H2 fG g2 r2=>?_];cases r2;let G2:=G1.go m (G1.own.grow g2) G1.no;let#[_,_,rfl,xs,k1,k2]:=G2.at;let hl:=k2.length;refine#[a,xs,_,j,rfl,rfl,k1,?_,q H2 _ (G2.putL LR.mono mF (.refl G2.fr.sub) λas #[e,_]=>#[by rw[e];simp,as,λ_ z=>z,e,_,aT,bU.XO j k2 (r.mono g2.eD)])];rw[hl];unfold Kw;rw[qQ3 ∅,qQ3 ∅,c7]
end
theorem Sep.qf{F R3: OR}{as:!ay}(h:Sep R (Sep F R3) H0 H as):Sep (Sep R F) R3 H0 H as:=by
 let#[a1,_,rfl,dj,h1,a2,a3,rfl,dk,h2,h3]:=h;exact#[a1++a2,a3,by simp,λa ha z=>by
  rcases aV.mp ha with y|y
  .exact dj a y (by simp[z])
  .exact dk a y z,#[a1,a2,rfl,λa ha z=>dj a ha (by simp[z]),h1,h2],h3]
section
variable{X:Cx}{B0 B H0 H:Hp}{σ:St}{δ:!Slot}{R S1 S2 F L:OR}{a b e:bw}{d d1 d2:ai}{pos:Pos}
theorem PX{S:Type}{PR:ay->S->OR}{ok:S->!ai->S->UV->Prop}{s s':S}(M:bu X.prog X.w X.K X.mg X.base k f ns (zv X.K S PR ok))(hr:ei k X.A)(mR:bL (PR p s))(mL:bL L)(i:Nat)(hi:δ[i]?>>(.ref p))(ha:∀F,bL F->VD X B0 B (Sep (PR p s) (Sep L F)) σ δ es ds)(hok:ok s ds s' (jQ X.K d))
  (hN:tE X i x:=by ac_rfl)
  (hg:Gl X f:=by rfl)(o6:uc f:=by decide)(he:starEach (.Name x p0::es) X.env=(false,eval (.Name x p0) X.env)::starEach es X.env:=by rfl)(lB:pU X pc es:=by rfl):
  XE X B0 B σ δ (Sep (PR p s) L) (.Call (.Name f p1) (.Name x p0::es) [] pc) (Sep (PR p s') L) d:=λF mF H0 H G Q q=>Iv M hr mR (Sep.mono mL mF) G.assoc i hi (ha F mF) hok (λv Ha Hb G1=>q v Ha Hb (G1.zbA λ_=>Sep.qf)) hN hg o6 he lB
theorem Uw{ap:Pos}{zs:!Str}(m1:bL S1)(m2:bL S2)(h1:XE X B0 B σ δ R a S1 (.str y))(h2:XE X B0 B σ δ S1 b S2 (.list (zs.map .str)))(hz:(zs.map (·.length)).sum+zs.length*y.length<=16777216)
  (hs:kB X b []:=by rfl)(fW:vK X a "join":=by rfl)
  (k8:Ht X pos [b]:=by rfl)
  (hline:(ap.endLine==pos.line)=true:=by rfl)(fu:pU X pos []:=by rfl):XE X B0 B σ δ R (.Call (.Attribute a "join" ap) [b] [] pos) S2 (.str (bM y zs)):=λF mF H0 H G Q q pins s I=>
 qI pT Dq Dr HW cu (cy cu dF hs) fW k8 hline hs fu pins s σ H Q I (h1 F mF H0 H G _ λv H1 cW G1=>by
  let#[r1,G2]:=G1.dat (Sep.mono m1 mF);cases r1;refine#[rfl,h2 F mF H1 cW G2 _ λu H2 fG G3=>?_];let#[r2,G4]:=G3.dat (Sep.mono m2 mF);cases r2 with
  |lst hq rs=>let e:=rs.strs;subst e;exact#[y,_,zs,rfl,rfl,.inl (G4.fr.sub.seq hq),hz,q _ H2 fG (G4.newD (Sep.mono m2 mF) (.refl G4.fr.sub) (.str _))])
theorem Ux{pa: Pos}{a:ay}(mR:bL R)(mE:bL R')(G:OF X.K B0 B (Sep R (LR X.K a ds)) H0 H σ δ)(i:Nat)(hi:δ[i]?>>(.ref a))(h:XE X B0 B σ δ (Sep R (LR X.K a ds)) e (Sep R' (LR X.K a ds)) d)(hl:ds.length<sizeLine)(q:∀Ha Hb,OF X.K B0 B (Sep R' (LR X.K a (ds ++ [d]))) Ha Hb σ δ->D.nx σ Hb)
  (hN:tE X i x:=by ac_rfl)
  (fW:vK X (.Name x px) "append":=by rfl)
  (hs:kB X e []:=by rfl)
  (k8:Ht X pc [e]:=by rfl)
  (hline:(pa.endLine==pc.line)=true:=by rfl)(fu:pU X pc []:=by rfl)(lZ:V4 X pos (.Call (.Attribute (.Name x px) "append" pa) [e] [] pc):=by rfl):
  cS X (.Expr (.Call (.Attribute (.Name x px) "append" pa) [e] [] pc) pos) D σ H:=λpins s I=>by let#[_,_,rfl,xs,h1,h2]:=G.swap.at;refine kD (qI di eA eB ka (vL hN) (cy cu dF hs) fW k8 hline hs fu) lZ pins s σ H D I ?_;refine#[.ref a,G.fr.slot i _ hi,.inl #[rfl,_,jb.of h1],?_];refine uq (Sep.mono mE LR.mono) h G λv Ha Hb r G2=>?_;let G3:=G2.swap;let#[_,_,_,ys,k1,k2]:=G3.at;refine#[a,ys,v,rfl,rfl,k1,[k2.length]▸hl,q Ha _ (OF.swap ?_)];exact G3.putL LR.mono mE (.refl G3.fr.sub) λas #[e,_]=>#[by rw[e];simp,as,λ_ z=>z,e,_,aT,k2.append (.cons r .nil)]
end
theorem OF.XQ{B0 B: Hp}{σ:St}(m:bL R)(G:OF K B0 B (Sep (LR K a ds) R) H0 H σ δ):∃Ha,OF K B0 B (Sep (jQ K (.list ds) (.ref a)) R) Ha H σ δ:=by
 let#[as,own,a1,a2,rfl,dj,#[rfl,xs,l1,l2],W]:=G.ex;let Rc:H0 a=none:=(own a (by simp)).1;let sm:cz H0 (upd H0 a (.lst xs)):=λb u e=>[aI (bB e Rc)]▸e;refine#[upd H0 a (.lst xs),#[#[G.fr.ent.big,G.fr.ent.eD.trans sm,λb u e=>?_,λb z=>?_],G.fr.len,λj sl e=>?_,G.fr.apart],G.no,a2,λc hc=>?_,[],a2,rfl,(λc hc=>by cases hc),#[rfl,.lst (jb.of aT) (l2.mono sm)],m _ _ _ _ _ W sm λ_ _=>rfl]
 .by_cases hb:b=a
  .subst hb;rw[aT]at e;rw[<-e];exact l1
  .rw[aI hb]at e;exact G.fr.sub b u e
 .by_cases hb:b=a
  .subst hb;exact .inr (own b (by simp)).2.1
  .rw[aI hb]at z;exact G.fr.ent.new b z
 .let w:=G.fr.slot j sl e;cases sl with
  |un=>trivial
  |val d=>let#[v,w1,w2]:=w;exact#[v,w1,w2.mono sm]
  |ref p=>exact w
  |own es=>exact qQ7 e (fJ G.no j es)
 .let nd:c≠a:=λz=>dj a (by simp) ([<-z]▸hc);let#[o1,o2,o3]:=own c (by simp[hc]);exact#[[aI nd]▸o1,o2,o3]
section
variable{X:Cx}{B0 B H0 H:Hp}{σ:St}{δ:!Slot}{F:OR}{d:ai}
theorem PY{S:Type}{PR:ay->S->OR}{ok:S->!ai->S->UV->Prop}{s s':S}{l: ay}{p2: Pos}(M:bu X.prog X.w X.K X.mg X.base k f ns (zv X.K S PR ok))(hr:ei k X.A)(mR:bL (PR p s))(CF:∀Ha Hb Hc as,PR p s' Ha Hb as->PR p s' Hc Hb as)(i j:Nat)(hi:δ[i]?>>(.ref p))(hj:δ[j]?>>(.ref l))(hok:ok s [.list ds] s' (jQ X.K d))(hsc:∀Ha Hb v,Rep X.K Ha v d->Rep X.K Hb v d)
  (hN:tE X i x:=by ac_rfl)
  (hN2:tE X j y:=by ac_rfl)
  (hg:Gl X f:=by rfl)(o6:uc f:=by decide)(he:starEach [.Name x p0,.Name y p2] X.env=(false,eval (.Name x p0) X.env)::starEach [.Name y p2] X.env:=by rfl)(Tx:starEach [.Name y p2] X.env=(false,eval (.Name y p2) X.env)::starEach [] X.env:=by rfl)(lB:pU X pc [.Name y p2]:=by rfl):
  XE X B0 B σ δ (Sep (PR p s) (LR X.K l ds)) (.Call (.Name f p1) [.Name x p0,.Name y p2] [] pc) (Sep (PR p s') (LR X.K l ds)) d:=λF mF H0 H G Q q pins s0 I=>by
 let#[fa,fd,Fn,hm,hk,hb]:=M;refine pX Fn hr hg hm hk hb .nil xj (cy (vL hN) (cy (vL hN2) dF Tx) he) o6 he lB pins s0 σ H Q I ?_;refine#[.ref p,G.fr.slot i _ hi,.ref l,G.fr.slot j _ hj,?_];let#[_,own,_,a3,rfl,dj3,#[a1,_,rfl,dj1,W1,rfl,xs,l1,l2],W3]:=G.ex;let nl1:l∉a1:=λz=>dj1 l z (by simp);let nl3:l∉a3:=λz=>dj3 l (by simp) z;let hl0:H0 l=none:=(own l (by simp)).1;let sm:cz H0 (upd H0 l (.lst xs)):=λb u e=>[aI (bB e hl0)]▸e;refine#[upd H0 l (.lst xs),p,[.ref l],a1,s,s',[.list ds],jQ X.K d,rfl,λb u e=>?_,.cons (.lst (jb.of aT) (l2.mono sm)) .nil,λa ha=>?_,mR _ _ _ _ _ W1 sm λ_ _=>rfl,hok,λv Ha Hb as' s1 s2 c1 c2 c3 W=>?_]
 .by_cases z:b=l
  .subst z;rw[aT]at e;rw[<-e];exact l1
  .rw[aI z]at e;exact G.fr.sub b u e
 .let na:a≠l:=λz=>nl1 ([<-z]▸ha);let#[o1,o2,o3]:=own a (by simp[ha]);exact#[[aI na]▸o1,o3]
 .let#[b1,b2,rfl,djb,#[rfl,rv],W2]:=W;let ZS:cz H0 (tH Ha l):=λb u e=>by let z:b≠l:=bB e hl0;unfold tH;rw[qQ2 z];exact s1 b u (sm b u e)
  let keep:∀b,b∉a1->H b≠none->Hb b=H b:=λb nb Pk=>by
   cases e:H b with
   |none=>exact qQ7 e Pk
   |some o=>exact c2 b o e nb
  let hBn:∀b,H b=none->B b=none:=λb e=>G.fr.ent.big.free e;let ZT:∀a∈a3,a∉a1/\H a≠none/\a≠l:=λa ha=>#[λz=>dj3 a (by simp[z]) ha,(own a (by simp[ha])).2.2,λz=>nl3 ([<-z]▸ha)];let hHb:Hb l=H l:=keep l nl1 (by rw[l1];simp);refine q v (tH Ha l) Hb #[#[#[λb u e=>?_,G.fr.ent.eD.trans ZS,λb u e=>?_,λb z=>?_],G.fr.len,λj' sl e=>?_,G.fr.apart],G.no,b2++([l]++a3),λa ha=>?_,[],_,rfl,(λa ha=>by cases ha),#[rfl,hsc _ _ _ rv],b2 ++ [l],a3,by simp,λa ha z=>?_,#[b2,[l],rfl,λa ha z=>?_,CF _ _ _ _ W2,rfl,xs,[hHb]▸l1,l2.mono ZS],mF _ _ _ _ _ W3 ZS λa ha=>keep a (ZT a ha).1 (ZT a ha).2.1]
  .let nb:b∉a1:=λz=>by rw[(own b (by simp[z])).2.1]at e;cases e
   exact c2 b u (G.fr.ent.big b u e) nb
  .unfold tH at e;by_cases z:b=l
   .rw[qQ3 z]at e;cases e
   .rw[qQ2 z]at e;exact s2 b u e
  .unfold tH at z;by_cases zl:b=l
   .rw[qQ3 zl]at z;exact qQ7 rfl z
   .rw[qQ2 zl]at z;rcases c1 b z with y|y|y
    .rw[aI zl]at y;exact G.fr.ent.new b y
    .exact .inr (hBn b y)
    .exact .inr (own b (by simp[y])).2.1
  .let w:=G.fr.slot j' sl e;cases sl with
   |un=>trivial
   |val d=>let#[v,w1,w2]:=w;exact#[v,w1,w2.mono ZS]
   |ref p=>exact w
   |own es=>exact qQ7 e (fJ G.no j' es)
  .rcases aV.mp ha with h|h
   .let#[o1,o2,o3]:=c3 a ↑h;refine#[by unfold tH;split;rfl;exact o1,?_,o2];rcases o3 with y|y
    .exact(own a (by simp[y])).2.1
    .exact hBn a y
   .rcases aV.mp h with h|h
    .rw[aF]at h;subst h;exact#[by unfold tH;rw[qQ3 rfl],(own a (by simp)).2.1,by rw[hHb,l1];simp]
    .let#[n1,n2,n3]:=ZT a h;let#[o1,o2,o3]:=own a (by simp[h]);refine#[?_,o2,[keep a n1 n2]▸n2];unfold tH;rw[qQ2 n3];cases e:Ha a with
     |none=>rfl
     |some o=>
      rcases c1 a (by rw[e];simp)with y|y|y
      .rw[aI n3]at y;exact qQ7 o1 y
      .exact qQ7 y n2
      .exact qQ7 y n1
  .let#[n1,n2,n3]:=ZT a z;rcases aV.mp ha with h|h
   .rcases(c3 a ↑h).2.2 with y|y
    .exact n1 y
    .exact n2 y
   .rw[aF]at h;exact n3 h
  .rw[aF]at z;subst z;rcases(c3 a ↑ha).2.2 with y|y
   .exact nl1 y
   .rw[l1]at y;cases y
end
section
variable{X:Cx}{B0 B H0 H:Hp}{σ:St}{δ:!Slot}{R F:OR}{sc:jx}{own N:!Str}{cap:!Nat}{cl:!(Str×ay)}{tg elt iter:bw}{ds:!ai}{pos:Pos}{tgt:Du}
theorem Uy{wi:TI}(Rs:Nat->OR)(out:Nat->ai)(m:∀k,bL (Rs k))(qi:∀(F:OR),bL F->∀H0 H,OF X.K B0 B (Sep R F) H0 H σ δ->∀Q:It->Hp->Prop,(∀J Ha Hb,OF X.K B0 B (Sep (Rs 0) F) Ha Hb σ δ->ZG X.K J Ha ds->Q J Hb)->wi σ H Q)(ht:pw own.length tgt=true)(hz:ds.length<=sizeLine)(v7:noOwn (jR own cap δ)=true)
  (step:∀k d,ds[k]?>>d->∃δ',ui tgt d (jR own cap δ)>>δ'/\noOwn δ'=true/\∀f s3 H3 C0 C σ',XE (eQ X sc N cl f s3 H3) C0 C σ' δ' (Rs k) elt (Rs (k+1)) (out k))
  (mF:bL F)(G:OF X.K B0 B (Sep R F) H0 H σ δ){Q:V->Hp->Prop}(q:∀v Ha Hb,OF X.K B0 B (Sep (jQ X.K (.list ((cj ds.length).map out)) v) (Sep (Rs ds.length) F)) Ha Hb σ δ->Q v Hb):Lq own cap wi (F1 X.K tgt) Jq (teC X sc N cl elt) σ H Q:=by
 refine qi F mF H0 H G _ λJ H1 cW G1 it=>?_;intro D hD;let hD1:H1 D=none:=G1.fr.sub.free hD;let M:∀i (ys:!V) (es:!ai),bL (Sep (xt X.K D ys es) (Sep (Rs i) F)):=λi ys es=>Sep.mono xt.mono (Sep.mono (m i) mF);let G2:OF X.K B0 B (Sep (xt X.K D [] []) (Sep (Rs 0) F)) H1 (upd cW D (.lst [])) σ δ:=G1.add (Sep.mono (m 0) mF) (.loose G1.fr.sub hD) hD hD1 aT #[rfl,aT,.nil];let G3:OF X.K B0 B (Sep (xt X.K D [] []) (Sep (Rs 0) F)) H1 (upd cW D (.lst [])) (jY own cap σ) (jR own cap δ):=G2.go (M 0 [] []) (G2.own.XM own cap) v7;refine#[λi mm ys σ' H'=>i<=ds.length/\mm=ds.length-i/\∃Ha,OF X.K H1 B (Sep (xt X.K D ys ((cj i).map out)) (Sep (Rs i) F)) Ha H' σ' (jR own cap δ),#[ds.length,aW _,rfl,H1,G3.from #[G3.fr.ent.big,cz.refl _,G3.fr.sub,λ_ z=>.inl z]],?_];rintro i mm ys σ' H' ⟨hi,rfl,Ha,Ga⟩;let#[i1,i2,i3]:=it Ha H' Ga.fr.ent.eD Ga.fr.sub i;by_cases nE:i<ds.length
 .let hd:ds[i]?>>ds[i]:=by simp[nE]
  let#[δ',e1,e2,e3]:=step i _ hd;let#[k1,k2]:=zz ht e1;refine .inr #[i1 nE,λx H2 y=>?_];let#[Hb,g2,rx]:=i3 x H2 _ hd y;refine rM (Ga.own.grow g2) rx e1 λσ3 f3=>?_;simp only[Jq,if_true];intro fp s3 H3;let Gb:=Ga.go (M i _ _) f3 e2;refine e3 fp s3 H3 H1 B σ3 (Sep (xt X.K D ys ((cj i).map out)) F) (Sep.mono xt.mono mF) Hb H2 (Gb.tr (m i)) _ λv Hc Hd Gc=>?_;let#[r,Gd]:=Gc.dat (Sep.mono (m (i+1)) (Sep.mono xt.mono mF));let Ge:=Gd.tr xt.mono;let#[_,_,_,_,rfl,_,#[_,l1,l2],_]:=Ge.ex;let hly:=l2.length;rw[ae,cP]at hly;refine#[l1,∅,ds.length-(i+1),∅,nE,rfl,Hc,?_];let er:(cj (i+1)).map out=(cj i).map out ++ [out i]:=by rw[rn,aQ];rfl
  rw[er];let Gf:OF X.K H1 B (Sep (xt X.K D (ys ++ [v]) ((cj i).map out ++ [out i])) (Sep (Rs (i+1)) F)) Hc (upd Hd D (.lst (ys ++ [v]))) σ3 δ':=
   Ge.putL xt.mono (Sep.mono (m (i+1)) mF) (.refl Ge.fr.sub) λas #[z1,z2,z3]=>#[by rw[z1];simp,as,λ_ z=>z,z1,aT,z3.append (.cons r .nil)];exact Gf.go (Sep.mono xt.mono (Sep.mono (m (i+1)) mF)) (Gf.own.forget k1.symm k2) v7
 .let e:i=ds.length:=∅;subst e;refine .inl #[i2 (aE _),q (.ref D) (upd Ha D (.lst ys)) H' ?_];let#[as,own,a1,a2,rfl,dj,#[rfl,l1,l2],W]:=Ga.ex;let Rc:Ha D=none:=(own D (by simp)).1;let sm:cz Ha (upd Ha D (.lst ys)):=λb u e=>[aI (bB e Rc)]▸e;let Uv:cz H1 (upd Ha D (.lst ys)):=Ga.fr.ent.eD.trans sm;refine#[#[#[Ga.fr.ent.big,G1.fr.ent.eD.trans Uv,λb u e=>?_,λb z=>?_],G1.fr.len,λj sl e=>?_,G1.fr.apart],G1.no,a2,λa ha=>?_,[],a2,rfl,(λa ha=>by cases ha),#[rfl,.lst (jb.of aT) (l2.mono sm)],Sep.mono (m _) mF _ _ _ _ _ W sm λ_ _=>rfl]
  .by_cases hb:b=D
   .subst hb;rw[aT]at e;rw[<-e];exact l1
   .rw[aI hb]at e;exact Ga.fr.sub b u e
  .by_cases hb:b=D
   .subst hb;exact .inr (own b (by simp)).2.1
   .rw[aI hb]at z;rcases Ga.fr.ent.new b z with z|z
    .exact G1.fr.ent.new b z
    .exact .inr z
  .let w:=G1.fr.slot j sl e;cases sl with
   |un=>trivial
   |val d=>let#[v,w1,w2]:=w;exact#[v,w1,w2.mono Uv]
   |ref p=>exact w
   |own es=>exact qQ7 e (fJ G1.no j es)
  .let nd:a≠D:=λz=>dj D (by simp) ([<-z]▸ha);let#[o1,o2,o3]:=own a (by simp[ha]);exact#[[aI nd]▸o1,o2,o3]
theorem PZ{nZ: Pos}(Rs:Nat->OR)(out:Nat->ai)(m:∀k,bL (Rs k))(G:OF X.K B0 B R H0 H σ δ)(i:Nat)(hc:X.calm=true)(CS:h_ X sc own cap N cl)(hi:XI X B0 B σ δ R tg iter (Rs 0) ds)(hg:∀f s3 H3,PG (eQ X sc N cl f s3 H3) tg (F1 X.K tgt))(ht:pw own.length tgt=true)(hz:ds.length<=sizeLine)(v7:noOwn (jR own cap δ)=true)
  (step:∀k d,ds[k]?>>d->∃δ',ui tgt d (jR own cap δ)>>δ'/\noOwn δ'=true/\∀f s3 H3 C0 C σ',XE (eQ X sc N cl f s3 H3) C0 C σ' δ' (Rs k) elt (Rs (k+1)) (out k))
  (hn:noOwn (δ.set i (.val (.list ((cj ds.length).map out))))=true)(q:∀v Ha Hb,OF X.K B0 B (Rs ds.length) Ha Hb (σ.set i (some v)) (δ.set i (.val (.list ((cj ds.length).map out))))->D.nx (σ.set i (some v)) Hb)(hN:X.N.Nodup)(Lr:X.N[i]?>>x:=by rfl)(hx:Loc X.env.scope x:=by left)
  (lZ:swapsWith (.ListComp elt [#[tg,iter,[],0]] sc pos) (some (.Name x px)) nZ.line X.env=pure true:=by rfl)(hs:Fx X iter:=by intro _;rfl)(hf:yi X x:=by left):
  cS X (.Assign [.Name x px] (.ListComp elt [#[tg,iter,[],0]] sc pos) nZ) D σ H:=λpins s0 I=>by let#[wi,pi,qi]:=hi;refine p_ (i:=i) (tc:=Jq) (te:=teC X sc N cl elt) hN Lr hx hc CS pi hg (λf s3 H3=>Cd) (λf s3 H3 pins s σ H Q I h=>h f s3 H3 pins s I) lZ hs hf pins s0 σ H D I ?_;refine Uy Rs out m qi ht hz v7 step EM.mono G.em λv Ha Hb G1=>?_;let#[r,G2]:=G1.dat (Sep.mono (m _) EM.mono);exact q v Ha Hb (G2.em'.Ur (m _) i r hn)
end
def OI(R R':OR):Prop:=∀H0 H as,R H0 H as->∃bs,(∀a,a∈bs↔a∈as)/\R' H0 H bs
section
variable{R R' R1 S S' S1 F:OR}
theorem OI.rfl:OI R R:=λ_ _ as h=>#[as,λ_=>Iff.rfl,h]
theorem OI.trans(h:OI R R')(h':OI R' R1):OI R R1:=λ_ _ _ z=>by let#[bs,e1,z1]:=h _ _ _ z;let#[cs,e2,z2]:=h' _ _ _ z1;exact#[cs,λa=>(e2 a).trans (e1 a),z2]
theorem OI.comm:OI (Sep R S) (Sep S R):=λ_ _ _ #[a1,a2,e,dj,h1,h2]=>#[a2++a1,λa=>by rw[e];simp[or_comm],a2,a1,by rfl,λa ha z=>dj a z ha,h2,h1]
theorem OI.assoc:OI (Sep (Sep R S) F) (Sep R (Sep S F)):=λ_ _ as #[_,a3,e,dj,#[a1,a2,e2,dk,h1,h2],h3]=>by subst e2;exact#[as,λ_=>Iff.rfl,a1,a2++a3,by rw[e];simp,λa ha z=>(aV.mp z).elim (dk a ha) (dj a (by simp[ha])),h1,a2,a3,by rfl,λa ha=>dj a (by simp[ha]),h2,h3]
theorem OI.qf:OI (Sep R (Sep S F)) (Sep (Sep R S) F):=λ_ _ as h=>#[as,λ_=>Iff.rfl,Sep.qf h]
theorem OI.sep(h:OI R R')(h':OI S S'):OI (Sep R S) (Sep R' S'):=λ_ _ _ #[a1,a2,e,dj,h1,h2]=>by let#[b1,e1,z1]:=h _ _ _ h1;let#[b2,e2,z2]:=h' _ _ _ h2;exact#[b1++b2,λa=>by rw[e];simp[e1,e2],b1,b2,by rfl,λa ha z=>dj a ((e1 a).mp ha) ((e2 a).mp z),z1,z2]
theorem OI.tr:OI (Sep R (Sep S F)) (Sep S (Sep R F)):=OI.qf.trans ((OI.sep .comm .rfl).trans .assoc)
theorem OI.r3:OI (Sep R (Sep S F)) (Sep F (Sep R S)):=OI.qf.trans .comm
theorem OI.l3:OI (Sep F (Sep R S)) (Sep R (Sep S F)):=OI.comm.trans .assoc
end
section
variable{K:aj}{X:Cx}{B0 B H0 H:Hp}{σ:St}{δ:!Slot}{R R' R1 R1' F L:OR}{e:bw}{d:ai}{pos:Pos}
theorem OF.oi(G:OF K B0 B R H0 H σ δ)(h:OI R R'):OF K B0 B R' H0 H σ δ:=by let#[as,h1,h2]:=G.ex;let#[bs,e,z]:=h _ _ _ h2;exact#[G.fr,G.no,bs,λa ha=>h1 a ((e a).mp ha),z]
theorem XE.fr(mL:bL L)(h:XE X B0 B σ δ R e R' d):XE X B0 B σ δ (Sep R L) e (Sep R' L) d:=λF mF H0 H G Q q=>h (Sep L F) (Sep.mono mL mF) H0 H G.assoc Q λv Ha Hb G1=>q v Ha Hb (G1.oi (.sep .rfl .qf))
theorem XE.oi(i:OI R1 R)(o:OI R' R1')(h:XE X B0 B σ δ R e R' d):XE X B0 B σ δ R1 e R1' d:=λF mF H0 H G Q q=>h F mF H0 H (G.oi (.sep i .rfl)) Q λv Ha Hb G1=>q v Ha Hb (G1.oi (.sep .rfl (.sep o .rfl)))
theorem wB(mE:bL R')(h:XE X B0 B σ δ R e R' d)(G:OF X.K B0 B R H0 H σ δ)(q:∀v Ha Hb,OF X.K B0 B (Sep (jQ X.K d v) R') Ha Hb σ δ->D.rt v Hb):cS X (.Return (some e) pos) D σ H:=
 Iu (uq mE h G λv Ha Hb r G1=>q v Ha Hb (G1.newD mE (.refl G1.fr.sub) r))
theorem MA{id:String}{r:!V->Hp->VK->Prop}{p:Pos}(hc:iz X (.type id) r)(hd:nI X.K r ds d)(m:bL R')(ha:XA X B0 B σ δ R (e::es) R' ds)(hm:X.mg x=none)(hv:bootBuiltins x>>(.type id))(hg:Gl X x:=by rfl)(hn:x≠"__name__":=by decide)(o6:uc x:=by decide)
  (he:kB X e es:=by rfl)(lB:pU X pos es:=by rfl):XE X B0 B σ δ R (.Call (.Name x p) (e::es) [] pos) R' d:=by
 let#[t,pa,qa]:=ha;exact λF mF H0 H G Q q pins s I=>k7 hc hg hm hv pa hn o6 he lB pins s σ H Q I (qa F mF H0 H G _ λvs Ha Hb G1=>by let#[rs,G2]:=G1.Mx;exact hd vs Ha Hb Q G2.fr.sub rs λv Hc Hd g r=>q v Hc Hd (G2.newD (Sep.mono m mF) g r))
end
section
variable{K:aj}{B0 B H0 H:Hp}{σ:St}{δ:!Slot}{R F:OR}{a:ay}{d:ai}
theorem OF.zbE(m:bL F)(hR:wA K R a d)(G:OF K B0 B (Sep R F) H0 H σ δ):∃Ha,OF K B0 B (Sep (jQ K d (.ref a)) F) Ha H σ δ:=by
 let#[as,own,a1,a2,rfl,dj,W1,W]:=G.ex;let sm:=jO (as:=a1) G.fr.sub;refine#[kS a1 H H0,#[#[G.fr.ent.big,G.fr.ent.eD.trans sm,vf G.fr.sub,λb z=>?_],G.fr.len,λj sl e=>?_,G.fr.apart],G.no,a2,λc hc=>?_,[],a2,rfl,(λc hc=>by cases hc),#[rfl,hR _ _ _ G.fr.sub W1],m _ _ _ _ _ W sm λ_ _=>rfl]
 .by_cases hb:b∈a1
  .exact .inr (own b (by simp[hb])).2.1
  .rw[jN hb]at z;exact G.fr.ent.new b z
 .let w:=G.fr.slot j sl e;cases sl with
  |un=>trivial
  |val d=>let#[v,w1,w2]:=w;exact#[v,w1,w2.mono sm]
  |ref p=>exact w
  |own es=>exact qQ7 e (fJ G.no j es)
 .let#[o1,o2,o3]:=own c (by simp[hc]);exact#[[jN λz=>dj c z hc]▸o1,o2,o3]
theorem JN(h:noOwn δ=true)(i:Nat):noOwn (δ.set i (.val d))=true:=by
 unfold noOwn at h ⊢;rw[cO]at h ⊢;intro x hx;rcases jJ hx with z|rfl
 .exact h x z
 .rfl
theorem OF.Gj(m:bL F)(hR:wA K R a d)(G:OF K B0 B (Sep R F) H0 H σ δ)(i:Nat)(hi:δ[i]?>>(.ref a)):∃Ha,OF K B0 B F Ha H σ (δ.set i (.val d)):=by
 let#[Ha,G1]:=G.zbE m hR;let hs:σ[i]?>>(some (.ref a)):=G.fr.slot i _ hi;let#[as,own,_,a2,rfl,_,#[rfl,r],W]:=G1.ex;let f1:=G1.own.n_ (i:=i) (v:=.ref a) (sl:=.val d) #[_,rfl,r] rfl;let e:σ.set i (some (.ref a))=σ:=by
  apply hG;intro j;by_cases h:j=i
  .subst h;rw[aY (av.mp hs).1,hs]
  .rw[aS (bF h)]
 rw[e]at f1;let G2:OF K B0 B F Ha H σ δ:=#[G1.fr,G1.no,a2,λc hc=>own c ↑hc,W];exact#[Ha,G2.go m f1 (JN G.no i)]
theorem LL.see{ps:!ay}{gs:!(!ai)}:wA K (LL K a ps gs) a (.list (gs.map .list)):=λHa Hb as s h=>LL.rep Ha Hb as s h
end
section
variable{X:Cx}{sc:jx}{own N:!Str}{cap:!Nat}{cl:!(Str×ay)}{tg iter:bw}{δ:!Slot}{ds:!ai}{pos px nZ lp:Pos}{tgt:Du}{x:Str}{B0 B H0 H:Hp}{σ:St}{D:Ends}{R:OR}
theorem MB(i:Nat)(m:bL R)(G:OF X.K B0 B R H0 H σ δ)(hc:X.calm=true)(CS:h_ X sc own cap N cl)(hi:VI X tg iter δ ds)(hg:∀f s3 H3,PG (eQ X sc N cl f s3 H3) tg (F1 X.K tgt))(ht:pw own.length tgt=true)(hz:ds.length<=sizeLine)
  (step:∀d∈ds,∃δ',ui tgt d (mK own cap δ)>>δ')(hN:X.N.Nodup)(q:∀σ' a ps cQ H',OF X.K B0 B (Sep (LL X.K a ps (bp ds.length [])) R) cQ H' σ' (δ.set i (.ref a))->D.nx σ' H')(hn:∀a,noOwn (δ.set i (.ref a))=true)(Lr:X.N[i]?>>x:=by rfl)(hx:Loc X.env.scope x:=by left)
  (lZ:swapsWith (.ListComp (.List [] lp) [#[tg,iter,[],0]] sc pos) (some (.Name x px)) nZ.line X.env=pure true:=by rfl)(hs:Fx X iter:=by intro _;rfl)(hf:yi X x:=by left):
  cS X (.Assign [.Name x px] (.ListComp (.List [] lp) [#[tg,iter,[],0]] sc pos) nZ) D σ H:=by let#[as,G1,back]:=G.em.swap.frame m;exact Px i G1.fr G1.no hc CS hi hg ht hz step hN (λσ' a ps cQ H' G2=>q σ' a ps cQ H' (back G2)) hn Lr hx lZ hs hf
end
section
variable{X:Cx}{B0 B H0 H:Hp}{σ:St}{D:Ends}{δ:!Slot}{a:ay}{ps:!ay}{gs:!(!ai)}{e1 e2 ea:bw}{d:ai}{ds:!ai}{pos px:Pos}{x:Str}{R R':OR}{rest:!eO}
theorem JQ(mR:bL R)(mR':bL R')(G:OF X.K B0 B (Sep (LL X.K a ps gs) R) H0 H σ δ)(ig:Nat){j m:Nat}{p4 ap: Pos}(hga:δ[ig]?>>(.ref a))(ha:VE X ea δ (.int j))(hp:ps[j]?>>p)(hg:gs[j]?>>ds)(h1:XE X B0 B σ δ (Sep (LL X.K a ps gs) R) e1 (Sep (LL X.K a ps gs) R') (.int m))(hm:m<=ds.length)(h2:VE X e2 δ d)(hz:ds.length<sizeLine)
  (q:∀cQ H',OF X.K B0 B (Sep (LL X.K a ps (gs.set j (pC ds m d))) R') cQ H' σ δ->D.nx σ H')(hig:tE X ig x:=by ac_rfl)(lB:oo ea:=by intro _ _;rfl)
  (hs:kB X e1 [e2]:=by rfl)(o5:kB X e2 []:=by rfl)(fW:vK X (.Subscript (.Name x p0) ea p4) "insert":=by rfl)
  (k8:Ht X px [e1,e2]:=by rfl)
  (hline:(ap.endLine==px.line)=true:=by rfl)(fu:pU X px [e2]:=by rfl)(lZ:swapsWith (.Call (.Attribute (.Subscript (.Name x p0) ea p4) "insert" ap) [e1,e2] [] px) none pos.line X.env=pure false:=by rfl):
  cS X (.Expr (.Call (.Attribute (.Subscript (.Name x p0) ea p4) "insert" ap) [e1,e2] [] px) pos) D σ H:=λpins s I=>by refine kD (qI di PySem.F.slot_list_insert PySem.F.type_list_insert JF (K8 oP (vL hig) cu lB) (cy cu (cy cu dF o5) hs) fW k8 hline hs fu) lZ pins s σ H D I ?_;refine#[.ref a,G.fr.slot ig _ hga,?_];refine ha H0 H σ H0 H _ G.own λv H1 cW g r=>?_;cases r;let G1:=G.go (Sep.mono LL.mono mR) (G.own.grow g) G.no;let#[_,_,_,_,c1,c2,c3]:=G1.at;let#[xs,y1,y2]:=c3 j p ds hp hg;refine .inl #[a,_,_,.ref p,rfl,rfl,jb.of c1,df (by rw[aH,hp];rfl),.inl #[rfl,_,jb.of y1],?_];refine uq (Sep.mono LL.mono mR') h1 G1 λv H2 fG r2 G2=>?_;cases r2;refine h2 H2 fG σ H2 fG _ G2.own λv H3 wg g3 r3=>?_;let#[_,_,_,_,_,_,c6]:=G2.at;let#[xs,y1,y2]:=c6 j p ds hp hg;refine#[p,xs,m,v,rfl,rfl,g3.big _ _ y1,∅,by rw[y2.length];omega,[y2.length]▸hz,q H3 _ (G2.putL LL.mono mR' g3 λas' hL=>?_)];let e:=hL.1;subst e;exact#[aM _ (aP hp),a::ps,λ_ z=>z,LL.row hL hp (cz.refl _) (λz _ hz=>aI hz) aT ((y2.mono g3.eD).ins r3 m)]
end
section
variable{X:Cx}{B0 B H0 H:Hp}{σ:St}{δ δ':!Slot}{R:OR}{e:bw}{d:ai}
theorem P0(s:Seen X.K R δ δ')(h:VE X e δ' d)(hs:qK d=true):VC X B0 B R σ δ e d:=λH0 H G Q q=>by let#[as,h1,h2,f1]:=G.Ir s;exact h _ H σ _ H _ f1 λv C1 H1 g r=>q v (mW as C1) H1 (G.Up h1 g) (r.y8 hs)
end
section
variable{X:Cx}{a b c:bw}{σ:St}{H:Hp}{D:Ends}{pos px py pz:Pos}{x y z:Str}
theorem Uz(i j k:Nat){t:TA}{kt k2}(ha:PA X [a,b,c] t)(h:t σ H (λvs H1=>∃v w u,vs=[v,w,u]/\D.nx (((σ.set i (some v)).set j (some w)).set k (some u)) H1))(hc:X.calm=true)(hN:X.N.Nodup)(vX:i≠j)(hik:i≠k)(Fj:j≠k)(hi:X.N[i]?>>x:=by rfl)(hj:X.N[j]?>>y:=by rfl)(hk:X.N[k]?>>z:=by rfl)(hx:X.env.scope.names.lookup x>>.local:=by rfl)(hy:X.env.scope.names.lookup y>>.local:=by rfl)(hz:X.env.scope.names.lookup z>>.local:=by rfl)
  (hw:swappedStores [.Tuple [.Name x px,.Name y py,.Name z pz] kt pt] (.Tuple [a,b,c] k2 DG) X.env=pure (some [x,y,z]):=by rfl)(hs:swapsWithSole [.Tuple [.Name x px,.Name y py,.Name z pz] kt pt] (.Tuple [a,b,c] k2 DG) pos.line X.env=pure false:=by rfl):
  cS X (.Assign [.Tuple [.Name x px,.Name y py,.Name z pz] kt pt] (.Tuple [a,b,c] k2 DG) pos) D σ H:=λpins s I=>by
 rw[exec_Assign_arm];refine ao (q5 ?_);rw[hs];refine ao (aU ?_);rw[qQ2 ⋯];refine ao (Tuple_ (fF (ha _ pins s σ H _ I h) λus s1 #[vs,H1,I1,r1,q1]=>?_));let#[v,w,u,e1,q1]:=q1;subst e1;obtain⟨u1,u2,u3,rfl,rv,pP,ru⟩:∃u1 u2 u3,us=[u1,u2,u3]/\RelV v u1/\RelV w u2/\RelV u u3:=by
  cases r1 with
  |cons p q=>
   cases q with
   |cons p' q'=>
    cases q' with
    |cons p2 q2=>cases q2;exact#[_,_,_,rfl,p,p',p2]
 refine dE ?_ (by show 3<=sizeLine;decide);let I2:Inv X pins σ H1 { s1 with heap:=s1.heap.push { cls:=.type "tuple",data:=.seq [u1,u2,u3].toArray } }:=I1.kept (t':=s1.toks) λb o e=>aB _ e;rw[hw];refine ao (aU ?_);show wpAny (model X.prog X.w) X.A (do rule "assign.swapped-stores";let items <-unpackItems (.ref s1.heap.objs.size) 3 none;assignInOrder [λv=>bindName X.env z v,λv=>bindName X.env y v,λv=>bindName X.env x v] items.reverse;pure Flow.next) _ _ _;refine ao (tY (ao (unpackItems_tuple (items:=(bE [u1,u2,u3])) (I.ok.hd hc) (tL s1.heap _) λh' hx'=>?_)));let I3:=I2.kept (h':=h') (t':=s1.toks) λb o e=>hx' b o (a8 (aZ e)) e;show wpAny _ _ (assignInOrder [λv=>bindName X.env z v,λv=>bindName X.env y v,λv=>bindName X.env x v] [u3,u2,u1] >>= λ_=>pure Flow.next) _ _ _;refine ao (jd (pR (nA I3 hN hk (.inl hz) ru (λs2 I4=>?_) (.inr hz))));refine jd (pR (nA I4 hN hj (.inl hy) pP (λs3 I5=>?_) (.inr hy)));refine jd (pR (nA I5 hN hi (.inl hx) rv (λs4 I6=>Ah (aU ?_)) (.inr hx)));let e:((σ.set k (some u)).set j (some w)).set i (some v)=((σ.set i (some v)).set j (some w)).set k (some u):=by rw[uS _ _ (bF Fj),uS _ _ (bF hik),uS _ _ (bF vX)]
 rw[e]at I6;exact#[_,H1,I6,q1]
end
section
variable{X:Cx}{B0 B H0 H:Hp}{σ:St}{δ:!Slot}{R:OR}{a b c:bw}{DU Pp XR:!ai}{D:Ends}{pos px py pz:Pos}{x y z:Str}
theorem P1(m:bL R)(G:OF X.K B0 B R H0 H σ δ)(i j k:Nat){kt k2}(h1:VO X a δ DU)(h2:VO X b δ Pp)(h3:VO X c δ XR)(hn:∀p q r,noOwn (((δ.set i (.ref p)).set j (.ref q)).set k (.ref r))=true)(q:∀p1 p2 p3 σ' cQ H',OF X.K B0 B (Sep (LR X.K p1 DU) (Sep (LR X.K p2 Pp) (Sep (LR X.K p3 XR) R))) cQ H' σ' (((δ.set i (.ref p1)).set j (.ref p2)).set k (.ref p3))->D.nx σ' H')(hc:X.calm=true)(hN:X.N.Nodup)(vX:i≠j)(hik:i≠k)(Fj:j≠k)(hi:X.N[i]?>>x:=by rfl)(hj:X.N[j]?>>y:=by rfl)(hk:X.N[k]?>>z:=by rfl)(hx:X.env.scope.names.lookup x>>.local:=by rfl)(hy:X.env.scope.names.lookup y>>.local:=by rfl)(hz:X.env.scope.names.lookup z>>.local:=by rfl)
  (hw:swappedStores [.Tuple [.Name x px,.Name y py,.Name z pz] kt pt] (.Tuple [a,b,c] k2 DG) X.env=pure (some [x,y,z]):=by rfl)(hs:swapsWithSole [.Tuple [.Name x px,.Name y py,.Name z pz] kt pt] (.Tuple [a,b,c] k2 DG) pos.line X.env=pure false:=by rfl)
  (Fk:kB X a [b,c]:=by rfl)(o5:kB X b [c]:=by rfl)(hs3:kB X c []:=by rfl):
  cS X (.Assign [.Tuple [.Name x px,.Name y py,.Name z pz] kt pt] (.Tuple [a,b,c] k2 DG) pos) D σ H:=by refine Uz i j k (cy cu (cy cu (cy cu dF hs3) o5) Fk) ?_ hc hN vX hik Fj hi hj hk hx hy hz hw hs;refine qe G h1 _ λp1 o1 Ha Hb g z1 z2 z3 #[xs1,e1,r1]=>?_;let G1:=G.add (R':=LR X.K p1 DU) m g z1 z2 z3 #[rfl,xs1,by rw[z3,e1],r1];refine qe G1 h2 _ λp2 o2 Hc Hd g2 y1 y2 y3 #[O5,e2,r2]=>?_;let G2:=G1.add (R':=LR X.K p2 Pp) (Sep.mono LR.mono m) g2 y1 y2 y3 #[rfl,O5,by rw[y3,e2],r2];refine qe G2 h3 _ λp3 o3 He Hf g3 w1 w2 w3 #[xs3,e3,r3]=>?_;let G3:=G2.add (R':=LR X.K p3 XR) (Sep.mono LR.mono (Sep.mono LR.mono m)) g3 w1 w2 w3 #[rfl,xs3,by rw[w3,e3],r3];let oi:OI (Sep (LR X.K p3 XR) (Sep (LR X.K p2 Pp) (Sep (LR X.K p1 DU) R))) (Sep (LR X.K p1 DU) (Sep (LR X.K p2 Pp) (Sep (LR X.K p3 XR) R))):=OI.tr.trans ((OI.sep .rfl .tr).trans .tr);let G4:=G3.oi oi;let f4:=(((G4.own.n_ (i:=i) (v:=.ref p1) (sl:=.ref p1) rfl rfl).n_ (i:=j) (v:=.ref p2) (sl:=.ref p2) rfl rfl).n_ (i:=k) (v:=.ref p3) (sl:=.ref p3) rfl rfl);exact#[_,_,_,rfl,q p1 p2 p3 _ He Hf (G4.go (Sep.mono LR.mono (Sep.mono LR.mono (Sep.mono LR.mono m))) f4 (hn _ _ _))]
theorem P2(m:bL R)(G:OF X.K B0 B R H0 H σ δ)(i j:Nat){kt k2}(h1:VO X a δ DU)(h2:VO X b δ Pp)(hn:∀p q,noOwn ((δ.set i (.ref p)).set j (.ref q))=true)(q:∀p1 p2 σ' cQ H',OF X.K B0 B (Sep (LR X.K p1 DU) (Sep (LR X.K p2 Pp) R)) cQ H' σ' ((δ.set i (.ref p1)).set j (.ref p2))->D.nx σ' H')(hc:X.calm=true)(hN:X.N.Nodup)(vX:i≠j)(hi:X.N[i]?>>x:=by rfl)(hj:X.N[j]?>>y:=by rfl)(hx:X.env.scope.names.lookup x>>.local:=by rfl)(hy:X.env.scope.names.lookup y>>.local:=by rfl)
  (hw:swappedStores [.Tuple [.Name x px,.Name y py] kt pt] (.Tuple [a,b] k2 DG) X.env=pure (some [x,y]):=by rfl)(hs:swapsWithSole [.Tuple [.Name x px,.Name y py] kt pt] (.Tuple [a,b] k2 DG) pos.line X.env=pure false:=by rfl)
  (Fk:kB X a [b]:=by rfl)(o5:kB X b []:=by rfl):
  cS X (.Assign [.Tuple [.Name x px,.Name y py] kt pt] (.Tuple [a,b] k2 DG) pos) D σ H:=λpins s I=>by refine KW hc hN hi hj vX hx hy (cy cu (cy cu dF o5) Fk) hw hs pins s σ H D I ?_;refine qe G h1 _ λp1 o1 Ha Hb g z1 z2 z3 #[xs1,e1,r1]=>?_;let G1:=G.add (R':=LR X.K p1 DU) m g z1 z2 z3 #[rfl,xs1,by rw[z3,e1],r1];refine qe G1 h2 _ λp2 o2 Hc Hd g2 y1 y2 y3 #[O5,e2,r2]=>?_;let G2:=(G1.add (R':=LR X.K p2 Pp) (Sep.mono LR.mono m) g2 y1 y2 y3 #[rfl,O5,by rw[y3,e2],r2]).oi .tr;let f4:=((G2.own.n_ (i:=i) (v:=.ref p1) (sl:=.ref p1) rfl rfl).n_ (i:=j) (v:=.ref p2) (sl:=.ref p2) rfl rfl);exact#[_,_,rfl,q p1 p2 _ Hc Hd (G2.go (Sep.mono LR.mono (Sep.mono LR.mono m)) f4 (hn _ _))]
theorem OF.none(f:fQ K B0 B H0 H σ δ)(h:noOwn δ=true):OF K B0 B EM H0 H σ δ:=#[f,h,[],(λa ha=>by cases ha),rfl]
theorem XE.fl{L: OR}{e:bw}(mL:bL L)(h:XE X B0 B σ δ R e R' d):XE X B0 B σ δ (Sep L R) e (Sep L R') d:=(h.fr mL).oi .comm .comm
end
section
variable{K:aj}{B0 B H0 H:Hp}{σ:St}{δ:!Slot}{R:OR}
theorem OI.em:OI (Sep R EM) R:=λ_ _ as #[a1,a2,e,_,h1,h2]=>#[a1,λa=>by rw[e,show a2=[]from h2,cn],h1]
theorem OF.un(m:bL R)(G:OF K B0 B R H0 H σ δ)(i:Nat):OF K B0 B R H0 H σ (δ.set i .un):=by
 refine G.go m (G.own.forget fZ λj sl e=>?_) ?_
 .by_cases hj:i=j
  .subst hj;let hl:=(av.mp e).1;rw[fZ]at hl;rw[aY hl]at e;cases e;exact .inl rfl
  .rw[aS hj]at e;exact .inr e
 .let h:=G.no;unfold noOwn at h ⊢;rw[cO]at h ⊢;intro x hx;rcases jJ hx with z|rfl
  .exact h x z
  .rfl
end
section
variable{X:Cx}{a b b2 e:bw}{δ:!Slot}{d d1 d2:ai}{ds:!ai}{pos px CG:Pos}{x:Str}{j j2:Nat}
theorem P4(i:Nat){tp JR: Pos}{kt}(hc:X.calm=true)(hi:δ[i]?>>(.own ds))(hb:VE X b δ (.int (j:Nat)))(hj:j<ds.length)(Kz:VE X b2 (δ.set i (.own (ds.set j d1))) (.int (j2:Nat)))(ZU:j2<ds.length)(h:VE X e δ (.tuple [d1,d2]))(hN:tE X i x:=by ac_rfl)(hs:swapsWithSole [.Tuple [.Subscript (.Name x px) b tp,.Subscript (.Name x CG) b2 JR] kt pt] e pos.line X.env=pure false:=by rfl)(hw:swappedStores [.Tuple [.Subscript (.Name x px) b tp,.Subscript (.Name x CG) b2 JR] kt pt] e X.env=pure none:=by rfl)
  (h1:(assignEach [.Tuple [.Subscript (.Name x px) b tp,.Subscript (.Name x CG) b2 JR] kt pt] X.env).map (·.2)=[assign (.Tuple [.Subscript (.Name x px) b tp,.Subscript (.Name x CG) b2 JR] kt pt) X.env]:=by rfl)
  (hg1:(assignEach [.Subscript (.Name x px) b tp,.Subscript (.Name x CG) b2 JR] X.env).map (·.2)=assign (.Subscript (.Name x px) b tp) X.env::(assignEach [.Subscript (.Name x CG) b2 JR] X.env).map (·.2):=by rfl)(O_:(assignEach [.Subscript (.Name x CG) b2 JR] X.env).map (·.2)=assign (.Subscript (.Name x CG) b2 JR) X.env::(assignEach [] X.env).map (·.2):=by rfl)
  (hn:(assignEach [.Subscript (.Name x px) b tp,.Subscript (.Name x CG) b2 JR] X.env).length=2:=by rfl)(I0:(assignEach [.Subscript (.Name x px) b tp,.Subscript (.Name x CG) b2 JR] X.env).findIdx? (·.1)=none:=by rfl)
  (ha:∀v,assign (.Subscript (.Name x px) b tp) X.env v=(do
   let ov <-holding [v] (eval (.Name x px) X.env)
   let iv <-holding [v,ov] (eval b X.env)
   standAt tp
   holding [v,ov,iv] (setItem ov iv v)
   release [v,ov,iv] []):=by intro _;rfl)
  (ha2:∀v,assign (.Subscript (.Name x CG) b2 JR) X.env v=(do
   let ov <-holding [v] (eval (.Name x CG) X.env)
   let iv <-holding [v,ov] (eval b2 X.env)
   standAt JR
   holding [v,ov,iv] (setItem ov iv v)
   release [v,ov,iv] []):=by intro _;rfl) :
  VS X (.Assign [.Tuple [.Subscript (.Name x px) b tp,.Subscript (.Name x CG) b2 JR] kt pt] e pos) δ (.nx (δ.set i (.own ((ds.set j d1).set j2 d2)))):=λB0 B σ H0 H D f ok pins s I=>by
 refine KS cu (gU hc (bY (Fz (vL hN) cu set_list ha) (bY (Fz (vL hN) cu set_list ha2) fA O_) hg1) hn I0) hs hw h1 pins s σ H D I (h B0 B σ H0 H _ f λv H1 cW g r=>?_);let f1:=f.grow g;cases r with
 |tup hq rs=>
  let#[v1,v2,rfl,r1,r2]:=rs.two;refine#[_,_,rfl,cz.nF g.sub hq,rfl,v1,[v2],rfl,?_];let#[p,xs,z1,z2,z3,z4,z5]:=f1.slot i _ hi;refine#[.ref p,z1,hb B0 B σ H1 cW _ f1 λw H2 fG g2 q2=>?_];cases q2;let hl:=z5.length;refine#[p,xs,_,j,rfl,rfl,g2.big _ _ z2,by rw[hl];unfold Kw;rw[qQ3 ∅,qQ3 ∅,c7],v2,[],rfl,?_];let f2:=(f1.grow g2).put hi z1 (g2.big _ _ z2) (r1.mono g2.eD) (j:=j);let hi2:(δ.set i (.own (ds.set j d1)))[i]?>>(.own (ds.set j d1)):=aY (av.mp hi).1;let#[p',ys,y1,y2,y3,y4,y5]:=f2.slot i _ hi2;obtain rfl:p'=p:=by
   let:=y1.symm.trans z1;injection this with this
   injection this with this
   injection this
  refine#[.ref p',y1,Kz B0 B σ H2 _ _ f2 λw H3 wg g3 q3=>?_];cases q3;let Cm:=y5.length;refine#[p',ys,_,j2,rfl,rfl,g3.big _ _ y2,by rw[Cm,fZ];unfold Kw;rw[qQ3 ∅,qQ3 ∅,c7],rfl,?_];let f3:=(f2.grow g3).put hi2 y1 (g3.big _ _ y2) (r2.mono (g2.eD.trans g3.eD)) (j:=j2);rw[List.set_set]at f3;exact ok σ H3 _ ((g.eD.trans g2.eD).trans g3.eD) f3
end
def Fm:!(Str×!ai)->Str->ai->!(Str×!ai)
 | [],z,d=>[(z,[d])]
 |q::l,z,d=>if q.1=z then(q.1,q.2 ++ [d])::l else q::Fm l z d
theorem CH:∀{kl:!(Str×!ai)},z∉kl.map (·.1)->Fm kl z d=kl ++ [(z,[d])]
 | [],_=>rfl
 |q::l,h=>by rw[aq,ax,not_or]at h;rw[Fm,qQ2 (bF h.1),CH h.2];rfl
theorem yw{z:Str}{d:ai}:∀{kl:!(Str×!ai)},z∈kl.map (·.1)->∃j ds,kl[j]?>>(z,ds)/\Fm kl z d=kl.set j (z,ds ++ [d])
 | [],h=>by cases h
 |q::l,h=>by
  by_cases hz:q.1=z
  .exact#[0,q.2,by rw[<-hz];rfl,by rw[Fm,qQ3 hz,hz];rfl]
  .rw[aq,ax]at h;let#[j,ds,h1,h2]:=yw (d:=d) (h.resolve_left (bF hz));exact#[j+1,ds,h1,by rw[Fm,qQ2 hz,h2];rfl]
theorem Eb:∀{kl:!(Str×!ai)}{cs:!ay},z∉kl.map (·.1)->gW (xq kl cs) (bf z)=none
 | [],_,_=>rfl
 |_::_,[],_=>rfl
 |q::l,c::cs,h=>by rw[aq,ax,not_or]at h;let e:xq (q::l) (c::cs)=(bf q.1,V.ref c)::xq l cs:=rfl;rw[e,h8 (λw=>h.1 (by injection w with w;exact w.symm))];exact Eb h.2
section
variable{X:Cx}{B0 B H0 H:Hp}{σ:St}{D:Ends}{δ:!Slot}{F R:OR}{a:ay}{kl:!(Str×!ai)}{e ek:bw}{d:ai}{z:Str}{pos px pa pc:Pos}{x:Str}{k:Nat}
theorem MC(mF:bL F)(G:OF X.K B0 B (Sep (DL X.K a kl) F) H0 H σ δ)(i:Nat){pl Cr Mh:Pos}(hi:δ[i]?>>(.ref a))(hk:VE X ek δ (.str z))(hv:VE X e δ d)(AA:(kl.map (·.1)).Nodup)(hl:kl.length<sizeLine)(hx:∀q∈kl,q.2.length<sizeLine)
  (q:∀Ha Hb,OF X.K B0 B (Sep (DL X.K a (Fm kl z d)) F) Ha Hb σ δ->D.nx σ Hb)
  (hN:tE X i x:=by ac_rfl)
  (m:M2 X (.Name x px) "setdefault" Cr ek (.List [] pl) Mh:=by exact#[rfl,rfl,rfl,rfl])
  (fW:vK X (.Call (.Attribute (.Name x px) "setdefault" Cr) [ek,.List [] pl] [] Mh) "append":=by rfl)
  (hs:kB X e []:=by rfl)
  (k8:Ht X pc [e]:=by rfl)
  (hline:(pa.endLine==pc.line)=true:=by rfl)(fu:pU X pc []:=by rfl)(lZ:swapsWith (.Call (.Attribute (.Call (.Attribute (.Name x px) "setdefault" Cr) [ek,.List [] pl] [] Mh) "append" pa) [e] [] pc) none pos.line X.env=pure false:=by rfl):
  cS X (.Expr (.Call (.Attribute (.Call (.Attribute (.Name x px) "setdefault" Cr) [ek,.List [] pl] [] Mh) "append" pa) [e] [] pc) pos) D σ H:=λpins s I=>by
 refine kD (qI di eA eB ka (Ih (vL hN) cu (vZ dF) m) (cy cu dF hs) fW k8 hline hs fu) lZ pins s σ H D I ?_;let#[cs,G0]:=G.dlx;let#[_,_,_,nd,hd,hw]:=G0.at;let hlen:(xq kl cs).length=kl.length:=by let:=qQ6 dU (vg (kl:=kl) (cs:=cs) hw.1);simpa using this
 refine#[.ref a,G.fr.slot i _ hi,a,rfl,.inl #[_,.inl hd],?_];refine hk H0 H σ H0 H _ G.own λu H1 cW g1 r1=>?_;cases r1;refine#[by show 0<=sizeLine;exact aW _,λt ht=>?_];let VB:a≠t:=bB (g1.big _ _ hd) ht;let gl:dm H0 H H1 (upd cW t (.lst [])):=g1.trans (.loose g1.sub ht);let mD:∀{cs kl},bL (Sep (DC X.K a cs kl) F):=Sep.mono DC.mono mF;refine#[xq kl cs,bf z,[aI VB]▸g1.big _ _ hd,rfl,[hlen]▸hl,λv AF=>?_,λhn=>?_]
 .let hz:z∈kl.map (·.1):=Classical.byContradiction λhz=>by rw[Eb hz]at AF;cases AF
  let#[j,ds,hj,ea]:=yw (d:=d) hz;let Gg:=(av.mp hj).1;let XS:cs[j]?>>(cs[j]'([hw.1]▸Gg)):=aD _
  generalize(cs[j]'([hw.1]▸Gg))=c at XS
  let:=Cw AA hj XS;rw[show((z,ds):Str×!ai).1=z from rfl,AF]at this;cases this;let G1:=G0.go mD (G0.own.grow gl) G0.no;let#[_,_,_,_,_,hw1]:=G1.at;let#[ys,y1,y2]:=hw1.2 j c _ XS hj;refine#[.inl #[rfl,_,jb.of y1],?_];refine hv H1 _ σ H1 _ _ G1.own λv H2 fG g2 r2=>?_;let G2:=G1.go mD (G1.own.grow g2) G1.no;refine#[c,ys,v,rfl,rfl,g2.big _ _ y1,?_,q H2 _ ?_]
  .rw[y2.length];exact hx _ (aP hj)
  .rw[ea];exact G2.putL DC.mono mF (.refl G2.fr.sub) λas hd2=>#[by rw[hd2.1];simp[aP XS],as,λ_ w=>w,.of (hd2.row hj XS ((y2.mono g2.eD).append (.cons r2 .nil)))]
 .let hz:z∉kl.map (·.1):=λhz=>by let#[j,ds,hj,_]:=yw (d:=d) hz;let Gg:=(av.mp hj).1;let:=Cw AA hj (aD ([hw.1]▸Gg));rw[show((z,ds):Str×!ai).1=z from rfl,hn]at this;cases this
  let G1:OF X.K B0 B (Sep (DC X.K a (cs ++ [t]) (kl ++ [(z,[])])) F) H1 _ σ δ:=G0.XD (ob':=.dK (putK (xq kl cs) (bf z) (.ref t))) DC.mono mF gl (g1.big.free ht) (g1.sub.free ht) aT λas Ro hd2=>#[by rw[hd2.1];simp,as ++ [t],λb hb=>(aV.mp hb).elim .inr λy=>.inl (aF.mp y),hd2.push hz Ro aT .nil];refine#[.inl #[rfl,_,jb.of ([aI (bF VB)]▸aT)],?_];refine hv H1 _ σ H1 _ _ G1.own λv H2 fG g2 r2=>?_;let G2:=G1.go mD (G1.own.grow g2) G1.no;let T1:fG t>>(.lst []):=g2.big _ _ ([aI (bF VB)]▸aT);refine#[t,[],v,rfl,rfl,T1,by show 0<sizeLine;rw[cM];decide,q H2 _ ?_];rw[CH hz];let hj:(kl ++ [(z,([]:!ai))])[kl.length]?>>(z,[]):=by simp
  let hc:(cs ++ [t])[kl.length]?>>t:=by rw[<-hw.1];simp
  let e2:kl ++ [(z,[d])]=(kl ++ [(z,([]:!ai))]).set kl.length (z,[d]):=by simp
  rw[e2];exact G2.putL DC.mono mF (.refl G2.fr.sub) λas hd2=>#[by rw[hd2.1];simp,as,λ_ w=>w,.of (hd2.row hj hc (.cons r2 .nil))]
def Dv(a:ay)(l:!((Str×Str)×Int)):OR:=λ_ H as=>as=[a]/\H a>>(.dT (l.map λq=>(lM q.1,V.int q.2)))
theorem Dv.mono:bL (Dv a l):=λ_ _ _ _ _ #[h1,h2] _ hb=>#[h1,by rw[hb a (by rw[h1];simp)];exact h2]
theorem Dv.see:wA K (Dv a l) a (qd (l.map λq=>(q.1,.int q.2))):=by
 rintro Ha Hb as sb ⟨rfl,h1⟩;refine .O4 (kvs:=l.map λq=>(lM q.1,V.int q.2)) ([iU (by simp)]▸h1) ?_ ?_
 .simp only[aG];rfl
 .simp only[aG];induction l with
  |nil=>exact .nil
  |cons q l ih=>exact .cons (.int q.2) (bU.mono (λ_ _ e=>e) (by
    let go:∀l:!((Str×Str)×Int),bU K (kS [a] Hb Ha) (l.map λq=>V.int q.2) (l.map λq=>eX q.2):=λl=>by
     induction l with
     |nil=>exact .nil
     |cons q l ih=>exact .cons (.int q.2) ih
    exact go l))
theorem MD(sm:cz H0 H):VF X σ H0 H (.Dict [] [] pos) (λ_ o=>o=.dT []):=λQ q pins s I=>yR pins s σ H Q I λl hl=>q l _ H0 _ (.loose sm hl) hl (sm.free hl) aT rfl
theorem UA(m:bL R)(G:OF X.K B0 B R H0 H σ δ)(j:Nat)(hn:∀l,noOwn (δ.set j (.ref l))=true)(q:∀l σ' cQ H',OF X.K B0 B (Sep (Dv l []) R) cQ H' σ' (δ.set j (.ref l))->D.nx σ' H')(hN:X.N.Nodup)
  (hj:X.N[j]?>>y:=by rfl)(hx:Loc X.env.scope y:=by left)(lZ:A0 X pos (.Dict [] [] pc) (.Name y px):=by rfl)(hf:yi X y:=by left):
  cS X (.Assign [.Name y px] (.Dict [] [] pc) pos) D σ H:=Gi m (λ_=>Dv.mono) G j (MD G.fr.sub) (λl o Ha Hb e h=>#[rfl,by rw[h,e];rfl]) hn q hN hj hx lZ hf
theorem UB{e1 e2 ev:bw}{z1 z2:Str}{n:Int}{x1}{ps: Pos}(mF:bL F)(G:OF X.K B0 B (Sep (Dv a l) F) H0 H σ δ)(hr:ei k X.A)(i:Nat)(hi:δ[i]?>>(.ref a))(N0:VE X e1 δ (.str z1))(T_:VE X e2 δ (.str z2))(hv:VE X ev δ (.int n))(hl:l.length<sizeLine)(hz:(z1,z2)∉l.map (·.1))
  (q:∀Ha Hb,OF X.K B0 B (Sep (Dv a (l ++ [((z1,z2),n)])) F) Ha Hb σ δ->D.nx σ Hb)
  (hN:tE X i x:=by ac_rfl)
  (hs:A0 X pos ev (.Subscript (.Name x px) (.Tuple [e1,e2] x1 pt) ps):=by rfl)
  (Fk:kB X e1 [e2]:=by rfl)(o5:kB X e2 []:=by rfl):
  cS X (.Assign [.Subscript (.Name x px) (.Tuple [e1,e2] x1 pt) ps] ev pos) D σ H:=λpins s I=>by
 refine ym (Jw hr) (vL hN) (yM (cy cu (cy cu dF o5) Fk)) cu hs pins s σ H D I ?_;refine hv H0 H σ H0 H _ G.own λv H1 cW g1 r1=>?_;cases r1;refine#[.ref a,G.fr.slot i _ hi,?_];let G1:=G.go (Sep.mono Dv.mono mF) (G.own.grow g1) G.no;refine N0 H1 cW σ H1 cW _ G1.own λu H2 fG g2 r2=>?_;cases r2;let G2:=G1.go (Sep.mono Dv.mono mF) (G1.own.grow g2) G1.no;refine T_ H2 fG σ H2 fG _ G2.own λu H3 wg g3 r3=>?_;cases r3;refine#[by show 2<=sizeLine;rw[cM];decide,λt ht=>?_];let g4:dm H2 fG H3 (upd wg t (.tup [.str z1,.str z2])):=g3.trans (.loose g3.sub ht);let G3:=G2.go (Sep.mono Dv.mono mF) (G2.own.grow g4) G2.no;let#[_,_,_,hd]:=G3.at;refine#[a,_,rfl,As.t (k:=lM (z1,z2)) hd aT ([ae]▸hl),q H3 _ ?_];refine G3.putL Dv.mono mF (.refl G3.fr.sub) λas hd2=>#[by rw[hd2.1];simp,as,λ_ w=>w,hd2.1,?_];rw[aT,o7,aQ]
 .rfl
 .let go:∀l:!((Str×Str)×Int),(z1,z2)∉l.map (·.1)->gW (l.map λq=>(lM q.1,V.int q.2)) (lM (z1,z2))=none:=by
   intro l;induction l with
   |nil=>intro _;rfl
   |cons w l ih=>
    intro h;rw[aq,ax,not_or]at h;rw[aq,h8 (λy=>h.1 (by
     let y:([bf w.1.1,bf w.1.2]:!Key)=[bf z1,bf z2]:=y;injection y with y1 y2
     injection y2 with y2 _
     injection y1 with y1
     injection y2 with y2
     exact Prod.ext y1.symm y2.symm)),ih h.2]
  exact go l hz
end
section
variable{prog:bx}{w:b_}{A:dz}{E:aA->aK->Prop}{s:aK}{it d:ay}{i ep:Nat}{od:Obj}{es:Array fU}
theorem Ec{Q:aA->aK->Prop}(lo:(d==sysModules)=false)(h1:s.heap.get? d>>od)(hc:od.ExactDict)(h2:od.data=.dict es ep)
  (q:Q (.ref s.heap.objs.size) { s with heap:=s.heap.push { cls:=.type "dict_keyiterator",data:=.fields (bE [.ref d,.int 0 0,.int es.size 0,.int ep 0]) } }):wpAny (model prog w) A (pyIter (.ref d)) Q E s:=by let T:s.TypeIs (.ref d) "dict":=#[od,h1,hc.1];refine wpAny_pyIter_slot T F.slot_dict_iter (gM F.slot_dict_iter T F.entry_dict_iter (show wpAny _ _ (t_.«dict.__iter__» _) _ _ _ from ?_) (F.args_dict_iter_1 _));refine ao (ao (wpAny_notOrdered_dict T (aU (a:=cC d) (show wpAny _ _ (yH d >>= _) _ _ s from ?_))));unfold yH;rw[lo,qQ2 ⋯];refine ao (aU (ao (An h1 h2 (ao (DB h1 h2 (ao (dE (aU #[_,rfl,"dict_keyiterator",_,#[_,bh _ rfl,rfl],gj.lookup,?_]))))))));simpa[rawInt]using q
theorem Ed{e:fU}(hit:s.heap.IsKeyIter it d i es.size ep)(h1:s.heap.get? d>>od)(h2:od.data=.dict es ep)(hx:es[i]?>>e)
  (q:∀h',h'.IsKeyIter it d (i+1) es.size ep->gk it s.heap h'->Q (some e.key) { s with heap:=h' }):wpAny (model prog w) A (pyNext (.ref it)) Q E s:=by
 let T:=hit.typeIs;let#[oi,g1,g2,g3]:=hit;refine ao (q_ (eZ (name:=xQ "__next__") T gj (gM gj T AX (ao (aU (ao (ao ?_)))) (Ao _))));refine ao (ja T (aU (ao (wpAny_fieldsOf g1 g3 ?_))));rw[show qY "dict_keyiterator"=false by decide];refine ao (aU (ao (An h1 h2 ?_)));let lt:i<es.size:=(Ap.mp hx).1;rw[qQ2 (by simp)];refine ao (aU (ao (DB h1 h2 ?_)));rw[qQ2 (by simp)];refine aU ?_;simp only[show ¬((i:Int)<0)from by omega,if_false,c7,hx];refine ao (ao (ja T (aU (ao (wpAny_isOneOf_keyiter T (ao (m:=setField (.ref it) 1 (rawInt ((i:Int)+1))) (vQ g1 g3 (by simp) ?_)))))));let k:(s.heap.update it (Obj.mapFields (·.setIfInBounds 1 (rawInt ((i:Int)+1))))).IsKeyIter it d (i+1) es.size ep:=
  #[_,sL _ g1 (Ho (oK g3 _)),[Obj.cls_mapFields]▸g2,by rw[oK g3];simp[rawInt]];exact ao (iA (ao (wpAny_isOneOf_keyiter k.typeIs (aU (aU #[_,rfl,aU (q _ k (kZ ..))])))))
theorem Iw(hh:A.handled=none)(hit:s.heap.IsKeyIter it d i es.size ep)(h1:s.heap.get? d>>od)(h2:od.data=.dict es ep)(hi:es.size<=i)
  (q:∀h',Hq it s.heap h'->Q none { s with heap:=h' }):wpAny (model prog w) A (pyNext (.ref it)) Q E s:=by let T:=hit.typeIs;let#[oi,g1,g2,g3]:=hit;refine ao (q_ (eZ (name:=xQ "__next__") T gj (gM gj T AX (ao (aU (ao (ao ?_)))) (Ao _))));refine ao (ja T (aU (ao (wpAny_fieldsOf g1 g3 ?_))));rw[show qY "dict_keyiterator"=false by decide];refine ao (aU (ao (An h1 h2 ?_)));rw[qQ2 (by simp)];refine ao (aU (ao (DB h1 h2 ?_)));rw[qQ2 (by simp)];refine aU ?_;simp only[show ¬((i:Int)<0)from by omega,if_false,c7,Array.getElem?_eq_none hi];refine ao (ao (ja T (aU (ao (m:=setField (.ref it) 0 .none) (vQ g1 g3 (by simp) (ao (m:=newExc (.type "StopIteration") []) ?_))))));simp only[newExc,newTuple];refine ao (dE (ao (m:=firstArgMember _ _) (wpAny_of_eq (a:=lI) (by first|rfl|(simp only[firstArgMember];rfl)) (dE ?_ (by size_fits)))) (by size_fits));simp only[raiseNew];refine ao (wpAny_handled ?_);rw[show A.in1.handled=none from hh];refine ao (aU (wpAny_throw ?_));refine ao (wpAny_isInstance (b:=true) (T:="StopIteration") ?_ isSubtype_stop (aU (q _ (((kZ ..).extBut.push _).push _))));exact#[_,bh _ rfl,rfl]
end
def MF(d:ay)(es:Array fU)(ep:Nat)(h:cI):Prop:=∃od,h.get? d>>od/\od.ExactDict/\od.data=.dict es ep
theorem P5{prog:bx}{d:ay}{es:Array fU}{ep:Nat}(lo:(d==sysModules)=false):KdlSrc prog w "dict" d d es.size (λi v=>∃e,es[i]?>>e/\v=e.key) (MF d es ep) where
 type:=λ_ #[od,h1,hc,_]=>#[od,h1,hc.1]
 there:=λ_ #[_,h1,_]=>#[aZ h1,aZ h1]
 keep:=λ_ _ #[od,h1,r] hk=>#[od,hk d (.inl rfl) od h1,r]
 notList:=⋯
 notTuple:=⋯
 hint:=λ_ _ _ _ #[od,h1,hc,_] hq=>kdl_hint_dict #[od,h1,hc.1] hq
 iter:=λA s hh #[od,h1,hc,h2]=>#[_,λi h=>h.IsKeyIter s.heap.objs.size d i es.size ep/\MF d es ep h,λ_ _ hq=>Ec lo h1 hc h2 hq,{
   sub:=λb hb=>by simp at hb;simp[hb]
   frame:=λ_ _ _ #[#[o,e,r],od,h1,r2] hk=>#[#[o,hk _ (by simp) o e,r],od,hk _ (by simp) od h1,r2]
   item:=λi s' Q E hi #[st,od',k1,k2,k3] hQ=>Ed st k1 k3 (fq hi) λh' uW sb=>hQ _ h' s'.toks #[_,fq hi,rfl] #[uW,od',sb.extBut d od' (a8 (aZ h1)) k1,k2,k3] λb o hb e=>sb.extBut b o (λz=>hb (by simp[z])) e
   done:=λs' Q E #[st,od',k1,k2,k3] hQ=>Iw hh st k1 k3 (aE _) λh' eb=>hQ h' s'.toks λb o hb e=>eb b o (λz=>hb (by simp[z])) e
   self:=λ_ _ _ _ st hQ=>vT st.1 hQ },#[#[_,bh _ rfl,rfl,rfl],od,aB _ h1,hc,h2]]
section
variable{X:Cx}{pins:!(ay×Obj)}{σ:St}{H:Hp}{s:aK}{a:ay}{kvs:!(!Key×V)}
theorem Inv.ents(I:Inv X pins σ H s)(h:Rd H a (.dT kvs)):kvs.length<=sizeLine/\(a==sysModules)=false/\∃(es:Array fU)(ep:Nat)(ts:!ay),MF a es ep s.heap/\es.size=kvs.length/\ts.length=kvs.length/\(∀(i:Nat)q,kvs[i]?>>q->∃e t,es[i]?>>e/\ts[i]?>>t/\e.key=.ref t/\H t>>(.tup (q.1.map kV))):=by
 let#[z,lo,xs,r,od,es,ep,h1,h2,h3,h4,_]:=(show fV X.prog X.w H s.heap a (.dT kvs)from h.ok I.hok);let hl:xs.length=kvs.length:=r.length.symm;let XU:es.size=kvs.length:=by rw[<-ck,h4,ae,hl]
 refine#[z,lo,es,ep,xs.map (·.2.1),#[od,h1,h2,h3],XU,by rw[ae,hl],λi q hq=>?_];let go:∀{kvs:!(!Key×V)}{xs:!(!Key×ay×aA)},yC (λ(p:!Key×V)(q:!Key×ay×aA)=>p.1=q.1/\H q.2.1>>(.tup (p.1.map kV))/\RelV p.2 q.2.2) kvs xs->∀(i:Nat)q,kvs[i]?>>q->∃x,xs[i]?>>x/\H x.2.1>>(.tup (q.1.map kV)):=by
  intro kvs xs r;induction r with
  |nil=>intro i q h;cases h
  |cons h1 _ ih=>
   intro i q h;cases i with
   |zero=>cases h;exact#[_,rfl,h1.2.1]
   |succ i=>exact ih i q h
 let#[x,hx,hH]:=go r i q hq;refine#[entryOfKey (tupleKind (eG X.prog X.w)) x,x.2.1,?_,by rw[aH,hx];rfl,rfl,hH];rw[<-iY,h4,aH,hx];rfl
theorem qM(hc:X.calm=true):iz X (.type "list") (λxs H Q=>∃p kvs,xs=[.ref p]/\Rd H p (.dT kvs)/\∀(l:ay)(ts:!ay),H l=none->ts.length=kvs.length->(∀(i:Nat)(t:ay)(q:!Key×V),ts[i]?>>t->kvs[i]?>>q->H t>>(.tup (q.1.map kV)))->Q (.ref l) (upd H l (.lst (ts.map V.ref)))):=by
 intro pins s σ H xs us Q I r h;let#[p,kvs,rfl,hp,q]:=h;let#[u,rfl,rx]:=vals1 r;cases rx;let#[z,lo,es,ep,ts,en,XU,hts,hk]:=I.ents hp;refine PySem.W.kdl_call (P5 (es:=es) (ep:=ep) lo) (I.ok.hd hc) en ([XU]▸z) λh' tk JG c' Iy hD JH=>?_;let zbI:JG.toList=ts.map cC:=by
  refine hG λj=>?_;by_cases hj:j<kvs.length
  .let#[e,t,e1,e2,e3,_]:=hk j _ (aD hj);let Gg:j<JG.size:=[JH.1,XU]▸hj;let#[e',g1,g2]:=JH.2 j JG[j] (fq Gg);rw[e1]at g1;cases g1;rw[iY,fq Gg,g2,e3,aH,e2];rfl
  .rw[fz (by rw[ck,JH.1,XU];omega),fz (by rw[ae];omega)]
 let rv:∀ts:!ay,dA (ts.map V.ref) (ts.map cC):=λts=>by
  induction ts with
  |nil=>exact .nil
  |cons t ts ih=>exact .cons rfl ih
 refine#[.ref _,_,I.laid Iy (aE _) (show fV X.prog X.w _ h' _ (.lst (ts.map V.ref)) from#[[ae,hts]▸z,JG.toList,c',[zbI]▸rv ts,by simpa using hD]),rfl,q _ ts (I.hok.fresh (aE _)) hts λj t q' h1 h2=>?_];let#[e,t',e1,e2,e3,e4]:=hk j q' h2;rw[h1]at e2;cases e2;exact e4
end
def KC(p:(Str×Str)×ai):ai:=.tuple [.str p.1.1,.str p.1.2]
def AJ(l:!((Str×Str)×ai)):ai:=.dict ((.none,.int 2)::l.map λp=>(KC p,p.2))
theorem Ee:∀{l:!((Str×Str)×ai)}{ws:!(!Key×V)},(ws.map λp=>dg (p.1.map mN))=l.map KC->ws.map (·.1)=l.map λp=>lM p.1
 | [],[],_=>rfl
 | [],_::_,e=>by simp at e
 |_::_,[],e=>by simp at e
 |p::l,(ks,v)::ws,e=>by
  rw[aq,aq]at e;injection e with h1 h2
  rw[aq,aq,Ee h2]
  congr 1
  let h1:ks.map mN=[.str p.1.1,.str p.1.2]:=by injection h1
  let one:∀(k:Key)(x:Str),mN k=.str x->k=.inr x:=λk x h=>by
   cases k with
   |inl i=>cases h
   |inr y=>injection h with h;rw[h]
  cases ks with
  |nil=>cases h1
  |cons k1 r=>
   cases r with
   |nil=>simp at h1
   |cons k2 r2=>
    cases r2 with
    |cons _ _=>simp at h1
    |nil=>simp only[aq,d_,List.cons.injEq,and_true]at h1;show [k1,k2]=[bf p.1.1,bf p.1.2];rw[one k1 _ h1.1,one k2 _ h1.2]
section
variable{K:aj}{H:Hp}{v:V}
theorem Rep.Ef{l:!((Str×Str)×ai)}(r:Rep K H v (AJ l)):∃(a:ay)(o:Obj)(ws:!(!Key×V))(es:Array fU)(ep:Nat)(ts:!ay),v=.ref a/\H a>>(.ky o (.dT ws))/\o.data=.dict es ep/\es.toList.map (·.key)=ts.map cC/\(∀(i:Nat)(t:ay)(q:!Key×V),ts[i]?>>t->ws[i]?>>q->H t>>(.tup (q.1.map kV)))/\ws.map (·.1)=l.map (λp=>lM p.1)/\bU K H (ws.map (·.2)) (l.map (·.2)):=by
 unfold AJ at r;generalize e:l.map (λp=>(KC p,p.2))=ds at r;cases r with
 |dct h k t=>
  rename_i a ws
  exfalso;cases ws with
  |nil=>simp at k
  |cons q ws=>
   rw[aq,aq]at k;injection k with k1 _
   cases eq:q.1 with
   |inl i=>rw[eq]at k1;cases k1
   |inr x=>rw[eq]at k1;cases k1
 |Vx h h2 h3 h4 k t=>
  rename_i a o ws es ep ts
  refine#[a,o,ws,es,ep,ts,rfl,h,h2,h3,h4,Ee ?_,?_]
  .rw[<-k,<-e,aG];rfl
  .rw[<-e,aG]at t;exact t
theorem CJ:∀{l:!((Str×Str)×ai)}{ws:!(!Key×V)}{H:Hp}{p:Str×Str}{d:ai},ws.map (·.1)=l.map (λp=>lM p.1)->bU K H (ws.map (·.2)) (l.map (·.2))->ik l p>>d->∃v,gW ws (lM p)>>v/\Rep K H v d
 | [],_,_,_,_,_,_,h=>by cases h
 |_::_,[],_,_,_,e,_,_=>by simp at e
 |q::l,w::ws,H,p,d,e,r,h=>by
  rw[aq,aq]at e;injection e with e1 e2
  cases r with
  |cons r1 r2=>
   by_cases hq:q.1=p
   .rw[dR hq]at h;cases h;exact#[w.2,kF (by rw[e1,hq]),r1]
   .rw[bT hq]at h;rw[h8 (λz=>hq (za (by rw[<-e1,<-z])))];exact CJ e2 r2 h
end
def ItG(a:ay)(o:Obj)(kvs:!(!Key×V))(ts:!ay):It:=#[λi H=>i<kvs.length/\H a>>(.ky o (.dT kvs)),λi H x H'=>H'=H/\∃t,ts[i]?>>t/\x=.ref t,λi H=>kvs.length<=i/\H a>>(.ky o (.dT kvs))]
section
variable{X:Cx}{pins:!(ay×Obj)}{σ:St}{H:Hp}{s:aK}{a it:ay}{kvs:!(!Key×V)}{o:Obj}{es:Array fU}{ep:Nat}{ts:!ay}
theorem CK(I:Inv X pins σ H s)(h:H a>>(.ky o (.dT kvs)))(h2:o.data=.dict es ep):s.heap.get? a>>o/\o.ExactDict/\(a==sysModules)=false/\es.size=kvs.length:=by let#[ho,z,lo,xs,r,o',Vl,Vm,h1,hc,h3,h4,_]:=(show fV X.prog X.w H s.heap a (.ky o (.dT kvs))from I.hok a _ h);rw[ho]at h1;cases h1;rw[h2]at h3;cases h3;exact#[ho,hc,lo,[<-ck,h4,ae]▸r.length.symm]
theorem Gk{P:bx}(a it:ay)(he:o.data=.dict es ep)(ht:es.toList.map (·.key)=ts.map cC):Turn P w K tg (ItG a o kvs ts) [it] it (λi h=>h.IsKeyIter it a i es.size ep) where
 mem:=by simp
 obj:=λi h st b hb=>by
  let e:b=it:=by simpa using hb
  subst e;let#[o,e,c,d]:=st;exact#[o,e,λv z=>by rw[d]at z;cases z]
 keep:=λi h h' st k=>let#[o,e,r]:=st;#[o,k it (by simp) o e,r]
 item:=by
  intro X hP hw hK hc i pins s σ H E I hf st hg;subst hP hw hK;let#[f0,f1,f2,f3,f4,f5]:=hf it (by simp);let#[hi,ha]:=hg;let#[ho,_,_,hsz]:=CK I ha he;let hie:i<es.size:=[hsz]▸hi;obtain⟨t,WZ,T1⟩:∃t,ts[i]?>>t/\es[i].key=.ref t:=by
   let e1:=qQ6 (·[i]?) ht;simp only[aH,iY,fq hie,fe]at e1;cases hti:ts[i]? with
   |none=>rw[hti]at e1;cases e1
   |some t=>rw[hti]at e1;exact#[t,rfl,b9 e1]
  refine Ed st ho he (fq hie) λh' uW sb=>?_;let I1:Inv X pins σ H { s with heap:=h' }:=I.turned (t':=s.toks) (λb o hb e=>(sb.2 b hb).trans e) f0 f1 f3 f4 f5;let#[oi,e,c,d]:=id uW;rw[T1];exact#[_,rfl,A4 (s:={ s with heap:=h' }) e c d ⋯ #[.ref t,H,I1,rfl,#[rfl,t,WZ,rfl],uW,λb hb=>(hf b hb).1]]
 done:=by intro X hP hw hK hc i pins s σ H E I hf st hg;subst hP hw hK;let#[f0,f1,f2,f3,f4,f5]:=hf it (by simp);let#[hi,ha]:=hg;let#[ho,_,_,hsz]:=CK I ha he;exact Iw (I.ok.hd hc) st ho he ([hsz]▸hi) λh' eb=>#[rfl,I.turned (t':=s.toks) (λb o hb e=>eb b o hb e) f0 f1 f3 f4 f5]
 self:=λ_ _ _ _ _ st h=>vT st h
def UC(tl:TE):TI:=λσ H R=>tl σ H λv H1=>∃(a:ay)(o:Obj)(kvs:!(!Key×V))(es:Array fU)(ep:Nat)(ts:!ay),v=.ref a/\H1 a>>(.ky o (.dT kvs))/\o.data=.dict es ep/\es.toList.map (·.key)=ts.map cC/\R (ItG a o kvs ts) H1
theorem MG{l: bw}{tl:TE}(hl:PE X l tl):PI X tg l (UC tl):=by
 intro pins s σ H R I h;refine fF (hl pins s σ H _ I h) λv s1 #[y,H1,I1,r1,q1]=>?_;let#[a,o,kvs,es,ep,ts,e,ha,he,ht,q]:=q1;subst e;cases r1;let#[ho,hc,lo,hsz]:=CK I1 ha he;refine Ec lo ho hc he ?_;refine#[s1.heap.objs.size,[s1.heap.objs.size],_,_,H1,rfl,I1.kept (t':=s1.toks) λb o e=>aB _ e,Gk a _ he ht,#[_,bh _ rfl,rfl,rfl],λb hb=>?_,q];let e:b=s1.heap.objs.size:=by simpa using hb
 subst e;exact I1.xY (aE _) (I1.hok.fresh (aE _))
theorem Eg{e i:bw}{td ty:TE}(hu:X.A.units+1<cLine)(ho:PE X e td)(hi:PE X i ty)(hs:B8 i):PE X (.Subscript e i pos) (λσ H Q=>td σ H λx H1=>ty σ H1 λy H2=>∃a kvs k b v,x=.ref a/\y=.ref b/\Rd H2 a (.dT kvs)/\nV X.K H2 b (k.map kV)/\gW kvs k>>v/\Q v H2):=by intro pins s σ H Q I h;refine B9 nX.lookup hs (fF (ho pins s σ H _ I h) λu s1 #[x,H1,I1,rx,q1]=>fF (hi pins s1 σ H1 _ I1 q1) λiv s2 #[y,H2,I2,ry,a,kvs,k,b,v,ex,ey,hd,hq,l,q2]=>?_);subst ex ey;obtain rfl:u=cC a:=rx;obtain rfl:iv=cC b:=ry;let#[_,_,xs,rel,dd]:=xl I2.hok hd;let#[w',hw,pP]:=tD.some_of (v:=v) (o:=(atKey xs k).map (·.2)) ([<-l]▸rel.val k);let#[p,hp,WO]:=qG.mp hw;let#[its,rv,#[ot,g1,g2,n,g3],_]:=I2.tuple hq;refine#[dd.typeIs,wpAny_getItem_heap (je hu) #[ot,its.toArray,n,g1,g2,g3,by simpa using v8 rv] dd hp ?_];rw[WO];exact#[v,H2,I2.tok _,pP,q2]
end
section
variable{X:Cx}{tg a b:bw}{δ:!Slot}{d:ai}{l:!((Str×Str)×ai)}{pos p p2:Pos}{k:Nat}{x:Str×Str}
theorem Eh(h:VE X a δ (AJ l)):VI X tg a δ (l.map KC):=#[_,MG cu,λB0 B σ H0 H R f q=>h B0 B σ H0 H _ f λv H1 cW g r=>by
 let#[a,o,ws,es,ep,ts,rfl,ha,he,ht,hk,ke,rs]:=r.Ef;let hl:ws.length=l.length:=by let:=qQ6 dU ke;simpa using this
 refine#[a,o,ws,es,ep,ts,rfl,g.sub _ _ ha,he,ht,q _ H1 cW g λHa Hb s1 s2 i=>#[λhi=>#[by simpa[hl]using hi,s2 _ _ (s1 _ _ ha)],λhi=>#[by simpa[hl]using hi,s2 _ _ (s1 _ _ ha)],λx x3 d hd #[e,t,hz,ex]=>?_]];subst e;subst ex;rw[aH]at hd;cases hp:l[i]? with
 |none=>rw[hp]at hd;cases hd
 |some w=>
  rw[hp]at hd;cases hd;let e1:=qQ6 (·[i]?) ke;simp only[aH,hp,fe]at e1;cases hw:ws[i]? with
  |none=>rw[hw]at e1;cases e1
  |some w'=>rw[hw]at e1;let e2:w'.1=lM w.1:=b9 e1;let ht':=hk i t w' hz hw;rw[e2]at ht';exact#[Ha,.refl s2,.tup (nV.of (s1 _ _ ht')) (.cons (.str _) (.cons (.str _) .nil))]]
theorem bU.two_str(r:bU K H xs [.str y,.str z]):xs=(lM (y,z)).map kV:=by cases r with|cons a t=>cases t with|cons b t=>cases t;cases a;cases b;rfl
theorem JT(hr:ei k X.A)(h1:VE X a δ (qd l))(h2:VE X b δ (.tuple [.str x.1,.str x.2]))(hx:ik l x>>d)(hs:B8 b:=by intro _ _;rfl):VE X (.Subscript a b pos) δ d:=
 .of (Eg (Jw hr) cu cu hs) λB0 B σ H0 H Q fr q=>h1 B0 B σ H0 H _ fr λv H1 cW g r=>h2 B0 B σ H1 cW _ (fr.grow g) λu H2 fG g2 r2=>by
  let#[p,ws,rfl,hp,ke,rs]:=r.nL;cases r2 with
  |tup hq Ib=>rw[Ib.two_str]at hq;let#[w,hw,pP]:=CJ ke rs hx;exact#[p,ws,lM x,_,w,rfl,rfl,.inl (g2.sub _ _ (g2.eD _ _ hp)),cz.nF g2.sub hq,hw,q w H2 fG (g.trans g2) (pP.mono g2.eD)]
theorem zA(hr:ei k X.A)(h1:VE X a δ (AJ l))(h2:VE X b δ (.tuple [.str x.1,.str x.2]))(hx:ik l x>>d)(hs:B8 b:=by intro _ _;rfl):VE X (.Subscript a b pos) δ d:=
 .of (Eg (Jw hr) cu cu hs) λB0 B σ H0 H Q fr q=>h1 B0 B σ H0 H _ fr λv H1 cW g r=>h2 B0 B σ H1 cW _ (fr.grow g) λu H2 fG g2 r2=>by
  let#[p,o,ws,es,ep,ts,rfl,hp,_,_,_,ke,rs]:=r.Ef;cases r2 with
  |tup hq Ib=>rw[Ib.two_str]at hq;let#[w,hw,pP]:=CJ ke rs hx;exact#[p,ws,lM x,_,w,rfl,rfl,.inr #[o,g2.sub _ _ (g2.eD _ _ hp)],cz.nF g2.sub hq,hw,q w H2 fG (g.trans g2) (pP.mono g2.eD)]
theorem JV(hk:bo X.K (.type "dict") (.type tn)>>kb):iz X (.builtin "isinstance") (λxs H Q=>∃a ws,xs=[.ref a,.ty tn]/\Rd H a (.dT ws)/\Q (.bl kb) H):=by intro pins s σ H xs us Q I r h;let#[a,ws,rfl,rx,q]:=h;let#[u,w',rfl,r1,r2]:=vals2 r;cases r2;cases r1;let#[_,_,es,_,_,#[o,e,ex,_],_]:=I.ents rx;exact gL Hs I.Aq #[o,e,ex.1] hk (λz=>nomatch z) λtk=>#[.bl kb,H,I.tok tk,rfl,q]
theorem xu(h:VE X a δ (qd l))(hk:bo X.K (.type "dict") (.type tn)>>kb)(hb:bootBuiltins y>>(.type tn))(m1:X.mg "isinstance"=none)(m2:X.mg y=none)(hv:bootBuiltins "isinstance"=some (.builtin "isinstance"))
  (hg:Gl X "isinstance":=by rfl)(O_:Gl X y:=by rfl)(hn:y≠"__name__":=by decide)(o6:uc y:=by decide)(hs:starEach [a,.Name y p2] X.env=(false,eval a X.env)::starEach [.Name y p2] X.env:=by rfl)(o5:starEach [.Name y p2] X.env=(false,eval (.Name y p2) X.env)::starEach [] X.env:=by rfl)
  (lB:pU X pos [.Name y p2]:=by rfl):VE X (.Call (.Name "isinstance" p) [a,.Name y p2] [] pos) δ (.bool kb):=
 .of (rF (JV hk) hg m1 hv (cy cu (cy (BW O_ m2 hb (v:=.ty tn) rfl hn o6) dF o5) hs) ⋯ ⋯ hs lB) λB0 B σ H0 H Q f q=>h B0 B σ H0 H _ f λv H1 cW g r=>by let#[b,ws,rfl,hb,_,_]:=r.nL;exact#[b,ws,rfl,.inl (g.sub _ _ hb),q _ H1 cW g (.bl _)]
theorem P6{pp1 pp2 q1 q2:Pos}(hr:ei k X.A)(ly:Lay 20 (.list (l.map KC)))(hc:X.calm=true)(h1:VE X a δ (qd l))(h2:VE X b δ (qd l))(m1:X.mg "list"=none)(hg:Gl X "list":=by rfl)(Fk:kB X a []:=by rfl)(o5:kB X b []:=by rfl)(hp1:pU X q1 []:=by rfl)(WO:pU X q2 []:=by rfl):
  VT X (.Compare (.Call (.Name "list" pp1) [a] [] q1) [.NotEq] [.Call (.Name "list" pp2) [b] [] q2] pos) δ false:=
 .of (B2 (FZ (yV hr)) (k7 (qM hc) hg m1 rfl (cy cu dF Fk) ⋯ ⋯ Fk hp1) (k7 (qM hc) hg m1 rfl (cy cu dF o5) ⋯ ⋯ o5 WO) (f7 _)) λB0 B σ H0 H Q f q=>h1 B0 B σ H0 H _ f λv H1 cW g r=>by
  let#[p,ws,rfl,hp,ke,rs]:=r.nL;refine#[p,ws,rfl,.inl (g.sub _ _ hp),λl1 ts1 D1 WZ N0=>?_];let g1:dm H0 H H1 (upd cW l1 (.lst (ts1.map V.ref))):=g.trans (.loose g.sub D1);refine h2 B0 B σ H1 _ _ (f.grow g1) λu H2 fG g2 r2=>?_;let#[p',ws',rfl,hp',ke',_]:=r2.nL;refine#[p',ws',rfl,.inl (g2.sub _ _ hp'),λl2 XW Cm T1 T_=>?_];let g3:=g2.trans (.loose (o:=.lst (XW.map V.ref)) g2.sub Cm);let big:∀b o,cW b>>o->(upd fG l2 (.lst (XW.map V.ref))) b>>o:=λb o e=>g3.big _ _ ([aI (bB e D1)]▸e);let rp:∀{ws:!(!Key×V)}{ts:!ay}{Hz:Hp}(l:!((Str×Str)×ai)),ws.map (·.1)=l.map (λp=>lM p.1)->ts.length=ws.length->(∀(i:Nat)(t:ay)(q:!Key×V),ts[i]?>>t->ws[i]?>>q->Hz t>>(.tup (q.1.map kV)))->bU X.K Hz (ts.map V.ref) (l.map KC):=by
   intro ws;induction ws with
   |nil=>
    intro ts Hz l e hl _;cases l with
    |nil=>
     cases ts with
     |nil=>exact .nil
     |cons _ _=>cases hl
    |cons _ _=>simp at e
   |cons w ws ih=>
    intro ts Hz l e hl hk;cases l with
    |nil=>simp at e
    |cons q l=>
     cases ts with
     |nil=>cases hl
     |cons t ts=>
      rw[aq,aq]at e;injection e with e1 e2
      let h0:=hk 0 t w rfl rfl;rw[e1]at h0;exact .cons (.tup (nV.of h0) (.cons (.str _) (.cons (.str _) .nil))) (ih l e2 ↑hl λi t' q' a b=>hk (i+1) t' q' a b)
  let hz1:(upd fG l2 (.lst (XW.map V.ref))) l1>>(.lst (ts1.map V.ref)):=g3.big _ _ aT;let R1:Rep X.K (upd fG l2 (.lst (XW.map V.ref))) (.ref l1) (.list (l.map KC)):=.lst (jb.of hz1) (rp l ke WZ λi t q a b=>big _ _ (N0 i t q a b));let R2:Rep X.K (upd fG l2 (.lst (XW.map V.ref))) (.ref l2) (.list (l.map KC)):=.lst (jb.of aT) (rp l ke' T1 λi t q a b=>[aI (bB (T_ i t q a b) Cm)]▸T_ i t q a b);exact#[_,_,R1,R2,ly,ly,false,qQ6 (λz=>V.bl (not z)) (SeqAt.eqv_refl _ ly.1),q H2 _ (g1.trans g3)]
end
theorem bU.zB{H': Hp}:∀{ds:!ai}{xs:!V},bU K H xs ds->(∀d∈ds,qK d=true)->bU K H' xs ds
 | [],_,r,_=>by cases r;exact .nil
 |d::ds,_,r,h=>by cases r with|cons a t=>exact .cons (a.y8 (h d aJ)) (t.zB λd hd=>h d (aM _ hd))
section
variable{X:Cx}{pins:!(ay×Obj)}{σ:St}{H:Hp}{s:aK}{a:ay}{ws:!(!Key×V)}
theorem Inv.P7(I:Inv X pins σ H s)(h:H a>>(.dT ws)):∃(o:Obj)(es:Array fU)(ep:Nat)(ts:!ay),o.data=.dict es ep/\es.toList.map (·.key)=ts.map cC/\(∀(i:Nat)(t:ay)(q:!Key×V),ts[i]?>>t->ws[i]?>>q->H t>>(.tup (q.1.map kV)))/\Inv X pins σ (upd H a (.ky o (.dT ws))) s:=by
 let#[z,lo,xs,r,o,es,ep,h1,h2,h3,h4,h5]:=(show fV X.prog X.w H s.heap a (.dT ws)from I.hok a _ h);let nt:∀{t:ay}{ys:!V}{u:HO},H t>>(.tup ys)->(upd H a u) t>>(.tup ys):=λ{t ys u}e=>by rw[aI λz=>by subst z;rw[h]at e;cases e];exact e
 let go:∀{ws:!(!Key×V)}{xs:!(!Key×ay×aA)},yC (λ(p:!Key×V)(q:!Key×ay×aA)=>p.1=q.1/\H q.2.1>>(.tup (p.1.map kV))/\RelV p.2 q.2.2) ws xs->∀(i:Nat)(t:ay)q,(xs.map (·.2.1))[i]?>>t->ws[i]?>>q->H t>>(.tup (q.1.map kV)):=by
  intro ws xs r;induction r with
  |nil=>intro i t q _ h;cases h
  |cons h1 _ ih=>
   intro i t q e h;cases i with
   |zero=>cases h;cases e;exact h1.2.1
   |succ i=>exact ih i t q e h
 refine#[o,es,ep,xs.map (·.2.1),h3,by rw[h4,aG,aG];rfl,go r,?_];exact I.write (x:=a) (e:=a) (h':=s.heap) (t':=s.toks) (o:=.ky o (.dT ws)) (by rw[h];trivial) (.inl rfl) (λb u _ q=>q) #[o,h1] #[h1,z,lo,xs,yC.Oa r λ_ _ y=>#[y.1,nt y.2.1,y.2.2],o,es,ep,h1,h2,h3,h4,h5]
theorem Inv.XX{o:Obj}(I:Inv X pins σ H s)(h:H a>>(.ky o (.dT ws)))(hn:∀o u,X.H₀ a≠some (.ky o u)):Inv X pins σ (upd H a (.dT ws)) s:=by
 let ne:∀{b:ay},H b=none->b≠a:=λe z=>by subst z;rw[h]at e;cases e
 let ob:fV X.prog X.w H s.heap a (.dT ws):=(Rd.ok (.inr #[o,h]) I.hok);refine#[I.ok,I.os,I.bare,#[I.base.keep,I.base.slot,λb u e n hx=>?_,I.base.there,λb xs e=>?_,λb ob u e=>?_,λb ps e=>?_],I.loc,I.cell,?_,λx c e=>?_,λp hp=>?_,λb u e=>?_,I.len]
 .let q:=I.base.free b u e n hx;rw[aI (ne q)];exact q
 .let q:=I.base.tups b xs e;rw[aI (λz=>by subst z;rw[h]at q;cases q)];exact q
 .let q:=I.base.ub b ob u e;rw[aI (λz=>by subst z;exact hn _ _ e)];exact q
 .let#[more,q]:=I.base.xW b ps e;exact#[more,by rw[aI (λz=>by subst z;rw[h]at q;cases q)];exact q]
 .rw[aI (ne I.free)];exact I.free
 .rw[aI (ne (I.nz x c e))];exact I.nz x c e
 .let#[q1,q2,q3]:=I.pin p hp;exact#[q1,[aI (ne q2)]▸q2,q3]
 .let st:∀{b:ay}{u:HO},fV X.prog X.w H s.heap b u->fV X.prog X.w (upd H a (.dT ws)) s.heap b u:=λx=>x.stay (λc v _ q=>q) (λc q=>by rw[aI (λz=>by subst z;rw[h]at q;cases q)];exact q) λc xs q=>by rw[aI (λz=>by subst z;rw[h]at q;cases q)];exact q
  by_cases hb:b=a
  .subst hb;rw[aT]at e;cases e;exact st ob
  .rw[aI hb]at e;exact st (I.hok b u e)
end
section
variable{X:Cx}{e:bw}{δ δ1 δ2:!Slot}{d:ai}{kvs:!(Str×ai)}{l:!((Str×Str)×ai)}
theorem Bp{Hb: Hp}{u u':HO}(sub:cz H0 H)(ha:H a>>u)(g:cz (upd H a u') Hb):dm H0 H H0 (upd Hb a u):=by
 let big:cz H (upd Hb a u):=λb w e=>by
  by_cases hb:b=a
  .subst hb;rw[aT];rw[ha]at e;exact e
  .rw[aI hb];exact g b w ([aI hb]▸e)
 exact#[big,cz.refl _,λb w e=>big b w (sub b w e),λ_ z=>.inl z]
theorem MH(i j:Nat)(hi:δ[i]?>>(.val (iM kvs)))(hj:δ[j]?>>(.val (iM kvs)))(XY:∀q∈kvs,D4 q.2)(hs:qK d=true)(D1:δ1.length=δ.length)(Cm:δ2.length=δ.length)(c1:∀(k:Nat)(sl:Slot),δ1[k]?>>sl->sl=.un\/(k=i/\sl=.val (AH kvs))\/(k=j/\sl=.val (iM kvs)))(c2:∀(k:Nat)(sl:Slot),δ2[k]?>>sl->sl=.un\/((k=i\/k=j)/\sl=.val (AH kvs)))(h1:VE X e δ1 d)(h2:VE X e δ2 d):VE X e δ d:=λB0 B σ H0 H Q f q pins s I=>by
 let#[v,hv,rv]:=f.val hi;let#[a,ws,rfl,ha,ke,rs]:=rv.kI;let#[v2,XZ,N4]:=f.val hj;let#[b,ws2,rfl,hb,ke2,Ib]:=N4.kI;let Rq:H a>>(.dK ws):=f.sub _ _ ha;let#[o,I']:=I.freeze Rq;let hn:∀o u,X.H₀ a≠some (.ky o u):=λo u z=>by let:=I.base.ub a o u z;rw[Rq]at this;cases this
 let cs:cz (tH H0 a) (upd H a (.ky o (.dK ws))):=λc u z=>by
  let hc:c≠a:=λy=>by subst y;rw[Ik]at z;cases z
  rw[sS hc]at z;rw[aI hc];exact f.sub _ _ z
 let vl:∀{ws:!(Key×V)},bU X.K H0 (ws.map (·.2)) (kvs.map (·.2))->bU X.K (upd H a (.ky o (.dK ws))) (ws.map (·.2)) (kvs.map (·.2))/\∀{Hx:Hp},cz (tH H0 a) Hx->bU X.K Hx (ws.map (·.2)) (kvs.map (·.2)):=λ{ws}r=>by
  let r':=bU.PF (PH ha) r λd hd=>by let#[w,hw,rfl]:=au.mp hd;exact XY w hw
  refine#[r'.mono λc u z=>?_,λs=>r'.mono s];let hc:c≠a:=λy=>by subst y;rw[Ik]at z;cases z
  rw[sS hc]at z;rw[aI hc];exact f.sub _ _ z
 let kd:∀{ws:!(Key×V)},ws.map (·.1)=kvs.map (λp=>(bf p.1:Key))->(kvs.map λp=>(aO p.1,p.2)).map (·.1)=ws.map λp=>mN p.1:=λ{ws}ke=>by let:=qQ6 (qH mN) ke;rw[aG,aG]at this;rw[aG];exact this.symm
 let RF:Rep X.K (upd H a (.ky o (.dK ws))) (.ref a) (AH kvs):=.Vw aT (kd ke) ([aG]▸(vl rs).2 cs);let fin:∀{δ':!Slot},δ'.length=δ.length->(∀(k:Nat)(sl:Slot),δ'[k]?>>sl->sl=.un\/∃d v,sl=.val d/\σ[k]?>>(some v)/\Rep X.K (upd H a (.ky o (.dK ws))) v d)->VE X e δ' d->wpAny (model X.prog X.w) X.A (eval e X.env) (EP X pins σ Q) X.xe s:=λ{δ'}hl hc h=>by
  let f':fQ X.K (upd H a (.ky o (.dK ws))) (upd H a (.ky o (.dK ws))) (upd H a (.ky o (.dK ws))) (upd H a (.ky o (.dK ws))) σ δ':=by
   refine#[.refl (cz.refl _),[hl]▸f.len,λk sl z=>?_,λk k' ds es p _ z1 _ _=>?_]
   .rcases hc k sl z with rfl|⟨d,v,rfl,y1,y2⟩
    .trivial
    .exact#[v,y1,y2]
   .rcases hc k _ z1 with y|⟨_,_,y,_⟩<;>cases y
  exact fF (h _ _ σ _ _ (λv H2=>H2 a>>(.ky o (.dK ws))/\Q v (upd H2 a (.dK ws))) f' (λv Ha Hb g r=>#[g.big _ _ aT,q v H0 _ (Bp f.sub Rq g.big) (r.y8 hs)]) pins s I') λu s1 #[v,H1,I1,r1,hfz,q1]=>#[v,_,I1.zbt hfz hn,r1,q1]
 by_cases JD:b=a
 .subst JD;refine fin Cm (λk sl z=>?_) h2;rcases c2 k sl z with y|⟨rfl|rfl,rfl⟩
  .exact .inl y
  .exact .inr #[_,_,rfl,hv,RF]
  .exact .inr #[_,_,rfl,XZ,RF]
 .refine fin D1 (λk sl z=>?_) h1;rcases c1 k sl z with y|⟨rfl,rfl⟩|⟨rfl,rfl⟩
  .exact .inl y
  .exact .inr #[_,_,rfl,hv,RF]
  .exact .inr #[_,_,rfl,XZ,.dct (kvs:=ws2) ([aI JD]▸f.sub _ _ hb) (kd ke2) ([aG]▸(vl Ib).2 cs)]
theorem MJ(i j:Nat)(hi:δ[i]?>>(.val (qd l)))(hj:δ[j]?>>(.val (qd l)))(XY:∀q∈l,qK q.2=true)(hs:qK d=true)(D1:δ1.length=δ.length)(Cm:δ2.length=δ.length)(c1:∀(k:Nat)(sl:Slot),δ1[k]?>>sl->sl=.un\/(k=i/\sl=.val (AJ l))\/(k=j/\sl=.val (qd l)))(c2:∀(k:Nat)(sl:Slot),δ2[k]?>>sl->sl=.un\/((k=i\/k=j)/\sl=.val (AJ l)))(h1:VE X e δ1 d)(h2:VE X e δ2 d):VE X e δ d:=λB0 B σ H0 H Q f q pins s I=>by
 let#[v,hv,rv]:=f.val hi;let#[a,ws,rfl,ha,ke,rs]:=rv.nL;let#[v2,XZ,N4]:=f.val hj;let#[b,ws2,rfl,hb,ke2,Ib]:=N4.nL;let Rq:H a>>(.dT ws):=f.sub _ _ ha;let#[o,es,ep,ts,hd,ht,hk,I']:=I.P7 Rq;let hn:∀o u,X.H₀ a≠some (.ky o u):=λo u z=>by let:=I.base.ub a o u z;rw[Rq]at this;cases this
 let sc:∀d∈l.map (·.2),qK d=true:=λd hd=>by let#[w,hw,rfl]:=au.mp hd;exact XY w hw
 let kd:∀{ws:!(!Key×V)},ws.map (·.1)=l.map (λp=>lM p.1)->(ws.map λp=>dg (p.1.map mN))=l.map KC:=λ{ws}ke=>by let:=qQ6 (qH λks:!Key=>dg (ks.map mN)) ke;rw[aG,aG]at this;exact this
 let RF:Rep X.K (upd H a (.ky o (.dT ws))) (.ref a) (AJ l):=.Vx aT hd ht (λi t q y1 y2=>by
  let:=hk i t q y1 y2;rw[aI λz=>by subst z;rw[Rq]at this;cases this];exact this) (by rw[kd ke,aG];rfl) ([aG]▸rs.zB sc);let fin:∀{δ':!Slot},δ'.length=δ.length->(∀(k:Nat)(sl:Slot),δ'[k]?>>sl->sl=.un\/∃d v,sl=.val d/\σ[k]?>>(some v)/\Rep X.K (upd H a (.ky o (.dT ws))) v d)->VE X e δ' d->wpAny (model X.prog X.w) X.A (eval e X.env) (EP X pins σ Q) X.xe s:=λ{δ'}hl hc h=>by
  let f':fQ X.K (upd H a (.ky o (.dT ws))) (upd H a (.ky o (.dT ws))) (upd H a (.ky o (.dT ws))) (upd H a (.ky o (.dT ws))) σ δ':=by
   refine#[.refl (cz.refl _),[hl]▸f.len,λk sl z=>?_,λk k' ds es p _ z1 _ _=>?_]
   .rcases hc k sl z with rfl|⟨d,v,rfl,y1,y2⟩
    .trivial
    .exact#[v,y1,y2]
   .rcases hc k _ z1 with y|⟨_,_,y,_⟩<;>cases y
  exact fF (h _ _ σ _ _ (λv H2=>H2 a>>(.ky o (.dT ws))/\Q v (upd H2 a (.dT ws))) f' (λv Ha Hb g r=>#[g.big _ _ aT,q v H0 _ (Bp f.sub Rq g.big) (r.y8 hs)]) pins s I') λu s1 #[v,H1,I1,r1,hfz,q1]=>#[v,_,I1.XX hfz hn,r1,q1]
 by_cases JD:b=a
 .subst JD;refine fin Cm (λk sl z=>?_) h2;rcases c2 k sl z with y|⟨rfl|rfl,rfl⟩
  .exact .inl y
  .exact .inr #[_,_,rfl,hv,RF]
  .exact .inr #[_,_,rfl,XZ,RF]
 .refine fin D1 (λk sl z=>?_) h1;rcases c1 k sl z with y|⟨rfl,rfl⟩|⟨rfl,rfl⟩
  .exact .inl y
  .exact .inr #[_,_,rfl,hv,RF]
  .exact .inr #[_,_,rfl,XZ,.O4 (kvs:=ws2) ([aI JD]▸f.sub _ _ hb) (by rw[kd ke2,aG];rfl) ([aG]▸Ib.zB sc)]
end
theorem yx:VE X (.Dict [] [] pos) δ (iM []):=.of o9 λB0 B σ H0 H Q f q p hp=>q (.ref p) _ _ (.laid f.sub hp) (.dct (kvs:=[]) aT rfl .nil)
theorem MK:VE X (.Dict [] [] pos) δ (qd []):=.of yR λB0 B σ H0 H Q f q p hp=>q (.ref p) _ _ (.laid f.sub hp) (.O4 (kvs:=[]) aT rfl .nil)
theorem Gm:MtR X "dict.clear" (λx vs H Q=>∃a kvs,x=.ref a/\vs=[]/\H a>>(.dK kvs)/\Q .non (upd H a (.dK []))):=by intro pins s σ H x vs v us Q I rx rv h;let#[a,kvs,rfl,rfl,hH,q]:=h;cases rx;let hus:=rv.zero;subst hus;exact OS I hH λs' I'=>#[.non,_,I',rfl,q]
theorem OF.weak{B0 B: Hp}{σ:St}(G:OF K B0 B R H0 H σ δ)(h:∀as,R H0 H as->∃as',(∀a∈as',a∈as)/\R' H0 H as'):OF K B0 B R' H0 H σ δ:=by let#[as,h1,h2]:=G.ex;let#[as',s,r]:=h as h2;exact#[G.fr,G.no,as',λa ha=>h1 a (s a ha),r]
def TW(p C dx:ay)(fs:!(Str×V))(ak ag ad ah:ay)(cs:!ay)(u:HO)(b:Nat):OR:=λ_ H as=>as=p::ak::ag::ad::ah::cs/\(p::ak::ag::ad::ah::cs).Nodup/\H p>>(.ins C dx fs)/\(∃w,H ak>>(.dK w))/\(∃xs,H ag>>(.lst xs)/\xs.length<=b)/\(∃xs,H ad>>(.lst xs))/\H ah>>u/\∀c∈cs,∃xs,H c>>(.lst xs)/\xs.length<=b
section
variable{X:Cx}{B0 B H0 H:Hp}{σ:St}{D:Ends}{δ:!Slot}{p C dx ak ag ad ah:ay}{fs:!(Str×V)}{cs:!ay}{u:HO}{b:Nat}{x f:Str}{e:bw}{d:ai}{pos px po pa pc:Pos}
theorem TW.mono:bL (TW p C dx fs ak ag ad ah cs u b):=by rintro H0 H Ha Hb as ⟨rfl,nd,h1,⟨w,h2⟩,⟨xs,h3,h3'⟩,⟨ys,h4⟩,h5,h6⟩ _ e;refine#[rfl,nd,[e p (by simp)]▸h1,#[w,[e ak (by simp)]▸h2],#[xs,[e ag (by simp)]▸h3,h3'],#[ys,[e ad (by simp)]▸h4],[e ah (by simp)]▸h5,λc hc=>?_];let#[zs,z1,z2]:=h6 c hc;exact#[zs,[e c (by simp[hc])]▸z1,z2]
theorem OF.tw(G:OF X.K B0 B (TW p C dx fs ak ag ad ah cs u b) H0 H σ δ){y:ay}{o u':HO}(hy:y=ak/\(∃w,o=.dK w)/\u'=u\/y=ag/\(∃xs,o=.lst xs/\xs.length<=b)/\u'=u\/y=ad/\(∃xs,o=.lst xs)/\u'=u\/y=ah/\o=u'\/y∈cs/\(∃xs,o=.lst xs/\xs.length<=b)/\u'=u):OF X.K B0 B (TW p C dx fs ak ag ad ah cs u' b) H0 (upd H y o) σ δ:=by
 refine G.put TW.mono (.refl G.fr.sub) λas hR=>?_;let#[rfl,nd,h1,h2,h3,h4,h5,h6]:=hR;let nd':=nd;simp only[cx,ax,not_or]at nd';let#[#[n1,n2,n3,n4,n5],#[m1,m2,m3,m4],#[k1,k2,k3],#[j1,j2],i1,_]:=nd';let keep:∀{c:ay},c≠y->(upd H y o) c=H c:=λh=>aI h;rcases hy with⟨rfl,⟨w,rfl⟩,rfl⟩|⟨rfl,⟨xs,rfl,hx⟩,rfl⟩|⟨rfl,⟨xs,rfl⟩,rfl⟩|⟨rfl,rfl⟩|⟨hy,⟨xs,rfl,hx⟩,rfl⟩
 .refine#[by simp,_,λ_ z=>z,rfl,nd,[keep n1]▸h1,#[w,aT],?_,?_,[keep (bF m3)]▸h5,λc hc=>?_]
  .let#[xs,z1,z2]:=h3;exact#[xs,[keep (bF m1)]▸z1,z2]
  .let#[xs,z1]:=h4;exact#[xs,[keep (bF m2)]▸z1]
  .let#[xs,z1,z2]:=h6 c hc;exact#[xs,by rw[keep λz=>m4 ([<-z]▸hc)];exact z1,z2]
 .refine#[by simp,_,λ_ z=>z,rfl,nd,[keep n2]▸h1,?_,#[xs,aT,hx],?_,[keep (bF k2)]▸h5,λc hc=>?_]
  .let#[w,z1]:=h2;exact#[w,[keep m1]▸z1]
  .let#[xs,z1]:=h4;exact#[xs,[keep (bF k1)]▸z1]
  .let#[xs,z1,z2]:=h6 c hc;exact#[xs,by rw[keep λz=>k3 ([<-z]▸hc)];exact z1,z2]
 .refine#[by simp,_,λ_ z=>z,rfl,nd,[keep n3]▸h1,?_,?_,#[xs,aT],[keep (bF j1)]▸h5,λc hc=>?_]
  .let#[w,z1]:=h2;exact#[w,[keep m2]▸z1]
  .let#[xs,z1,z2]:=h3;exact#[xs,[keep k1]▸z1,z2]
  .let#[xs,z1,z2]:=h6 c hc;exact#[xs,by rw[keep λz=>j2 ([<-z]▸hc)];exact z1,z2]
 .refine#[by simp,_,λ_ z=>z,rfl,nd,[keep n4]▸h1,?_,?_,?_,aT,λc hc=>?_]
  .let#[w,z1]:=h2;exact#[w,[keep m3]▸z1]
  .let#[xs,z1,z2]:=h3;exact#[xs,[keep k2]▸z1,z2]
  .let#[xs,z1]:=h4;exact#[xs,[keep j1]▸z1]
  .let#[xs,z1,z2]:=h6 c hc;exact#[xs,by rw[keep λz=>i1 ([<-z]▸hc)];exact z1,z2]
 .refine#[by simp[hy],_,λ_ z=>z,rfl,nd,by rw[keep λz=>n5 ([z]▸hy)];exact h1,?_,?_,?_,by rw[keep λz=>i1 ([z]▸hy)];exact h5,λc hc=>?_]
  .let#[w,z1]:=h2;exact#[w,by rw[keep λz=>m4 ([z]▸hy)];exact z1]
  .let#[xs,z1,z2]:=h3;exact#[xs,by rw[keep λz=>k3 ([z]▸hy)];exact z1,z2]
  .let#[xs,z1]:=h4;exact#[xs,by rw[keep λz=>j2 ([z]▸hy)];exact z1]
  .by_cases hcy:c=y
   .subst hcy;exact#[xs,aT,hx]
   .let#[zs,z1,z2]:=h6 c hc;exact#[zs,[keep hcy]▸z1,z2]
theorem tw_clearD(G:OF X.K B0 B (TW p C dx fs ak ag ad ah cs u b) H0 H σ δ)(cl:yK X.K C)(na:gG X.K C f)(lk:fs.lookup f>>(.ref ak))(i:Nat)(hi:δ[i]?>>(.ref p))(q:∀Hb,OF X.K B0 B (TW p C dx fs ak ag ad ah cs u b) H0 Hb σ δ->D.nx σ Hb)
  (hN:tE X i x:=by ac_rfl)
  (hb:vK X (.Name x px) f:=by rfl)(fW:vK X (.Attribute (.Name x px) f po) "clear":=by rfl)
  (hline:(pa.endLine==pc.line)=true:=by rfl)(lZ:swapsWith (.Call (.Attribute (.Attribute (.Name x px) f po) "clear" pa) [] [] pc) none pos.line X.env=pure false:=by rfl):
  cS X (.Expr (.Call (.Attribute (.Attribute (.Name x px) f po) "clear" pa) [] [] pc) pos) D σ H:=λpins s I=>by let#[_,_,rfl,nd,h1,#[w,h2],_]:=G.ex;refine kD (K_ oZ AU PySem.F.type_dict_clear Gm (pW (vL hN) hb) fW hline) lZ pins s σ H D I ?_;exact#[.ref p,G.fr.slot i _ hi,p,C,dx,fs,.ref ak,rfl,h1,cl,na,lk,.inr (.inr (.inl #[rfl,.inl #[w,h2]])),ak,w,rfl,rfl,h2,q _ (G.tw (.inl #[rfl,#[[],rfl],rfl]))]
theorem tw_clearL(G:OF X.K B0 B (TW p C dx fs ak ag ad ah cs u b) H0 H σ δ)(cl:yK X.K C)(na:gG X.K C f)(lk:fs.lookup f>>(.ref ad))(i:Nat)(hi:δ[i]?>>(.ref p))(q:∀Hb,OF X.K B0 B (TW p C dx fs ak ag ad ah cs u b) H0 Hb σ δ->D.nx σ Hb)
  (hN:tE X i x:=by ac_rfl)
  (hb:vK X (.Name x px) f:=by rfl)(fW:vK X (.Attribute (.Name x px) f po) "clear":=by rfl)
  (hline:(pa.endLine==pc.line)=true:=by rfl)(lZ:swapsWith (.Call (.Attribute (.Attribute (.Name x px) f po) "clear" pa) [] [] pc) none pos.line X.env=pure false:=by rfl):
  cS X (.Expr (.Call (.Attribute (.Attribute (.Name x px) f po) "clear" pa) [] [] pc) pos) D σ H:=λpins s I=>by let#[_,_,rfl,nd,h1,_,_,#[ys,h4],_]:=G.ex;refine kD (K_ di PySem.F.slot_list_clear PySem.F.type_list_clear La (pW (vL hN) hb) fW hline) lZ pins s σ H D I ?_;exact#[.ref p,G.fr.slot i _ hi,p,C,dx,fs,.ref ad,rfl,h1,cl,na,lk,.inl #[rfl,_,jb.of h4],ad,ys,rfl,rfl,h4,q _ (G.tw (.inr (.inr (.inl #[rfl,#[[],rfl],rfl]))))]
end
section
variable{X:Cx}{B0 B H0 H:Hp}{σ:St}{D:Ends}{δ:!Slot}{p C dx ak ag ad ah:ay}{fs:!(Str×V)}{cs:!ay}{u:HO}{b k:Nat}{x y f:Str}{e:bw}{d:ai}{kvs:!(Key×V)}{pos px po pa pc CG ZV py VH ps rR:Pos}
theorem P8{st:!eO}(h:y6 X st δ (.rt d))(f:fQ X.K B0 B H0 H σ δ)(ok:∀v cQ H',dm B0 B cQ H'->Rep X.K cQ v d->D.rt v H'):Ce X st D σ H:=h B0 B σ H0 H D f ok
theorem OF.twUp(G:OF X.K B0 B (TW p C dx fs ak ag ad ah cs u b) H0 H σ δ){b':Nat}(h:b<=b'):OF X.K B0 B (TW p C dx fs ak ag ad ah cs u b') H0 H σ δ:=G.weak λas hR=>by let#[rfl,nd,h1,h2,#[xs,h3,h3'],h4,h5,h6]:=hR;exact#[_,λa ha=>ha,rfl,nd,h1,h2,#[xs,h3,∅],h4,h5,λc hc=>by let#[zs,z1,z2]:=h6 c hc;exact#[zs,z1,∅]]
theorem tw_gapp(G:OF X.K B0 B (TW p C dx fs ak ag ad ah cs u b) H0 H σ δ)(cl:yK X.K C)(na:gG X.K C f)(lk:fs.lookup f>>(.ref ag))(i:Nat)(hi:δ[i]?>>(.ref p))(hb:b<=100000)(hv:VE X e δ d)(q:∀Ha Hb,OF X.K B0 B (TW p C dx fs ak ag ad ah cs u (b+1)) Ha Hb σ δ->D.nx σ Hb)
  (hN:tE X i x:=by ac_rfl)
  (Kz:vK X (.Name x px) f:=by rfl)(fW:vK X (.Attribute (.Name x px) f po) "append":=by rfl)
  (hs:kB X e []:=by rfl)
  (k8:Ht X pc [e]:=by rfl)
  (hline:(pa.endLine==pc.line)=true:=by rfl)(fu:pU X pc []:=by rfl)(lZ:swapsWith (.Call (.Attribute (.Attribute (.Name x px) f po) "append" pa) [e] [] pc) none pos.line X.env=pure false:=by rfl):
  cS X (.Expr (.Call (.Attribute (.Attribute (.Name x px) f po) "append" pa) [e] [] pc) pos) D σ H:=by let#[_,_,rfl,nd,h1,h2,#[xs,h3,h3'],_]:=G.ex;refine zo G.fr i hi h1 cl na lk h3 hv (by rw[cM];omega) (λv Ha Hb g r=>?_) hN Kz fW hs k8 hline fu lZ;let G1:=(G.go TW.mono (G.own.grow g) G.no).twUp (Ad b);exact q Ha _ (G1.tw (.inr (.inl #[rfl,#[_,rfl,by rw[aX];show _+1<=_;omega],rfl])))
theorem tw_for(i j:Nat)(G:OF X.K B0 B (TW p C dx fs ak ag ad ah cs (.dK kvs) b) H0 H σ δ)(hr:ei k X.A)(hp:wY (model X.prog X.w) X.A X.env X.xe)(hc:X.calm=true)(cl:yK X.K C)(na:gG X.K C f)(lk:fs.lookup f>>(.ref ah))(hi:δ[i]?>>(.ref p))(vX:i≠j)
  (hg:PG X (.Name y py) (F1 X.K (.one j)))(XY:∀q∈kvs,∃z c,q=((bf z:Key),V.ref c)/\c∈cs/\gW kvs (bf z)>>(.ref c))(hlen:b+kvs.length<=100000)
  (hy:∀z:Str,VE X (.Name y VH) (δ.set j (.val (.str z))) (.str z))(he:∀z:Str,VE X e (δ.set j (.val (.str z))) d)
  (hn:∀z:Str,noOwn (δ.set j (.val (.str z)))=true)(hf:∀z:Str,N2 (δ.set j (.val (.str z))) δ)
  (q:∀σ2 Ha Hb,fQ X.K B0 B Ha Hb σ2 δ->D.nx σ2 Hb)
  (hN:tE X i x:=by ac_rfl)
  (Xm:vK X (.Name x px) f:=by rfl)(Kz:vK X (.Name x CG) f:=by rfl)
  (fW:vK X (.Subscript (.Attribute (.Name x CG) f ZV) (.Name y VH) ps) "append":=by rfl)
  (hs:kB X e []:=by rfl)
  (k8:Ht X pc [e]:=by rfl)
  (hline:(pa.endLine==pc.line)=true:=by rfl)(fu:pU X pc []:=by rfl)
  (lZ:swapsWith (.Call (.Attribute (.Subscript (.Attribute (.Name x CG) f ZV) (.Name y VH) ps) "append" pa) [e] [] pc) none rR.line X.env=pure false:=by rfl)
  (hsl:B8 (.Name y VH):=by intro _ _;rfl)
  (hsf:Fx X (.Attribute (.Name x px) f po):=by intro _;rfl):
  cS X (.For (.Name y py) (.Attribute (.Name x px) f po) [.Expr (.Call (.Attribute (.Subscript (.Attribute (.Name x CG) f ZV) (.Name y VH) ps) "append" pa) [e] [] pc) rR] [] pos) D σ H:=λpins s I=>by
 let#[_,_,rfl,nd,h1,_,_,_,h5,_]:=G.ex;let#[o,I']:=I.freeze h5;let Gf:OF X.K B0 B (TW p C dx fs ak ag ad ah cs (.ky o (.dK kvs)) b) H0 (upd H ah (.ky o (.dK kvs))) σ δ:=G.tw (.inr (.inr (.inr (.inl #[rfl,rfl]))));let step:∀(m:Nat)(z:Str)(c:ay)(D:Ends)σ1 Ha Hb,m<=kvs.length->m<kvs.length->c∈cs->gW kvs (bf z)>>(.ref c)->OF X.K B0 B (TW p C dx fs ak ag ad ah cs (.ky o (.dK kvs)) (b+m)) Ha Hb σ1 (δ.set j (.val (.str z)))->(∀Hc Hd,OF X.K B0 B (TW p C dx fs ak ag ad ah cs (.ky o (.dK kvs)) (b+(m+1))) Hc Hd σ1 δ->D.nx σ1 Hd)->cS X (.Expr (.Call (.Attribute (.Subscript (.Attribute (.Name x CG) f ZV) (.Name y VH) ps) "append" pa) [e] [] pc) rR) D σ1 Hb:=by
  intro m z c D σ1 Ha Hb hm hm2 NX hval G1 q1 pins s I;refine kD (qI di eA eB ka (B_ (Jw hr) (pW (vL hN) Kz) cu hsl) (cy cu dF hs) fW k8 hline hs fu) lZ pins s σ1 Hb D I ?_;let#[_,_,rfl,nd,k1,_,_,_,k5,k6]:=G1.ex;let#[xs,x1,x2]:=k6 c NX;refine#[.ref p,G1.fr.slot i (.ref p) ([aS (bF vX)]▸hi),p,C,dx,fs,.ref ah,rfl,k1,cl,na,lk,?_];refine hy z B0 B σ1 Ha Hb _ G1.fr λv H1 cW g r=>?_;cases r;refine#[ah,.ref c,rfl,?_,.inl #[rfl,_,jb.of (g.big _ _ x1)],?_]
  .rw[<-hval];exact .inl #[kvs,.inr z,.inr #[o,g.big _ _ k5],rfl,rfl]
  refine he z B0 B σ1 H1 cW _ (G1.fr.grow g) λv H2 fG g2 r2=>?_;refine#[c,xs,v,rfl,rfl,g2.big _ _ (g.big _ _ x1),by rw[cM];omega,?_];let G2:=((G1.go TW.mono (G1.own.grow (g.trans g2)) G1.no).twUp (show b+m<=b+(m+1) by omega)).tw (y:=c) (o:=.lst (xs ++ [v])) (.inr (.inr (.inr (.inr #[NX,#[_,rfl,by rw[aX];show _+1<=_;omega],rfl]))));exact q1 _ _ (G2.forget TW.mono (hf z) (by let:=G.no;exact this))
 refine B1 hp hc (Io (pW (vL hN) Xm)) hg kG hsf pins s σ _ D I' ?_;let#[_,_,rfl,_,k1,_,_,_,k5,_]:=Gf.ex;refine#[.ref p,Gf.fr.slot i _ hi,p,C,dx,fs,.ref ah,rfl,k1,cl,na,lk,ah,o,kvs,rfl,k5,?_];refine#[λi mm σ' H'=>i<=kvs.length/\mm=kvs.length-i/\∃Ha,OF X.K B0 B (TW p C dx fs ak ag ad ah cs (.ky o (.dK kvs)) (b+i)) Ha H' σ' δ,#[kvs.length,aW _,rfl,H0,Gf],?_];rintro n mm σ' H' ⟨hi',rfl,Ha,Ga⟩;let#[_,_,rfl,_,j1,_,_,_,j5,_]:=Ga.ex;by_cases nE:n<kvs.length
 .refine .inr #[#[nE,j5],λσ'' x3=>∃Hb,OF X.K B0 B (TW p C dx fs ak ag ad ah cs (.ky o (.dK kvs)) (b+(n+1))) Hb x3 σ'' δ,λσ'' x3 #[Hb,z]=>#[kvs.length-(n+1),∅,nE,rfl,Hb,z],λv H2 #[e1,qq,hq,ev]=>?_];subst e1;subst ev;let#[z,c,rfl,NX,hval]:=XY qq (aP hq);let G2:=Ga.go TW.mono (Ga.own.n_ (i:=j) (v:=.str z) (sl:=.val (.str z)) #[_,rfl,.str _] rfl) (hn z);exact bW (step n z c _ _ _ _ hi' nE NX hval G2 λHc Hd z=>#[Hc,z])
 .let en:n=kvs.length:=∅;subst en;exact .inl #[#[aE _,j5],q _ _ _ Ga.fr]
end
end L2
namespace Mg
open L2 PySem PyProof.Rows
def top(i:Nat):eO:=PySem.Challenge.pw_mergeline_k01_plants_read.main.body.getD i (.Pass #[0,0,0,0])
theorem small{n:Nat}(h:n<=1000000):n<=sizeLine:=bZ h (by rw[cM];decide)
theorem fh{n:Nat}(h:n<=1000000):n<sizeLine:=Nat.lt_of_le_of_lt h (by rw[cM];decide)
def kX(x:Str):Prop:=bX (.str x)=true
theorem bS(a b:Str):c9 (.str a) (.str b)=decide (a=b):=by rw[c9,f6];simp
theorem oA(a b:Int):c9 (.int a) (.int b)=decide (a=b):=by rw[c9,f6];simp
end Mg
namespace L2
open PySem PySem.Spec PyProof.Rows
section
variable{X:Cx}{a b c e:bw}{δ:!Slot}{d d1 d2 d3:ai}{pos:Pos}{k:Nat}
theorem Ei{op op':Dm}{r r':R2}{k1 k2:Bool}(ho:sN X (compareOp op) r)(BR:sN X (compareOp op') r')(od1:yT X.K r d1 d2 (.bool k1))(od2:yT X.K r' d2 d3 (.bool k2))(h1:VE X a δ d1)(h2:VE X b δ d2)(h3:k1=true->VE X c δ d3)
  (hm:lastMarks [op,op'] [b,c]=false:=by with_unfolding_all rfl):VE X (.Compare a [op,op'] [b,c] pos) δ (.bool (k1&&k2)):=by
 cases k1 with
 |true=>refine .of (DI ho BR cu cu cu hm) λB0 B σ H0 H Q f q=>h1 B0 B σ H0 H _ f λv H1 cW g1 r1=>h2 B0 B σ H1 cW _ (f.grow g1) λu H2 fG g2 r2=>od1 v u H2 fG _ g2.sub (r1.mono g2.eD) r2 λz H3 wg g3 r3=>?_;cases r3;refine#[true,rfl,?_];exact h3 rfl B0 B σ H3 wg _ (((f.grow g1).grow g2).grow g3) λx H4 H4' g4 r4=>od2 u x H4 H4' _ g4.sub ((r2.mono g3.eD).mono g4.eD) r4 λy H5 H5' g5 r5=>q y H5 H5' ((((g1.trans g2).trans g3).trans g4).trans g5) r5
 |false=>refine .of (DI ho BR cu cu y9 hm) λB0 B σ H0 H Q f q=>h1 B0 B σ H0 H _ f λv H1 cW g1 r1=>h2 B0 B σ H1 cW _ (f.grow g1) λu H2 fG g2 r2=>od1 v u H2 fG _ g2.sub (r1.mono g2.eD) r2 λz H3 wg g3 r3=>?_;cases r3;refine#[false,rfl,?_];exact q _ H3 wg ((g1.trans g2).trans g3) (.bl false)
theorem ML{x:Str}{s:Str}{t:Tok}(hm:X.mg x>>(.str s t))(hg:Gl X x:=by rfl)(hd:uc x:=by decide):VE X (.Name x pos) δ (.str s):=.of (yj hg hm (v:=.str s) #[t,rfl] hd) λ_ _ _ _ _ _ f k=>k _ _ _ (.refl f.sub) (.str s)
theorem Iz{x:Str}{i:Int}{t:Tok}(hm:X.mg x>>(.int i t))(hg:Gl X x:=by rfl)(hd:uc x:=by decide):VE X (.Name x pos) δ (.int i):=.of (yj hg hm (v:=.int i) #[t,rfl] hd) λ_ _ _ _ _ _ f k=>k _ _ _ (.refl f.sub) (.int i)
end
end L2
namespace Mg
open L2 PySem PyProof.Rows
seal L2.VE L2.VS L2.y6 L2.VT L2.VO L2.O8
variable{fd:eE}{ds:!ai}{c:Nat}{d:ai}{x:Str}
structure Nw(mg:Str->Option aA):Prop where
 len:mg "len"=none
 all:mg "all"=none
 Xe:mg "enumerate"=none
 let_:∃t,mg "LETTERS"=some (.str "abcdefghijklmnopqrstuvwxyz" t)
 fig:∃t,mg "FIGURES"=some (.str "0123456789" t)
 lna:∃t,mg "LONGEST_NAME"=some (.int 8 t)
 lnu:∃t,mg "LONGEST_NUMBER"=some (.int 6 t)
def one(c:Nat):Str:=#[(bE [c])]
def qg(signs:Str)(longest:Int)(w:Str):Bool:=(decide (1<=(w.length:Int))&&decide ((w.length:Int)<=longest))&&w.cps.toList.all λc=>DZ (one c) signs
def X1(signs:Str):ai->Option ai
 | .str x=>some (.bool (DZ x signs))
 |_=>none
theorem JW(signs w:Str):(mh w).filterMap (X1 signs)=(w.cps.toList.map λc=>DZ (one c) signs).map .bool:=by unfold mh;rw[cK,aG];exact filterMap_some λc _=>rfl
def isName(w:Str):Bool:=qg "abcdefghijklmnopqrstuvwxyz" 8 w
def isNumber(w:Str):Bool:=qg "0123456789" 6 w&&(decide (w="0") || not (decide ((w.cps.toList.head?.map one).getD fE="0")))
def wordsOf(row:Str):!Str:=(cv row " ").filter λw=>decide (w≠"")
def rowsOf(text:Str):!(Nat×!Str):=(cv text "\n").zipIdx.filterMap λp=>if(wordsOf p.1).isEmpty then none else some (p.2,wordsOf p.1)
theorem iV(x:Str):kX x↔∀c∈x.cps.toList,c<0x110000:=by show(x.cps.all λc=>decide (c<0x110000))=true↔_;rw[<-Array.all_toList,cO];exact#[λh c hc=>qQ4 (h c hc),λh c hc=>qQ1 (h c hc)]
theorem UD(h:kX x)(hc:c∈x.cps.toList):kX (one c):=by
 rw[iV]at h ⊢;intro z hz;let:z=c:=by simpa[one]using hz
 rw[this];exact h c hc
def xx(x:Str):Prop:=x.length<=100000/\kX x
section
variable{P:bx}{w:b_}{K:aj}{mg:Str->Option aA}{base:cI}{f:ay}{k:Nat}
abbrev X2:!Str:=["signs","longest","word"]
theorem X3:cw X2 X2 (bG (top 10)):=by grind
def Rmo(ds:!ai)(d:ai):Prop:=∃(signs:Str)(longest:Int)(x:Str),ds=[.str signs,.int longest,.str x]/\x.length<=100000/\d=.bool (qg signs longest x)
theorem zbP(F:kE K "is_made_of" "is_made_of" (top 10) f fd)(n:Nw mg):dZ P w K mg base jL 1 f fd X2 (gI K Rmo):=
 ji F X3 (by ext) λ_ _ h=>by
  let#[signs,longest,x,rfl,hx,rfl]:=h;intro gu A outer s H E hr;let nc:(["sign","signs"]:!Str).Nodup:=∎;let hl:(mh x).length<=100000:=by unfold mh;rw[ae,ck];exact hx
  refine bA (cg (VE.to (jC (Ei HD HD (DV 1 x.length) (DV x.length longest) aL (HZ 2. (small ∅) n.len) (λ_=>oO 1 rfl)) (λ_=>gY (fX (jl rfl) rS (cY (VO.ve (VO.to (dX (own:=["sign"]) (cap:=[0]) (tgt:=.one 0) rfl #[rfl,∎,∎,rfl,rfl,?_] (F3 2.) (λf s3 H3=>hX 0 nc) rfl
   (small ∅) (λd hd=>?_)) (JW signs x))) c5) n.all rfl))) ?_))
  .intro j hj;rcases ax.mp hj with rfl|hj
   .exact#[(by show(0:Nat)<3;decide),iL rfl,rfl]
   .cases hj
  .let#[c,_,rfl]:=au.mp hd;exact#[_,rfl,λf s3 H3=>mO,λr qN f s3 H3=>by cases qN;exact TQ 0. 1.]
  .unfold qg qL;rw[Ff];rfl
theorem X4:cw ["word"] ["word"] (bG (top 11)):=by grind
theorem X5:cw ["word"] ["word"] (bG (top 12)):=by grind
def X6(ds:!ai)(d:ai):Prop:=∃x:Str,ds=[.str x]/\x.length<=100000/\d=.bool (isName x)
def ZW(ds:!ai)(d:ai):Prop:=∃x:Str,ds=[.str x]/\xx x/\d=.bool (isNumber x)
theorem zbQ(F:kE K "is_name" "is_name" (top 11) f fd)(n:Nw mg)(C:bu P w K mg base 1 "is_made_of" X2 (gI K Rmo)):dZ P w K mg base jL 2 f fd ["word"] (gI K X6):=
 ji F X4 (by ext) λ_ _ h=>by let#[x,rfl,hx,rfl]:=h;intro gu A outer s H E hr;let#[t1,m1]:=n.let_;let#[t2,m2]:=n.lna;exact bA (cg (bQ C hr {ML m1,Iz m2,0.} #[_,8,x,rfl,hx,rfl]))
theorem zbR(F:kE K "is_number" "is_number" (top 12) f fd)(n:Nw mg)(C:bu P w K mg base 1 "is_made_of" X2 (gI K Rmo)):dZ P w K mg base jL 2 f fd ["word"] (gI K ZW):=
 ji F X5 (by ext) λ_ _ h=>by
  let#[x,rfl,#[hx,okx],rfl]:=h;intro gu A outer s H E hr;let#[t1,m1]:=n.fig;let#[t2,m2]:=n.lnu;let o0:Lay 20 (.str "0"):=bj ∎;cases em:qg "0123456789" 6 x with
  |false=>refine bA (cg (VE.to (jC (k2:=false) (VE.to (bQ C hr {ML m1,Iz m2,0.} #[_,6,x,rfl,hx,rfl]) (by rw[em])) (λz=>by cases z)) ?_));unfold isNumber;rw[em];rfl
  |true=>
   obtain⟨c,hc⟩:∃c,x.cps.toList.head?>>c:=by
    cases e:x.cps.toList with
    |cons c l=>exact#[c,rfl]
    |nil=>
     exfalso;let:x.length=0:=by let:=qQ6 dU e;exact this
     unfold qg at em;rw[this]at em;cases em
   let h0:tF x.cps.toList 0>>c:=by
    cases e:x.cps.toList with
    |nil=>rw[e]at hc;cases hc
    |cons a l=>rw[e]at hc;cases hc;exact df rfl
   let okc:kX (one c):=by
    let hm:c∈x.cps.toList:=by
     cases e:x.cps.toList with
     |nil=>rw[e]at hc;cases hc
     |cons a l=>rw[e]at hc;cases hc;exact aJ
    exact UD okx hm
   refine bA (cg (VE.to (jC (VE.to (bQ C hr {ML m1,Iz m2,0.} #[_,6,x,rfl,hx,rfl]) (by rw[em])) (λ_=>gY (tR (nH hr (bj okx) o0 0. a_) (λ_=>gY (HV hr (bj okc) o0 (TN 0. aL (small ∅) h0) a_))))) ?_));unfold isNumber;rw[em,bS,bS,hc];rfl
end
theorem Ej{y p:Str}:∀{zs:!Str},p∈zs->c∈p.cps.toList->c∈(bM y zs).cps.toList
 | [],h,_=>by cases h
 | [x],h,hc=>by rw[aF]at h;subst h;exact hc
 |x::x2::zs,h,hc=>by
  show c∈(x++y++bM y (x2::zs)).cps.toList;let e:(x++y++bM y (x2::zs)).cps.toList=(x.cps.toList++y.cps.toList)++(bM y (x2::zs)).cps.toList:=by show(x.cps++y.cps++(bM y (x2::zs)).cps).toList=_;simp
  rw[e];rcases ax.mp h with rfl|h
  .exact bP _ (bP _ hc)
  .exact bD _ (Ej h hc)
theorem Ek{y p: Str}(h:xx x)(hp:p∈cv x y):xx p:=by refine#[bZ (part_short hp) h.1,(iV p).mpr λc hc=>(iV x).mp h.2 c ?_];let:=Ej (y:=y) hp hc;rwa[ny]at this
def X7:ai->Option ai
 | .str w=>if decide (w≠"")=true then some (.str w)else none
 |_=>none
theorem JX(l:!Str):(l.map aO).filterMap X7=(l.filter λw:Str=>decide (w≠"")).map aO:=by
 induction l with
 |nil=>rfl
 |cons w l ih=>
  rw[aq,iy];by_cases h:decide (w≠"")=true
  .rw[qQ3 h,dB (by show(if _ then _ else _)=_;rw[qQ3 h]),ih];rfl
  .rw[qQ2 h,fK (by show(if _ then _ else _)=_;rw[qQ2 h]),ih]
def El(p:Nat×!Str):ai:=.tuple [.int p.1,.list (p.2.map .str)]
def ur(text:Str)(i:Nat):!(Nat×!Str):=((cv text "\n").zipIdx.take i).filterMap λp=>if(wordsOf p.1).isEmpty then none else some (p.2,wordsOf p.1)
theorem xA{text row:Str}{i:Nat}(h:(cv text "\n")[i]?>>row):ur text (i+1)=ur text i++(if(wordsOf row).isEmpty then []else [(i,wordsOf row)]):=by
 unfold ur;rw[cB,Hn,h];simp only[fe,uN,sM,rh]
 congr 1
 cases e:(wordsOf row).isEmpty
 .rw[dB (by simp only[e];rfl)];rfl
 .rw[fK (by simp only[e];rfl)];rfl
theorem Gn(text:Str):ur text (cv text "\n").length=rowsOf text:=by unfold ur rowsOf;rw[gq (by simp)]
theorem Gp(text:Str)(i:Nat):(ur text i).length<=i:=by exact bZ (fL _ _) (by rw[cN];omega)
theorem xB{y: Str}(h:x.length<=100000):(cv x y).length<=100002:=by
 let e1:=Dp x y 0 x.length (x.length+1);unfold cv;split
 .show 1<=100002;omega
 .split
  .show 1<=100002;omega
  .rw[xS];omega
section
variable{P:bx}{w:b_}{K:aj}{mg:Str->Option aA}{base:cI}{f:ay}{k:Nat}
theorem X8:cw ["row"] ["row"] (bG (top 13)):=by grind
def Rwo(ds es:!ai):Prop:=∃x:Str,ds=[.str x]/\xx x/\es=(wordsOf x).map .str
theorem zbS(F:kE K "words_of" "words_of" (top 13) f fd):dZ P w K mg base jL 1 f fd ["row"] (N3 K Rwo):=
 O9 F X8 (by ext) λ_ _ h=>by
  let#[x,rfl,ok,rfl]:=h;intro gu A outer s H E hr;let nc:(["word"]:!Str).Nodup:=∎;let hx:=ok.1;refine bA (HQ (VO.to (dX (own:=["word"]) (cap:=[]) (tgt:=.one 0) rfl #[rfl,∎,∎,rfl,rfl,by simp] (fj (VO.ve (jm 0. a_ rfl (small ∅)))) (λf s3 H3=>hX 0 nc) rfl
   (small (by rw[ae];let:=xB (y:=" ") hx;omega)) (λd hd=>?_)) (JX _)));let#[p,hp,rfl]:=au.mp hd;refine#[_,rfl,λf s3 H3=>?_,λr qN f s3 H3=>?_]
  .refine va (VT.to (mJ (k:=0) hr (bj (Ek ok hp).2) (bj ∎) 0. a_) ?_);show(not (decide (p="")))=(if decide (p≠"")=true then some (aO p)else none).isSome;by_cases h:p=""
   .subst h;rfl
   .rw[qQ3 ↑h,qQ0 h];rfl
  .let UE:(if decide (p≠"")=true then some (aO p)else none)>>r:=qN;split at UE
   .cases UE;exact oO 0 rfl
   .cases UE
abbrev Nro:!Str:=["text","rows","number","row","words"]
theorem Rr:cw Nro ["text"] (bG (top 14)):=by grind
def Rro(ds es:!ai):Prop:=∃x:Str,ds=[.str x]/\xx x/\es=(rowsOf x).map El
theorem zbT(F:kE K "rows_of" "rows_of" (top 14) f fd)(n:Nw mg)(C:bu P w K mg base 1 "words_of" ["row"] (N3 K Rwo)):dZ P w K mg base jL 2 f fd ["text"] (N3 K Rro):=
 O9 F Rr (by ext) λ_ _ h=>by
  let#[x,rfl,ok,rfl]:=h;intro gu A outer s H E hr;let nd:=Rr.nd;let hx:=ok.1;let hc:=xB (y:="\n") hx;refine aN (mP 1 (dO c5) nd) ?_;refine aN (rP (tgt:=.tup [2,3]) cA rfl (yp (VO.ve (jm 0. a_ rfl (small ∅))) n.Xe)
   (gU rfl (bY (hX 2 nd) (bY (hX 3 nd) fA))) (λi=>[.val _,.own ((ur x i).map El),.un,.un,.un]) (cv x "\n").length rfl (by rw[gN];simp) (λi d hi hd=>?_) (.inl #[by rw[gN];simp,rfl])) ?_
  .let#[y,hy,rfl]:=sP hd;obtain⟨row,zC⟩:∃row,(cv x "\n")[i]?>>row:=#[(cv x "\n")[i],by simp[hi]];rw[aH,zC]at hy;cases hy;let VJ:=Ek ok (aP zC);let hle:=Gp x i;refine#[_,rfl,?_];refine aN (dY 4 (VO.ve (yq C hr {3.} #[row,rfl,VJ,rfl])) nd) ?_;cases ew:(wordsOf row).isEmpty with
   |true=>refine jA (bA (bR (VT.to (eS 4. rfl) (by cases e:wordsOf row with|nil=>rfl|cons _ _=>rw[e]at ew;cases ew)) bC)) #[.inr rfl,.inr ?_,.inl rfl,.inl rfl,.inl rfl,trivial];rw[xA zC,ew,qQ3 rfl,cn]
   |false=>refine jA (bA (dI (VT.to (eS 4. rfl) (by cases e:wordsOf row with|nil=>rw[e]at ew;cases ew|cons _ _=>rfl)) (bA (kj 1 rfl (ic {2.,4.}) (fh (by rw[ae];omega)))))) #[.inr rfl,.inr ?_,.inl rfl,.inl rfl,.inl rfl,trivial];rw[xA zC,ew,qQ2 kx,aQ];rfl
  .rw[Gn];exact bA (HR 1 rfl)
end
def MN(ns:!Int):ai:=.list (ns.map .int)
def gw(c k:Int):Int:=((c%2147483629+k*k*7919+11)*48271%2147483647)*((c%2147483629+k*k*7919+11)*48271%2147483647)%1999999973
theorem P9(c k:Int):0<=gw c k:=cU _ ⋯
abbrev ABC:Str:="abcdefghijklmnopqrstuvwxyz"
theorem MP:(ABC:Str).cps.toList=(cj 26).map (97 + ·):=∎
def dq(x:Str):Prop:=1<=x.cps.toList.length/\x.cps.toList.length<=8/\∀c∈x.cps.toList,97<=c/\c<123
theorem P_(h:97<=c/\c<123):c∈(ABC:Str).cps.toList:=by rw[MP];exact au.mpr #[c-97,fN.mpr ∅,∅]
theorem dq.is(h:dq x):isName x=true:=by let#[h1,h2,h3]:=h;rw[ck]at h1 h2;let e:x.length=x.cps.size:=rfl;unfold isName qg;rw[qQ1 ∅,qQ1 ∅,pL,pL,cO];intro c hc;let:DZ (one c) ABC=decide (c∈ABC.cps.toList):=uU ..;rw[this];exact qQ1 (P_ (h3 c hc))
theorem dq.ok(h:dq x):xx x:=by let#[h1,h2,h3]:=h;rw[ck]at h1 h2;refine#[by show x.cps.size<=_;omega,(iV x).mpr λc hc=>?_];let:=h3 c hc;omega
theorem Em(x:Str):∀n,(gb x n).cps.toList=(bp n x.cps.toList).flatten
 |0=>rfl
 |n+1=>by
  let e:(gb x (n+1)).cps.toList=x.cps.toList++(gb x n).cps.toList:=by show(x.cps++(gb x n).cps).toList=_;simp
  rw[e,Em x n];rfl
theorem CL(c n:Nat):(gb (one c) n).cps.toList=bp n c:=by
 rw[Em];induction n with
 |zero=>rfl
 |succ n ih=>rw[ez,fc,ih];rfl
section
variable{P:bx}{w:b_}{K:aj}{mg:Str->Option aA}{base:cI}{f:ay}{k:Nat}
def IA(ds:!ai)(d:ai):Prop:=∃(ns:!Int)(k:Nat),ds=[MN ns,.int k]/\d=.int (ns.getD k 0)
theorem P':cw ["_law_script","_law_k"] ["_law_script","_law_k"] (bG (top 37)):=by grind
theorem UG(m1:mg "len"=none)(h:IA ds d):rQ P w K mg base ["_law_script","_law_k"] "_law_cell_at" (top 37) f k ds (.rt d):=by
 let#[ns,n,rfl,rfl]:=h;intro gu A outer s H E hr;by_cases hn:n<ns.length
 .refine dD (dI (VT.to (u_ 1. (ie 0. m1)) (by simp only[ae];exact qQ1 ∅)) (bA (cg (eJ 0. 1. (df ?_))))) rfl;rw[aH,aR,aD hn];rfl
 .refine aN (bR (VT.to (u_ 1. (ie 0. m1)) (by simp only[ae];exact qQ0 ∅)) bC) ?_;let e:ns.getD n 0=0:=by rw[aR,fz ∅];rfl
  rw[e];exact bA (cg aL)
theorem UH(F:kE K "_law_cell_at" "_law_cell_at" (top 37) f fd)(m1:mg "len"=none):dZ P w K mg base jL 1 f fd ["_law_script","_law_k"] (gI K IA):=ji F P' (by ext) λ_ _ h=>UG m1 h
def Gq(ds:!ai)(d:ai):Prop:=∃(c k:Int),ds=[.int c,.int k]/\0<=k/\k<=1000/\d=.int (gw c k)
abbrev X9:!Str:=["_law_cell","_law_k","_law_m"]
theorem MQ:cw X9 ["_law_cell","_law_k"] (bG (top 38)):=by grind
theorem X_(h:Gq ds d):rQ P w K mg base X9 "_law_mix" (top 38) f k ds (.rt d):=by let#[c,n,rfl,h0,h1,rfl]:=h;intro gu A outer s H E hr;let nd:=MQ.nd;exact aN (dY 2 (fH (ug (fw (fw (fH 0. aL ⋯) (ug (ug 1. 1. (.inl #[∅,∅])) aL (.inr #[⋯,⋯]))) aL) aL (.inr #[⋯,⋯])) aL ⋯) nd) (bA (cg (fH (ug 2. 2. (.inl #[∅,∅])) aL ⋯)))
theorem X'(F:kE K "_law_mix" "_law_mix" (top 38) f fd):dZ P w K mg base jL 1 f fd ["_law_cell","_law_k"] (gI K Gq):=ji F MQ (by ext) λ_ _ h=>X_ h
end
inductive Rl where
 |meet
 |gather (most age:Int)
 |many (most:Int)
 |rank (bound:Option Int)
 |turns (shares:!Int)
 |eldest
def og:Option Int->ai
 |none=>.none
 |some i=>.int i
def qW:Rl->Str
 | .meet=>"meet"
 | .gather _ _=>"gather"
 | .many _=>"many"
 | .rank _=>"rank"
 | .turns _=>"turns"
 | .eldest=>"eldest"
def tJ:Rl->!ai
 | .meet=>[]
 | .gather m a=>[.int m,.int a]
 | .many m=>[.int m]
 | .rank b=>[og b]
 | .turns s=>[.tuple (s.map .int)]
 | .eldest=>[]
def KD(r:Rl):ai:=.tuple (.str (qW r)::tJ r)
def gx:Rl->Nat->Int
 | .many m,_=>m
 | .gather m _,_=>m
 | .meet,n=>n
 |_,_=>1
section
variable{P:bx}{w:b_}{K:aj}{mg:Str->Option aA}{base:cI}{f:ay}{k:Nat}
theorem Ya:cw ["_law_rule","_law_many"] ["_law_rule","_law_many"] (bG (top 39)):=by grind
def ZX(ds:!ai)(d:ai):Prop:=∃(r:Rl)(many:Nat),ds=[KD r,.int many]/\d=.int (gx r many)
theorem zbU(F:kE K "_law_greatest" "_law_greatest" (top 39) f fd):dZ P w K mg base jL 1 f fd ["_law_rule","_law_many"] (gI K ZX):=
 ji F Ya (by ext) λ_ _ h=>by
  let#[r,many,rfl,rfl]:=h;unfold KD;intro gu A outer s H E hr;let hl:(tJ r).length<=2:=by cases r<;>simp[tJ]
  let x1:∃x,(aO (qW r)::tJ r ++ [.int 0])[1]?>>x/\((ik [(("many":Str),x),("gather",x),("meet",.int many)] (qW r)).getD (.int 1))=.int (gx r many):=by cases r<;>exact#[_,rfl,rfl]
  let#[x,hx,hv]:=x1;let hn3:=(show([("many":Str),"gather","meet"]).Nodup by symm);let hx1:=df hx;let hz:(aO (qW r)::tJ r).length + [eX 0].length<=sizeLine:=small (by simp only[bH,cR];omega);let yr:(aO (qW r)::tJ r)≠[]:=by simp
  generalize tJ r=ra at *;generalize qW r=pP at *;refine bA (cg (VE.to (L7 hr (Ig (kvs:=[(("many":Str),x),("gather",x),("meet",.int many)]) (.cons a_ ?_ (.cons a_ ?_ (.cons a_ 1. .nil))) hn3 (by simp) (by show 3<=15;decide)) (x:=pP) ?_ (d:=.int 1) aL) hv))
  .exact dQ (yt (d1:=.str pP::ra) (d2:=[.int 0]) 0. (ic (cY aL c5)) yr hz) aL hx1
  .exact dQ (yt (d1:=.str pP::ra) (d2:=[.int 0]) 0. (ic (cY aL c5)) yr hz) aL hx1
  .exact dQ (ds:=.str pP::ra) 0. aL (df (j:=0) rfl)
end
structure Dk where
 name:Str
 to:Str
 rule:Rl
 places:!Str
def kL(l:!Str):ai:=.list (l.map .str)
def gO(d:Dk):ai:=.tuple [.str d.name,.str d.to,KD d.rule,.tuple (d.places.map .str)]
theorem En{α:Type}(l:!α)(i:Nat)(y:α):(pC l i y).length=l.length+1:=by unfold pC;rw[aX,bH,cN,iu];omega
theorem MR{α:Type}{l:!α}{i:Nat}{x y:α}(h:x∈pC l i y):x∈l\/x=y:=by
 rcases aV.mp h with h|h
 .exact .inl (mB h)
 .rcases ax.mp h with h|h
  .exact .inr h
  .exact .inl (mI h)
section
variable{P:bx}{w:b_}{K:aj}{mg:Str->Option aA}{base:cI}{f:ay}{k:Nat}
end
def UI(ns:!Int):Int:=ns.getD 0 0
def UJ(ns:!Int):Int:=ns.getD 1 0
def Qa(ns:!Int):Int:=ns.getD 2 0
def rW(p:Str×Option Int):ai:=.tuple [.str p.1,og p.2]
def fY(gf:!Dk)(name:Str):!Int:=gf.filterMap λd=>if decide (d.to=name)=true then some (gx d.rule d.places.length)else none
def maxOf(l:!Int):Int:=l.foldl (λm z=>if m<z then z else m) 1
def zD(p:Str×Int):ai:=.tuple [.str p.1,.int p.2]
def tT(p:Str×Str×Int):ai:=.tuple [.str p.1,.str p.2.1,.int p.2.2]
def oB(p:Str×Int×Int):ai:=.tuple [.str p.1,.int p.2.1,.int p.2.2]
structure Pl where
 kinds:!(Str×Option Int)
 gates:!Str
 lines:!(Str×Int)
 desks:!Dk
 times:!(Str×Str×Int)
 hours:!(Str×Int×Int)
 paces:!(Str×Str×Int×Int)
def rX(p:Str×Str×Int×Int):ai:=.tuple [.str p.1,.str p.2.1,.int p.2.2.1,.int p.2.2.2]
def gA(p:Pl):!(Str×ai):=[("kinds",.list (p.kinds.map rW)),("gates",kL p.gates),("lines",.list (p.lines.map zD)),("desks",.list (p.desks.map gO)),("times",.list (p.times.map tT)),("hours",.list (p.hours.map oB)),("paces",.list (p.paces.map rX))]
def g0(p:Pl):ai:=iM (gA p)
theorem zE(l:!Int):maxOf l∈(1::l)/\∀z∈(1::l),z<=maxOf l:=by
 let go:∀(l:!Int)(m0:Int),(l.foldl (λm z=>if m<z then z else m) m0)∈m0::l/\∀z∈m0::l,z<=l.foldl (λm z=>if m<z then z else m) m0:=by
  intro l;induction l with
  |nil=>intro m0;exact#[aJ,λz hz=>by simp at hz;rw[hz];exact Int.le_refl _]
  |cons x l ih=>
   intro m0;let#[h1,h2]:=ih (if m0<x then x else m0);rw[fk];refine#[?_,λz hz=>?_]
   .rcases ax.mp h1 with h|h
    .rw[h];split<;>simp
    .exact aM _ (aM _ h)
   .let hm:=h2 _ aJ;rcases ax.mp hz with rfl|hz
    .refine Int.le_trans ?_ hm;split<;>omega
    .rcases ax.mp hz with rfl|hz
     .refine Int.le_trans ?_ hm;split<;>omega
     .exact h2 z (aM _ hz)
 exact go l 1
def Bq(r:ai)(n:Nat):Int:=match r with
 | .tuple [.str w,.int m]=>if w="many" then m else 1
 | .tuple [.str w,.int m,_]=>if w="gather" then m else 1
 | .tuple [.str w]=>if w="meet" then n else 1
 |_=>1
theorem CM(r:Rl)(n:Nat):Bq (KD r) n=gx r n:=by
 cases r with
 |rank b=>cases b<;>rfl
 |_=>rfl
def IB(name:Str):ai->Option ai
 | .tuple [_,.str to,r,.tuple ps]=>if decide (to=name)=true then some (.int (Bq r ps.length))else none
 |_=>none
theorem uv(name:Str)(d:Dk):IB name (gO d)=(if decide (d.to=name)=true then some (.int (gx d.rule d.places.length))else none):=by show(if decide (d.to=name)=true then some (eX _)else none)=_;rw[CM,ae]
theorem JY(name:Str)(gf:!Dk):(gf.map gO).filterMap (IB name)=(fY gf name).map .int:=by
 unfold fY;rw[cK,List.map_filterMap]
 congr 1
 funext d;show IB name _=_;rw[uv];split<;>rfl
section
variable{P:bx}{w:b_}{K:aj}{mg:Str->Option aA}{base:cI}{f:ay}{k:Nat}
end
theorem IC{α β:Type}(g:α->β)(l:!α)(lo hi:Option Int):L2.cutD (l.map g) lo hi=(L2.cutD l lo hi).map g:=by unfold L2.cutD;rw[ae,Dt,pM]
theorem lO{α:Type}(l:!α)(n:Nat):L2.cutD l (some (n:Int)) none=l.drop n:=by
 unfold L2.cutD;rw[HT.om,HT.DM];by_cases h:n<=l.length
 .rw[nu h,gq (by rw[iu];omega)]
 .rw[Nat.min_eq_right ∅,qZ ∅,qZ ∅];simp
section
variable{P:bx}{w:b_}{K:aj}{mg:Str->Option aA}{base:cI}{f:ay}{k:Nat}
end
end Mg
namespace Mg
open L2 PySem PyProof.Rows
variable{n:Int}{c:Nat}{x:Str}
theorem vm(p:Pl):ik (gA p) "kinds"=some (.list (p.kinds.map rW)):=dR rfl
theorem zF(p:Pl):ik (gA p) "gates"=some (kL p.gates):=(bT (show ¬(("kinds":Str)="gates") by symm)).trans (dR rfl)
theorem Eo(p:Pl):ik (gA p) "lines"=some (.list (p.lines.map zD)):=(bT (show ¬(("kinds":Str)="lines") by symm)).trans ((bT (show ¬(("gates":Str)="lines") by symm)).trans (dR rfl))
theorem rY(p:Pl):ik (gA p) "desks"=some (.list (p.desks.map gO)):=(bT (show ¬(("kinds":Str)="desks") by symm)).trans ((bT (show ¬(("gates":Str)="desks") by symm)).trans ((bT (show ¬(("lines":Str)="desks") by symm)).trans (dR rfl)))
theorem Ep(p:Pl):ik (gA p) "times"=some (.list (p.times.map tT)):=(bT (show ¬(("kinds":Str)="times") by symm)).trans ((bT (show ¬(("gates":Str)="times") by symm)).trans ((bT (show ¬(("lines":Str)="times") by symm)).trans ((bT (show ¬(("desks":Str)="times") by symm)).trans (dR rfl))))
theorem zG(p:Pl):ik (gA p) "hours"=some (.list (p.hours.map oB)):=(bT (show ¬(("kinds":Str)="hours") by symm)).trans ((bT (show ¬(("gates":Str)="hours") by symm)).trans ((bT (show ¬(("lines":Str)="hours") by symm)).trans ((bT (show ¬(("desks":Str)="hours") by symm)).trans ((bT (show ¬(("times":Str)="hours") by symm)).trans (dR rfl)))))
theorem MS(p:Pl):ik (gA p) "paces"=some (.list (p.paces.map rX)):=(bT (show ¬(("kinds":Str)="paces") by symm)).trans ((bT (show ¬(("gates":Str)="paces") by symm)).trans ((bT (show ¬(("lines":Str)="paces") by symm)).trans ((bT (show ¬(("desks":Str)="paces") by symm)).trans ((bT (show ¬(("times":Str)="paces") by symm)).trans ((bT (show ¬(("hours":Str)="paces") by symm)).trans (dR rfl))))))
def pickOf{α:Type}(l:!α)(d:α)(j:Int):α:=l.getD (j%l.length).toNat d
theorem yy{α:Type}{l:!α}{d:α}{F:α->ai}(h:1<=l.length)(j:Int):tF (l.map F) (j%(l.length:Int))>>(F (pickOf l d j))/\pickOf l d j∈l:=by
 unfold pickOf;let a1:0<=j%l.length:=cU _ ∅;let a2:j%l.length<l.length:=cL _ ∅;generalize j%l.length=i at *;let#[n,rfl]:=qU a1;let hn:n<l.length:=∅;let e:l.getD ((n:Int)).toNat d=l[n]:=by rw[c7,aR,aD hn];rfl
 rw[e];exact#[df (by rw[aH,aD hn];rfl),dM hn]
structure Ka(K:aj):Prop where
 ss:bo K (.type "str") (.type "str")>>true
 is:bo K (.type "int") (.type "str")>>false
 ts:bo K (.type "tuple") (.type "str")>>false
 ls:bo K (.type "list") (.type "str")>>false
 ii:bo K (.type "int") (.type "int")>>true
 ti:bo K (.type "tuple") (.type "int")>>false
 li:bo K (.type "list") (.type "int")>>false
 ib:bo K (.type "int") (.type "bool")>>false
 tt:bo K (.type "tuple") (.type "tuple")>>true
 tl:bo K (.type "tuple") (.type "list")>>false
 lt:bo K (.type "list") (.type "tuple")>>false
 ll:bo K (.type "list") (.type "list")>>true
def zB:ai->Prop
 | .none=>True
 | .int _=>True
 | .str x=>kX x
 |_=>False
def zbV:ai->Bool
 | .none=>true
 |_=>false
theorem nM{K:aj}{d:ai}:yT K (λx y H Q=>y=.non/\Q (.bl (decide (x=.non))) H) d .none (.bool (zbV d)):=λv u H0 H Q s r1 r2 k=>by cases r2;refine#[rfl,k _ _ _ (.refl s) ?_];cases r1<;>exact .bl _
theorem lP(n:Nat)(b:Bool):Lay n (.bool b):=#[rfl,aW _]
structure Na(mg:Str->Option aA):Prop extends Nm mg where
 str:mg "str"=none
 all:mg "all"=none
def Qb:ai->Option ai:=λ_=>some (.bool true)
theorem oC:∀l:!ai,l.filterMap Qb=(bp l.length true).map .bool
 | []=>rfl
 |d::l=>by rw[dB (f:=Qb) rfl,oC l];rfl
theorem k_(n:Nat):qL (bp n true)=true:=by unfold qL;rw[cO];intro b hb;exact(iQ.mp hb).2
def Br(c:Nat):!(!Nat)->!Nat
 | []=>[]
 | [x]=>x
 |x::y::r=>x++c::Br c (y::r)
theorem Es:∀{a b r s:!Nat},c∉a->c∉b->a++c::r=b++c::s->a=b/\r=s
 | [],[],r,s,_,_,h=>#[rfl,(iK h).2]
 | [],y::b,r,s,_,hb,h=>qQ7 (iK h).1 (λz=>hb ([z]▸aJ))
 |x::a,[],r,s,ha,_,h=>qQ7 (iK h).1 (λz=>ha ([<-z]▸aJ))
 |x::a,y::b,r,s,ha,hb,h=>by let#[h1,h2]:=iK h;let#[h3,h4]:=Es (λz=>ha (aM _ z)) (λz=>hb (aM _ z)) h2;exact#[by rw[h1,h3],h4]
theorem Bs{c:Nat}:∀{ps qs:!(!Nat)},ps≠[]->qs≠[]->(∀p∈ps,c∉p)->(∀p∈qs,c∉p)->Br c ps=Br c qs->ps=qs
 | [],_,h,_,_,_,_=>qQ7 rfl h
 |_,[],_,h,_,_,_=>qQ7 rfl h
 | [x],[y],_,_,_,_,h=>by let h:x=y:=h;rw[h]
 | [x],y::y2::qs,_,_,hp,_,h=>by let h:x=y++c::Br c (y2::qs):=h;exact qQ7 ([h]▸bD _ aJ) (hp x aJ)
 |x::x2::ps,[y],_,_,_,hq,h=>by let h:x++c::Br c (x2::ps)=y:=h;exact qQ7 ([<-h]▸bD _ aJ) (hq y aJ)
 |x::x2::ps,y::y2::qs,_,_,hp,hq,h=>by let#[h1,h2]:=Es (hp x aJ) (hq y aJ) h;let:=Bs (by simp) (by simp) (λp z=>hp p (aM _ z)) (λp z=>hq p (aM _ z)) h2;rw[h1,this]
theorem add_list(x y:Str):(x++y).cps.toList=x.cps.toList++y.cps.toList:=by show(x.cps++y.cps).toList=_;simp
theorem str_inj{y: Str}(h:x.cps.toList=y.cps.toList):x=y:=Str.ext' (Array.toList_inj.mp h)
theorem join_list(c:Nat):∀ps:!Str,(bM (one c) ps).cps.toList=Br c (ps.map λp=>p.cps.toList)
 | []=>rfl
 | [x]=>rfl
 |x::y::r=>by show(x++one c++bM (one c) (y::r)).cps.toList=_;rw[add_list,add_list,join_list c (y::r)];show x.cps.toList ++ [c]++_=x.cps.toList++c::_;simp
theorem vn(x y:Str):cv x y≠[]:=by
 intro h;unfold cv at h;split at h
 .cases h
 .split at h
  .cases h
  .let:=qQ6 dU h;rw[xS]at this;simp at this
theorem nO{ps:!Str}(h:ps≠[])(hf:∀p∈ps,c∉p.cps.toList):cv (bM (one c) ps) (one c)=ps:=by
 let h1:=ny (bM (one c) ps) (one c);let h3:=vn (bM (one c) ps) (one c);generalize hq:cv (bM (one c) ps) _=qs at *;let h2:∀p∈qs,c∉p.cps.toList:=[<-hq]▸ua (bM (one c) ps) c;let e:=qQ6 (λs:Str=>s.cps.toList) h1;simp only[join_list]at e;let:=Bs ↑h3 ↑h
  (λp hp=>by let#[q,hq,rfl]:=au.mp hp;exact h2 q hq) (λp hp=>by let#[q,hq,rfl]:=au.mp hp;exact hf q hq) e;let inj:∀{l m:!Str},(l.map λp=>p.cps.toList)=(m.map λp=>p.cps.toList)->l=m:=by
  intro l;induction l with
  |nil=>intro m hm;cases m with|nil=>rfl|cons _ _=>cases hm
  |cons x l ih=>
   intro m hm;cases m with
   |nil=>cases hm
   |cons y m=>let#[a1,a2]:=iK hm;rw[str_inj a1,ih a2]
 exact inj this
theorem zH(c:Nat):∀{ps qs:!Str},ps≠[]->qs≠[]->bM (one c) (ps++qs)=bM (one c) ps++one c++bM (one c) qs
 | [],_,h,_=>qQ7 rfl h
 | [x],q::qs,_,_=>rfl
 | [x],[],_,h=>qQ7 rfl h
 |x::y::r,qs,_,h=>by show x++one c++bM (one c) ((y::r)++qs)=_;rw[zH c (by simp) h];apply str_inj;show _=(x++one c++bM (one c) (y::r)++one c++bM (one c) qs).cps.toList;simp[add_list,dw]
theorem JZ(c:Nat)(x y:Str):cv (x++one c++y) (one c)=cv x (one c)++cv y (one c):=by
 let e:x++one c++y=bM (one c) (cv x (one c)++cv y (one c)):=by rw[zH c (vn _ _) (vn _ _),ny,ny]
 rw[e];refine nO (by simp[vn]) λp hp=>?_;rcases aV.mp hp with hp|hp
 .exact ua x c p hp
 .exact ua y c p hp
theorem Gr(h:c∉x.cps.toList):cv x (one c)=[x]:=by let:=nO (ps:=[x]) (by simp) (λp hp=>[aF.mp hp]▸h);exact this
theorem lg:(" ":Str)=one 32:=∎
theorem MT:("\n":Str)=one 10:=∎
theorem Bt(x y:Str):wordsOf (x++" "++y)=wordsOf x++wordsOf y:=by unfold wordsOf;rw[lg,JZ,vJ]
theorem qk:wordsOf ""=[]:=by unfold wordsOf;rfl
theorem Bu{w:Str}(h:w≠"")(hb:32∉w.cps.toList):wordsOf w=[w]:=by unfold wordsOf;rw[lg,Gr hb,iy,qQ3 ↑h];rfl
theorem J0(x y z:Str):x++y++z=x++(y++z):=by apply str_inj;simp[add_list,dw]
theorem wC(x:Str):x++""=x:=by apply str_inj;rw[add_list];show x.cps.toList ++ []=_;simp
theorem empty_app(x:Str):""++x=x:=by apply str_inj;rw[add_list];rfl
theorem Et(x:Str)(n:Nat):gb x (n+1)=x++gb x n:=by apply str_inj;rw[add_list];show(x.cps++(gb x n).cps).toList=_;simp
theorem uw(n:Nat)(y:Str):wordsOf (gb " " n++y)=wordsOf y:=by
 induction n with
 |zero=>rw[show gb " " 0="" from rfl,empty_app]
 |succ n ih=>
  let e:gb " " (n+1)++y=""++" "++(gb " " n++y):=by rw[Et,empty_app,J0]
  rw[e,Bt,qk,ih];rfl
theorem Bv(n:Nat)(x y:Str):wordsOf (x++gb " " (n+1)++y)=wordsOf x++wordsOf y:=by
 let e:x++gb " " (n+1)++y=x++" "++(gb " " n++y):=by rw[Et];apply str_inj;simp[add_list,dw]
 rw[e,Bt,uw]
theorem Gs(n:Nat)(x:Str):wordsOf (x++gb " " n)=wordsOf x:=by
 cases n with
 |zero=>rw[show gb " " 0="" from rfl,wC]
 |succ n=>let:=Bv n x "";rw[wC,qk,cn]at this;exact this
theorem zI(n:Nat):∀{ws:!Str},(∀w∈ws,w≠""/\32∉w.cps.toList)->wordsOf (bM (gb " " (n+1)) ws)=ws
 | [],_=>qk
 | [w],h=>Bu (h w aJ).1 (h w aJ).2
 |w::v::ws,h=>by show wordsOf (w++gb " " (n+1)++bM (gb " " (n+1)) (v::ws))=_;rw[Bv,Bu (h w aJ).1 (h w aJ).2,zI n (λu hu=>h u (aM _ hu))];rfl
theorem Eu(a n b:Nat){ws:!Str}(h:∀w∈ws,w≠""/\32∉w.cps.toList):wordsOf (gb " " a++bM (gb " " (n+1)) ws++gb " " b)=ws:=by rw[Gs,uw,zI n h]
theorem Ew(n:Nat):wordsOf (gb " " n)=[]:=by let:=uw n "";rw[wC,qk]at this;exact this
theorem J1{rows:!Str}(h0:rows≠[])(h:∀r∈rows,10∉r.cps.toList):rowsOf (bM "\n" rows)=rows.zipIdx.filterMap λp=>if(wordsOf p.1).isEmpty then none else some (p.2,wordsOf p.1):=by unfold rowsOf;rw[MT,nO h0 h]
def cX(n:Int):Str:=xQ (toString n)
theorem CN{m:Nat}(h:¬m<10):hV 10 m=hV 10 (m/10) ++ [Nat.digitChar (m%10)]:=by let hm:m%10<10:=Nat.mod_lt m ⋯;let t:hV 10 (m/10)++hV 10 (m%10)=hV 10 _:=Nat.toDigits_append_toDigits ⋯ ∅ hm;rw[Nat.div_add_mod]at t;rw[<-t,kQ hm]
theorem IE:∀(k m:Nat),1<=k->m<10^k->(hV 10 m).length<=k
 |0,_,h,_=>∅
 |k+1,m,_,h=>by
  by_cases hm:m<10
  .rw[kQ hm];simp
  .rw[CN hm,aX];let hk:1<=k:=by
    rcases vP k with rfl|hk
    .exact qQ7 h ↑hm
    .exact hk
   let:=IE k (m/10) hk (by rw[Nat.div_lt_iff_lt_mul ⋯];rw[Nat.pow_succ]at h;exact h);simp;omega
theorem Qc(m:Nat):1<=(hV 10 m).length:=by
 by_cases hm:m<10
 .rw[kQ hm];simp
 .rw[CN hm,aX];simp
theorem MV(m:Nat)(h:0<m):∃c,(hV 10 m).head?>>c/\c≠'0':=by
 induction m using Nat.strongRecOn with
 |_ m ih=>
  by_cases hm:m<10
  .rw[kQ hm];refine#[_,rfl,?_];let:∀d:Nat,d<10->0<d->Nat.digitChar d≠'0':=⋯;exact this m hm h
  .let#[c,h1,h2]:=ih (m/10) ∅ ∅;refine#[c,?_,h2];rw[CN hm,List.head?_append,h1];rfl
theorem wD(h0:0<=n):(cX n).cps.toList=(hV 10 n.toNat).map Char.toNat:=by let#[m,rfl]:=qU h0;exact PySem.W.KIN.signs_num m
theorem lj(h0:0<=n)(hc:c∈(cX n).cps.toList):48<=c/\c<=57:=by rw[wD h0]at hc;let#[ch,Ku,e]:=au.mp hc;let r:=digit_range (Nat.isDigit_of_mem_toDigits ⋯ ⋯ Ku);rwa[<-e]
theorem vo(h0:0<=n)(h1:n<1000000):1<=(cX n).length/\(cX n).length<=6:=by
 let e:(cX n).length=(hV 10 n.toNat).length:=by show(cX n).cps.size=_;rw[<-ck,wD h0,ae]
 rw[e];exact#[Qc _,IE 6 _ ⋯ ∅]
theorem Ey:("0123456789":Str).cps.toList=(cj 10).map (48 + ·):=∎
theorem mj(h0:0<=n)(h1:n<1000000):xx (cX n):=by refine#[by let:=vo h0 h1;omega,(iV _).mpr λc hc=>?_];let:=lj h0 hc;omega
theorem zJ(h0:0<=n)(h1:n<1000000):isNumber (cX n)=true:=by
 let#[l1,l2]:=vo h0 h1;let em:qg "0123456789" 6 (cX n)=true:=by unfold qg;rw[qQ1 ∅,qQ1 ∅,pL,pL,cO];intro c hc;let hd:=lj h0 hc;let:DZ (one c) "0123456789"=decide (c∈("0123456789":Str).cps.toList):=uU ..;rw[this,Ey];exact qQ1 (au.mpr #[c-48,fN.mpr ∅,∅])
 unfold isNumber;rw[em,pL];by_cases hn:n=0
 .subst hn;rfl
 .let#[c,c1,c2]:=MV n.toNat ∅;let hh:(cX n).cps.toList.head?>>c.toNat:=by rw[wD h0,List.head?_map,c1];rfl
  rw[hh];let:one c.toNat≠"0":=by
   intro z;let z2:(one c.toNat).cps.toList=("0":Str).cps.toList:=by rw[z]
   let z3:[c.toNat]=[48]:=z2;let z4:c.toNat=48:=by simpa using z3
   exact c2 (Char.toNat_inj.mp z4)
  show(_ || not (decide (one c.toNat="0")))=true;rw[qQ0 this];simp
theorem num_reads(h0:0<=n)(h1:n<1000000):intText? (cX n)>>n:=PySem.W.KIN.num_reads h0 ∅
theorem MX(h0:0<=n)(h1:n<1000000):cX n≠""/\32∉(cX n).cps.toList/\10∉(cX n).cps.toList:=by
 refine#[λz=>?_,λz=>?_,λz=>?_]
 .let:=(vo h0 h1).1;rw[z]at this;exact qQ7 this ⋯
 .let:=lj h0 z;omega
 .let:=lj h0 z;omega
theorem Bw(h:dq x):x≠""/\32∉x.cps.toList/\10∉x.cps.toList:=by
 refine#[λz=>?_,λz=>?_,λz=>?_]
 .let:=h.1;rw[z]at this;exact qQ7 this ⋯
 .let:=h.2.2 _ z;omega
 .let:=h.2.2 _ z;omega
end Mg
namespace Mg
open L2 PySem PyProof.Rows
seal L2.VE L2.VS L2.y6 L2.VT L2.VO L2.O8
variable{fd:eE}
def cV(i:Int):Prop:=0<=i/\i<1000000
theorem cV.log{i:Int}(h:cV i):i.natAbs.log2<1920:=by
 let:i.natAbs<2^20:=by let:=h.1;let:=h.2;omega
 let h2:i.natAbs.log2<=20:=by
  rcases vP i.natAbs with e|e
  .rw[e];decide
  .exact xN ((Nat.log2_lt ∅).mpr this)
 omega
def Rt:ai->Prop
 | .none=>True
 | .int i=>cV i
 | .str x=>x=""\/dq x
 |_=>False
def eK:ai->Str
 | .str x=>if x="" then "-" else x
 | .int i=>cX i
 |_=>"-"
section
variable{P:bx}{w:b_}{K:aj}{mg:Str->Option aA}{base:cI}{f:ay}{k:Nat}
theorem Yb:cw ["_law_thing"] ["_law_thing"] (bG (top 40)):=by grind
def Rda(ds:!ai)(d:ai):Prop:=∃x,ds=[x]/\Rt x/\d=.str (eK x)
theorem zbX(F:kE K "_law_dash" "_law_dash" (top 40) f fd)(n:Na mg):dZ P w K mg base jL 1 f fd ["_law_thing"] (gI K Rda):=
 ji F Yb (by ext) λ_ _ h=>by
  let#[x,rfl,ho,rfl]:=h;intro gu A outer s H E hr;let l0:Lay 20 (.str ""):=bj ∎;cases x with
  |none=>exact dD (dI (VT.to (gE (k2:=true) (gX jX nM 0. ia (f7 _)) (λz=>by cases z)) rfl) (bA (cg a_))) rfl
  |int i=>exact aN (bR (VT.to (gE (gX jX nM 0. ia (f7 _)) (λ_=>kH hr (eu 20 _) l0 0. a_)) rfl) bC) (bA (cg (ow 0. (cV.log ho) n.str)))
  |str z=>
   let oz:kX z:=by
    rcases ho with rfl|ho
    .show bX _=true;symm
    .exact ho.ok.2
   by_cases hz:z=""
   .refine dD (dI (VT.to (gE (gX jX nM 0. ia (f7 _)) (λ_=>kH hr (bj oz) l0 0. a_)) ?_) (bA (cg (VE.to a_ ?_)))) rfl
    .rw[bS,qQ1 hz];rfl
    .show aO "-"=.str (if z="" then "-" else z);rw[qQ3 hz]
   .refine aN (bR (VT.to (gE (gX jX nM 0. ia (f7 _)) (λ_=>kH hr (bj oz) l0 0. a_)) ?_) bC) ?_
    .rw[bS,qQ0 hz];rfl
    .refine bA (cg (VE.to (Pr 0. n.str) ?_));show aO z=.str (if z="" then "-" else z);rw[qQ2 hz]
  |_=>exact ho.elim
def CP:Rl->Prop
 | .meet=>True
 | .gather m a=>cV m/\cV a
 | .many m=>cV m
 | .rank none=>True
 | .rank (some b)=>cV b
 | .turns s=>s.length<=60/\∀z∈s,cV z
 | .eldest=>True
def cH:Rl->!Str
 | .turns s=>"turns"::s.map cX
 |r=>qW r::(tJ r).map eK
def pE(r:Rl):Str:=bM " " (cH r)
theorem Yc:cw ["_law_rule"] ["_law_rule"] (bG (top 41)):=by grind
def Rrt(ds:!ai)(d:ai):Prop:=∃r,ds=[KD r]/\CP r/\d=.str (pE r)
def zbY:ai->Option ai
 | .int i=>some (.str (cX i))
 |_=>none
theorem MY(l:!Int):(l.map eX).filterMap zbY=(l.map cX).map .str:=by rw[cK,aG];exact filterMap_some λk _=>rfl
def Yd:ai->Option ai:=λd=>some (.str (eK d))
theorem J2(l:!ai):l.filterMap Yd=(l.map eK).map .str:=by rw[aG];exact filterMap_some λk _=>rfl
theorem fy{i:Int}(h:cV i):(cX i).length<=6:=(vo h.1 h.2).2
theorem lq:∀{l:!Str}{b:Nat},(∀x∈l,x.length<=b)->(l.map (·.length)).sum<=l.length*b
 | [],_,_=>by simp
 |x::l,b,h=>by let h1:=h x aJ;let h2:=lq λy hy=>h y (aM _ hy);rw[aq,pN,bH,Nat.add_mul];omega
theorem lr{d:ai}(h:Rt d):(eK d).length<=8:=by
 cases d with
 |none=>decide
 |int i=>exact bZ (fy h) ⋯
 |str x=>
  show(if x="" then("-":Str)else x).length<=8;split
  .decide
  .rename_i hx
   rcases h with h|h
   .exact qQ7 h hx
   .let:=h.2.1;exact this
 |_=>exact h.elim
theorem CQ{r:Rl}(ht:∀s,r≠.turns s)(h:CP r):∀d∈tJ r,Rt d:=by
 intro d hd;cases r with
 |meet=>cases hd
 |eldest=>cases hd
 |gather m a=>
  rcases ax.mp hd with rfl|hd
  .exact h.1
  .rw[aF.mp hd];exact h.2
 |many m=>rw[aF.mp hd];exact h
 |rank b=>rw[aF.mp hd];cases b with|none=>trivial|some b=>exact h
 |turns s=>exact qQ7 rfl (ht s)
theorem zbZ(F:kE K "_law_rule_text" "_law_rule_text" (top 41) f fd)(n:Na mg)(C:bu P w K mg base 1 "_law_dash" ["_law_thing"] (gI K Rda)):dZ P w K mg base jL 2 f fd ["_law_rule"] (gI K Rrt):=
 ji F Yc (by ext) λ_ _ h=>by
  let#[r,rfl,ho,rfl]:=h;intro gu A outer s H E hr;let oR:kX (qW r):=by cases r<;>dsimp only[qW,kX]<;>symm
  let lT:Lay 20 (.str "turns"):=bj ∎;let h0:tF (aO (qW r)::tJ r) 0>>_:=df rfl;by_cases ht:∃sh,r=.turns sh
  .let#[sh,rfl]:=ht;let nc:(["_law_share"]:!Str).Nodup:=∎;refine dD (dI (VT.to (kH hr (bj oR) lT (dQ 0. aL h0) a_) ([bS]▸qQ1 rfl)) (bA (cg (lG a_ (VE.to (VO.ve (nJ (VO.ve (dO (cY a_ c5))) (VO.ve (VO.to (dX (own:=["_law_share"]) (cap:=[]) (tgt:=.one 0) rfl #[rfl,∎,∎,rfl,rfl,by simp] (yZ (dQ 0. aL (df rfl))) (λf s3 H3=>hX 0 nc) rfl
    (small (by rw[ae];let:=ho.1;omega)) (λd hd=>?_)) (MY _))) (small (by simp;let:=ho.1;omega)))) rfl) ?_)))) rfl
   .let#[z,hz,rfl]:=au.mp hd;exact Ci rfl rfl λf s3 H3=>ow 0. (cV.log (ho.2 z hz)) n.str
   .let h1:=lq (l:=cH (.turns sh)) (b:=6) λx hx=>by
     rcases ax.mp hx with rfl|hx
     .decide
     .let#[z,hz,rfl]:=au.mp hx;exact fy (ho.2 z hz)
    let h2:(cH (.turns sh)).length=sh.length+1:=by simp[cH]
    let h3:=ho.1;let h4:(" ":Str).length=1:=⋯;rw[h4];omega
  .let Fo:=λsh z=>ht #[sh,z];let hw:qW r≠"turns":=by
    cases r with
    |turns sh=>exact qQ7 rfl (Fo sh)
    |_=>dsimp only[qW];symm
   let UK:cH r=qW r::(tJ r).map eK:=by
    cases r with
    |turns sh=>exact qQ7 rfl (Fo sh)
    |_=>rfl
   let hl:(tJ r).length<=2:=by cases r<;>simp[tJ]
   let WK:(qW r).length<=8:=by cases r<;>dsimp only[qW]<;>symm
   let hok:=CQ Fo ho;unfold pE;rw[UK];unfold KD;generalize tJ r=ra at *;generalize qW r=pP at *;let nc:(["_law_one"]:!Str).Nodup:=∎;let CF:L2.cutD (aO pP::ra) (some 1) none=ra:=(lO (aO pP::ra) 1).trans rfl;refine aN (bR (VT.to (kH hr (bj oR) lT (dQ 0. aL h0) a_) ([bS]▸qQ0 hw)) bC) ?_;refine bA (cg (lG a_ (VE.to (VO.ve (nJ (VO.ve (dO {dQ 0. aL h0})) (VO.ve (VO.to (dX (own:=["_law_one"]) (cap:=[]) (tgt:=.one 0) rfl #[rfl,∎,∎,rfl,rfl,by simp] (yZ (VE.to (sO 0. (.yes aL) .no ?_) (by rw[CF]))) (λf s3 H3=>hX 0 nc) rfl
    (small ∅) (λd hd=>?_)) (J2 _))) (small (by simp;omega)))) rfl) ?_))
   .intro z;let:=z.1;rw[show(1:Int)=((1:Nat):Int)from rfl,HT.om,bH]at this;omega
   .exact Ci rfl rfl λf s3 H3=>bQ C hr {0.} #[d,rfl,hok d hd,rfl]
   .let h1:=lq (l:=pP::ra.map eK) λx hx=>by
     rcases ax.mp hx with rfl|hx
     .exact WK
     .let#[z,hz,rfl]:=au.mp hx;exact lr (hok z hz)
    let h2:(pP::ra.map eK).length=ra.length+1:=by simp
    let h4:(" ":Str).length=1:=⋯;rw[h4];omega
end
def sU(p:Str×Option Int):Str:="kind "++p.1++" "++eK (og p.2)
def sV(g:Str):Str:="gate "++g
def oE(p:Str×Int):Str:="line "++p.1++" "++cX p.2
def pF(d:Dk):Str:="desk "++d.name++" to "++eK (.str d.to)++" by "++pE d.rule
def mX(d:Dk):Str:=pF d++" from "++bM " " d.places
def qm(p:Str×Str×Int):Str:=bM " " ["time",p.1,p.2.1,cX p.2.2]
def sW(p:Str×Int×Int):Str:=bM " " ["open",p.1,cX p.2.1,cX p.2.2]
def qo(p:Str×Str×Int×Int):Str:=bM " " ["pace",p.1,p.2.1,cX p.2.2.1,cX p.2.2.2]
structure j7(p:Pl):Prop where
 kn:p.kinds.length<=60
 gn:p.gates.length<=60
 ln:p.lines.length<=60
 dn:p.desks.length<=60
 tn:p.times.length<=600
 hn:p.hours.length<=600
 kinds:∀q∈p.kinds,dq q.1/\Rt (og q.2)
 gates:∀g∈p.gates,dq g
 lines:∀q∈p.lines,dq q.1/\cV q.2
 desks:∀d∈p.desks,dq d.name/\(d.to=""\/dq d.to)/\CP d.rule/\d.places.length<=60/\∀x∈d.places,dq x
 times:∀q∈p.times,dq q.1/\dq q.2.1/\cV q.2.2
 hours:∀q∈p.hours,dq q.1/\cV q.2.1/\cV q.2.2
 an:p.paces.length<=60
 paces:∀q∈p.paces,dq q.1/\dq q.2.1/\cV q.2.2.1/\cV q.2.2.2
theorem dq.short{x:Str}(h:dq x):x.length<=8:=by let:=h.2.1;exact this
theorem j8{y:Str}(hy:y.length<=1):∀{l:!Str}{b:Nat},(∀x∈l,x.length<=b)->(bM y l).length<=l.length*(b+1)
 | [],_,_=>by exact aW _
 | [x],b,h=>by let:=h x aJ;show x.length<=1*(b+1);omega
 |x::z::l,b,h=>by let h1:=h x aJ;let h2:=j8 hy λu hu=>h u (aM _ hu);show(x++y++bM y (z::l)).length<=(z::l).length.succ*(b+1);rw[cD,cD,Fs];omega
theorem rZ{r:Rl}(h:CP r):(pE r).length<=700:=by
 let hl:(cH r).length<=61/\∀x∈cH r,x.length<=8:=by
  by_cases ht:∃sh,r=.turns sh
  .let#[sh,rfl]:=ht;refine#[by let:=h.1;simp[cH];omega,λx hx=>?_];rcases ax.mp hx with rfl|hx
   .decide
   .let#[z,hz,rfl]:=au.mp hx;exact bZ (fy (h.2 z hz)) ⋯
  .let Fo:=λsh z=>ht #[sh,z];let hok:=CQ Fo h;let UK:cH r=qW r::(tJ r).map eK:=by
    cases r with
    |turns sh=>exact qQ7 rfl (Fo sh)
    |_=>rfl
   let hl:(tJ r).length<=2:=by cases r<;>simp[tJ]
   rw[UK];refine#[by rw[bH,ae];omega,λx hx=>?_];rcases ax.mp hx with rfl|hx
   .exact (by cases r<;>dsimp only[qW]<;>symm)
   .let#[z,hz,rfl]:=au.mp hx;exact lr (hok z hz)
 let:=j8 (y:=" ") ⋯ hl.2;unfold pE;omega
def Fkr:ai->Option ai
 | .tuple [.str a,k]=>some (.str ("kind "++a++" "++eK k))
 |_=>none
def Fgr:ai->Option ai
 | .str a=>some (.str (sV a))
 |_=>none
def Flr:ai->Option ai
 | .tuple [.str a,.int i]=>some (.str (oE (a,i)))
 |_=>none
def Ftr:ai->Option ai
 | .tuple [.str a,.str b,.int i]=>some (.str (qm (a,b,i)))
 |_=>none
def Fhr:ai->Option ai
 | .tuple [.str a,.int i,.int j]=>some (.str (sW (a,i,j)))
 |_=>none
theorem Qd(l:!(Str×Option Int)):(l.map rW).filterMap Fkr=(l.map sU).map .str:=by rw[cK,aG];exact filterMap_some λk _=>rfl
theorem Qe(l:!Str):(l.map aO).filterMap Fgr=(l.map sV).map .str:=by rw[cK,aG];exact filterMap_some λk _=>rfl
theorem Qf(l:!(Str×Int)):(l.map zD).filterMap Flr=(l.map oE).map .str:=by rw[cK,aG];exact filterMap_some λk _=>rfl
theorem Qg(l:!(Str×Str×Int)):(l.map tT).filterMap Ftr=(l.map qm).map .str:=by rw[cK,aG];exact filterMap_some λk _=>rfl
theorem Qh(l:!(Str×Int×Int)):(l.map oB).filterMap Fhr=(l.map sW).map .str:=by rw[cK,aG];exact filterMap_some λk _=>rfl
def r9(p:Pl):!Str:=p.kinds.map sU++p.gates.map sV++p.lines.map oE
def qO(p:Pl):!Str:=r9 p++p.desks.map mX++p.times.map qm++p.hours.map sW
def iR(p:Pl):!Str:=qO p++p.paces.map qo
def CT(p:Pl):Str:=bM "\n" (iR p)
section
variable{P:bx}{w:b_}{K:aj}{mg:Str->Option aA}{base:cI}{f:ay}{k:Nat}
abbrev Npt:!Str:=["_law_h","_law_rows","_law_name","_law_to","_law_rule","_law_places","_law_row","_law_gate","_law_kind","_law_burst","_law_gap"]
theorem Ru:cw Npt ["_law_h"] (bG (top 42)):=by grind
def Rpt(ds:!ai)(d:ai):Prop:=∃p,ds=[g0 p]/\j7 p/\d=.str (CT p)
theorem zb0(F:kE K "_law_plant_text" "_law_plant_text" (top 42) f fd)(n:Na mg)(C1:bu P w K mg base 1 "_law_dash" ["_law_thing"] (gI K Rda))(C2:bu P w K mg base 2 "_law_rule_text" ["_law_rule"] (gI K Rrt)):dZ P w K mg base jL 3 f fd ["_law_h"] (gI K Rpt):=
 ji F Ru (by ext) λ_ _ h=>by
  let#[p,rfl,ok,rfl]:=h;intro gu A outer s H E hr;let nd:Npt.Nodup:=Ru.nd;let pQ:ei 1 _:=hr.mono ∅;let b1:=ok.kn;let b2:=ok.gn;let b3:=ok.ln;let b4:=ok.dn;let b5:=ok.tn;let b6:=ok.hn;let nk:(["_law_name","_law_keep"]:!Str).Nodup:=∎;refine aN (Cj 1 (own:=["_law_name","_law_keep"]) (cap:=[]) (N:=["_law_name","_law_keep"]) (cl:=[]) (tgt:=.tup [0,1]) (F:=Fkr) (ds:=p.kinds.map rW) rfl #[rfl,∎,∎,rfl,rfl,by simp] (fj (eV pQ 0. a_ (vm p))) (λf s3 H3=>gU rfl (bY (hX 0 nk) (bY (hX 1 nk) fA))) rfl (small (by rw[ae];omega)) (λd hd=>?_) nd) ?_
  .let#[q,hq,rfl]:=au.mp hd;let#[h1,h2]:=ok.kinds q hq;refine#[_,rfl,λf s3 H3=>mO,λr qN f s3 H3=>?_];cases qN;let s1:=h1.short;let s2:=lr h2;let e1:("kind ":Str).length=5:=⋯;let e2:(" ":Str).length=1:=⋯;exact eN (eN (eN a_ 0. (small ∅)) a_ (small (by simp only[cD];omega))) (bQ C1 pQ {1.} #[_,rfl,h2,rfl]) (small (by simp only[cD];omega))
  rw[Qd];refine iE 1 rfl ?_;let n1:(["_law_name"]:!Str).Nodup:=∎;refine aN (mP 1 (ds:=(p.kinds.map sU++p.gates.map sV).map .str) (VO.to (nJ (d2:=(p.gates.map sV).map .str) 1. (VO.ve (VO.to (dX (own:=["_law_name"]) (cap:=[]) (N:=["_law_name"]) (cl:=[]) (tgt:=.one 0) (F:=Fgr) (ds:=p.gates.map .str) rfl #[rfl,∎,∎,rfl,rfl,by simp] (fj (eV pQ 0. a_ (zF p))) (λf s3 H3=>hX 0 n1) rfl (small (by rw[ae];omega)) (λd hd=>?_)) (Qe _))) (small (by simp only[ae];omega))) (by rw[aQ])) nd) ?_
  .let#[q,hq,rfl]:=au.mp hd;let s1:=(ok.gates q hq).short;let e1:("gate ":Str).length=5:=⋯;exact Ci rfl rfl λf s3 H3=>eN a_ 0. (small ∅)
  refine iE 1 rfl ?_;let n2:(["_law_name","_law_room"]:!Str).Nodup:=∎;refine aN (mP 1 (ds:=(r9 p).map .str) (VO.to (nJ (d2:=(p.lines.map oE).map .str) 1. (VO.ve (VO.to (dX (own:=["_law_name","_law_room"]) (cap:=[]) (N:=["_law_name","_law_room"]) (cl:=[]) (tgt:=.tup [0,1]) (F:=Flr) (ds:=p.lines.map zD) rfl #[rfl,∎,∎,rfl,rfl,by simp] (fj (eV pQ 0. a_ (Eo p))) (λf s3 H3=>gU rfl (bY (hX 0 n2) (bY (hX 1 n2) fA))) rfl (small (by rw[ae];omega)) (λd hd=>?_)) (Qf _))) (small (by simp only[ae,aX];omega))) (by unfold r9;rw[aQ (l₂:=qH oE _)])) nd) ?_
  .let#[#[qa,qi],hq,rfl]:=au.mp hd;obtain⟨h1,h2⟩:dq qa/\cV qi:=ok.lines (qa,qi) hq;let s1:=h1.short;let s2:=fy h2;let e1:("line ":Str).length=5:=⋯;let e2:(" ":Str).length=1:=⋯;exact Ci rfl rfl λf s3 H3=>VE.to (eN (x:="line "++qa++" ") (y:=cX qi) (eN (x:="line "++qa) (eN (y:=qa) a_ 0. (small ∅)) a_ (small (by simp only[cD];omega))) (ow 1. (cV.log h2) n.str) (small (by simp only[cD];omega))) rfl
  let r1:(r9 p).length=p.kinds.length+p.gates.length+p.lines.length:=by unfold r9;simp only[aX,ae]
  refine aN (rP (tgt:=.tup [2,3,4,5]) (o:=.nx [.val (g0 p),.own ((r9 p++(p.desks.take p.desks.length).map mX).map .str),.un,.un,.un,.un,.un,.un,.un,.un,.un]) cA rfl (fj (eV pQ 0. a_ (rY p)))
   (gU rfl (bY (hX 2 nd) (bY (hX 3 nd) (bY (hX 4 nd) (bY (hX 5 nd) fA))))) (λi=>[.val (g0 p),.own ((r9 p++(p.desks.take i).map mX).map .str),.un,.un,.un,.un,.un,.un,.un,.un,.un]) p.desks.length (by show([.val (g0 p),.own ((r9 p++(p.desks.take 0).map mX).map .str),.un,.un,.un,.un,.un,.un,.un,.un,.un]:!Slot)=_;rw[AW,d_,cn];rfl) ([ae]▸aE _) (λi d hi hd=>?_) (.inl #[by rw[ae],rfl])) ?_
  .obtain⟨dk,UL,rfl⟩:∃dk,p.desks[i]?>>dk/\d=gO dk:=by rw[aH,aD ∅]at hd;cases hd;exact#[_,aD ∅,rfl]
   let#[h1,h2,h3,h4,h5]:=ok.desks dk (aP UL);let ZY:Rt (.str dk.to):=h2;let s1:=h1.short;let s2:=lr ZY;let s3:=rZ h3;let s4:=j8 (y:=" ") ⋯ (l:=dk.places) (b:=8) λx hx=>(h5 x hx).short;let s5:dk.places.length*(8+1)<=60*9:=gF h4 (aE _);let s6:=lq (l:=dk.places) (b:=8) λx hx=>(h5 x hx).short;let e1:("desk ":Str).length=5:=⋯;let e2:(" to ":Str).length=4:=⋯;let e3:(" by ":Str).length=4:=⋯;let e4:(" from ":Str).length=6:=⋯;let e5:(" ":Str).length=1:=⋯;let eh:(pF dk).length<=800:=by unfold pF;simp only[cD];omega
   refine#[_,rfl,?_];refine aN (dY 6 (d:=.str (pF dk)) (eN (eN (eN (eN (eN a_ 2. (small ∅)) a_ (small (by simp only[cD];omega))) (bQ C1 pQ {3.} #[_,rfl,ZY,rfl]) (small (by simp only[cD];omega))) a_ (small (by simp only[cD];omega))) (bQ C2 hr {4.} #[_,rfl,h3,rfl]) (small (by simp only[cD];omega))) nd) ?_;refine jA (bA (kj 1 rfl (d:=.str (mX dk)) (eN (eN 6. a_ (small ∅)) (lG (zs:=dk.places) a_ (VO.ve (pq pY Pt {5.} n.lst rfl)) (by rw[e5];omega)) (small (by simp only[cD];omega))) (fh (by simp only[ae,aX,cN];omega)))) #[.inr rfl,.inr ?_,.inl rfl,.inl rfl,.inl rfl,.inl rfl,.inl rfl,.inr rfl,.inr rfl,.inr rfl,.inr rfl,trivial];rw[cB,UL];simp only[uN,aQ,aq,d_,dw]
  rw[du];refine iE 1 rfl ?_;let n3:(["_law_desk","_law_kind","_law_work"]:!Str).Nodup:=∎;refine aN (mP 1 (ds:=(r9 p++p.desks.map mX++p.times.map qm).map .str) (VO.to (nJ (d2:=(p.times.map qm).map .str) 1. (VO.ve (VO.to (dX (own:=["_law_desk","_law_kind","_law_work"]) (cap:=[]) (N:=["_law_desk","_law_kind","_law_work"]) (cl:=[]) (tgt:=.tup [0,1,2]) (F:=Ftr) (ds:=p.times.map tT) rfl #[rfl,∎,∎,rfl,rfl,by simp] (fj (eV pQ 0. a_ (Ep p))) (λf s3 H3=>gU rfl (bY (hX 0 n3) (bY (hX 1 n3) (bY (hX 2 n3) fA)))) rfl (small (by rw[ae];omega)) (λd hd=>?_)) (Qg _))) (small (by simp only[ae,aX];omega))) (by rw[aQ (l₂:=qH qm _)])) nd) ?_
  .let#[#[qa,qb,qi],hq,rfl]:=au.mp hd;obtain⟨h1,h2,h3⟩:dq qa/\dq qb/\cV qi:=ok.times (qa,qb,qi) hq;let s1:=h1.short;let s2:=h2.short;let s3:=fy h3;let e1:("time":Str).length=4:=⋯;let e2:(" ":Str).length=1:=⋯;exact Ci rfl rfl λf s3 H3=>lG (zs:=["time",qa,qb,cX qi]) a_ (VO.ve (dO {a_,0.,1.,ow 2. (cV.log h3) n.str} (small (by show 4<=_;decide)))) (by rw[e2];simp only[aq,d_,pN,Fg,bH,cR];omega)
  refine iE 1 rfl ?_;let n4:(["_law_desk","_law_begin","_law_end"]:!Str).Nodup:=∎;refine aN (mP 1 (ds:=(qO p).map .str) (VO.to (nJ (d2:=(p.hours.map sW).map .str) 1. (VO.ve (VO.to (dX (own:=["_law_desk","_law_begin","_law_end"]) (cap:=[]) (N:=["_law_desk","_law_begin","_law_end"]) (cl:=[]) (tgt:=.tup [0,1,2]) (F:=Fhr) (ds:=p.hours.map oB) rfl #[rfl,∎,∎,rfl,rfl,by simp] (fj (eV pQ 0. a_ (zG p))) (λf s3 H3=>gU rfl (bY (hX 0 n4) (bY (hX 1 n4) (bY (hX 2 n4) fA)))) rfl (small (by rw[ae];omega)) (λd hd=>?_)) (Qh _))) (small (by simp only[ae,aX];omega))) (by unfold qO;rw[aQ (l₂:=qH sW _)])) nd) ?_
  .let#[#[qa,qb,qi],hq,rfl]:=au.mp hd;obtain⟨h1,h2,h3⟩:dq qa/\cV qb/\cV qi:=ok.hours (qa,qb,qi) hq;let s1:=h1.short;let s2:=fy h2;let s3:=fy h3;let e1:("open":Str).length=4:=⋯;let e2:(" ":Str).length=1:=⋯;exact Ci rfl rfl λf s3 H3=>lG (zs:=["open",qa,cX qb,cX qi]) a_ (VO.ve (dO {a_,0.,ow 1. (cV.log h2) n.str,ow 2. (cV.log h3) n.str} (small (by show 4<=_;decide)))) (by rw[e2];simp only[aq,d_,pN,Fg,bH,cR];omega)
  refine aN (rP (tgt:=.tup [7,8,9,10]) (o:=.nx [.val (g0 p),.own ((qO p++(p.paces.take p.paces.length).map qo).map .str),.un,.un,.un,.un,.un,.un,.un,.un,.un]) cA rfl (fj (eV pQ 0. a_ (MS p)))
   (gU rfl (bY (hX 7 nd) (bY (hX 8 nd) (bY (hX 9 nd) (bY (hX 10 nd) fA))))) (λi=>[.val (g0 p),.own ((qO p++(p.paces.take i).map qo).map .str),.un,.un,.un,.un,.un,.un,.un,.un,.un]) p.paces.length (by show([.val (g0 p),.own ((qO p++(p.paces.take 0).map qo).map .str),.un,.un,.un,.un,.un,.un,.un,.un,.un]:!Slot)=_;rw[AW,d_,cn];rfl) ([ae]▸aE _) (λi d hi hd=>?_) (.inl #[by rw[ae],rfl])) ?_
  .obtain⟨⟨qa,qb,qi,qj⟩,UL,rfl⟩:∃dk,p.paces[i]?>>dk/\d=rX dk:=by rw[aH,aD ∅]at hd;cases hd;exact#[_,aD ∅,rfl]
   obtain⟨h1,h2,h3,h4⟩:dq qa/\dq qb/\cV qi/\cV qj:=ok.paces (qa,qb,qi,qj) (aP UL);let s1:=h1.short;let s2:=h2.short;let s3:=fy h3;let s4:=fy h4;let e1:("pace":Str).length=4:=⋯;let e2:(" ":Str).length=1:=⋯;let b7:=ok.an;let r6:(qO p).length<=1440:=by unfold qO;simp only[aX,ae];omega
   refine#[_,rfl,?_];refine jA (bA (kj 1 rfl (d:=.str (qo (qa,qb,qi,qj))) (lG (zs:=["pace",qa,qb,cX qi,cX qj]) a_ (VO.ve (dO {a_,7.,8.,ow 9. (cV.log h3) n.str,ow 10. (cV.log h4) n.str} (small (by show 5<=_;decide)))) (by rw[e2];simp only[aq,d_,pN,Fg,bH,cR];omega)) (fh (by simp only[ae,aX,cN];omega)))) #[.inr rfl,.inr ?_,.inr rfl,.inr rfl,.inr rfl,.inr rfl,.inr rfl,.inl rfl,.inl rfl,.inl rfl,.inl rfl,trivial];rw[cB,UL];simp only[uN,aQ,aq,d_,dw]
  rw[du];rw[show qO p++p.paces.map qo=iR p from rfl];refine iE 1 rfl ?_;refine bA (cg (lG (zs:=iR p) a_ 1. ?_));let e5:("\n":Str).length=1:=⋯;let e2:(" ":Str).length=1:=⋯;let b7:=ok.an;let hl:(iR p).length<=1500:=by unfold iR qO;simp only[aX,ae];omega
  let hs:=lq (l:=iR p) (b:=2000) λx hx=>by
   unfold iR qO r9 at hx;simp only[aV,au]at hx;rcases hx with(((((⟨q,hq,rfl⟩|⟨q,hq,rfl⟩)|⟨q,hq,rfl⟩)|⟨dk,hq,rfl⟩)|⟨q,hq,rfl⟩)|⟨q,hq,rfl⟩)|⟨q,hq,rfl⟩
   .let#[h1,h2]:=ok.kinds q hq;let s1:=h1.short;let s2:=lr h2;let e1:("kind ":Str).length=5:=⋯;unfold sU;simp only[cD];omega
   .let s1:=(ok.gates q hq).short;let e1:("gate ":Str).length=5:=⋯;unfold sV;simp only[cD];omega
   .let#[h1,h2]:=ok.lines q hq;let s1:=h1.short;let s2:=fy h2;let e1:("line ":Str).length=5:=⋯;unfold oE;simp only[cD];omega
   .let#[h1,h2,h3,h4,h5]:=ok.desks dk hq;let ZY:Rt (.str dk.to):=h2;let s1:=h1.short;let s2:=lr ZY;let s3:=rZ h3;let s4:=j8 (y:=" ") ⋯ (l:=dk.places) (b:=8) λx hx=>(h5 x hx).short;let s5:dk.places.length*(8+1)<=60*9:=gF h4 (aE _);let e1:("desk ":Str).length=5:=⋯;let e2:(" to ":Str).length=4:=⋯;let e3:(" by ":Str).length=4:=⋯;let e4:(" from ":Str).length=6:=⋯;unfold mX pF;simp only[cD];omega
   .let#[h1,h2,h3]:=ok.times q hq;let s1:=h1.short;let s2:=h2.short;let s3:=fy h3;let:=j8 (y:=" ") ⋯ (l:=["time",q.1,q.2.1,cX q.2.2]) (b:=8) λx hx=>by
     simp only[ax,a9,or_false]at hx;rcases hx with rfl|rfl|rfl|rfl
     .decide
     .exact s1
     .exact s2
     .omega
    unfold qm;exact bZ this (by simp only[bH,cR];omega)
   .let#[h1,h2,h3]:=ok.hours q hq;let s1:=h1.short;let s2:=fy h2;let s3:=fy h3;let:=j8 (y:=" ") ⋯ (l:=["open",q.1,cX q.2.1,cX q.2.2]) (b:=8) λx hx=>by
     simp only[ax,a9,or_false]at hx;rcases hx with rfl|rfl|rfl|rfl
     .decide
     .exact s1
     .omega
     .omega
    unfold sW;exact bZ this (by simp only[bH,cR];omega)
   .let#[h1,h2,h3,h4]:=ok.paces q hq;let s1:=h1.short;let s2:=h2.short;let s3:=fy h3;let s4:=fy h4;let:=j8 (y:=" ") ⋯ (l:=["pace",q.1,q.2.1,cX q.2.2.1,cX q.2.2.2]) (b:=8) λx hx=>by
     simp only[ax,a9,or_false]at hx;rcases hx with rfl|rfl|rfl|rfl|rfl
     .decide
     .exact s1
     .exact s2
     .omega
     .omega
    unfold qo;exact bZ this (by simp only[bH,cR];omega)
  let hb:(iR p).length*2000<=1500*2000:=gF hl (aE _);rw[e5];omega
end
end Mg
namespace Mg
open L2 PySem PyProof.Rows
def Ye(x:Str):Prop:=x≠""/\32∉x.cps.toList/\10∉x.cps.toList
end Mg
namespace Mg
open L2 PySem PyProof.Rows
seal L2.VE L2.VS L2.y6 L2.VT L2.VO L2.O8
variable{p:ay}{fd:eE}{H:Hp}{n:Int}{l:!Str}{d:ai}{K:aj}{r:Rl}{x:Str}
inductive Sh where
 |name|number|count|share|ml|lQ|mY
def Sh.tx:Sh->Str
 | .name=>"name"
 | .number=>"number"
 | .count=>"count"
 | .share=>"share"
 | .ml=>"count or -"
 | .lQ=>"name or -"
 | .mY=>"number or -"
def iW(x:Str):Bool:=isNumber x && not (decide (x="0"))
def lR:Sh->Str->Bool
 | .name,x=>isName x
 | .number,x=>isNumber x
 | .count,x=>iW x
 | .share,x=>iW x&&decide ((x.length:Int)=1)
 | .ml,x=>decide (x="-")||iW x
 | .lQ,x=>decide (x="-")||isName x
 | .mY,x=>decide (x="-")||isNumber x
def CV(x:Str):Int:=(intText? x).getD 0
def gJ:Sh->Str->ai
 | .name,x=>.str x
 | .lQ,x=>.str (if x="-" then "" else x)
 |_,x=>if x="-" then .none else .int (CV x)
def Sh.base:Sh->Bool
 | .name=>true
 | .number=>true
 | .count=>true
 |_=>false
theorem Sh.ok(s:Sh):kX s.tx:=by cases s<;>(show bX _=true)<;>symm
theorem zK(h:isNumber x=true):1<=x.length/\x.length<=6/\∀c∈x.cps.toList,48<=c/\c<=57:=by let h:=(hU.mp h).1;let#[h1,h2]:=hU.mp h;let#[h3,h4]:=hU.mp h1;let h3:=qQ4 h3;let h4:=qQ4 h4;refine#[∅,∅,λc hc=>?_];let:=cO.mp h2 c hc;let e:DZ (one c) "0123456789"=decide (c∈("0123456789":Str).cps.toList):=uU ..;rw[e,Ey]at this;let#[i,hi,rfl]:=au.mp (qQ4 this);let:=fN.mp hi;omega
theorem AK(h:isNumber x=true):intText? x>>(CV x):=by let#[h1,h2,h3]:=zK h;let hd:=λc hc=>h3 c hc;let hl:x.cps.toList.length=x.length:=ck;let e:=intText_digits hd (λz=>by rw[z]at hl;simp only[cR]at hl;omega) ∅;unfold CV;rw[e];rfl
theorem Ez(h:cV n):CV (cX n)=n:=by unfold CV;rw[num_reads h.1 h.2];rfl
theorem qp(h:iW x=true):isNumber x=true:=(hU.mp h).1
theorem xC{s:Sh}(h:lR s x=true)(h1:s≠.name)(h2:s≠.lQ)(hx:x≠"-"):isNumber x=true:=by
 cases s with
 |name=>exact qQ7 rfl h1
 |lQ=>exact qQ7 rfl h2
 |number=>exact h
 |count=>exact qp h
 |share=>exact qp (hU.mp h).1
 |ml=>
  rcases Bool.or_eq_true_iff.mp h with h|h
  .exact qQ7 (qQ4 h) hx
  .exact qp h
 |mY=>
  rcases Bool.or_eq_true_iff.mp h with h|h
  .exact qQ7 (qQ4 h) hx
  .exact h
section
variable{P:bx}{w:b_}{K:aj}{mg:Str->Option aA}{base:cI}{f:ay}{k:Nat}
abbrev KG:!Str:=["shape","word"]
theorem Rv:cw KG KG (bG (top 21)):=by grind
def VL(b:Bool)(ds:!ai)(d:ai):Prop:=∃(s:Sh)(x:Str),ds=[.str s.tx,.str x]/\xx x/\(b=true\/s.base=true)/\d=.bool (lR s x)
theorem dC(h:bX (.str x)=true:=by symm):Lay 20 (.str x):=bj h
theorem gv{X:L2.Cx}{k:Nat}{z y: Str}{δ:!L2.Slot}{b:Bool}{p0 q pos:Pos}{j}(hr:L2.ei k X.A)(hl:Lay 20 (.str z))(i:Nat)(h:δ[i]?>>(.val (.str z)))(e:c9 (.str z) (.str y)=b)(hN:tE X i x:=by ac_rfl)(hy:bX (.str y)=true:=by symm):VT X (.Compare (.Name x p0) [.Eq] [.Constant (.str y) j q] pos) δ b:=VT.to (kH hr hl (dC hy) (oO i h hN) a_) e
theorem Yf{fb:Bool}(n:Na mg)(C1:bu P w K mg base 2 "is_name" ["word"] (gI K X6))(C2:bu P w K mg base 2 "is_number" ["word"] (gI K ZW))(k2:2<=k)(C3:fb=true->bu P w K mg base k "fits" KG (gI K (VL false))){ds:!ai}(h:VL fb ds d):rQ P w K mg base KG "fits" (top 21) f k ds (.rt d):=by
 let#[s,x,rfl,ox,hb,rfl]:=h;intro gu A outer sh H E hr;let Dw:ei 2 _:=hr.mono k2;let ls:=bj (n:=20) s.ok;let lx:=bj (n:=20) ox.2;cases s with
 |name=>exact dD (dI (gv hr ls 0 rfl ([bS]▸qQ1 rfl)) (bA (cg (bQ C1 Dw {1.} #[x,rfl,ox.1,rfl])))) rfl
 |number=>exact aN (bR (gv hr ls 0 rfl (by rw[bS];symm)) bC) (dD (dI (gv hr ls 0 rfl ([bS]▸qQ1 rfl)) (bA (cg (bQ C2 Dw {1.} #[x,rfl,ox,rfl])))) rfl)
 |count=>refine aN (bR (gv hr ls 0 rfl (by rw[bS];symm)) bC) ?_;exact aN (bR (gv hr ls 0 rfl (by rw[bS];symm)) bC) (dD (dI (gv hr ls 0 rfl ([bS]▸qQ1 rfl)) (bA (cg (VE.to (jC (bQ C2 Dw {1.} #[x,rfl,ox,rfl]) (λ_=>gY (HV hr lx dC 1. a_))) (by rw[bS];rfl))))) rfl)
 |share=>let C3:=C3 (hb.resolve_right ⋯);refine aN (bR (gv hr ls 0 rfl (by rw[bS];symm)) bC) ?_;refine aN (bR (gv hr ls 0 rfl (by rw[bS];symm)) bC) ?_;exact aN (bR (gv hr ls 0 rfl (by rw[bS];symm)) bC) (dD (dI (gv hr ls 0 rfl ([bS]▸qQ1 rfl)) (bA (cg (VE.to (jC (bQ C3 hr {a_,1.} #[.count,x,rfl,ox,.inr rfl,rfl]) (λ_=>gY (nH hr (eu 20 _) (eu 20 _) (HZ 1. (small (by let:=ox.1;omega)) n.len) aL))) (by rw[oA];rfl))))) rfl)
 |ml=>
  let C3:=C3 (hb.resolve_right ⋯);refine aN (bR (gv hr ls 0 rfl (by rw[bS];symm)) bC) ?_;refine aN (bR (gv hr ls 0 rfl (by rw[bS];symm)) bC) ?_;refine aN (bR (gv hr ls 0 rfl (by rw[bS];symm)) bC) ?_;refine aN (bR (gv hr ls 0 rfl (by rw[bS];symm)) bC) ?_;let yk:(cv (Sh.ml.tx) " ").map aO=[.str "count",.str "or",.str "-"]:=by rw[show cv _ " "=[("count":Str),"or","-"]from by symm];rfl
  exact bA (cg (VE.to (tR (nH hr lx dC 1. a_) (λ_=>gY (bQ C3 hr {eJ (VE.to (VO.ve (jm 0. a_ rfl (small ⋯))) (by rw[yk])) aL (df rfl),1.} #[.count,x,rfl,ox,.inr rfl,rfl]))) (by rw[bS];rfl)))
 |lQ=>
  let C3:=C3 (hb.resolve_right ⋯);refine aN (bR (gv hr ls 0 rfl (by rw[bS];symm)) bC) ?_;refine aN (bR (gv hr ls 0 rfl (by rw[bS];symm)) bC) ?_;refine aN (bR (gv hr ls 0 rfl (by rw[bS];symm)) bC) ?_;refine aN (bR (gv hr ls 0 rfl (by rw[bS];symm)) bC) ?_;let yk:(cv (Sh.lQ.tx) " ").map aO=[.str "name",.str "or",.str "-"]:=by rw[show cv (Sh.lQ.tx) " "=[("name":Str),"or","-"]from by symm];rfl
  exact bA (cg (VE.to (tR (nH hr lx dC 1. a_) (λ_=>gY (bQ C3 hr {eJ (VE.to (VO.ve (jm 0. a_ rfl (small ⋯))) (by rw[yk])) aL (df rfl),1.} #[.name,x,rfl,ox,.inr rfl,rfl]))) (by rw[bS];rfl)))
 |mY=>
  let C3:=C3 (hb.resolve_right ⋯);refine aN (bR (gv hr ls 0 rfl (by rw[bS];symm)) bC) ?_;refine aN (bR (gv hr ls 0 rfl (by rw[bS];symm)) bC) ?_;refine aN (bR (gv hr ls 0 rfl (by rw[bS];symm)) bC) ?_;refine aN (bR (gv hr ls 0 rfl (by rw[bS];symm)) bC) ?_;let yk:(cv (Sh.mY.tx) " ").map aO=[.str "number",.str "or",.str "-"]:=by rw[show cv _ " "=[("number":Str),"or","-"]from by symm];rfl
  exact bA (cg (VE.to (tR (nH hr lx dC 1. a_) (λ_=>gY (bQ C3 hr {eJ (VE.to (VO.ve (jm 0. a_ rfl (small ⋯))) (by rw[yk])) aL (df rfl),1.} #[.number,x,rfl,ox,.inr rfl,rfl]))) (by rw[bS];rfl)))
theorem Yg(F:kE K "fits" "fits" (top 21) f fd)(n:Na mg)(C1:bu P w K mg base 2 "is_name" ["word"] (gI K X6))(C2:bu P w K mg base 2 "is_number" ["word"] (gI K ZW)):dZ P w K mg base jL 3 f fd KG (gI K (VL false)):=
 ji F Rv (by ext) λ_ _ h=>Yf n C1 C2 ∅ (λz=>by cases z) h
theorem zb1(F:kE K "fits" "fits" (top 21) f fd)(n:Na mg)(C1:bu P w K mg base 2 "is_name" ["word"] (gI K X6))(C2:bu P w K mg base 2 "is_number" ["word"] (gI K ZW))(C3:bu P w K mg base 3 "fits" KG (gI K (VL false))):dZ P w K mg base jL 4 f fd KG (gI K (VL true)):=
 ji F Rv (by ext) λ_ _ h=>Yf n C1 C2 ⋯ (λ_=>C3) h
theorem Yh:cw KG KG (bG (top 22)):=by grind
def Rvo(ds:!ai)(d:ai):Prop:=∃(s:Sh)(x:Str),ds=[.str s.tx,.str x]/\xx x/\lR s x=true/\d=gJ s x
theorem zb2(F:kE K "value_of" "value_of" (top 22) f fd)(n:Na mg):dZ P w K mg base jL 1 f fd KG (gI K Rvo):=
 ji F Yh (by ext) λ_ _ h=>by
  let#[s,x,rfl,ox,hf,rfl]:=h;intro gu A outer sh H E hr;let ls:=bj (n:=20) s.ok;let lx:=bj (n:=20) ox.2;by_cases h1:s=.name
  .subst h1;exact dD (dI (gv hr ls 0 rfl ([bS]▸qQ1 rfl)) (bA (cg 1.))) rfl
  .let d1:s.tx≠"name":=by cases s<;>first|exact qQ7 rfl h1|(dsimp;symm)
   refine aN (bR (gv hr ls 0 rfl ([bS]▸qQ0 d1)) bC) ?_;by_cases h2:s=.lQ
   .subst h2;refine dD (dI (gv hr ls 0 rfl ([bS]▸qQ1 rfl)) (bA (cg (Cg (gv hr lx 1 rfl (by rw[bS])) (λz=>VE.to a_ ?_) (λz=>VE.to 1. ?_))))) rfl
    .show aO ""=.str (if x="-" then "" else x);rw[qQ3 (qQ4 z)]
    .show aO x=.str (if x="-" then "" else x);rw[qQ2 (qQ5 z)]
   .let d2:s.tx≠"name or -":=by cases s<;>first|exact qQ7 rfl h2|exact qQ7 rfl h1|(dsimp;symm)
    let ev:gJ s x=if x="-" then .none else .int (CV x):=by cases s<;>first|exact qQ7 rfl h1|exact qQ7 rfl h2|rfl
    rw[ev];refine aN (bR (gv hr ls 0 rfl ([bS]▸qQ0 d2)) bC) ?_;refine bA (cg (Cg (gv hr lx 1 rfl (by rw[bS])) (λz=>VE.to ia (by rw[qQ3 (qQ4 z)])) (λz=>VE.to (Pb 1. (AK (xC hf h1 h2 (qQ5 z))) (by let:=(zK (xC hf h1 h2 (qQ5 z))).2.1;omega) n.int) (by rw[qQ2 (qQ5 z)]))))
def MZ(pG:!Sh):ai:=.tuple (pG.map λs=>.str s.tx)
def sf(pG:!Sh)(ws:!Str):Bool:=decide (ws.length=pG.length)&&(pG.zip ws).all λp=>lR p.1 p.2
def qu(pG:!Sh)(ws:!Str):!ai:=(pG.zip ws).map λp=>gJ p.1 p.2
def iX(pG:!Sh)(ws:!Str):ai:=if sf pG ws then .tuple (qu pG ws)else .none
abbrev VM:!Str:=["shapes","words"]
theorem Yi:cw VM VM (bG (top 23)):=by grind
def ZZ(ds:!ai)(d:ai):Prop:=∃(pG:!Sh)(ws:!Str),ds=[MZ pG,kL ws]/\pG.length<=1000/\ws.length<=100002/\(∀x∈ws,xx x)/\d=iX pG ws
def J3(x:Str):Sh:=if x="name" then .name else if x="number" then .number else if x="count" then .count else if x="share" then .share else if x="count or -" then .ml else if x="name or -" then .lQ else .mY
theorem vp(s:Sh):J3 s.tx=s:=by cases s<;>rfl
def UM:ai->Option ai
 | .tuple [.str s,.str x]=>some (.bool (lR (J3 s) x))
 |_=>none
def Yj:ai->Option ai
 | .tuple [.str s,.str x]=>some (gJ (J3 s) x)
 |_=>none
theorem sj:∀(pG:!Sh)(ws:!Str),tG (pG.map λs=>aO s.tx) (ws.map aO)=(pG.zip ws).map λp=>.tuple [.str p.1.tx,.str p.2]
 | [],_=>rfl
 |_::_,[]=>rfl
 |s::pG,x::ws=>by let:=sj pG ws;unfold tG at this ⊢;rw[aq,aq,eM,eM,aq,aq,this]
theorem EA(pG:!Sh)(ws:!Str):(tG (pG.map λs=>aO s.tx) (ws.map aO)).filterMap UM=((pG.zip ws).map λp=>lR p.1 p.2).map .bool:=by rw[sj,cK,aG];exact filterMap_some λp _=>by show some (gR _)=_;rw[vp];rfl
theorem M0(pG:!Sh)(ws:!Str):(tG (pG.map λs=>aO s.tx) (ws.map aO)).filterMap Yj=qu pG ws:=by rw[sj,cK];exact filterMap_some λp _=>by show some _=_;rw[vp]
theorem zb3(F:kE K "values_of" "values_of" (top 23) f fd)(n:Na mg)(mz:mg "zip"=none)(C1:bu P w K mg base 4 "fits" KG (gI K (VL true)))(C2:bu P w K mg base 1 "value_of" KG (gI K Rvo)):dZ P w K mg base jL 5 f fd VM (gI K ZZ):=
 ji F Yi (by ext) λ_ _ h=>by
  let#[pG,ws,rfl,Fk,hw1,hok,rfl]:=h;intro gu A outer sh H E hr;let pQ:ei 1 _:=hr.mono ∅;let nc:(["shape","word"]:!Str).Nodup:=∎;let hzl:(tG (pG.map λs=>aO s.tx) (ws.map aO)).length<=1000:=by rw[sj,ae,ng];omega
  let hlen:∀b,decide (ws.length=pG.length)=b->c9 (.int ((ws.map aO).length:Nat)) (.int ((pG.map λs=>aO s.tx).length:Nat))=b:=λb hb=>by rw[oA,ae,ae,<-hb,f6,decide_eq_true_iff,decide_eq_true_iff];omega
  let FW:∀d∈tG (pG.map λs=>aO s.tx) (ws.map aO),∃s x,d=.tuple [.str (Sh.tx s),.str x]/\(s,x)∈pG.zip ws/\xx x:=λd hd=>by rw[sj]at hd;let#[p,hp,rfl]:=au.mp hd;exact#[p.1,p.2,rfl,hp,hok _ (ku hp).2]
  by_cases hl:ws.length=pG.length
  .let DN:∀b,((pG.zip ws).all λp=>lR p.1 p.2)=b->qL ((pG.zip ws).map λp=>lR p.1 p.2)=b:=λb hb=>by unfold qL;rw[Ff];exact hb
   by_cases ha:((pG.zip ws).all λp=>lR p.1 p.2)=true
   .let ev:iX pG ws=.tuple (qu pG ws):=by unfold iX sf;rw[ha,qQ1 hl];rfl
    rw[ev];refine aN (bR (VT.to (gE (k1:=false) (k2:=false) (VT.to (mJ hr (eu 20 _) (eu 20 _) (ie 1. n.len) (lE 0. n.len)) (by rw[hlen true (qQ1 hl)];rfl)) (λ_=>VT.to (uh (eS (fX (jl rfl) rS (cY (VO.ve (VO.to (dX (own:=["shape","word"]) (cap:=[]) (cl:=[]) (tgt:=.tup [0,1]) (F:=UM) rfl #[rfl,∎,∎,rfl,rfl,by simp] (wt .tup .lst 0. 1. mz) (λf s3 H3=>gU rfl (bY (hX 0 nc) (bY (hX 1 nc) fA))) rfl
     (small ∅) (λd hd=>?_)) (EA pG ws))) c5) n.all rfl) (t:=true) (by show some _>>_;rw[DN true ha]))) rfl)) rfl) bC) ?_
    .let#[s,x,rfl,hp,ox]:=FW d hd;refine#[_,rfl,λf s3 H3=>mO,λr qN f s3 H3=>?_];let qN:some (gR (lR (J3 s.tx) x))>>r:=qN;rw[vp]at qN;cases qN;exact bQ C1 hr {0.,1.} #[s,x,rfl,ox,.inl rfl,rfl]
    refine bA (cg (kf lC yo (cY (VO.ve (VO.to (dX (own:=["shape","word"]) (cap:=[]) (cl:=[]) (tgt:=.tup [0,1]) (F:=Yj) rfl #[rfl,∎,∎,rfl,rfl,by simp] (wt .tup .lst 0. 1. mz) (λf s3 H3=>gU rfl (bY (hX 0 nc) (bY (hX 1 nc) fA))) rfl
     (small ∅) (λd hd=>?_)) (M0 pG ws))) c5) n.tup rfl));let#[s,x,rfl,hp,ox]:=FW d hd;refine#[_,rfl,λf s3 H3=>mO,λr qN f s3 H3=>?_];let qN:some (gJ (J3 s.tx) x)>>r:=qN;rw[vp]at qN;cases qN;exact bQ C2 pQ {0.,1.} #[s,x,rfl,ox,cO.mp ha (s,x) hp,rfl]
   .let ha:=yh _▸ha;let ev:iX pG ws=.none:=by unfold iX sf;rw[ha,Bool.and_false];rfl
    rw[ev];refine dD (dI (VT.to (gE (k1:=false) (k2:=true) (VT.to (mJ hr (eu 20 _) (eu 20 _) (ie 1. n.len) (lE 0. n.len)) (by rw[hlen true (qQ1 hl)];rfl)) (λ_=>VT.to (uh (eS (fX (jl rfl) rS (cY (VO.ve (VO.to (dX (own:=["shape","word"]) (cap:=[]) (cl:=[]) (tgt:=.tup [0,1]) (F:=UM) rfl #[rfl,∎,∎,rfl,rfl,by simp] (wt .tup .lst 0. 1. mz) (λf s3 H3=>gU rfl (bY (hX 0 nc) (bY (hX 1 nc) fA))) rfl
     (small ∅) (λd hd=>?_)) (EA pG ws))) c5) n.all rfl) (t:=false) (by show some _>>_;rw[DN false ha]))) rfl)) rfl) (bA (cg ia))) rfl;let#[s,x,rfl,hp,ox]:=FW d hd;refine#[_,rfl,λf s3 H3=>mO,λr qN f s3 H3=>?_];let qN:some (gR (lR (J3 s.tx) x))>>r:=qN;rw[vp]at qN;cases qN;exact bQ C1 hr {0.,1.} #[s,x,rfl,ox,.inl rfl,rfl]
  .let ev:iX pG ws=.none:=by unfold iX sf;rw[qQ0 hl];rfl
   rw[ev];exact dD (dI (VT.to (gE (k1:=true) (k2:=true) (VT.to (mJ hr (eu 20 _) (eu 20 _) (ie 1. n.len) (lE 0. n.len)) (by rw[hlen false (qQ0 hl)];rfl)) (λz=>by cases z)) rfl) (bA (cg ia))) rfl
end
def oU:Rl->Nat->Prop
 | .meet,n=>2<=n
 | .gather m a,_=>1<=m/\cV m/\cV a
 | .many m,_=>1<=m/\cV m
 | .rank none,_=>True
 | .rank (some b),_=>cV b
 | .turns s,n=>s.length=n/\∀z∈s,1<=z/\z<=9
 | .eldest,_=>True
theorem UN(h:cV n)(hx:CV x≠n):cX n≠x:=λz=>hx (by rw[<-z,Ez h])
theorem M3(h:cV n):cX n≠"-":=λz=>by
 let hd:45∈(cX n).cps.toList:=by rw[z];symm
 let:=lj h.1 hd;omega
theorem lu(h:cV n)(h1:1<=n):iW (cX n)=true:=by unfold iW;rw[zJ h.1 h.2,qQ0 (UN h (by rw[show CV "0"=0 from by symm];omega))];rfl
theorem J4(h1:1<=n)(h9:n<=9):lR .share (cX n)=true:=by let hs:cV n:=#[∅,∅];show(iW _&&decide (((cX n).length:Int)=1))=true;rcases(by omega:n=1\/n=2\/n=3\/n=4\/n=5\/n=6\/n=7\/n=8\/n=9)with rfl|rfl|rfl|rfl|rfl|rfl|rfl|rfl|rfl<;>symm
theorem jT{s:Sh}(h:cV n)(h1:s≠.name)(h2:s≠.lQ):gJ s (cX n)=.int n:=by
 let e:gJ s (cX n)=if cX n="-" then .none else .int (CV (cX n)):=by cases s<;>first|exact qQ7 rfl h1|exact qQ7 rfl h2|rfl
 rw[e,qQ2 (M3 h),Ez h]
theorem vq:∀s:!Int,(∀z∈s,1<=z/\z<=9)->sf (bp s.length .share) (s.map cX)=true/\qu (bp s.length .share) (s.map cX)=s.map .int
 | [],_=>#[rfl,rfl]
 |z::s,h=>by
  let#[i1,i2]:=vq s λx hx=>h x (aM _ hx);let#[z1,z9]:=h z aJ;unfold sf at i1 ⊢;unfold qu at i2 ⊢;let#[j1,j2]:=hU.mp i1;rw[bH,ez,aq,eM,List.all_cons,aq,aq,i2];refine#[?_,?_]
  .rw[j2,show lR (Sh.share,cX z).1 (Sh.share,cX z).2=true from J4 z1 z9];simp
  .rw[show gJ (Sh.share,cX z).1 (Sh.share,cX z).2=.int z from jT #[∅,∅] (by intro z;cases z) (by intro z;cases z)]
def ux:Rl->!Sh
 | .rank _=>[.mY]
 | .many _=>[.count]
 | .gather _ _=>[.count,.number]
 |_=>[]
theorem EB{n:Nat}(h:oU r n)(ht:∀s,r≠.turns s):sf (ux r) ((tJ r).map eK)=true/\qu (ux r) ((tJ r).map eK)=tJ r:=by
 cases r with
 |meet=>exact#[rfl,rfl]
 |eldest=>exact#[rfl,rfl]
 |turns s=>exact qQ7 rfl (ht s)
 |many m=>
  let#[h1,h2]:=h;constructor
  .show(true&&(iW (cX m)&&true))=true;rw[lu h2 h1];rfl
  .show [gJ .count (cX m)]=[eX m];rw[jT h2 (by intro z;cases z) (by intro z;cases z)]
 |gather m a=>
  let#[h1,h2,h3]:=h;constructor
  .show(true&&(iW (cX m)&&(isNumber (cX a)&&true)))=true;rw[lu h2 h1,zJ h3.1 h3.2];rfl
  .show [gJ .count (cX m),gJ .number (cX a)]=[eX m,.int a];rw[jT h2 (by intro z;cases z) (by intro z;cases z),jT h3 (by intro z;cases z) (by intro z;cases z)]
 |rank b=>
  cases b with
  |none=>exact#[∎,rfl]
  |some b=>
   constructor
   .show(true&&((decide _||isNumber (cX b))&&true))=true;rw[zJ h.1 h.2];simp
   .show [gJ .mY (cX b)]=[eX b];rw[jT h (by intro z;cases z) (by intro z;cases z)]
theorem oU.ok{n:Nat}(hn:n<=60)(h:oU r n):CP r:=by
 cases r with
 |meet=>trivial
 |eldest=>trivial
 |gather m a=>exact h.2
 |many m=>exact h.2
 |rank b=>cases b with|none=>trivial|some b=>exact h
 |turns s=>exact#[by let:=h.1;omega,λz hz=>by let:=h.2 z hz;exact#[∅,∅]]
abbrev oF:!(Str×!Str):=[("kind",[("name":Str),"count or -"]),("gate",[("name":Str)]),("line",[("name":Str),"count"]),("time",[("name":Str),"name","count"]),("open",[("name":Str),"number","number"]),("pace",[("name":Str),"name","count","count"])]
abbrev vt:!(Str×!Str):=[("eldest",[]),("rank",[("number or -":Str)]),("many",[("count":Str)]),("gather",[("count":Str),"number"]),("meet",[])]
structure Np(mg:Str->Option aA)(pr:BM)(K:aj):Prop extends Na mg where
 zip:mg "zip"=none
 set:mg "set"=none
 any:mg "any"=none
 mp:∃t,mg "MOST_PLACES"=some (.int 6 t)
 fo:∃g,mg "FORMS"=some (.ref g)/\GD pr K g oF
 ru:∃g,mg "RULES"=some (.ref g)/\GD pr K g vt
theorem EC{α:Type}(x:α):∀n,(bp n [x]).flatten=bp n x
 |0=>rfl
 |n+1=>by rw[ez,fc,EC x n];rfl
theorem zL(x:ai)(l:!ai):L2.cutD (x::l) (some 1) none=l:=(lO (x::l) 1).trans rfl
section
variable{P:bx}{w:b_}{K:aj}{mg:Str->Option aA}{base:cI}{f:ay}{k:Nat}
abbrev zb4:!Str:=["words","many","shares","values"]
theorem M4:cw zb4 ["words","many"] (bG (top 26)):=by grind
def Yk(ds:!ai)(d:ai):Prop:=∃(r:Rl)(n:Nat),ds=[kL (cH r),.int n]/\1<=n/\n<=6/\oU r n/\d=KD r
theorem Yl(F:kE K "rule_of" "rule_of" (top 26) f fd)(n:Np mg w.params K)(C:bu P w K mg base 5 "values_of" VM (gI K ZZ)):dZ P w K mg base jL 6 f fd ["words","many"] (gI K Yk):=
 ji F M4 (by ext) λ_ _ h=>by
  let#[r,m,rfl,m1,m6,hg,rfl]:=h;intro gu A outer s H E hr;let nd:=M4.nd;let VJ:=hg.ok ∅;by_cases ht:∃sh,r=.turns sh
  .let#[sh,rfl]:=ht;let#[hl,hz]:=hg;let#[v1,v2]:=vq sh hz;let ev:iX (bp m .share) (sh.map cX)=.tuple (sh.map .int):=by unfold iX;rw[<-hl,v1,v2];rfl
   refine dD (dI (VT.to (kH hr dC dC (eJ 0. aL (df rfl)) a_) ([bS]▸qQ1 rfl)) (aN (dY 2 (bQ C hr {VE.to (Pw (ic (cY a_ c5)) 1. ∅ ∅ ⋯ (by simp)) (by rw[EC];unfold MZ;rw[List.map_replicate,c7];rfl),VE.to (VO.ve (lL 0. (.yes aL) .no)) (by show oM (L2.cutD (_::_) _ _)=_;rw[zL];rfl)} #[_,_,rfl,by rw[dN];omega,by rw[ae];omega,λx hx=>?_,ev.symm]) nd) (bA (cg (Cg (VT.to (gX jX nM 2. ia (f7 _)) rfl) (λz=>by cases z) (λ_=>VE.to (ic {a_,2.}) rfl)))))) rfl;let#[z,ZR,rfl]:=au.mp hx;let:=hz z ZR;exact mj ∅ ∅
  .let Fo:=λsh z=>ht #[sh,z];let#[v1,v2]:=EB hg Fo;let UK:cH r=qW r::(tJ r).map eK:=by
    cases r with
    |turns sh=>exact qQ7 rfl (Fo sh)
    |_=>rfl
   let hw:qW r≠"turns":=by
    cases r with
    |turns sh=>exact qQ7 rfl (Fo sh)
    |_=>dsimp only[qW];symm
   let oR:kX (qW r):=by cases r<;>dsimp only[qW,kX]<;>symm
   let hk:jo vt (qW r)>>((ux r).map Sh.tx):=by
    cases r with
    |turns sh=>exact qQ7 rfl (Fo sh)
    |meet=>symm
    |eldest=>symm
    |rank b=>show jo vt "rank"=some ([Sh.mY].map Sh.tx);symm
    |many m=>show jo vt "many"=some ([Sh.count].map Sh.tx);symm
    |gather m a=>show jo vt "gather"=some ([Sh.count,Sh.number].map Sh.tx);symm
   let hme:decide (qW r="meet")=true->¬(m:Int)<2:=by
    cases r with
    |meet=>intro _;let:2<=m:=hg;omega
    |turns sh=>exact qQ7 rfl (Fo sh)
    |eldest=>intro z;exact qQ7 z ∎
    |rank b=>intro z;exact qQ7 z (show ¬decide ("rank"="meet")=true by symm)
    |many m=>intro z;exact qQ7 z (show ¬decide ("many"="meet")=true by symm)
    |gather m a=>intro z;exact qQ7 z (show ¬decide ("gather"="meet")=true by symm)
   let hal:(tJ r).length<=2:=by cases r<;>simp[tJ]
   let hok:=CQ Fo VJ;let hsl:(ux r).length<=2:=by cases r<;>simp[ux]
   let ev:iX (ux r) ((tJ r).map eK)=.tuple (tJ r):=by unfold iX;rw[v1,v2];rfl
   rw[UK];unfold KD;generalize hA:tJ r=ra at *;generalize hW:qW r=pP at *;let#[g1,q1,q2]:=n.ru;let a0:tF ((pP::ra.map eK).map aO) 0>>_:=df rfl;refine aN (bR (VT.to (kH hr (bj oR) dC (eJ 0. aL a0) a_) ([bS]▸qQ0 hw)) bC) ?_;refine aN (bR (VT.to (gE (k1:=false) (VT.to (Bi q1 q2 (eJ 0. aL a0)) (by rw[hk];rfl)) (λ_=>rL (VT.to (kH hr (bj oR) dC (eJ 0. aL a0) a_) (by rw[bS])) (λ_=>u_ 1. aL))) ?_) bC) ?_
   .cases hd:decide (pP="meet") with
    |false=>rfl
    |true=>rw[qQ0 (hme hd)];rfl
   refine aN (dY 3 (bQ C hr {VE.to (Ie q1 q2 (eJ 0. aL a0) hk) (by unfold MZ;rw[aG];rfl),VE.to (VO.ve (lL 0. (.yes aL) .no)) (by show oM (L2.cutD (_::_) _ _)=_;rw[zL];rfl)} #[ux r,_,rfl,∅,by rw[ae];omega,λx hx=>?_,ev.symm]) nd) ?_
   .let#[z,hz,rfl]:=au.mp hx;let:=hok z hz;cases z with
    |none=>exact#[⋯,by show bX _=true;symm]
    |int i=>exact mj this.1 this.2
    |str x=>
     show xx (if x="" then "-" else x);split
     .exact#[⋯,by show bX _=true;symm]
     .rename_i hx
      exact(this.resolve_left hx).ok
    |_=>exact this.elim
   .exact bA (cg (Cg (VT.to (gX jX nM 3. ia (f7 _)) rfl) (λz=>by cases z) (λ_=>VE.to (yt (ic {eJ 0. aL a0}) 3. (by simp) (small (by simp;omega))) rfl)))
theorem Ym:cw ["names"] ["names"] (bG (top 27)):=by grind
def Gu(l:!Str):Prop:=1<=l.length/\l.length<=6/\l.Nodup/\∀x∈l,dq x
def Rap(ds:!ai)(d:ai):Prop:=∃l:!Str,ds=[.tuple (l.map .str)]/\Gu l/\d=.bool true
def Yn:ai->Option ai
 | .str x=>some (.bool (isName x))
 |_=>none
theorem J5(l:!Str):(l.map aO).filterMap Yn=(l.map isName).map .bool:=by rw[cK,aG];exact filterMap_some λk _=>rfl
theorem zb6(F:kE K "are_places" "are_places" (top 27) f fd)(n:Np mg w.params K)(C:bu P w K mg base 2 "is_name" ["word"] (gI K X6)):dZ P w K mg base jL 3 f fd ["names"] (gI K Rap):=
 ji F Ym (by ext) λ_ _ h=>by
  let#[l,rfl,#[l1,l6,lnd,lnm],rfl]:=h;intro gu A outer s H E hr;let#[t,m6]:=n.mp;let nc:(["name"]:!Str).Nodup:=∎;let hdd:dd [] l=l:=DY ↑lnd;let DN:qL (l.map isName)=true:=by unfold qL;rw[Ff,cO];intro x hx;exact(lnm x hx).is
  refine bA (cg (VE.to (jC (k1:=true) (VE.to (Ei HD HD (DV 1 l.length) (DV l.length 6) aL (VE.to (lE 0. n.len) (by rw[ae])) (λ_=>Iz m6)) (by rw[qQ1 ∅,qQ1 ∅];rfl)) (λ_=>jC (VE.to (fX (jl rfl) rS (cY (VO.ve (VO.to (dX (own:=["name"]) (cap:=[]) (tgt:=.one 0) rfl #[rfl,∎,∎,rfl,rfl,by simp] (yZ 0.) (λf s3 H3=>hX 0 nc) rfl
   (small (by rw[ae];omega)) (λd hd=>?_)) (J5 _))) c5) n.all rfl) (by rw[DN])) (λ_=>gY (nH hr (eu 20 _) (eu 20 _) (D3 0. ∅ rfl n.len n.set) (lE 0. n.len))))) ?_))
  .let#[z,hz,rfl]:=au.mp hd;exact Ci rfl rfl λf s3 H3=>bQ C hr {0.} #[z,rfl,(lnm z hz).ok.1,rfl]
  .rw[oA,hdd,ae,qQ1 rfl];rfl
end
inductive Ent where
 |kind (n:Str) (k:Option Int)
 |gate (n:Str)
 |line (n:Str) (r:Int)
 |desk (d:Dk)
 |time (d k:Str) (w:Int)
 |hour (d:Str) (a b:Int)
 |pace (g k:Str) (a b:Int)
variable{e:Ent}
def Ent.form:Ent->Str
 | .kind _ _=>"kind"
 | .gate _=>"gate"
 | .line _ _=>"line"
 | .desk _=>"desk"
 | .time _ _ _=>"time"
 | .hour _ _ _=>"open"
 | .pace _ _ _ _=>"pace"
def Ent.rest:Ent->!ai
 | .kind n k=>[.str n,og k]
 | .gate n=>[.str n]
 | .line n r=>[.str n,.int r]
 | .desk d=>[.str d.name,.str d.to,KD d.rule,.tuple (d.places.map .str)]
 | .time d k w=>[.str d,.str k,.int w]
 | .hour d a b=>[.str d,.int a,.int b]
 | .pace g k a b=>[.str g,.str k,.int a,.int b]
def Gv(e:Ent):ai:=.tuple (.str e.form::e.rest)
def jq(d:Dk):!Str:=[("desk":Str),d.name,"to",eK (.str d.to),"by"]++cH d.rule ++ [("from":Str)]++d.places
def lS:Ent->!Str
 | .kind n k=>[("kind":Str),n,eK (og k)]
 | .gate n=>[("gate":Str),n]
 | .line n r=>[("line":Str),n,cX r]
 | .desk d=>jq d
 | .time d k w=>[("time":Str),d,k,cX w]
 | .hour d a b=>[("open":Str),d,cX a,cX b]
 | .pace g k a b=>[("pace":Str),g,k,cX a,cX b]
def Gw(d:Dk):Prop:=dq d.name/\(d.to=""\/dq d.to)/\oU d.rule d.places.length/\Gu d.places
def ko:Ent->Prop
 | .kind n k=>dq n/\∀i,k>>i->1<=i/\cV i
 | .gate n=>dq n
 | .line n r=>dq n/\1<=r/\cV r
 | .desk d=>Gw d
 | .time d k w=>dq d/\dq k/\1<=w/\cV w
 | .hour d a b=>dq d/\cV a/\cV b/\a<b
 | .pace g k a b=>dq g/\dq k/\(1<=a/\cV a)/\1<=b/\cV b
theorem CW(h:dq x):x≠"-":=λz=>by
 let hd:45∈x.cps.toList:=by rw[z];symm
 let:=h.2.2 _ hd;omega
theorem J6(h:dq x):eK (.str x)=x:=by show(if x="" then("-":Str)else x)=x;rw[qQ2 (Bw h).1]
theorem zM(h:Rt d):xx (eK d):=by
 let h0:xx "-":=#[⋯,by show bX _=true;symm];cases d with
 |none=>exact h0
 |int i=>exact mj h.1 h.2
 |str x=>
  show xx (if x="" then "-" else x);split
  .exact h0
  .rename_i hx
   exact(h.resolve_left hx).ok
 |_=>exact h.elim
theorem UO(h:bX (.str x)=true)(hl:x.length<=100000):xx x:=#[hl,h]
theorem M5(h:CP r):∀x∈cH r,xx x:=by
 intro x hx;by_cases ht:∃sh,r=.turns sh
 .let#[sh,rfl]:=ht;rcases ax.mp hx with rfl|hx
  .exact#[⋯,by show bX _=true;symm]
  .let#[z,hz,rfl]:=au.mp hx;exact mj (h.2 z hz).1 (h.2 z hz).2
 .let Fo:=λsh z=>ht #[sh,z];let UK:cH r=qW r::(tJ r).map eK:=by
   cases r with
   |turns sh=>exact qQ7 rfl (Fo sh)
   |_=>rfl
  rw[UK]at hx;rcases ax.mp hx with rfl|hx
  .cases r<;>(refine#[?_,?_]<;>dsimp[qW,kX]<;>symm)
  .let#[z,hz,rfl]:=au.mp hx;exact zM (CQ Fo h z hz)
theorem M6{n:Nat}(hn:n<=6)(h:oU r n):1<=(cH r).length/\(cH r).length<=7:=by
 cases r with
 |turns s=>have:=h.1;simp[cH];omega
 |_=>simp[cH,tJ]
theorem CY(h:CP r):∀x∈(cH r).drop 1,x≠"from":=by
 let hd:∀d,Rt d->(∀x,d≠.str x)->eK d≠"from":=by
  intro d hd hs;cases d with
  |none=>symm
  |int i=>
   intro z;let:102∈(cX i).cps.toList:=by let z:cX i="from":=z;rw[z];symm
   let:=lj hd.1 this;omega
  |str x=>exact qQ7 rfl (hs x)
  |_=>exact hd.elim
 intro x hx;cases r with
 |turns s=>let#[z,hz,rfl]:=au.mp hx;exact hd (.int z) (h.2 z hz) (by intro x z;cases z)
 |meet=>cases hx
 |eldest=>cases hx
 |gather m a=>
  simp[cH,tJ,aq,d_,uO,tM,ax,a9,or_false]at hx;rcases hx with rfl|rfl
  .exact hd _ h.1 (by intro x z;cases z)
  .exact hd _ h.2 (by intro x z;cases z)
 |many m=>simp[cH,tJ,aq,d_,uO,tM,ax,a9,or_false]at hx;rw[hx];exact hd _ h (by intro x z;cases z)
 |rank b=>
  simp[cH,tJ,aq,d_,uO,tM,ax,a9,or_false]at hx;rw[hx];cases b with
  |none=>exact hd .none trivial (by intro x z;cases z)
  |some b=>exact hd _ h (by intro x z;cases z)
section
variable{P:bx}{w:b_}{K:aj}{mg:Str->Option aA}{base:cI}{f:ay}{k:Nat}
abbrev Nde:!Str:=["words","end","head","places","rule"]
theorem Rw:cw Nde ["words"] (bG (top 25)):=by grind
def Rde(ds:!ai)(d:ai):Prop:=∃q:Dk,ds=[kL (jq q)]/\Gw q/\d=Gv (.desk q)
theorem zb7{α:Type}(l:!α)(a b:Nat)(ha:a<=b)(hb:b<=l.length):L2.cutD l (some (a:Int)) (some (b:Int))=(l.drop a).take (b-a):=by unfold L2.cutD;rw[HT.om,HT.om,nu hb,nu (show a<=l.length by omega)]
theorem CZ(h:∀x∈l,xx x):Lay 20 (kL l):=lF λd hd=>by let#[x,hx,rfl]:=au.mp hd;exact bj (h x hx).2
theorem nP(x:Str)(l:!Str):qJ (.str x) (.list (l.map aO))=decide (x∈l):=by
 show((l.map aO).any λy=>c9 y _)=_;rw[List.any_map];induction l with
 |nil=>rfl
 |cons y l ih=>
  rw[lY,ih];show(c9 _ (.str x)||decide (x∈l))=_;rw[bS,f6];simp;constructor
  .rintro(h|h)
   .exact .inl h.symm
   .exact .inr h
  .rintro(h|h)
   .exact .inl h.symm
   .exact .inr h
theorem zb8(F:kE K "desk_entry" "desk_entry" (top 25) f fd)(n:Np mg w.params K)(C1:bu P w K mg base 5 "values_of" VM (gI K ZZ))(C2:bu P w K mg base 6 "rule_of" ["words","many"] (gI K Yk))(C3:bu P w K mg base 3 "are_places" ["names"] (gI K Rap)):dZ P w K mg base jL 7 f fd ["words"] (gI K Rde):=
 ji F Rw (by ext) λ_ _ h=>by
  let#[q,rfl,#[hn,VN,UQ,Uc],rfl]:=h;intro gu A outer s H E hr;let nd:Nde.Nodup:=Rw.nd;let zb9:=Uc;let#[p1,p6,pnd,pnm]:=zb9;let VJ:=UQ.ok ∅;let#[r1,r7]:=M6 p6 UQ;let rok:=M5 VJ;let rnf:=CY VJ;let Yo:xx (eK (.str q.to)):=zM VN;obtain⟨rw0,rest,VQ⟩:∃a l,cH q.rule=a::l:=by
   cases e:cH q.rule with
   |nil=>rw[e]at r1;simp at r1
   |cons a l=>exact#[a,l,rfl]
  let Yp:xx "from":=#[⋯,by show bX (.str ("from":Str))=true;symm];let hW:jq q=("desk":Str)::q.name::"to"::eK (.str q.to)::"by"::rw0::(rest++("from":Str)::q.places):=by unfold jq;rw[VQ];simp
  let zcb:∀x∈rest,x≠"from":=λx hx=>rnf x ([VQ]▸hx);let zhw:rest.length<=6:=by rw[VQ]at r7;simp at r7;omega
  let lit:∀x:Str,bX (.str x)=true->x.length<=100000->xx x:=λx h1 h2=>#[h2,h1];let hok:∀x∈jq q,xx x:=by
   intro x hx;rw[hW]at hx;simp only[ax,aV]at hx;rcases hx with rfl|rfl|rfl|rfl|rfl|rfl|hx|rfl|hx
   .exact lit _ ∎ ⋯
   .exact hn.ok
   .exact lit _ ∎ ⋯
   .exact Yo
   .exact lit _ ∎ ⋯
   .exact rok _ ([VQ]▸aJ)
   .exact (λx hx=>rok x ([VQ]▸aM _ hx)) x hx
   .exact Yp
   .exact(pnm x hx).ok
  let hlay:=CZ hok;let hlen:(jq q).length=7+rest.length+q.places.length:=by rw[hW];simp;omega
  let Yq:(jq q).drop 6=rest++("from":Str)::q.places:=by rw[hW];rfl
  let Yr:L2.cutD ((jq q).map aO) (some 6) none=(rest++("from":Str)::q.places).map aO:=[<-Yq,pM]▸lO _ 6;let Ys:Lay 20 (.list ((rest++("from":Str)::q.places).map aO)):=CZ λx hx=>by refine hok x ?_;rw[<-Yq]at hx;exact mI hx
  let Rx:Lay 20 (.str "from"):=dC;let Qi:∀(j:Nat)(x:Str),(jq q)[j]?>>x->tF ((jq q).map aO) (j:Int)>>(.str x):=λj x h=>df (by rw[aH,h];rfl);let g1:(jq q)[1]?>>q.name:=by rw[hW];rfl
  let g2:(jq q)[2]?>>("to":Str):=by rw[hW];rfl
  let g4:(jq q)[4]?>>("by":Str):=by rw[hW];rfl
  let Pj:(jq q)[6+rest.length]?>>("from":Str):=by
   let:(jq q)[6+rest.length]?=((jq q).drop 6)[rest.length]?:=by rw[List.getElem?_drop]
   rw[this,Yq,bK (aE _),xV];rfl
  let v7:∀j (h:j<(jq q).length),6<=j->j<6+rest.length->(jq q)[j]≠"from":=by
   intro j h j6 jr;let:(jq q)[j]?=((jq q).drop 6)[j-6]?:=by rw[List.getElem?_drop];congr 1;omega
   rw[Yq,bO ∅,aD h,aD ∅]at this;rw[b9 this];exact zcb _ (dM _)
  let Qj:L2.cutD ((jq q).map aO) (some ((6+rest.length:Nat)+1:Int)) none=q.places.map aO:=by
   rw[show((6+rest.length:Nat)+1:Int)=((6+rest.length+1:Nat):Int)from by omega,lO,<-pM]
   congr 1
   rw[show 6+rest.length+1=6+(rest.length+1)from by omega,<-List.drop_drop,Yq,List.drop_append,qZ ∅,show rest.length+1-rest.length=1 from by omega];rfl
  let Yt:L2.cutD ((jq q).map aO) (some 5) (some ((6+rest.length:Nat):Int))=(cH q.rule).map aO:=by
   rw[show(5:Int)=((5:Nat):Int)from rfl,zb7 _ 5 (6+rest.length) ∅ (by rw[ae];omega),<-pM,<-Dt]
   congr 1
   rw[hW,VQ];show((rw0::(rest++("from":Str)::q.places))).take (6+rest.length-5)=rw0::rest;rw[show 6+rest.length-5=rest.length+1 from by omega,List.take_succ_cons,List.take_left' rfl]
  refine aN (bR (VT.to (LC (k1:=false) (k2:=false) (k3:=false) (VT.to (yW hr rfl Rx Ys a_ (VE.to (VO.ve (lL 0. (.yes aL) .no)) (by rw[Yr]))) (by rw[nP,qQ1 (by simp)];rfl)) (λ_=>VT.to (mJ hr dC dC (eJ 0. aL (Qi 2 _ g2)) a_) (by rw[bS,qQ1 rfl];rfl)) (λ_ _=>VT.to (mJ hr dC dC (eJ 0. aL (Qi 4 _ g4)) a_) (by rw[bS,qQ1 rfl];rfl))) rfl) bC) ?_;refine aN (dY 1 (d:=.int ((6+rest.length:Nat):Int)) (JC (i:=6) (j:=6+rest.length) hr 0. a_ aL hlay Rx ∅ #[by rw[ae];omega,?_] (λj h j6 jr=>?_)) nd) ?_
  .let:(jq q)[6+rest.length]'∅="from":=by rw[aD ∅]at Pj;exact b9 Pj
   rw[jH,bS,this];exact qQ1 rfl
  .rw[ae]at h;rw[jH,bS];exact qQ0 (v7 j h j6 jr)
  let T6:iX [.name,.lQ] [q.name,eK (.str q.to)]=.tuple [.str q.name,.str q.to]:=by
   let f2:lR .lQ (eK (.str q.to))=true/\gJ .lQ (eK (.str q.to))=.str q.to:=by
    rcases VN with h|h
    .rw[h];exact#[∎,rfl]
    .rw[J6 h];refine#[?_,?_]
     .show(decide (q.to="-")||isName q.to)=true;rw[h.is,Fh]
     .show aO (if q.to="-" then "" else q.to)=_;rw[qQ2 (CW h)]
   unfold iX sf qu;show(if(true&&(isName q.name&&(lR .lQ (eK (.str q.to))&&true)))=true then dg [.str q.name,gJ .lQ (eK (.str q.to))]else .none)=_;rw[hn.is,f2.1,f2.2];rfl
  refine aN (dY 2 (d:=.tuple [.str q.name,.str q.to]) (bQ C1 (hr.mono ∅) {VE.to (ic (cY a_ (cY a_ c5))) (k:=MZ [.name,.lQ]) rfl,VE.to (VO.ve (dO {eJ 0. aL (Qi 1 _ g1),eJ 0. aL (Qi 3 _ (by rw[hW];rfl))})) rfl} #[_,_,rfl,by show 2<=1000;decide,by show 2<=100002;decide,λx hx=>?_,T6.symm]) nd) ?_
  .simp only[ax,a9,or_false]at hx;rcases hx with rfl|rfl
   .exact hn.ok
   .exact Yo
  refine aN (dY 3 (kf lC yo {VE.to (VO.ve (lL 0. (.yes (fw 1. aL)) .no)) (by rw[Qj])} n.tup rfl) nd) ?_;refine aN (dY 4 (bQ C2 hr {VE.to (VO.ve (lL 0. (.yes aL) (.yes 1.))) (by rw[Yt];rfl),VE.to (lE 3. n.len) (by rw[ae])} #[q.rule,q.places.length,rfl,p1,p6,UQ,rfl]) nd) ?_;refine aN (bR (VT.to (LC (k1:=false) (k2:=false) (k3:=false) (VT.to (gX jX nM 2. ia (f7 _)) rfl) (λ_=>VT.to (gX jX nM 4. ia (f7 _)) rfl) (λ_ _=>VT.to (uh (eS (bQ C3 (hr.mono ∅) {3.} #[q.places,rfl,Uc,rfl]) rfl)) rfl)) rfl) bC) ?_;exact bA (cg (VE.to (ic {a_,Au 2 0 rfl rfl,Au 2 1 rfl rfl,4.,3.}) rfl))
abbrev Neo:!Str:=["words","form","values"]
theorem Ry:cw Neo ["words"] (bG (top 24)):=by grind
def Reo(ds:!ai)(d:ai):Prop:=∃e:Ent,ds=[kL (lS e)]/\ko e/\d=Gv e
def ED:Ent->!Sh
 | .kind _ _=>[.name,.ml]
 | .gate _=>[.name]
 | .line _ _=>[.name,.count]
 | .desk _=>[]
 | .time _ _ _=>[.name,.name,.count]
 | .hour _ _ _=>[.name,.number,.number]
 | .pace _ _ _ _=>[.name,.name,.count,.count]
theorem Gx(h:ko e)(hd:∀q,e≠.desk q):∃ws,lS e=e.form::ws/\ws.length<=4/\(∀x∈ws,xx x)/\iX (ED e) ws=.tuple e.rest/\jo oF e.form>>((ED e).map Sh.tx)/\e.form≠"desk"/\kX e.form:=by
 cases e with
 |desk q=>exact qQ7 rfl (hd q)
 |kind n k=>
  let#[hn,hk]:=h;let VR:xx (eK (og k))/\lR .ml (eK (og k))=true/\gJ .ml (eK (og k))=og k:=by
   cases k with
   |none=>exact#[zM (d:=.none) trivial,∎,rfl]
   |some i=>let#[h1,h2]:=hk i rfl;refine#[mj h2.1 h2.2,?_,jT h2 (by intro z;cases z) (by intro z;cases z)];show(decide (cX i="-")||iW (cX i))=true;rw[lu h2 h1,Fh]
  refine#[[n,eK (og k)],rfl,by show 2<=4;decide,λx hx=>?_,?_,(show jo oF "kind"=some ([Sh.name,Sh.ml].map Sh.tx) by symm),(show("kind":Str)≠"desk" by symm),(show bX (.str ("kind":Str))=true by symm)]
  .simp only[ax,a9,or_false]at hx;rcases hx with rfl|rfl
   .exact hn.ok
   .exact VR.1
  .show(if(true&&(isName n&&(lR .ml (eK (og k))&&true)))=true then dg [.str n,gJ .ml (eK (og k))]else .none)=_;rw[hn.is,VR.2.1,VR.2.2];rfl
 |gate n=>
  refine#[[n],rfl,by show 1<=4;decide,λx hx=>?_,?_,(show jo oF "gate"=some ([Sh.name].map Sh.tx) by symm),(show("gate":Str)≠"desk" by symm),(show bX (.str ("gate":Str))=true by symm)]
  .rw[aF.mp hx];exact(show dq n from h).ok
  .show(if(true&&(isName n&&true))=true then dg [.str n]else .none)=_;rw[(show dq n from h).is];rfl
 |line n r=>
  let#[hn,h1,h2]:=h;refine#[[n,cX r],rfl,by show 2<=4;decide,λx hx=>?_,?_,(show jo oF "line"=some ([Sh.name,Sh.count].map Sh.tx) by symm),(show("line":Str)≠"desk" by symm),(show bX (.str ("line":Str))=true by symm)]
  .simp only[ax,a9,or_false]at hx;rcases hx with rfl|rfl
   .exact hn.ok
   .exact mj h2.1 h2.2
  .show(if(true&&(isName n&&(iW (cX r)&&true)))=true then dg [.str n,gJ .count (cX r)]else .none)=_;rw[hn.is,lu h2 h1,jT h2 (by intro z;cases z) (by intro z;cases z)];rfl
 |time d k w=>
  let#[hn,hk,h1,h2]:=h;refine#[[d,k,cX w],rfl,by show 3<=4;decide,λx hx=>?_,?_,(show jo oF "time"=some ([Sh.name,Sh.name,Sh.count].map Sh.tx) by symm),(show("time":Str)≠"desk" by symm),(show bX (.str ("time":Str))=true by symm)]
  .simp only[ax,a9,or_false]at hx;rcases hx with rfl|rfl|rfl
   .exact hn.ok
   .exact hk.ok
   .exact mj h2.1 h2.2
  .show(if(true&&(isName d&&(isName k&&(iW (cX w)&&true))))=true then dg [.str d,.str k,gJ .count (cX w)]else .none)=_;rw[hn.is,hk.is,lu h2 h1,jT h2 (by intro z;cases z) (by intro z;cases z)];rfl
 |hour d a b=>
  let#[hn,h1,h2,_]:=h;refine#[[d,cX a,cX b],rfl,by show 3<=4;decide,λx hx=>?_,?_,(show jo oF "open"=some ([Sh.name,Sh.number,Sh.number].map Sh.tx) by symm),(show("open":Str)≠"desk" by symm),(show bX (.str ("open":Str))=true by symm)]
  .simp only[ax,a9,or_false]at hx;rcases hx with rfl|rfl|rfl
   .exact hn.ok
   .exact mj h1.1 h1.2
   .exact mj h2.1 h2.2
  .show(if(true&&(isName d&&(isNumber (cX a)&&(isNumber (cX b)&&true))))=true then dg [.str d,gJ .number (cX a),gJ .number (cX b)]else .none)=_;rw[hn.is,zJ h1.1 h1.2,zJ h2.1 h2.2,jT h1 (by intro z;cases z) (by intro z;cases z),jT h2 (by intro z;cases z) (by intro z;cases z)];rfl
 |pace g k a b=>
  let#[hn,hk,#[h1,h2],h3,h4]:=h;refine#[[g,k,cX a,cX b],rfl,by show 4<=4;decide,λx hx=>?_,?_,(show jo oF "pace"=some ([Sh.name,Sh.name,Sh.count,Sh.count].map Sh.tx) by symm),(show("pace":Str)≠"desk" by symm),(show bX (.str ("pace":Str))=true by symm)]
  .simp only[ax,a9,or_false]at hx;rcases hx with rfl|rfl|rfl|rfl
   .exact hn.ok
   .exact hk.ok
   .exact mj h2.1 h2.2
   .exact mj h4.1 h4.2
  .show(if(true&&(isName g&&(isName k&&(iW (cX a)&&(iW (cX b)&&true)))))=true then dg [.str g,.str k,gJ .count (cX a),gJ .count (cX b)]else .none)=_;rw[hn.is,hk.is,lu h2 h1,lu h4 h3,jT h2 (by intro z;cases z) (by intro z;cases z),jT h4 (by intro z;cases z) (by intro z;cases z)];rfl
theorem zcc(F:kE K "entry_of" "entry_of" (top 24) f fd)(n:Np mg w.params K)(C1:bu P w K mg base 5 "values_of" VM (gI K ZZ))(C2:bu P w K mg base 7 "desk_entry" ["words"] (gI K Rde)):dZ P w K mg base jL 8 f fd ["words"] (gI K Reo):=
 ji F Ry (by ext) λ_ _ h=>by
  let#[e,rfl,ok,rfl]:=h;intro gu A outer s H E hr;let nd:Neo.Nodup:=Ry.nd;by_cases hd:∃q,e=.desk q
  .let#[q,rfl]:=hd;refine aN (dY 1 (eJ 0. aL (df rfl)) nd) ?_;exact dD (dI (gv hr dC 1 rfl ([bS]▸qQ1 rfl)) (bA (cg (bQ C2 hr {0.} #[q,rfl,ok,rfl])))) rfl
  .let AA:=λq z=>hd #[q,z];let#[ws,w1,w2,w3,w4,w5,w6,w7]:=Gx ok AA;let#[g1,q1,q2]:=n.fo;rw[w1];let hsl:(ED e).length<=4:=by cases e<;>simp[ED]
   refine aN (dY 1 (eJ 0. aL (df rfl)) nd) ?_;refine aN (bR (gv hr (bj w7) 1 rfl ([bS]▸qQ0 w6)) bC) ?_;refine aN (bR (VT.to (Bi q1 q2 1.) (by rw[w5];rfl)) bC) ?_;refine aN (dY 2 (bQ C1 (hr.mono ∅) {VE.to (Ie q1 q2 1. w5) (by unfold MZ;rw[aG];rfl),VE.to (VO.ve (lL 0. (.yes aL) .no)) (by show oM (L2.cutD (_::_) _ _)=_;rw[zL];rfl)} #[ED e,ws,rfl,∅,∅,w3,w4.symm]) nd) ?_;let UQ:e.rest.length<=4:=by cases e<;>simp[Ent.rest]
   refine aN (bR ?_ bC) (bA (cg (VE.to (yt (ic {1.}) 2. (by simp) (small (by simp;omega))) rfl)));cases e with
   |hour d a b=>exact VT.to (gE (VT.to (gX jX nM 2. ia (f7 _)) rfl) (λ_=>VT.to (rL (k1:=true) (gv hr (bj w7) 1 rfl ([bS]▸qQ1 rfl)) (λ_=>VT.to (W8 (Au 2 1 rfl rfl) (Au 2 2 rfl rfl)) (qQ0 (by let:=ok.2.2.2;omega)))) rfl)) rfl
   |_=>exact VT.to (gE (VT.to (gX jX nM 2. ia (f7 _)) rfl) (λ_=>VT.to (rL (k1:=false) (k2:=false) (gv hr (bj w7) 1 rfl (by rw[bS];dsimp only[Ent.form];exact qQ0 ∎)) (λz=>by cases z)) rfl)) rfl
end
def nQ:!(Str×!(Int×Int))->Str->Int×Int->!(Str×!(Int×Int))
 | [],n,z=>[(n,[z])]
 |q::l,n,z=>if q.1=n then(q.1,q.2 ++ [z])::l else q::nQ l n z
def dG(l:!(Str×Int×Int)):!(Str×!(Int×Int)):=l.foldl (λacc q=>nQ acc q.1 q.2) []
def pairD(z:Int×Int):ai:=.tuple [.int z.1,.int z.2]
def jB(p:Pl):!(Str×ai):=p.kinds.map λq=>(q.1,og q.2)
def iG(p:Pl):!(Str×ai):=p.lines.map λq=>(q.1,.int q.2)
def kM(p:Pl):!((Str×Str)×ai):=p.times.map λq=>((q.1,q.2.1),.int q.2.2)
def lH(p:Pl):!(Str×ai):=(dG p.hours).map λq=>(q.1,.list (q.2.map pairD))
def EE(q:Str×Str×Int×Int):ai:=.tuple [.str q.2.1,.int q.2.2.1,.int q.2.2.2]
def iH(p:Pl):!(Str×ai):=p.paces.map λq=>(q.1,EE q)
def oG(p:Pl):!(Str×ai):=[("kinds",iM (jB p)),("gates",kL p.gates),("lines",iM (iG p)),("desks",.list (p.desks.map gO)),("times",qd (kM p)),("hours",iM (lH p)),("paces",iM (iH p))]
def uy(p:Pl):ai:=Pg (oG p)
theorem vv(p:Pl):ik (oG p) "kinds"=some (iM (jB p)):=dR rfl
theorem zN(p:Pl):ik (oG p) "gates"=some (kL p.gates):=(bT (show ¬(("kinds":Str)="gates") by symm)).trans (dR rfl)
theorem vw(p:Pl):ik (oG p) "lines"=some (iM (iG p)):=(bT (show ¬(("kinds":Str)="lines") by symm)).trans ((bT (show ¬(("gates":Str)="lines") by symm)).trans (dR rfl))
theorem zO(p:Pl):ik (oG p) "desks"=some (.list (p.desks.map gO)):=(bT (show ¬(("kinds":Str)="desks") by symm)).trans ((bT (show ¬(("gates":Str)="desks") by symm)).trans ((bT (show ¬(("lines":Str)="desks") by symm)).trans (dR rfl)))
theorem EF(p:Pl):ik (oG p) "times"=some (qd (kM p)):=(bT (show ¬(("kinds":Str)="times") by symm)).trans ((bT (show ¬(("gates":Str)="times") by symm)).trans ((bT (show ¬(("lines":Str)="times") by symm)).trans ((bT (show ¬(("desks":Str)="times") by symm)).trans (dR rfl))))
theorem M7(p:Pl):ik (oG p) "hours"=some (iM (lH p)):=(bT (show ¬(("kinds":Str)="hours") by symm)).trans ((bT (show ¬(("gates":Str)="hours") by symm)).trans ((bT (show ¬(("lines":Str)="hours") by symm)).trans ((bT (show ¬(("desks":Str)="hours") by symm)).trans ((bT (show ¬(("times":Str)="hours") by symm)).trans (dR rfl)))))
theorem EG(p:Pl):ik (oG p) "paces"=some (iM (iH p)):=(bT (show ¬(("kinds":Str)="paces") by symm)).trans ((bT (show ¬(("gates":Str)="paces") by symm)).trans ((bT (show ¬(("lines":Str)="paces") by symm)).trans ((bT (show ¬(("desks":Str)="paces") by symm)).trans ((bT (show ¬(("times":Str)="paces") by symm)).trans ((bT (show ¬(("hours":Str)="paces") by symm)).trans (dR rfl))))))
theorem C5(p:Pl):(iH p).map (·.1)=p.paces.map (·.1):=by unfold iH;rw[aG];rfl
theorem gP{κ:Type}[DecidableEq κ]:∀(kvs:!(κ×ai))(x:κ),(ik kvs x).isSome=decide (x∈kvs.map (·.1))
 | [],x=>by simp[ik]
 |q::l,x=>by
  by_cases h:q.1=x
  .rw[dR h,qQ1 (by simp[h])];rfl
  .rw[bT h,gP l x,f6,decide_eq_true_iff,decide_eq_true_iff,aq,ax];exact#[.inr,λz=>z.resolve_left λe=>h e.symm]
theorem qv(p:Pl):(jB p).map (·.1)=p.kinds.map (·.1):=by unfold jB;rw[aG];rfl
theorem mZ(p:Pl):(iG p).map (·.1)=p.lines.map (·.1):=by unfold iG;rw[aG];rfl
theorem C6(p:Pl):(kM p).map (·.1)=p.times.map λq=>(q.1,q.2.1):=by unfold kM;rw[aG];rfl
def jt(p:Pl)(x:Str):Prop:=x∈p.gates\/x∈p.lines.map (·.1)
instance (p : Pl) (x : Str) : Decidable (jt p x) := by unfold jt; infer_instance
def qw(p:Pl)(x:Str):Prop:=x∈p.desks.map (·.name)
instance (p : Pl) (x : Str) : Decidable (qw p x) := by unfold qw; infer_instance
def EH(p:Pl)(x:Str):Prop:=∃q∈p.desks,x∈q.places
def sk(p:Pl):Ent->Prop
 | .kind n _=>n∉p.kinds.map (·.1)
 | .gate n=>¬jt p n
 | .line n _=>¬jt p n
 | .desk d=>¬qw p d.name/\(∀x∈d.places,¬EH p x)/\(∀x∈d.places,jt p x)/\(d.to=""\/∃r:Int,ik (iG p) d.to>>(.int r)/\gx d.rule d.places.length<=r)
 | .time d k _=>(d,k)∉p.times.map (λq=>(q.1,q.2.1))/\qw p d/\k∈p.kinds.map (·.1)
 | .hour d _ _=>qw p d
 | .pace g k _ _=>g∉p.paces.map (·.1)/\g∈p.gates/\k∈p.kinds.map (·.1)
section
variable{P:bx}{w:b_}{K:aj}{mg:Str->Option aA}{base:cI}{f:ay}{k:Nat}
abbrev N6:!Str:=["plant","name"]
abbrev Z0:!Str:=["plant","place"]
theorem Yu:cw N6 N6 (bG (top 32)):=by grind
theorem Yv:cw N6 N6 (bG (top 33)):=by grind
theorem Yw:cw Z0 Z0 (bG (top 34)):=by grind
def Rip(ds:!ai)(d:ai):Prop:=∃(p:Pl)(x:Str),ds=[uy p,.str x]/\j7 p/\kX x/\d=.bool (decide (jt p x))
def Rid(ds:!ai)(d:ai):Prop:=∃(p:Pl)(x:Str),ds=[uy p,.str x]/\j7 p/\kX x/\d=.bool (decide (qw p x))
def zP(p:Pl)(x:Str):!Dk:=p.desks.filter λq=>decide (x∈q.places)
def Rit(ds es:!ai):Prop:=∃(p:Pl)(x:Str),ds=[uy p,.str x]/\j7 p/\kX x/\es=(zP p x).map gO
theorem Gy{p:Pl}(h:¬EH p x):zP p x=[]:=by unfold zP;rw[List.filter_eq_nil_iff];intro q hq z;exact h #[q,hq,qQ4 z]
theorem wF(h:∀x∈l,dq x):Lay 20 (.list (l.map aO)):=CZ λx hx=>(h x hx).ok
theorem zcf(F:kE K "is_place" "is_place" (top 32) f fd):dZ P w K mg base jL 1 f fd N6 (gI K Rip):=
 ji F Yu (by ext) λ_ _ h=>by
  let#[p,x,rfl,ok,ox,rfl]:=h;intro gu A outer s H E hr;refine bA (cg (VE.to (tR (Rg hr rfl (bj ox) (wF ok.gates) 1. (iF 0. (zN p))) (λ_=>gY (Ck hr 1. (iF 0. (vw p))))) ?_));rw[nP,gP,mZ]
  congr 1
  rw[f6];simp only[Bool.or_eq_true,decide_eq_true_eq];exact Iff.rfl
def Fdn:ai->Option ai
 | .tuple (x::_)=>some x
 |_=>none
theorem Qk(l:!Dk):(l.map gO).filterMap Fdn=(l.map (·.name)).map .str:=by rw[cK,aG];exact filterMap_some λk _=>rfl
theorem zcg(F:kE K "is_desk" "is_desk" (top 33) f fd):dZ P w K mg base jL 1 f fd N6 (gI K Rid):=
 ji F Yv (by ext) λ_ _ h=>by
  let#[p,x,rfl,ok,ox,rfl]:=h;intro gu A outer s H E hr;let nc:(["desk"]:!Str).Nodup:=∎;let hn:=ok.dn;refine bA (cg (VE.to (Rg hr rfl (bj ox) (wF λy hy=>?_) 1. (VO.ve (VO.to (dX (own:=["desk"]) (cap:=[]) (tgt:=.one 0) rfl #[rfl,∎,∎,rfl,rfl,by simp] (fj (iF 0. (zO p))) (λf s3 H3=>hX 0 nc) rfl
   (small (by rw[ae];omega)) (λd hd=>?_)) (Qk _)))) ?_))
  .let#[q,hq,rfl]:=au.mp hy;exact(ok.desks q hq).1
  .let#[z,hz,rfl]:=au.mp hd;exact Ci rfl rfl λf s3 H3=>Au 0 0 rfl rfl
  .rw[nP];rfl
theorem xD(x:Str)(l:!Str):qJ (.str x) (.tuple (l.map aO))=decide (x∈l):=nP x l
def M8(x:Str):ai->Bool
 | .tuple [_,_,_,.tuple l]=>l.any λy=>c9 y (.str x)
 |_=>false
def Fin(x:Str)(d:ai):Option ai:=if M8 x d=true then some d else none
theorem sr(x:Str)(q:Dk):M8 x (gO q)=decide (x∈q.places):=xD x q.places
theorem Ql(x:Str)(l:!Dk):(l.map gO).filterMap (Fin x)=(l.filter λq=>decide (x∈q.places)).map gO:=by
 induction l with
 |nil=>rfl
 |cons q l ih=>
  rw[aq,iy];by_cases h:x∈q.places
  .rw[dB (by unfold Fin;rw[sr,qQ3 (qQ1 h)]),ih,qQ3 (qQ1 h),aq]
  .rw[fK (by unfold Fin;rw[sr,qQ2 (by rw[qQ0 h];decide)]),ih,qQ2 (by rw[qQ0 h];decide)]
theorem zch(F:kE K "takers_of" "takers_of" (top 34) f fd):dZ P w K mg base jL 1 f fd Z0 (N3 K Rit):=
 O9 F Yw (by ext) λ_ _ h=>by
  let#[p,x,rfl,ok,ox,rfl]:=h;intro gu A outer s H E hr;let nc:(["desk","place"]:!Str).Nodup:=∎;let hn:=ok.dn;refine bA (HQ (VO.to (dX (own:=["desk"]) (cap:=[1]) (tgt:=.one 0) rfl #[rfl,∎,∎,rfl,rfl,?_] (fj (iF 0. (zO p))) (λf s3 H3=>hX 0 nc) rfl
   (small (by rw[ae];omega)) (λd hd=>?_)) (Ql x _)))
  .intro j hj;rcases ax.mp hj with rfl|hj
   .exact#[(by show(1:Nat)<2;decide),iL rfl,rfl]
   .cases hj
  .let#[z,hz,rfl]:=au.mp hd;refine#[_,rfl,λf s3 H3=>?_,λr qN f s3 H3=>?_]
   .refine va (VT.to (Lz hr rfl (bj ox) (sQ λd hd=>by let#[y,hy,rfl]:=au.mp hd;exact bj ((ok.desks z hz).2.2.2.2 y hy).ok.2) 1. (dQ 0. aL (df rfl))) ?_);unfold Fin;rw[sr,xD];by_cases h:x∈z.places
    .rw[qQ1 h];rfl
    .rw[qQ0 h];rfl
   .unfold Fin at qN;split at qN
    .cases qN;exact oO 0 rfl
    .cases qN
def Yx:Rl->Bool
 | .many _=>true
 | .gather _ _=>true
 |_=>false
theorem Yy:cw ["rule","many"] ["rule","many"] (bG (top 4)):=by grind
theorem zci(F:kE K "greatest_load" "greatest_load" (top 4) f fd):dZ P w K mg base jL 1 f fd ["rule","many"] (gI K ZX):=
 ji F Yy (by ext) λ_ _ h=>by
  let#[r,m,rfl,rfl]:=h;intro gu A outer s H E hr;let oR:kX (qW r):=by cases r<;>dsimp[qW,kX]<;>symm
  let h0:tF (aO (qW r)::tJ r) 0>>_:=df rfl;let Kx:(decide (qW r="many")||decide (qW r="gather"))=Yx r:=by
   cases r with
   |meet=>symm
   |eldest=>symm
   |many m=>exact(show(decide ("many"="many")||decide ("many"="gather"))=true by symm)
   |gather m a=>exact(show(decide ("gather"="many")||decide ("gather"="gather"))=true by symm)
   |rank b=>exact(show(decide ("rank"="many")||decide ("rank"="gather"))=false by symm)
   |turns l=>exact(show(decide ("turns"="many")||decide ("turns"="gather"))=false by symm)
  by_cases h1:Yx r=true
  .refine dD (dI (VT.to (gE (kH hr (bj oR) dC (dQ 0. aL h0) a_) (λ_=>kH hr (bj oR) dC (dQ 0. aL h0) a_)) (by rw[bS,bS,Kx,h1])) (bA (cg (dQ 0. aL ?_)))) rfl;cases r with
   |many m=>exact df rfl
   |gather m a=>exact df rfl
   |_=>cases h1
  .let h1:=yh _▸h1;refine aN (bR (VT.to (gE (kH hr (bj oR) dC (dQ 0. aL h0) a_) (λ_=>kH hr (bj oR) dC (dQ 0. aL h0) a_)) (by rw[bS,bS,Kx,h1])) bC) ?_;by_cases h2:qW r="meet"
   .refine dD (dI (VT.to (kH hr (bj oR) dC (dQ 0. aL h0) a_) ([bS]▸qQ1 h2)) (bA (cg (VE.to 1. ?_)))) rfl;cases r with
    |meet=>rfl
    |many m=>cases h1
    |gather m a=>cases h1
    |eldest=>exact qQ7 h2 ∎
    |rank b=>exact qQ7 h2 (show ¬(("rank":Str)="meet") by symm)
    |turns l=>exact qQ7 h2 (show ¬(("turns":Str)="meet") by symm)
   .refine aN (bR (VT.to (kH hr (bj oR) dC (dQ 0. aL h0) a_) ([bS]▸qQ0 h2)) bC) ?_;refine bA (cg (VE.to aL ?_));cases r with
    |meet=>exact qQ7 rfl h2
    |many m=>cases h1
    |gather m a=>cases h1
    |_=>rfl
end
theorem cF(e:Ent):kX e.form:=by cases e<;>(dsimp[Ent.form,kX];symm)
theorem sX(e:Ent):tF (aO e.form::e.rest) 0>>(.str e.form):=df rfl
def Ent.name:Ent->Str
 | .kind n _=>n
 | .gate n=>n
 | .line n _=>n
 | .desk d=>d.name
 | .time d _ _=>d
 | .hour d _ _=>d
 | .pace g _ _ _=>g
theorem IG(e:Ent):tF (aO e.form::e.rest) 1>>(.str e.name):=by cases e<;>exact df rfl
theorem II(h:ko e):dq e.name:=by
 cases e with
 |gate n=>exact h
 |_=>exact h.1
theorem dP{a b:Str}(h:a≠b):c9 (.str a) (.str b)=false:=[bS]▸qQ0 h
theorem iI(a:Str):c9 (.str a) (.str a)=true:=[bS]▸qQ1 rfl
section
variable{P:bx}{w:b_}{K:aj}{mg:Str->Option aA}{base:cI}{f:ay}{k:Nat}
abbrev EI:!Str:=["plant","entry"]
def VW(ds:!ai)(d:ai):Prop:=∃(p:Pl)(e:Ent),ds=[uy p,Gv e]/\j7 p/\ko e/\sk p e/\d=.bool false
def Gz:ai->Option ai:=λ_=>some (.bool false)
theorem zQ:∀l:!ai,l.filterMap Gz=(bp l.length false).map .bool
 | []=>rfl
 |d::l=>by rw[dB (f:=Gz) rfl,zQ l];rfl
theorem J7(n:Nat):Bl (bp n false)=false:=by rw[o4];intro z;let#[b,hb,h]:=lV.mp z;rw[(iQ.mp hb).2]at h;cases h
abbrev Ntt:!Str:=["plant","entry","form","name"]
theorem Rz:cw Ntt EI (bG (top 29)):=by grind
theorem zcj(F:kE K "tells_twice" "tells_twice" (top 29) f fd)(n:Np mg w.params K)(C1:bu P w K mg base 1 "is_place" N6 (gI K Rip))(C2:bu P w K mg base 1 "is_desk" N6 (gI K Rid))(C3:bu P w K mg base 1 "takers_of" Z0 (N3 K Rit)):dZ P w K mg base jL 2 f fd EI (gI K VW):=
 ji F Rz (by ext) λ_ _ h=>by
  let#[p,e,rfl,ok,oe,oa,rfl]:=h;intro gu A outer s H E hr;let nd:Ntt.Nodup:=Rz.nd;let UT:=(II oe).ok.2;let ofm:=cF e;refine aN (dY 2 (d:=.str e.form) (dQ 1. aL (sX e)) nd) ?_;refine aN (dY 3 (d:=.str e.name) (dQ 1. aL (IG e)) nd) ?_;cases e with
  |kind m k=>refine dD (dI (gv hr (bj (cF _)) 2 rfl (iI _)) (bA (cg (VE.to (Ck hr 3. (iF 0. (vv p))) ?_)))) rfl;rw[gP,qv];exact qQ6 gR (qQ0 oa)
  |gate m=>refine aN (bR (gv hr (bj (cF _)) 2 rfl (dP (show("gate":Str)≠"kind" by symm))) bC) ?_;exact dD (dI (VT.to (gE (k1:=true) (k2:=true) (gv hr (bj (cF _)) 2 rfl (iI _)) (λz=>by cases z)) rfl) (bA (cg (bQ C1 hr {0.,3.} #[p,m,rfl,ok,UT,by rw[qQ0 oa]])))) rfl
  |line m r=>refine aN (bR (gv hr (bj (cF _)) 2 rfl (dP (show("line":Str)≠"kind" by symm))) bC) ?_;exact dD (dI (VT.to (gE (k1:=false) (k2:=true) (gv hr (bj (cF _)) 2 rfl (dP (show("line":Str)≠"gate" by symm))) (λ_=>gv hr (bj (cF _)) 2 rfl (iI _))) rfl) (bA (cg (bQ C1 hr {0.,3.} #[p,m,rfl,ok,UT,by rw[qQ0 oa]])))) rfl
  |desk q=>
   refine aN (bR (gv hr (bj (cF _)) 2 rfl (dP (show("desk":Str)≠"kind" by symm))) bC) ?_;refine aN (bR (VT.to (gE (k1:=false) (k2:=false) (gv hr (bj (cF _)) 2 rfl (dP (show("desk":Str)≠"gate" by symm))) (λ_=>gv hr (bj (cF _)) 2 rfl (dP (show("desk":Str)≠"line" by symm)))) rfl) bC) ?_;let nc:(["place","plant"]:!Str).Nodup:=∎;let#[a1,a2,a3,a4]:=oa;let l6:=oe.2.2.2.2.1;refine dD (dI (gv hr (bj (cF _)) 2 rfl (iI _)) (bA (cg (VE.to (tR (bQ C2 hr {0.,3.} #[p,q.name,rfl,ok,UT,rfl]) (λ_=>gY (fX (L9 rfl) Xn (cY (VO.ve (VO.to (dX (own:=["place"]) (cap:=[0]) (N:=["place","plant"]) (tgt:=.one 0) (F:=Gz) (ds:=q.places.map .str) rfl #[rfl,∎,∎,rfl,rfl,?_] (yZ (dQ (d:=.tuple (q.places.map .str)) 1. aL (df (j:=4) rfl))) (λf s3 H3=>hX 0 nc) rfl
    (small (by rw[ae];omega)) (λd hd=>?_)) (zQ _))) c5) n.any rfl))) ?_)))) rfl
   .intro j hj;rcases ax.mp hj with rfl|hj
    .exact#[(by show(0:Nat)<4;decide),iL rfl,rfl]
    .cases hj
   .let#[z,hz,rfl]:=au.mp hd;exact Ci rfl rfl λf s3 H3=>VE.to (HV hr HS HS (VE.to (VO.ve (yq C3 hr {1.,0.} #[p,z,rfl,ok,(oe.2.2.2.2.2.2 z hz).ok.2,rfl])) (by rw[Gy (a2 z hz)];rfl)) (VO.ve (dO (ds:=[]) c5))) rfl
   .rw[qQ0 a1,J7];rfl
  |time d k wk=>refine aN (bR (gv hr (bj (cF _)) 2 rfl (dP (show("time":Str)≠"kind" by symm))) bC) ?_;refine aN (bR (VT.to (gE (k1:=false) (k2:=false) (gv hr (bj (cF _)) 2 rfl (dP (show("time":Str)≠"gate" by symm))) (λ_=>gv hr (bj (cF _)) 2 rfl (dP (show("time":Str)≠"line" by symm)))) rfl) bC) ?_;refine aN (bR (gv hr (bj (cF _)) 2 rfl (dP (show("time":Str)≠"desk" by symm))) bC) ?_;refine dD (dI (gv hr (bj (cF _)) 2 rfl (iI _)) (bA (cg (VE.to (Ph hr 3. (Au 1 2 rfl rfl) (iF 0. (EF p))) ?_)))) rfl;refine qQ6 gR ?_;rw[gP,C6];rw[o4];intro z;exact oa.1 (@of_decide_eq_true _ (_) z)
  |hour d a b=>refine aN (bR (gv hr (bj (cF _)) 2 rfl (dP (show("open":Str)≠"kind" by symm))) bC) ?_;refine aN (bR (VT.to (gE (k1:=false) (k2:=false) (gv hr (bj (cF _)) 2 rfl (dP (show("open":Str)≠"gate" by symm))) (λ_=>gv hr (bj (cF _)) 2 rfl (dP (show("open":Str)≠"line" by symm)))) rfl) bC) ?_;refine aN (bR (gv hr (bj (cF _)) 2 rfl (dP (show("open":Str)≠"desk" by symm))) bC) ?_;refine aN (bR (gv hr (bj (cF _)) 2 rfl (dP (show("open":Str)≠"time" by symm))) bC) ?_;exact bA (cg (VE.to (jC (k1:=false) (k2:=false) (VE.to (nH hr (bj (cF _)) dC 2. a_) (qQ6 gR (dP (show("open":Str)≠"pace" by symm)))) (λz=>by cases z)) rfl))
  |pace g k a b=>refine aN (bR (gv hr (bj (cF _)) 2 rfl (dP (show("pace":Str)≠"kind" by symm))) bC) ?_;refine aN (bR (VT.to (gE (k1:=false) (k2:=false) (gv hr (bj (cF _)) 2 rfl (dP (show("pace":Str)≠"gate" by symm))) (λ_=>gv hr (bj (cF _)) 2 rfl (dP (show("pace":Str)≠"line" by symm)))) rfl) bC) ?_;refine aN (bR (gv hr (bj (cF _)) 2 rfl (dP (show("pace":Str)≠"desk" by symm))) bC) ?_;refine aN (bR (gv hr (bj (cF _)) 2 rfl (dP (show("pace":Str)≠"time" by symm))) bC) ?_;refine bA (cg (VE.to (jC (k1:=true) (k2:=false) (VE.to (nH hr (bj (cF _)) dC 2. a_) (qQ6 gR (iI _))) (λ_=>gY (VE.to (Ck hr 3. (iF 0. (EG p))) ?_))) rfl));rw[gP,C5];exact qQ6 gR (qQ0 oa.1)
abbrev Nln:!Str:=["plant","entry","form","into_line"]
theorem RA:cw Nln EI (bG (top 30)):=by grind
theorem zck(F:kE K "lacks_name" "lacks_name" (top 30) f fd)(n:Np mg w.params K)(C1:bu P w K mg base 1 "is_place" N6 (gI K Rip))(C2:bu P w K mg base 1 "is_desk" N6 (gI K Rid)):dZ P w K mg base jL 2 f fd EI (gI K VW):=
 ji F RA (by ext) λ_ _ h=>by
  let#[p,e,rfl,ok,oe,oa,rfl]:=h;intro gu A outer s H E hr;let nd:Nln.Nodup:=RA.nd;let UT:=(II oe).ok.2;refine aN (dY 2 (d:=.str e.form) (dQ 1. aL (sX e)) nd) ?_;cases e with
  |desk q=>
   let#[a1,a2,a3,a4]:=oa;let nc:(["place","plant"]:!Str).Nodup:=∎;let Z1:kX q.to:=by
    rcases oe.2.1 with h|h
    .rw[h];show bX (.str ("":Str))=true;symm
    .exact h.ok.2
   let l6:=oe.2.2.2.2.1;refine dD (dI (gv hr (bj (cF _)) 2 rfl (iI _)) (aN (dY 3 (d:=.bool true) (VE.to (tR (nH hr (bj Z1) dC (Au 1 2 rfl rfl) a_) (λ_=>gY (Ck hr (Au 1 2 rfl rfl) (iF 0. (vw p))))) ?_) nd) (bA (cg (VE.to (tR (k1:=false) (k2:=false) (VE.to (vd 3.) rfl) (λ_=>gY (VE.to (vd (fX (jl rfl) rS (cY (VO.ve (VO.to (dX (own:=["place"]) (cap:=[0]) (N:=["place","plant"]) (tgt:=.one 0) (F:=Qb) (ds:=q.places.map .str) rfl #[rfl,∎,∎,rfl,rfl,?_] (yZ (dQ (d:=.tuple (q.places.map .str)) 1. aL (df (j:=4) rfl))) (λf s3 H3=>hX 0 nc) rfl
    (small (by rw[ae];omega)) (λd hd=>?_)) (oC _))) c5) n.all rfl)) (by rw[k_];rfl)))) rfl))))) rfl
   .rw[bS,gP,mZ]
    congr 1
    rcases a4 with h|⟨r,h,_⟩
    .rw[qQ1 h];rfl
    .let:(ik (iG p) q.to).isSome=true:=by rw[h];rfl
     rw[gP,mZ]at this;rw[this,Fh]
   .intro j hj;rcases ax.mp hj with rfl|hj
    .exact#[(by show(0:Nat)<4;decide),iL rfl,rfl]
    .cases hj
   .let#[z,hz,rfl]:=au.mp hd;exact Ci rfl rfl λf s3 H3=>bQ C1 hr {1.,0.} #[p,z,rfl,ok,(oe.2.2.2.2.2.2 z hz).ok.2,by rw[qQ1 (a3 z hz)]]
  |time d k wk=>refine aN (bR (gv hr (bj (cF _)) 2 rfl (dP (show("time":Str)≠"desk" by symm))) bC) ?_;refine dD (dI (gv hr (bj (cF _)) 2 rfl (iI _)) (bA (cg (VE.to (tR (k1:=false) (VE.to (vd (bQ C2 hr {0.,Au 1 1 rfl rfl} #[p,d,rfl,ok,UT,rfl])) (by rw[qQ1 oa.2.1];rfl)) (λ_=>gY (Bh hr (Au 1 2 rfl rfl) (iF 0. (vv p))))) ?_)))) rfl;rw[gP,qv,qQ1 oa.2.2];rfl
  |hour d a b=>refine aN (bR (gv hr (bj (cF _)) 2 rfl (dP (show("open":Str)≠"desk" by symm))) bC) ?_;refine aN (bR (gv hr (bj (cF _)) 2 rfl (dP (show("open":Str)≠"time" by symm))) bC) ?_;exact dD (dI (gv hr (bj (cF _)) 2 rfl (iI _)) (bA (cg (VE.to (vd (bQ C2 hr {0.,Au 1 1 rfl rfl} #[p,d,rfl,ok,UT,rfl])) (by rw[qQ1 (show qw p d from oa)];rfl))))) rfl
  |pace g k a b=>
   refine aN (bR (gv hr (bj (cF _)) 2 rfl (dP (show("pace":Str)≠"desk" by symm))) bC) ?_;refine aN (bR (gv hr (bj (cF _)) 2 rfl (dP (show("pace":Str)≠"time" by symm))) bC) ?_;refine aN (bR (gv hr (bj (cF _)) 2 rfl (dP (show("pace":Str)≠"open" by symm))) bC) ?_;let hg:kX g:=UT;let hz:=oe.2.1.ok.2;refine bA (cg (VE.to (jC (k1:=true) (k2:=false) (VE.to (nH hr (bj (cF _)) dC 2. a_) (qQ6 gR (iI _))) (λ_=>gY (VE.to (tR (k1:=false) (k2:=false) (VE.to (LN hr rfl (bj hg) (wF ok.gates) (Au 1 1 rfl rfl) (iF 0. (zN p))) ?_) (λ_=>gY (VE.to (Bh hr (Au 1 2 rfl rfl) (iF 0. (vv p))) ?_))) rfl))) rfl))
   .rw[nP,qQ1 oa.2.1];rfl
   .rw[gP,qv,qQ1 oa.2.2];rfl
  |_=>refine aN (bR (gv hr (bj (cF _)) 2 rfl (by rw[bS];dsimp only[Ent.form];exact qQ0 ∎)) bC) ?_;refine aN (bR (gv hr (bj (cF _)) 2 rfl (by rw[bS];dsimp only[Ent.form];exact qQ0 ∎)) bC) ?_;refine aN (bR (gv hr (bj (cF _)) 2 rfl (by rw[bS];dsimp only[Ent.form];exact qQ0 ∎)) bC) ?_;exact bA (cg (VE.to (jC (k1:=false) (k2:=false) (VE.to (nH hr (bj (cF _)) dC 2. a_) (by rw[bS];dsimp only[Ent.form];exact qQ6 gR (qQ0 ∎))) (λz=>by cases z)) rfl))
theorem UU:cw EI EI (bG (top 31)):=by grind
theorem Yz(F:kE K "lacks_room" "lacks_room" (top 31) f fd)(n:Np mg w.params K)(C1:bu P w K mg base 1 "greatest_load" ["rule","many"] (gI K ZX)):dZ P w K mg base jL 2 f fd EI (gI K VW):=
 ji F UU (by ext) λ_ _ h=>by
  let#[p,e,rfl,ok,oe,oa,rfl]:=h;intro gu A outer s H E hr;by_cases hd:∃q,e=.desk q
  .let#[q,rfl]:=hd;let#[a1,a2,a3,a4]:=oa;let Z1:kX q.to:=by
    rcases oe.2.1 with h|h
    .rw[h];show bX _=true;symm
    .exact h.ok.2
   by_cases ht:q.to=""
   .exact dD (dI (VT.to (gE (VT.to (mJ hr (bj (cF _)) dC (dQ 1. aL (sX _)) a_) (qQ6 (λb=>not b) (iI _))) (λ_=>VT.to (kH hr (bj Z1) dC (Au 1 2 rfl rfl) a_) ([bS]▸qQ1 ht))) rfl) (bA (cg Rb))) rfl
   .let#[r,h1,h2]:=a4.resolve_left ht;refine aN (bR (VT.to (gE (VT.to (mJ hr (bj (cF _)) dC (dQ 1. aL (sX _)) a_) (qQ6 (λb=>not b) (iI _))) (λ_=>VT.to (kH hr (bj Z1) dC (Au 1 2 rfl rfl) a_) ([bS]▸qQ0 ht))) rfl) bC) ?_;exact bA (cg (VE.to (W7 (bQ C1 hr {dQ 1. aL (df rfl),VE.to (lE (Au 1 4 rfl rfl) n.len) (by rw[ae])} #[q.rule,q.places.length,rfl,rfl]) (eV hr (iF 0. (vw p)) (Au 1 2 rfl rfl) h1)) (qQ6 gR (qQ0 ∅))))
  .let hf:e.form≠"desk":=by
    cases e with
    |desk q=>exact qQ7 #[q,rfl] hd
    |_=>dsimp only[Ent.form];symm
   exact dD (dI (VT.to (gE (k1:=true) (k2:=true) (VT.to (mJ hr (bj (cF e)) dC (dQ 1. aL (sX _)) a_) (by rw[bS,qQ0 hf];rfl)) (λz=>by cases z)) rfl) (bA (cg Rb))) rfl
theorem YB:cw EI EI (bG (top 28)):=by grind
def Rfo(ds:!ai)(d:ai):Prop:=∃(p:Pl)(e:Ent),ds=[uy p,Gv e]/\j7 p/\ko e/\sk p e/\d=.str ""
theorem zcl(F:kE K "fault_of" "fault_of" (top 28) f fd)(C1:bu P w K mg base 2 "tells_twice" EI (gI K VW))(C2:bu P w K mg base 2 "lacks_name" EI (gI K VW))(C3:bu P w K mg base 2 "lacks_room" EI (gI K VW)):dZ P w K mg base jL 3 f fd EI (gI K Rfo):=
 ji F YB (by ext) λ_ _ h=>by let#[p,e,rfl,ok,oe,oa,rfl]:=h;intro gu A outer s H E hr;refine aN (bR (VT.to (gX jX nM 1. ia (f7 _)) rfl) bC) ?_;refine aN (bR (eS (bQ C1 hr {0.,1.} #[p,e,rfl,ok,oe,oa,rfl]) rfl) bC) ?_;refine aN (bR (eS (bQ C2 hr {0.,1.} #[p,e,rfl,ok,oe,oa,rfl]) rfl) bC) ?_;exact aN (bR (eS (bQ C3 hr {0.,1.} #[p,e,rfl,ok,oe,oa,rfl]) rfl) bC) (bA (cg a_))
end
def Qm:Option Int->V
 |none=>.non
 |some i=>.int i
theorem M9(o:Option Int):Rep K H (Qm o) (og o):=by
 cases o with
 |none=>exact .non
 |some i=>exact .int i
theorem Rep.Qn{v:V}{o:Option Int}(r:Rep K H v (og o)):v=Qm o:=by
 cases o with
 |none=>cases r;rfl
 |some i=>cases r;rfl
def uz(p:Pl):!(Key×V):=p.kinds.map λq=>(bf q.1,Qm q.2)
def uA(p:Pl):!(Key×V):=p.lines.map λq=>(bf q.1,V.int q.2)
def uB(p:Pl):!(!Key×V):=p.times.map λq=>(lM (q.1,q.2.1),V.int q.2.2)
def eT(h:!(Str×!(Int×Int)))(cs:!ay):!(Key×V):=(h.zip cs).map λz=>(bf z.1.1,V.ref z.2)
def jD(l:!(Str×Str×Int×Int))(xp:!V):!(Key×V):=(l.zip xp).map λz=>(bf z.1.1,z.2)
abbrev Qo:!Str:=["kinds","gates","lines","desks","times","hours","paces"]
def M_(ak ag al ad at_ ah ap:ay):!(Str×V):=[("kinds",.ref ak),("gates",.ref ag),("lines",.ref al),("desks",.ref ad),("times",.ref at_),("hours",.ref ah),("paces",.ref ap)]
structure PlW(K:aj)(p:ay)(st:Pl)(H0 H:Hp)(C dx ak ag al ad at_ ah ap:ay)(cs:!ay)(xd xp:!V):Prop where
 ins:H p>>(.ins C dx (M_ ak ag al ad at_ ah ap))
 cls:yK K C
 qx:∀f∈Qo,gG K C f
 ki:H ak>>(.dK (uz st))
 ga:H ag>>(.lst (st.gates.map V.str))
 li:H al>>(.dK (uA st))
 de:H ad>>(.lst xd)
 dr:bU K H0 xd (st.desks.map gO)
 ti:H at_>>(.dT (uB st))
 ho:H ah>>(.dK (eT (dG st.hours) cs))
 hl:cs.length=(dG st.hours).length
 pa:H ap>>(.dK (jD st.paces xp))/\bU K H0 xp (st.paces.map EE)
 ce:∀(i:Nat)c q,cs[i]?>>c->(dG st.hours)[i]?>>q->∃xs,H c>>(.lst xs)/\bU K H0 xs (q.2.map pairD)
def x6(K:aj)(p:ay)(st:Pl):OR:=λH0 H as=>∃C dx ak ag al ad at_ ah ap cs xd xp,as=p::ak::ag::al::ad::at_::ah::ap::cs/\as.Nodup/\PlW K p st H0 H C dx ak ag al ad at_ ah ap cs xd xp
theorem x6.mono{st:Pl}:bL (x6 K p st):=by
 rintro H0 H Ha Hb as ⟨C,dx,ak,ag,al,ad,at_,ah,ap,cs,xd,xp,rfl,nd,W⟩ s e;refine#[C,dx,ak,ag,al,ad,at_,ah,ap,cs,xd,xp,rfl,nd,?_];exact#[[e p (by simp)]▸W.ins,W.cls,W.qx,[e ak (by simp)]▸W.ki,[e ag (by simp)]▸W.ga,[e al (by simp)]▸W.li,[e ad (by simp)]▸W.de,W.dr.mono s,[e at_ (by simp)]▸W.ti,[e ah (by simp)]▸W.ho,W.hl,[e ap (by simp)]▸#[W.pa.1,W.pa.2.mono s],λi c q e1 e2=>by let#[xs,h1,h2]:=W.ce i c q e1 e2;refine#[xs,?_,h2.mono s];rw[e c (by simp[aP e1])];exact h1]
theorem vy{α:Type}{f:α->V}{g:α->ai}:∀{l:!α},(∀x∈l,Rep K H (f x) (g x))->bU K H (l.map f) (l.map g)
 | [],_=>.nil
 |x::l,h=>.cons (h x aJ) (vy λy hy=>h y (aM _ hy))
theorem EJ{α:Type}{g:α->ai}:∀{l:!α}{cs:!ay},cs.length=l.length->(∀(i:Nat)c q,cs[i]?>>c->l[i]?>>q->Rep K H (.ref c) (g q))->bU K H (cs.map V.ref) (l.map g)
 | [],[],_,_=>.nil
 | [],_::_,h,_=>by cases h
 |_::_,[],h,_=>by cases h
 |q::l,c::cs,h,k=>.cons (k 0 c q rfl rfl) (EJ ↑h λi c' q' e1 e2=>k (i+1) c' q' ↑e1 ↑e2)
theorem su:∀{h:!(Str×!(Int×Int))}{cs:!ay},cs.length=h.length->(eT h cs).map (·.1)=h.map λq=>(bf q.1:Key)
 | [],[],_=>rfl
 | [],_::_,e=>by cases e
 |_::_,[],e=>by cases e
 |q::h,c::cs,e=>by let:=su ↑e;unfold eT at this ⊢;rw[eM,aq,aq,this];rfl
theorem xE:∀{h:!(Str×!(Int×Int))}{cs:!ay},cs.length=h.length->(eT h cs).map (·.2)=cs.map V.ref
 | [],[],_=>rfl
 | [],_::_,e=>by cases e
 |_::_,[],e=>by cases e
 |q::h,c::cs,e=>by let:=xE ↑e;unfold eT at this ⊢;rw[eM,aq,aq,this];rfl
theorem sv:∀{h:!(Str×Str×Int×Int)}{xp:!V},xp.length=h.length->(jD h xp).map (·.1)=h.map λq=>(bf q.1:Key)
 | [],[],_=>rfl
 | [],_::_,e=>by cases e
 |_::_,[],e=>by cases e
 |q::h,c::cs,e=>by let:=sv (h:=h) (xp:=cs) ↑e;unfold jD at this ⊢;rw[eM,aq,aq,this];rfl
theorem xF:∀{h:!(Str×Str×Int×Int)}{xp:!V},xp.length=h.length->(jD h xp).map (·.2)=xp
 | [],[],_=>rfl
 | [],_::_,e=>by cases e
 |_::_,[],e=>by cases e
 |q::h,c::cs,e=>by let:=xF (h:=h) (xp:=cs) ↑e;unfold jD at this ⊢;rw[eM,aq,aq,this]
theorem GA{h:!(Str×Str×Int×Int)}{xp:!V}(e:xp.length=h.length)(q:Str×Str×Int×Int)(v:V):jD (h ++ [q]) (xp ++ [v])=jD h xp ++ [(bf q.1,v)]:=by unfold jD;rw[Af ∅,aQ];rfl
theorem x6.rep{st:Pl}(Ha Hb:Hp)(as:!ay)(sb:cz Ha Hb)(h:x6 K p st Ha Hb as):Rep K (kS as Hb Ha) (.ref p) (uy st):=by
 let#[C,dx,ak,ag,al,ad,at_,ah,ap,cs,xd,xp,rfl,nd,W]:=h;let sm:=jO (as:=p::ak::ag::al::ad::at_::ah::ap::cs) sb;generalize hM:kS (p::ak::ag::al::ad::at_::ah::ap::cs) Hb Ha=M at *;let mm:∀a∈p::ak::ag::al::ad::at_::ah::ap::cs,M a=Hb a:=λa ha=>[<-hM]▸iU ha;refine Rep.obj (fs:=M_ ak ag al ad at_ ah ap) ([mm p (by simp)]▸W.ins) W.cls W.qx rfl ?_;refine .cons ?_ (.cons ?_ (.cons ?_ (.cons ?_ (.cons ?_ (.cons ?_ (.cons ?_ .nil))))))
 .refine .dct ([mm ak (by simp)]▸W.ki) ?_ ?_
  .unfold jB uz;simp only[aG];rfl
  .unfold jB uz;simp only[aG];exact vy λq _=>M9 q.2
 .exact .lst (jb.of ([mm ag (by simp)]▸W.ga)) (wu _)
 .refine .dct ([mm al (by simp)]▸W.li) ?_ ?_
  .unfold iG uA;simp only[aG];rfl
  .unfold iG uA;simp only[aG];exact vy λq _=>.int q.2
 .exact .lst (jb.of ([mm ad (by simp)]▸W.de)) (W.dr.mono sm)
 .refine .O4 ([mm at_ (by simp)]▸W.ti) ?_ ?_
  .unfold kM uB;simp only[aG];rfl
  .unfold kM uB;simp only[aG];exact vy λq _=>.int q.2.2
 .refine .dct ([mm ah (by simp)]▸W.ho) ?_ ?_
  .let:=su W.hl;let e:(eT (dG st.hours) cs).map (λq=>mN q.1)=((eT (dG st.hours) cs).map (·.1)).map mN:=by rw[aG];rfl
   rw[e,this];unfold lH;simp only[aG];rfl
  .rw[xE W.hl];let e:((lH st).map λq=>(aO q.1,q.2)).map (·.2)=(dG st.hours).map λq=>oM (q.2.map pairD):=by unfold lH;simp only[aG];rfl
   rw[e];exact EJ W.hl λi c q e1 e2=>by let#[xs,h1,h2]:=W.ce i c q e1 e2;exact .lst (jb.of ([mm c (by simp[aP e1])]▸h1)) (h2.mono sm)
 .let hl:xp.length=st.paces.length:=by let:=W.pa.2.length;rw[ae]at this;exact this
  refine .dct ([mm ap (by simp)]▸W.pa.1) ?_ ?_
  .let:=sv hl;let e:(jD st.paces xp).map (λq=>mN q.1)=((jD st.paces xp).map (·.1)).map mN:=by rw[aG];rfl
   rw[e,this];unfold iH;simp only[aG];rfl
  .rw[xF hl];let e:((iH st).map λq=>(aO q.1,q.2)).map (·.2)=st.paces.map EE:=by unfold iH;simp only[aG];rfl
   rw[e];exact W.pa.2.mono sm
structure YC(H H1:Hp)(p C dx:ay)(fs:!(Str×V))(os:!(ay×HO)):Prop where
 ins:H1 p>>(.ins C dx fs)
 ob:∀q∈os,H1 q.1>>q.2
 nd:(p::os.map (·.1)).Nodup
 fresh:∀q∈os,H q.1=none
 old:∀b o,H b>>o->b≠p->H1 b>>o
theorem YC.step{H1: Hp}{C dx d: ay}{fs fs':!(Str×V)}{os:!(ay×HO)}{o:HO}(m:YC H H1 p C dx fs os)(hd:H1 d=none):YC H (upd (upd H1 d o) p (.ins C dx fs')) p C dx fs' (os ++ [(d,o)]):=by
 let Z2:d≠p:=λz=>by subst z;rw[m.ins]at hd;cases hd
 let NZ:d∉os.map (·.1):=λz=>by let#[q,hq,rfl]:=au.mp z;rw[m.ob q hq]at hd;cases hd
 refine#[aT,λq hq=>?_,?_,λq hq=>?_,λb o' e hb=>?_]
 .rcases aV.mp hq with hq|hq
  .let h1:q.1≠p:=λz=>((cx.mp m.nd).1) ([<-z]▸au.mpr #[q,hq,rfl]);let h2:q.1≠d:=λz=>NZ ([<-z]▸au.mpr #[q,hq,rfl]);rw[aI h1,aI h2];exact m.ob q hq
  .rw[aF.mp hq,aI Z2];exact aT
 .rw[aQ,<-List.cons_append,cJ];refine#[m.nd,by simp,λx hx y hy=>?_];rw[fD,aF]at hy;subst hy;rcases ax.mp hx with rfl|hx
  .exact bF Z2
  .exact λz=>NZ ([<-z]▸hx)
 .rcases aV.mp hq with hq|hq
  .exact m.fresh q hq
  .rw[aF.mp hq];cases e:H d with
   |none=>rfl
   |some o'=>have:=m.old d o' e Z2;rw[hd]at this;cases this
 .let h2:b≠d:=λz=>by subst z;let:=m.old b o' e hb;rw[hd]at this;cases this
  rw[aI hb,aI h2];exact m.old b o' e hb
theorem lU{f:Str}{v:V}:∀{fs:!(Str×V)},f∉fs.map (·.1)->qV f v fs=fs ++ [(f,v)]
 | [],_=>rfl
 |(g,x)::fs,h=>by show(if g=f then(g,v)::fs else(g,x)::qV f v fs)=_;rw[qQ2 (λz=>h (by rw[z];simp)),lU λz=>h (by simp[z])];rfl
abbrev Bx:eO:=inClass (top 19) 0
def Nb(C:ay):Sp:=λvs H Q _=>∃p dx,vs=[.ref p]/\H p>>(.ins C dx [])/\∀ak ag al ad at_ ah ap H',YC H H' p C dx (M_ ak ag al ad at_ ah ap) [(ak,.dK []),(ag,.lst []),(al,.dK []),(ad,.lst []),(at_,.dT []),(ah,.dK []),(ap,.dK [])]->Q .non H'
section
variable{P:bx}{w:b_}{K:aj}{mg:Str->Option aA}{base:cI}{f:ay}{k:Nat}
theorem YD:cw ["self"] ["self"] (bG Bx):=by grind
theorem zcm{C:ay}(F:kE K "__init__" "Plant.__init__" Bx f fd)(cl:yK K C)(na:∀f∈Qo,gG K C f):dZ P w K mg base jL 1 f fd ["self"] (Nb C):=by
 refine F.ok YD (λvs H Q E h=>?_) (λgu A outer s H vs Q E hr h=>?_)
 .let#[p,dx,rfl,_]:=h;rfl
 .let#[p,dx,rfl,hp,q]:=h;refine#[_,kC (ud (pv 0) o9 rfl) (kC (ud (pv 0) (vZ dF) rfl) (kC (ud (pv 0) o9 rfl) (kC (ud (pv 0) (vZ dF) rfl) (kC (ud (pv 0) yR rfl) (kC (ud (pv 0) o9 rfl) (BX (ud (pv 0) o9 rfl))))))),?_];let m0:YC H H p C dx [] []:=#[hp,λq hq=>(by cases hq),by simp,λq hq=>(by cases hq),λb o e _=>e];intro ak hak;let p1:(upd H ak (.dK [])) p>>(.ins C dx []):=[aI (bB hp hak)]▸hp;refine#[_,rfl,p,C,dx,_,rfl,p1,cl,na _ ∎,⋯,?_];let m1:=m0.step (o:=.dK []) (fs':=[(("kinds":Str),V.ref ak)]) hak;rw[lU (show("kinds":Str)∉([]:!Str) by symm)];refine#[aW _,λag hag=>?_];refine#[_,rfl,p,C,dx,_,rfl,[aI (bB m1.ins hag)]▸m1.ins,cl,na _ ∎,by show 1<1000;decide,?_];let m2:=m1.step (o:=.lst []) (fs':=[(("kinds":Str),V.ref ak),("gates",V.ref ag)]) hag;rw[lU (show("gates":Str)∉(["kinds"]:!Str) by symm)];intro al hal;refine#[_,rfl,p,C,dx,_,rfl,[aI (bB m2.ins hal)]▸m2.ins,cl,na _ ∎,by show 2<1000;decide,?_];let m3:=m2.step (o:=.dK []) (fs':=[(("kinds":Str),V.ref ak),("gates",V.ref ag),("lines",V.ref al)]) hal;rw[lU (show("lines":Str)∉(["kinds","gates"]:!Str) by symm)];refine#[aW _,λad had=>?_];refine#[_,rfl,p,C,dx,_,rfl,[aI (bB m3.ins had)]▸m3.ins,cl,na _ ∎,by show 3<1000;decide,?_];let m4:=m3.step (o:=.lst []) (fs':=[(("kinds":Str),V.ref ak),("gates",V.ref ag),("lines",V.ref al),("desks",V.ref ad)]) had;rw[lU (show("desks":Str)∉(["kinds","gates","lines"]:!Str) by symm)];intro at_ ZL;refine#[_,rfl,p,C,dx,_,rfl,[aI (bB m4.ins ZL)]▸m4.ins,cl,na _ ∎,by show 4<1000;decide,?_];let m5:=m4.step (o:=.dT []) (fs':=[(("kinds":Str),V.ref ak),("gates",V.ref ag),("lines",V.ref al),("desks",V.ref ad),("times",V.ref at_)]) ZL;rw[lU (show("times":Str)∉(["kinds","gates","lines","desks"]:!Str) by symm)];intro ah hah;refine#[_,rfl,p,C,dx,_,rfl,[aI (bB m5.ins hah)]▸m5.ins,cl,na _ ∎,by show 5<1000;decide,?_];let m6:=m5.step (o:=.dK []) (fs':=[(("kinds":Str),V.ref ak),("gates",V.ref ag),("lines",V.ref al),("desks",V.ref ad),("times",V.ref at_),("hours",V.ref ah)]) hah;rw[lU (show("hours":Str)∉(["kinds","gates","lines","desks","times"]:!Str) by symm)];intro ap Ub;refine#[_,rfl,p,C,dx,_,rfl,[aI (bB m6.ins Ub)]▸m6.ins,cl,na _ ∎,by show 6<1000;decide,?_];let m7:=m6.step (o:=.dK []) (fs':=[(("kinds":Str),V.ref ak),("gates",V.ref ag),("lines",V.ref al),("desks",V.ref ad),("times",V.ref at_),("hours",V.ref ah),("paces",V.ref ap)]) Ub;rw[lU (show("paces":Str)∉(["kinds","gates","lines","desks","times","hours"]:!Str) by symm)];exact q ak ag al ad at_ ah ap _ m7
end
def gQ(p:Pl):Ent->Pl
 | .kind n k=>{ p with kinds:=p.kinds ++ [(n,k)] }
 | .gate n=>{ p with gates:=p.gates ++ [n] }
 | .line n r=>{ p with lines:=p.lines ++ [(n,r)] }
 | .desk d=>{ p with desks:=p.desks ++ [d] }
 | .time d k w=>{ p with times:=p.times ++ [(d,k,w)] }
 | .hour d a b=>{ p with hours:=p.hours ++ [(d,a,b)] }
 | .pace g k a b=>{ p with paces:=p.paces ++ [(g,k,a,b)] }
def RB(st:Pl)(d:ai)(uW:Pl):Prop:=∃e,d=Gv e/\j7 st/\ko e/\sk st e/\uW=gQ st e
theorem sx{κ:Type}[DecidableEq κ]:∀{kvs:!(κ×V)}{k:κ},(∀q∈kvs,q.1≠k)->gW kvs k=none
 | [],_,_=>rfl
 |q::l,k,h=>by rw[h8 (h q aJ)];exact sx λx hx=>h x (aM _ hx)
theorem zR(z:Int×Int)(n:Str):∀{h:!(Str×!(Int×Int))}{cs:!ay},cs.length=h.length->
  (gW (eT h cs) (bf n)=none/\nQ h n z=h ++ [(n,[z])])\/∃i c q,h[i]?>>q/\cs[i]?>>c/\gW (eT h cs) (bf n)>>(.ref c)/\nQ h n z=h.set i (q.1,q.2 ++ [z])
 | [],[],_=>.inl #[rfl,rfl]
 | [],_::_,e=>by cases e
 |_::_,[],e=>by cases e
 |q::h,c::cs,e=>by
  let hv:eT (q::h) (c::cs)=(bf q.1,V.ref c)::eT h cs:=rfl;by_cases hn:q.1=n
  .refine .inr #[0,c,q,rfl,rfl,?_,?_]
   .exact kF (by show(bf q.1)=bf n;rw[hn])
   .show(if q.1=n then(q.1,q.2 ++ [z])::h else q::nQ h n z)=_;rw[qQ3 hn];rfl
  .let ne:¬(bf q.1:Key)=bf n:=λw=>hn (by injection w);let ea:nQ (q::h) n z=q::nQ h n z:=by show(if q.1=n then(q.1,q.2 ++ [z])::h else q::nQ h n z)=_;rw[qQ2 hn]
   rcases zR z n ↑e with⟨h1,h2⟩|⟨i,c',q',h1,h2,h3,h4⟩
   .exact .inl #[[hv,h8 ne]▸h1,by rw[ea,h2];rfl]
   .exact .inr #[i+1,c',q',by simpa using h1,by simpa using h2,[hv,h8 ne]▸h3,by rw[ea,h4];rfl]
theorem xG:∀{h h':!(Str×!(Int×Int))}{cs:!ay},h'.map (·.1)=h.map (·.1)->eT h' cs=eT h cs
 | [],[],_,_=>rfl
 | [],_::_,_,e=>by cases e
 |_::_,[],_,e=>by cases e
 |q::h,q'::h',cs,e=>by
  let#[e1,e2]:=iK e;cases cs with
  |nil=>rfl
  |cons c cs=>show(bf q'.1,V.ref c)::eT h' cs=(bf q.1,V.ref c)::eT h cs;rw[show q'.1=q.1 from e1,xG e2]
theorem GB{h:!(Str×!(Int×Int))}{cs:!ay}(e:cs.length=h.length)(q:Str×!(Int×Int))(c:ay):eT (h ++ [q]) (cs ++ [c])=eT h cs ++ [(bf q.1,V.ref c)]:=by unfold eT;rw[Af ∅,aQ];rfl
theorem GC(l:!(Str×Int×Int))(q:Str×Int×Int):dG (l ++ [q])=nQ (dG l) q.1 q.2:=by unfold dG;rw[eC];rfl
theorem EK(z:Int×Int)(n:Str):∀h,(nQ h n z).length<=h.length+1
 | []=>aE _
 |q::h=>by
  show(if q.1=n then(q.1,q.2 ++ [z])::h else q::nQ h n z).length<=_;split
  .simp
  .let:=EK z n h;simp;omega
theorem zS(l:!(Str×Int×Int)):(dG l).length<=l.length:=by
 let go:∀(l:!(Str×Int×Int))(acc:!(Str×!(Int×Int))),(l.foldl (λacc q=>nQ acc q.1 q.2) acc).length<=acc.length+l.length:=by
  intro l;induction l with
  |nil=>intro acc;exact aE _
  |cons q l ih=>intro acc;let h1:=ih (nQ acc q.1 q.2);let h2:=EK q.2 q.1 acc;rw[fk,bH];omega
 let:=go l [];rwa[cR,rh]at this
theorem zT(z:Int×Int)(n:Str):∀(h:!(Str×!(Int×Int)))(b:Nat),(∀q∈h,q.2.length<=b)->∀q∈nQ h n z,q.2.length<=b+1
 | [],b,_,q,hq=>by rw[aF.mp hq];simp
 |p::h,b,hb,q,hq=>by
  let hq:q∈(if p.1=n then(p.1,p.2 ++ [z])::h else p::nQ h n z):=hq;split at hq
  .rcases ax.mp hq with rfl|hq
   .let:=hb p aJ;simp;omega
   .let:=hb q (aM _ hq);omega
  .rcases ax.mp hq with rfl|hq
   .let:=hb q aJ;omega
   .exact zT z n h b (λx hx=>hb x (aM _ hx)) q hq
theorem xH(l:!(Str×Int×Int)):∀q∈dG l,q.2.length<=l.length:=by
 let go:∀(l:!(Str×Int×Int))(acc:!(Str×!(Int×Int)))(b:Nat),(∀q∈acc,q.2.length<=b)->∀q∈l.foldl (λacc q=>nQ acc q.1 q.2) acc,q.2.length<=b+l.length:=by
  intro l;induction l with
  |nil=>intro acc b hb q hq;exact hb q hq
  |cons q0 l ih=>intro acc b hb q hq;let:=ih _ (b+1) (zT q0.2 q0.1 acc b hb) q hq;rw[bH];omega
 intro q hq;let:=go l [] 0 (λq hq=>by cases hq) q hq;omega
section
variable{P:bx}{w:b_}{K:aj}{mg:Str->Option aA}{base:cI}{f:ay}{k:Nat}
abbrev Nae:!Str:=["plant","entry","form","name"]
theorem RC:cw Nae EI (bG (top 35)):=by grind
theorem YF{ak ag al ad at_ ah ap:ay}:(M_ ak ag al ad at_ ah ap).lookup ("kinds":Str)>>(.ref ak)/\(M_ ak ag al ad at_ ah ap).lookup ("gates":Str)>>(.ref ag)/\(M_ ak ag al ad at_ ah ap).lookup ("lines":Str)>>(.ref al)/\(M_ ak ag al ad at_ ah ap).lookup ("desks":Str)>>(.ref ad)/\(M_ ak ag al ad at_ ah ap).lookup ("times":Str)>>(.ref at_)/\(M_ ak ag al ad at_ ah ap).lookup ("hours":Str)>>(.ref ah)/\(M_ ak ag al ad at_ ah ap).lookup ("paces":Str)>>(.ref ap):=#[rfl,rfl,rfl,rfl,rfl,rfl,rfl]
theorem zco(F:kE K "add_entry" "add_entry" (top 35) f fd):dZ P w K mg base jL 1 f fd EI (Ma K Pl (x6 K) RB):=by
 refine F.ok RC (λvs H Q E h=>?_) (λgu A outer s H vs Q E hr h=>?_)
 .let#[_,_,_,_,_,_,_,rfl,_]:=h;rfl
 .let#[H0,p,v,as,st,uW,d,rfl,sm,rv,own,W0,#[e,rfl,ok,oe,oa,rfl],q]:=h;refine#[_,kG,?_];let nd:Nae.Nodup:=RC.nd;let f0:fQ K H0 H H0 H (start Nae [.ref p,v]) [.ref p,.val (Gv e),.un,.un]:=by
   refine#[.refl sm,rfl,λi sl hi=>?_,λi j a b p' _ h1=>?_]
   .match i,hi with
    |0,hi=>cases hi;exact rfl
    |1,hi=>cases hi;exact#[v,rfl,rv]
    |2,hi=>cases hi;exact trivial
    |3,hi=>cases hi;exact trivial
    |i+4,hi=>simp at hi
   .match i,h1 with
    |0,h1=>cases h1
    |1,h1=>cases h1
    |2,h1=>cases h1
    |3,h1=>cases h1
    |i+4,h1=>simp at h1
  refine bN (Xv f0 (dY 2 (d:=.str e.form) (dQ 1. aL (sX e)) nd) λσ1 H1 cW s1 f1=>?_);refine bN (Xv f1 (dY 3 (d:=.str e.name) (dQ 1. aL (IG e)) nd) λσ2 H2 fG s2 f2=>?_);let W2:=x6.mono _ _ _ _ _ W0 f2.ent.eD (λa ha=>f2.ent.big.eq (own a ha).2);let#[C,dx,ak,ag,al,ad,at_,ah,ap,cs,xd,xp,rfl,N7,W]:=W2;let o2:∀a∈p::ak::ag::al::ad::at_::ah::ap::cs,∃o,H a>>o/\H0 a=none:=λa ha=>by
   let#[z1,z2]:=own a ha;cases e:H a with
   |none=>exact qQ7 e z2
   |some o=>exact#[o,rfl,z1]
  let YG:=N7;simp only[cx,ax,not_or]at YG;let#[#[pk,pg,pl,pd,pt,ph,pp,pc],#[kg,kl,kd,kt,kh,kp,kc],#[gl,gd,gt,gh,gp,gc],#[ld,lt,lh,lp,lc],#[dt,dh,dp,dc],#[th,tp,tc],#[hp,hc],apc,YH]:=YG;let fin:∀(Ha Hb:Hp)(a:ay)(o:HO),dm H0 H Ha Hb->a∈p::ak::ag::al::ad::at_::ah::ap::cs->(∀xd',xd'=xd->x6 K p (gQ st e) Ha (upd Hb a o) (p::ak::ag::al::ad::at_::ah::ap::cs))->Q .non (upd Hb a o):=λHa Hb a o g ha hW=>by
   let fr:∀b∈p::ak::ag::al::ad::at_::ah::ap::cs,Ha b=none/\Hb b≠none:=λb hb=>by let#[ob,e1,e2]:=o2 b hb;exact#[g.still e2 e1,by rw[g.big _ _ e1];simp]
   refine q Ha (upd Hb a o) _ g.eD (λb u e=>?_) g.new (λb hb=>#[(fr b hb).1,?_,.inl hb]) (λb u e hb=>?_) (hW xd rfl)
   .rw[aI (bB e (fr a ha).1)];exact g.sub b u e
   .by_cases hba:b=a
    .subst hba;rw[aT];simp
    .rw[aI hba];exact(fr b hb).2
   .rw[aI (λz=>hb ([z]▸ha))];exact g.big b u e
  let Wg:∀Ha Hb,dm H2 fG Ha Hb->PlW K p st Ha Hb C dx ak ag al ad at_ ah ap cs xd xp:=λHa Hb g=>by
   let M:=x6.mono (K:=K) (p:=p) (st:=st) H2 fG Ha Hb (p::ak::ag::al::ad::at_::ah::ap::cs) #[C,dx,ak,ag,al,ad,at_,ah,ap,cs,xd,xp,rfl,N7,W] g.eD (λa ha=>by
    let#[o,e1,_]:=o2 a ha;exact g.big.eq (by rw[f2.ent.big _ _ e1];simp));exact#[g.big _ _ W.ins,W.cls,W.qx,g.big _ _ W.ki,g.big _ _ W.ga,g.big _ _ W.li,g.big _ _ W.de,W.dr.mono g.eD,g.big _ _ W.ti,g.big _ _ W.ho,W.hl,#[g.big _ _ W.pa.1,W.pa.2.mono g.eD],λi c q e1 e2=>by
    let#[xs,h1,h2]:=W.ce i c q e1 e2;exact#[xs,g.big _ _ h1,h2.mono g.eD]]
  let#[lk1,lk2,lk3,lk4,lk5,lk6,lk7]:=YF (ak:=ak) (ag:=ag) (al:=al) (ad:=ad) (at_:=at_) (ah:=ah) (ap:=ap);let lf:=bj (n:=20) (cF e);cases e with
  |kind m kk=>
   refine bW (Bm f2 (gv hr lf 2 rfl (iI _)) λHa Hb g=>?_);let Wa:=Wg Ha Hb g;let hz:(uz st).length<sizeLine:=fh (by unfold uz;rw[ae];let:=ok.kn;omega);refine bW (Md (f2.grow g) hr 0 rfl Wa.ins Wa.cls (Wa.qx _ ∎) lk1 Wa.ki 3. (Au 1 2 rfl rfl) hz λv Hc Hd g2 r=>?_);let Wd:=Wg Hc Hd (g.trans g2);let hv:=Rep.Qn r;subst hv;refine fin Hc Hd ak _ (f2.ent.trans (g.trans g2)) (by simp) λ_ _=>#[C,dx,ak,ag,al,ad,at_,ah,ap,cs,xd,xp,rfl,N7,?_];let hn:gW (uz st) (bf m)=none:=sx λq' FP=>by
    let#[q0,h0,rfl]:=au.mp FP;intro z;injection z with z
    exact oa ([<-z]▸au.mpr #[q0,h0,rfl])
   refine#[[aI pk]▸Wd.ins,Wd.cls,Wd.qx,?_,[aI (bF kg)]▸Wd.ga,[aI (bF kl)]▸Wd.li,[aI (bF kd)]▸Wd.de,Wd.dr,[aI (bF kt)]▸Wd.ti,[aI (bF kh)]▸Wd.ho,Wd.hl,[aI (bF kp)]▸Wd.pa,λi c q' e1 e2=>?_]
   .rw[aT];show some (HO.dK (putK (uz st) (bf m) (Qm kk)))>>(.dK ((st.kinds ++ [(m,kk)]).map _));rw[o7 _ hn,aQ];rfl
   .let#[xs,h1,h2]:=Wd.ce i c q' e1 e2;exact#[xs,by rw[aI (λz=>kc ([<-z]▸aP e1))];exact h1,h2]
  |gate m=>
   refine bW (jP f2 (gv hr lf 2 rfl (dP (show("gate":Str)≠"kind" by symm))) λQp Qq g1=>?_);let EL:=f2.grow g1;let Nc:=g1;refine bW (Bm EL (gv hr lf 2 rfl (iI _)) λKH KJ g2=>?_);let Fp:=EL.grow g2;let J8:=Nc.trans g2;let Wa:=Wg KH KJ J8;let hz:(st.gates.map V.str).length<sizeLine:=fh (by rw[ae];let:=ok.gn;omega);refine bW (zo Fp 0 rfl Wa.ins Wa.cls (Wa.qx _ ∎) lk2 Wa.ga 3. hz λv Hc Hd g9 r=>?_);let Wd:=Wg Hc Hd (J8.trans g9);cases r;refine fin Hc Hd ag _ (f2.ent.trans (J8.trans g9)) (by simp) λ_ _=>#[C,dx,ak,ag,al,ad,at_,ah,ap,cs,xd,xp,rfl,N7,?_];refine#[[aI (pg)]▸Wd.ins,Wd.cls,Wd.qx,[aI (kg)]▸Wd.ki,?_,[aI (bF gl)]▸Wd.li,[aI (bF gd)]▸Wd.de,Wd.dr,[aI (bF gt)]▸Wd.ti,[aI (bF gh)]▸Wd.ho,Wd.hl,[aI (bF gp)]▸Wd.pa,λi c q' e1 e2=>?_]
   .rw[aT];show some (HO.lst (st.gates.map V.str ++ [V.str m]))>>(.lst ((st.gates ++ [m]).map V.str));rw[aQ];rfl
   .let#[xs,h1,h2]:=Wd.ce i c q' e1 e2;exact#[xs,by rw[aI (λz=>gc ([<-z]▸aP e1))];exact h1,h2]
  |line m rr=>
   refine bW (jP f2 (gv hr lf 2 rfl (dP (show("line":Str)≠"kind" by symm))) λQp Qq g1=>?_);let EL:=f2.grow g1;let Nc:=g1;refine bW (jP EL (gv hr lf 2 rfl (dP (show("line":Str)≠"gate" by symm))) λKH KJ g2=>?_);let Fp:=EL.grow g2;let J8:=Nc.trans g2;refine bW (Bm Fp (gv hr lf 2 rfl (iI _)) λUW UX g3=>?_);let J9:=Fp.grow g3;let Nf:=J8.trans g3;let Wa:=Wg UW UX Nf;let hz:(uA st).length<sizeLine:=fh (by unfold uA;rw[ae];let:=ok.ln;omega);refine bW (Md J9 hr 0 rfl Wa.ins Wa.cls (Wa.qx _ ∎) lk3 Wa.li 3. (Au 1 2 rfl rfl) hz λv Hc Hd g9 r=>?_);let Wd:=Wg Hc Hd (Nf.trans g9);cases r;refine fin Hc Hd al _ (f2.ent.trans (Nf.trans g9)) (by simp) λ_ _=>#[C,dx,ak,ag,al,ad,at_,ah,ap,cs,xd,xp,rfl,N7,?_];let hn:gW (uA st) (bf m)=none:=sx λq' FP=>by
    let#[q0,h0,rfl]:=au.mp FP;intro z;injection z with z
    exact oa (.inr ([<-z]▸au.mpr #[q0,h0,rfl]))
   refine#[[aI (pl)]▸Wd.ins,Wd.cls,Wd.qx,[aI (kl)]▸Wd.ki,[aI (gl)]▸Wd.ga,?_,[aI (bF ld)]▸Wd.de,Wd.dr,[aI (bF lt)]▸Wd.ti,[aI (bF lh)]▸Wd.ho,Wd.hl,[aI (bF lp)]▸Wd.pa,λi c q' e1 e2=>?_]
   .rw[aT];show some (HO.dK (putK (uA st) (bf m) (V.int rr)))>>(.dK ((st.lines ++ [(m,rr)]).map _));rw[o7 _ hn,aQ];rfl
   .let#[xs,h1,h2]:=Wd.ce i c q' e1 e2;exact#[xs,by rw[aI (λz=>lc ([<-z]▸aP e1))];exact h1,h2]
  |desk q0=>
   refine bW (jP f2 (gv hr lf 2 rfl (dP (show("desk":Str)≠"kind" by symm))) λQp Qq g1=>?_);let EL:=f2.grow g1;let Nc:=g1;refine bW (jP EL (gv hr lf 2 rfl (dP (show("desk":Str)≠"gate" by symm))) λKH KJ g2=>?_);let Fp:=EL.grow g2;let J8:=Nc.trans g2;refine bW (jP Fp (gv hr lf 2 rfl (dP (show("desk":Str)≠"line" by symm))) λUW UX g3=>?_);let J9:=Fp.grow g3;let Nf:=J8.trans g3;refine bW (Bm J9 (gv hr lf 2 rfl (iI _)) λRD RG g4=>?_);let N8:=J9.grow g4;let Qr:=Nf.trans g4;let Wa:=Wg RD RG Qr;let Py:=Wa.dr.length;rw[ae]at Py;let hz:xd.length<sizeLine:=fh (by let:=ok.dn;omega);let CF:L2.cutD (aO "desk"::Ent.rest (.desk q0)) (some 1) none=Ent.rest (.desk q0):=(lO (aO "desk"::Ent.rest (.desk q0)) 1).trans rfl;refine bW (zo (d:=gO q0) N8 0 rfl Wa.ins Wa.cls (Wa.qx _ ∎) lk4 Wa.de (VE.to (sO 1. (.yes aL) .no ?_) (by show dg (L2.cutD (aO "desk"::Ent.rest (.desk q0)) (some 1) none)=_;rw[CF];rfl)) hz λv Hc Hd g9 r=>?_)
   .intro z;let:=z.1;rw[show(1:Int)=((1:Nat):Int)from rfl,HT.om]at this;exact qQ7 this (by show ¬(min 1 5=0);decide)
   let Wd:=Wg Hc Hd (Qr.trans g9);refine fin Hc Hd ad _ (f2.ent.trans (Qr.trans g9)) (by simp) λ_ _=>#[C,dx,ak,ag,al,ad,at_,ah,ap,cs,xd ++ [v],xp,rfl,N7,?_];refine#[[aI (pd)]▸Wd.ins,Wd.cls,Wd.qx,[aI (kd)]▸Wd.ki,[aI (gd)]▸Wd.ga,[aI (ld)]▸Wd.li,aT,?_,[aI (bF dt)]▸Wd.ti,[aI (bF dh)]▸Wd.ho,Wd.hl,[aI (bF dp)]▸Wd.pa,λi c q' e1 e2=>?_]
   .show bU K Hc (xd ++ [v]) ((st.desks ++ [q0]).map gO);rw[aQ];exact Wd.dr.append (.cons r .nil)
   .let#[xs,h1,h2]:=Wd.ce i c q' e1 e2;exact#[xs,by rw[aI (λz=>dc ([<-z]▸aP e1))];exact h1,h2]
  |time dk Z3 wk=>
   refine bW (jP f2 (gv hr lf 2 rfl (dP (show("time":Str)≠"kind" by symm))) λQp Qq g1=>?_);let EL:=f2.grow g1;let Nc:=g1;refine bW (jP EL (gv hr lf 2 rfl (dP (show("time":Str)≠"gate" by symm))) λKH KJ g2=>?_);let Fp:=EL.grow g2;let J8:=Nc.trans g2;refine bW (jP Fp (gv hr lf 2 rfl (dP (show("time":Str)≠"line" by symm))) λUW UX g3=>?_);let J9:=Fp.grow g3;let Nf:=J8.trans g3;refine bW (jP J9 (gv hr lf 2 rfl (dP (show("time":Str)≠"desk" by symm))) λRD RG g4=>?_);let N8:=J9.grow g4;let Qr:=Nf.trans g4;refine bW (Bm N8 (gv hr lf 2 rfl (iI _)) λYJ YK g5=>?_);let UY:=N8.grow g5;let VX:=Qr.trans g5;let Wa:=Wg YJ YK VX;let hz:(uB st).length<sizeLine:=fh (by unfold uB;rw[ae];let:=ok.tn;omega);refine bW (Ue UY hr 0 rfl Wa.ins Wa.cls (Wa.qx _ ∎) lk5 Wa.ti 3. (Au 1 2 rfl rfl) (Au 1 3 rfl rfl) hz λv t Hc Hd g9 ht r=>?_);let gt9:dm H2 fG Hc (upd Hd t (.tup [.str dk,.str Z3])):=(VX.trans g9).trans (.loose g9.sub ht);let Wd:=Wg Hc _ gt9;cases r;refine fin Hc _ at_ _ (f2.ent.trans gt9) (by simp) λ_ _=>#[C,dx,ak,ag,al,ad,at_,ah,ap,cs,xd,xp,rfl,N7,?_];let hn:gW (uB st) (lM (dk,Z3))=none:=sx λq' FP=>by let#[q0,h0,rfl]:=au.mp FP;intro z;let:=za z;exact oa.1 ([<-this]▸au.mpr #[q0,h0,rfl])
   refine#[[aI (pt)]▸Wd.ins,Wd.cls,Wd.qx,[aI (kt)]▸Wd.ki,[aI (gt)]▸Wd.ga,[aI (lt)]▸Wd.li,[aI (dt)]▸Wd.de,Wd.dr,?_,[aI (bF th)]▸Wd.ho,Wd.hl,[aI (bF tp)]▸Wd.pa,λi c q' e1 e2=>?_]
   .rw[aT];show some (HO.dT (putK (uB st) (lM (dk,Z3)) (V.int wk)))>>(.dT ((st.times ++ [(dk,Z3,wk)]).map _));rw[o7 _ hn,aQ];rfl
   .let#[xs,h1,h2]:=Wd.ce i c q' e1 e2;exact#[xs,by rw[aI (λz=>tc ([<-z]▸aP e1))];exact h1,h2]
  |hour dk ha hb=>
   refine bW (jP f2 (gv hr lf 2 rfl (dP (show("open":Str)≠"kind" by symm))) λQp Qq g1=>?_);let EL:=f2.grow g1;let Nc:=g1;refine bW (jP EL (gv hr lf 2 rfl (dP (show("open":Str)≠"gate" by symm))) λKH KJ g2=>?_);let Fp:=EL.grow g2;let J8:=Nc.trans g2;refine bW (jP Fp (gv hr lf 2 rfl (dP (show("open":Str)≠"line" by symm))) λUW UX g3=>?_);let J9:=Fp.grow g3;let Nf:=J8.trans g3;refine bW (jP J9 (gv hr lf 2 rfl (dP (show("open":Str)≠"desk" by symm))) λRD RG g4=>?_);let N8:=J9.grow g4;let Qr:=Nf.trans g4;refine bW (jP N8 (gv hr lf 2 rfl (dP (show("open":Str)≠"time" by symm))) λYJ YK g5=>?_);let UY:=N8.grow g5;let VX:=Qr.trans g5;refine bW (Bm UY (gv hr lf 2 rfl (iI _)) λRH RJ g6=>?_);let ff6:=UY.grow g6;let Qs:=VX.trans g6;let Wa:=Wg RH RJ Qs;let hll:=zS st.hours;let LZ:=xH st.hours;let okh:=ok.hn;let hz:(eT (dG st.hours) cs).length<sizeLine:=fh (by unfold eT;rw[ae,ng];omega);let CF:L2.cutD (aO "open"::Ent.rest (.hour dk ha hb)) (some 2) none=[.int ha,.int hb]:=(lO (aO "open"::Ent.rest (.hour dk ha hb)) 2).trans rfl;let ha0:RH ah=none:=by let#[o,e1,e2]:=o2 ah (by simp);exact(f2.ent.trans Qs).still e2 e1
   let Qt:dG (st.hours ++ [(dk,ha,hb)])=nQ (dG st.hours) dk (ha,hb):=GC _ _;let Ng:=zR (ha,hb) dk W.hl;refine bW (Mf (d:=pairD (ha,hb)) ff6 0 rfl Wa.ins Wa.cls (Wa.qx _ ∎) lk6 Wa.ho 3. (VE.to (sO 1. (.yes aL) .no ?_) (by show dg (L2.cutD (aO "open"::Ent.rest (.hour dk ha hb)) (some 2) none)=_;rw[CF];rfl)) hz rfl ha0 (λv hv=>?_) (λc xs v t Hc Hd AF Zr htt g9 ht0 r=>?_) (λv c Hc Hd AF hcn s9 s10 nw old Z4 hdc ZK ha9 r=>?_))
   .intro z;let:=z.1;rw[show(2:Int)=((2:Nat):Int)from rfl,HT.om]at this;exact qQ7 this (by show ¬(min 2 4=0);decide)
   .rcases Ng with⟨h1,_⟩|⟨i,c,q',h1,h2,h3,h4⟩
    .let hv:gW (eT (dG st.hours) cs) (bf dk)>>v:=hv;rw[h1]at hv;cases hv
    .let hv:some v>>(V.ref c):=hv.symm.trans h3;cases hv;let#[xs,x1,x2]:=Wa.ce i c q' h2 h1;refine#[c,xs,rfl,x1,fh ?_];let:=x2.length;rw[ae]at this;let:=LZ q' (aP h1);omega
   .rcases Ng with⟨h1,_⟩|⟨i,c',q',h1,h2,h3,h4⟩
    .let AF:gW (eT (dG st.hours) cs) (bf dk)>>(V.ref c):=AF;rw[h1]at AF;cases AF
    .let AF:some (V.ref c')>>(V.ref c):=h3.symm.trans AF;cases AF;let Wd:=Wg Hc Hd (Qs.trans g9);let NX:c∈cs:=aP h2;let#[xs',x1,x2]:=Wd.ce i c q' h2 h1;let ex:xs'=xs:=by let:=g9.big _ _ Zr;rw[this]at x1;cases x1;rfl
     subst ex;let IJ:i<(dG st.hours).length:=(av.mp h1).1;let GF:dG (gQ st (.hour dk ha hb)).hours=(dG st.hours).set i (q'.1,q'.2 ++ [(ha,hb)]):=by show dG (st.hours ++ [(dk,ha,hb)])=_;rw[Qt,h4]
     refine fin Hc Hd c _ (f2.ent.trans (Qs.trans g9)) (by simp[NX]) λ_ _=>#[C,dx,ak,ag,al,ad,at_,ah,ap,cs,xd,xp,rfl,N7,?_];let nc:∀x,x∉cs->x≠c:=λx hx z=>hx ([z]▸NX);refine#[[aI (nc _ pc)]▸Wd.ins,Wd.cls,Wd.qx,[aI (nc _ kc)]▸Wd.ki,[aI (nc _ gc)]▸Wd.ga,[aI (nc _ lc)]▸Wd.li,[aI (nc _ dc)]▸Wd.de,Wd.dr,[aI (nc _ tc)]▸Wd.ti,?_,?_,[aI (nc _ apc)]▸Wd.pa,λj c2 q2 e1 e2=>?_]
     .rw[aI (nc _ hc),Wd.ho,GF]
      congr 2
      refine(xG ?_).symm;rw[jG];refine hG λn=>?_;by_cases hn:n=i
      .subst hn;rw[aY ([ae]▸IJ),aH,h1];rfl
      .rw[aS (bF hn)]
     .rw[GF,fZ];exact Wd.hl
     .rw[GF]at e2;by_cases hj:j=i
      .subst hj;rw[h2]at e1;cases e1;rw[aY IJ]at e2;cases e2;refine#[xs' ++ [v],aT,?_];show bU K Hc (xs' ++ [v]) ((q'.2 ++ [(ha,hb)]).map pairD);rw[aQ];exact x2.append (.cons r .nil)
      .rw[aS (bF hj)]at e2;let#[ys,y1,y2]:=Wd.ce j c2 q2 e1 e2;let yr:c2≠c:=λz=>by
        subst z;let l1:=av.mp e1;let l2:=av.mp h2;let#[l1a,l1b]:=l1;let#[l2a,l2b]:=l2;rcases Nat.lt_or_gt_of_ne hj with nE|nE
        .exact jK.mp YH j i l1a l2a nE (by rw[l1b,l2b])
        .exact jK.mp YH i j l2a l1a nE (by rw[l1b,l2b])
       exact#[ys,[aI yr]▸y1,y2]
   .rcases Ng with⟨h1,h4⟩|⟨i,c',q',h1,h2,h3,h4⟩
    .let gH:=f2.ent.trans Qs;let hcH:H c=none:=gH.big.free hcn;let Qu:c∉p::ak::ag::al::ad::at_::ah::ap::cs:=λz=>by let#[o,e1,_]:=o2 c z;rw[hcH]at e1;cases e1
     let GF:dG (gQ st (.hour dk ha hb)).hours=dG st.hours ++ [(dk,[(ha,hb)])]:=by show dG (st.hours ++ [(dk,ha,hb)])=_;rw[Qt,h4]
     let zcr:∀x∈p::ak::ag::al::ad::at_::ah::ap::cs,Hc x=none:=λx hx=>by
      let#[o,e1,e2]:=o2 x hx;let:RH x=none:=gH.still e2 e1;cases e:Hc x with
      |none=>rfl
      |some u=>
       rcases nw x (by rw[e];simp)with z|z
       .exact qQ7 this z
       .rw[gH.big _ _ e1]at z;cases z
     let RK:∀x∈p::ak::ag::al::ad::at_::ah::ap::cs,x≠ah->∀u,RJ x>>u->(upd Hd c (.lst [v])) x>>u:=λx hx Z5 u e=>by rw[aI (λz=>Qu ([<-z]▸hx))];exact old x u e Z5
     refine q Hc (upd Hd c (.lst [v])) (p::ak::ag::al::ad::at_::ah::ap::(cs ++ [c])) (gH.eD.trans s9) (λb u e=>?_) (λb z=>?_) (λx hx=>?_) (λb u e Pk=>?_) #[C,dx,ak,ag,al,ad,at_,ah,ap,cs ++ [c],xd,xp,rfl,?_,?_]
     .rw[aI (bB e ZK)];exact s10 b u e
     .rcases nw b z with z|z
      .exact gH.new b z
      .exact .inr (gH.big.free z)
     .let hx:x∈(p::ak::ag::al::ad::at_::ah::ap::cs) ++ [c]:=by simpa using hx
      rcases aV.mp hx with hx|hx
      .refine#[zcr x hx,?_,.inl hx];rw[aI (λz=>Qu ([<-z]▸hx))];let#[o,e1,_]:=o2 x hx;by_cases Z5:x=ah
       .rw[Z5,Z4];simp
       .rw[old x o (gH.big _ _ e1) Z5];simp
      .rw[aF.mp hx];exact#[ZK,by rw[aT];simp,.inr hcH]
     .let hbc:b≠c:=λz=>by rw[z,hcH]at e;cases e
      rw[aI hbc];exact old b u (gH.big _ _ e) (λz=>Pk (by rw[z];simp))
     .let:(p::ak::ag::al::ad::at_::ah::ap::(cs ++ [c]))=(p::ak::ag::al::ad::at_::ah::ap::cs) ++ [c]:=by simp
      rw[this,cJ];exact#[N7,by simp,λx hx y hy z=>Qu ([<-aF.mp hy,<-z]▸hx)]
     .refine#[RK p (by simp) ph _ Wa.ins,Wa.cls,Wa.qx,RK ak (by simp) kh _ Wa.ki,RK ag (by simp) gh _ Wa.ga,RK al (by simp) lh _ Wa.li,RK ad (by simp) dh _ Wa.de,Wa.dr.mono s9,RK at_ (by simp) th _ Wa.ti,?_,?_,#[RK ap (by simp) (bF hp) _ Wa.pa.1,Wa.pa.2.mono s9],λj c2 q2 e1 e2=>?_]
      .let Z4:Hd ah>>(.dK (putK (eT (dG st.hours) cs) (bf dk) (.ref c))):=Z4;rw[aI (λz=>Qu (by rw[<-z];simp)),Z4,GF,o7 _ h1,GB W.hl]
      .rw[GF,aX,aX,W.hl];rfl
      .rw[GF]at e2;by_cases hj:j<cs.length
       .rw[bO hj]at e1;rw[bO ([<-W.hl]▸hj)]at e2;let#[ys,y1,y2]:=Wa.ce j c2 q2 e1 e2;let hm:c2∈cs:=aP e1;exact#[ys,RK c2 (by simp[hm]) (λz=>hc ([<-z]▸hm)) _ y1,y2.mono s9]
       .let hl:=W.hl;let ZU:j=cs.length:=by let:=(av.mp e1).1;rw[aX,i_]at this;omega
        subst ZU;rw[bK (aE _),xV]at e1;rw[bK ∅,show cs.length-(dG st.hours).length=0 from by omega]at e2;cases e1;cases e2;exact#[[v],aT,.cons r .nil]
    .let AF:gW (eT (dG st.hours) cs) (bf dk)=none:=AF;rw[h3]at AF;cases AF
  |pace RL UZ Cr U0=>
   refine bW (jP f2 (gv hr lf 2 rfl (dP (show("pace":Str)≠"kind" by symm))) λQp Qq g1=>?_);let EL:=f2.grow g1;let Nc:=g1;refine bW (jP EL (gv hr lf 2 rfl (dP (show("pace":Str)≠"gate" by symm))) λKH KJ g2=>?_);let Fp:=EL.grow g2;let J8:=Nc.trans g2;refine bW (jP Fp (gv hr lf 2 rfl (dP (show("pace":Str)≠"line" by symm))) λUW UX g3=>?_);let J9:=Fp.grow g3;let Nf:=J8.trans g3;refine bW (jP J9 (gv hr lf 2 rfl (dP (show("pace":Str)≠"desk" by symm))) λRD RG g4=>?_);let N8:=J9.grow g4;let Qr:=Nf.trans g4;refine bW (jP N8 (gv hr lf 2 rfl (dP (show("pace":Str)≠"time" by symm))) λYJ YK g5=>?_);let UY:=N8.grow g5;let VX:=Qr.trans g5;refine bW (jP UY (gv hr lf 2 rfl (dP (show("pace":Str)≠"open" by symm))) λRH RJ g6=>?_);let ff6:=UY.grow g6;let Qs:=VX.trans g6;let Wa:=Wg RH RJ Qs;let Py:=Wa.pa.2.length;rw[ae]at Py;let hz:(jD st.paces xp).length<sizeLine:=fh (by unfold jD;rw[ae,ng];let:=ok.an;omega);let CF:L2.cutD (aO "pace"::Ent.rest (.pace RL UZ Cr U0)) (some 2) none=[.str UZ,.int Cr,.int U0]:=(lO (aO "pace"::Ent.rest (.pace RL UZ Cr U0)) 2).trans rfl;refine bW (Md (d:=EE (RL,UZ,Cr,U0)) ff6 hr 0 rfl Wa.ins Wa.cls (Wa.qx _ ∎) lk7 Wa.pa.1 3. (VE.to (sO 1. (.yes aL) .no ?_) (by show dg (L2.cutD (aO "pace"::Ent.rest (.pace RL UZ Cr U0)) (some 2) none)=_;rw[CF];rfl)) hz λv Hc Hd g9 r=>?_)
   .intro z;let:=z.1;rw[show(2:Int)=((2:Nat):Int)from rfl,HT.om]at this;exact qQ7 this (by show ¬(min 2 5=0);decide)
   let Wd:=Wg Hc Hd (Qs.trans g9);refine fin Hc Hd ap _ (f2.ent.trans (Qs.trans g9)) (by simp) λ_ _=>#[C,dx,ak,ag,al,ad,at_,ah,ap,cs,xd,xp ++ [v],rfl,N7,?_];let hn:gW (jD st.paces xp) (bf RL)=none:=sx λq' FP=>by
    let hm:q'.1∈(jD st.paces xp).map (·.1):=au.mpr #[q',FP,rfl];rw[sv Py]at hm;let#[q0,h0,h1]:=au.mp hm;intro z;rw[<-h1]at z;injection z with z
    exact oa.1 ([<-z]▸au.mpr #[q0,h0,rfl])
   refine#[[aI pp]▸Wd.ins,Wd.cls,Wd.qx,[aI kp]▸Wd.ki,[aI gp]▸Wd.ga,[aI lp]▸Wd.li,[aI dp]▸Wd.de,Wd.dr,[aI tp]▸Wd.ti,[aI hp]▸Wd.ho,Wd.hl,#[?_,?_],λi c q' e1 e2=>?_]
   .rw[aT];show some (HO.dK (putK (jD st.paces xp) (bf RL) v))>>(.dK (jD (st.paces ++ [(RL,UZ,Cr,U0)]) (xp ++ [v])));rw[o7 _ hn,GA Py]
   .show bU K Hc (xp ++ [v]) ((st.paces ++ [(RL,UZ,Cr,U0)]).map EE);rw[aQ];exact Wd.pa.2.append (.cons r .nil)
   .let#[xs,h1,h2]:=Wd.ce i c q' e1 e2;exact#[xs,by rw[aI (λz=>apc ([<-z]▸aP e1))];exact h1,h2]
end
def mn:Pl:=#[[],[],[],[],[],[],[]]
def wG(es:!Ent)(i:Nat):Pl:=(es.take i).foldl gQ mn
theorem J_{es:!Ent}{i:Nat}(h:es[i]?>>e):wG es (i+1)=gQ (wG es i) e:=by unfold wG;rw[cB,h,eC];rfl
theorem Nh(es:!Ent):wG es es.length=es.foldl gQ mn:=by unfold wG;rw[du]
structure U1(es:!Ent):Prop where
 ent:∀e∈es,ko e
 pl:∀i,i<=es.length->j7 (wG es i)
 add:∀(i:Nat)e,es[i]?>>e->sk (wG es i) e
section
variable{P:bx}{w:b_}{K:aj}{mg:Str->Option aA}{base:cI}{f:ay}{k:Nat}
structure PlC(P:bx)(w:b_)(K:aj)(mg:Str->Option aA)(base:cI):Prop where
 ex:∃C fi fd,mg "Plant"=some (.ref C)/\yK K C/\(∀f∈Qo,gG K C f)/\Mk K C fi/\dZ P w K mg base jL 1 fi fd ["self"] (Nb C)/\Binds K fd ["self"] []
abbrev Nrp:!Str:=["text","plant","number","words","entry","word"]
theorem RM:cw Nrp ["text"] (bG (top 20)):=by grind
def Z6(K:aj)(ds:!ai)(U:UR):Prop:=∃(x:Str)(es:!Ent),ds=[.str x]/\xx x/\(rowsOf x).map (·.2)=es.map lS/\U1 es/\U=Uk λa=>x6 K a (es.foldl gQ mn)
theorem zcs(F:kE K "read_plant" "read_plant" (top 20) f fd)(n:Np mg w.params K)(T:PlC P w K mg base)(C1:bu P w K mg base 2 "rows_of" ["text"] (N3 K Rro))(C2:bu P w K mg base 8 "entry_of" ["words"] (gI K Reo))(C3:bu P w K mg base 3 "fault_of" EI (gI K Rfo))(C4:bu P w K mg base 1 "add_entry" EI (Ma K Pl (x6 K) RB)):dZ P w K mg base jL 9 f fd ["text"] (ZO K (Z6 K)):=
 zbu F RM (by ext) λ_ _ h=>by
  let#[x,es,rfl,ox,RN,U2,rfl]:=h;intro gu A outer s H E hr;let nd:Nrp.Nodup:=RM.nd;let#[C,fi,fdi,mC,cl,na,M,FI,bI]:=T.ex;let hlen:(rowsOf x).length=es.length:=by let:=qQ6 dU RN;simpa using this
  refine pD λB0 B σ H0 Hh D fr N9=>?_;refine bN (Ud 1 M FI (hr.mono ∅) mC bI (λp dx E' hp hdx Z2=>?_) nd);refine#[p,dx,rfl,aT,λak ag al ad at_ ah ap H' mid=>#[rfl,?_]];let I0:∀b,(upd (upd Hh dx (.own p)) p (.ins C dx [])) b=none->Hh b=none:=λb hb=>by
   let h1:b≠p:=λz=>by rw[z,aT]at hb;cases hb
   rw[aI h1]at hb;let h2:b≠dx:=λz=>by rw[z,aT]at hb;cases hb
   rw[aI h2]at hb;exact hb
  let Iy:∀b o,Hh b>>o->H' b>>o:=λb o e=>by let h1:b≠p:=bB e hp;refine mid.old b o ?_ h1;rw[aI h1,aI (bB e hdx)];exact e
  let G0:OF K B0 B (x6 K p (wG es 0)) H0 H' (σ.set 1 (some (.ref p))) [.val (.str x),.ref p,.un,.un,.un,.un]:=by
   let g:dm H0 Hh H0 H':=#[Iy,cz.refl _,λb u e=>Iy b u (fr.sub b u e),λ_ z=>.inl z];refine#[(fr.grow g).n_ (i:=1) (v:=.ref p) (sl:=.ref p) rfl rfl,rfl,[p,ak,ag,al,ad,at_,ah,ap],λa ha=>?_,C,dx,ak,ag,al,ad,at_,ah,ap,[],[],[],rfl,by simpa using mid.nd,?_]
   .let Ni:Hh a=none/\H' a≠none:=by
     rcases ax.mp ha with rfl|ha
     .exact#[hp,by rw[mid.ins];simp]
     .let ha':∃q∈[(ak,HO.dK []),(ag,.lst []),(al,.dK []),(ad,.lst []),(at_,.dT []),(ah,.dK []),(ap,.dK [])],q.1=a:=by simp only[ax,a9,or_false]at ha;rcases ha with rfl|rfl|rfl|rfl|rfl|rfl|rfl<;>simp
      let#[q,hq,rfl]:=ha';exact#[I0 _ (mid.fresh q hq),by rw[mid.ob q hq];simp]
    exact#[fr.sub.free Ni.1,fr.ent.big.free Ni.1,Ni.2]
   .exact#[mid.ins,cl,na,mid.ob (ak,.dK []) (by simp),mid.ob (ag,.lst []) (by simp),mid.ob (al,.dK []) (by simp),mid.ob (ad,.lst []) (by simp),.nil,mid.ob (at_,.dT []) (by simp),mid.ob (ah,.dK []) (by simp),rfl,#[mid.ob (ap,.dK []) (by simp),.nil],λi c q e1=>by simp at e1]
  refine bN (xn (tgt:=.tup [2,3]) (ds:=(rowsOf x).map El) (λi=>x6 K p (wG es i)) (λi=>x6.mono) G0 cA rfl (fj (VO.ve (yq C1 (hr.mono ∅) {0.} #[x,rfl,ox,rfl])))
   (gU rfl (bY (hX 2 nd) (bY (hX 3 nd) fA))) (λi d hd=>?_) (λσ2 Ha Hb G=>?_))
  .obtain⟨r,hri,rfl⟩:∃r,(rowsOf x)[i]?>>r/\d=El r:=by
    rw[aH]at hd;cases e:(rowsOf x)[i]? with
    |none=>rw[e]at hd;cases hd
    |some r=>rw[e]at hd;cases hd;exact#[r,rfl,rfl]
   let IJ:i<(rowsOf x).length:=(av.mp hri).1;let Vv:es[i]?>>es[i]:=aD ∅;let hw:r.2=lS es[i]:=by
    let h1:((rowsOf x).map (·.2))[i]?>>r.2:=by rw[aH,hri];rfl
    rw[RN,aH,Vv]at h1;exact(b9 h1).symm
   let oe:=U2.ent _ (dM (by omega:i<es.length));let oa:=U2.add i _ Vv;let op:=U2.pl i ∅;let YL:=J_ Vv;generalize es[i]=e at *;refine#[[.val (.str x),.ref p,.val (.int (r.1:Nat)),.val (.list (r.2.map .str)),.un,.un],rfl,rfl,λD C0 σ' cQ cW G q=>?_];refine bN (Cq x6.mono G (dY 4 (d:=Gv e) (bQ C2 hr {3.} #[e,by rw[hw];rfl,oe,rfl]) nd) rfl λσ1 Qp Qq G1=>?_);refine bN (Ua x6.mono G1 1 5 (d:=.str "") rfl x6.rep (bQ C3 (hr.mono ∅) {1.,4.} #[wG es i,e,rfl,op,oe,oa,rfl]) rfl rfl (λσ2 KH KJ G2=>?_) nd);refine bN (Cq x6.mono G2 (bR (VT.to (mJ hr dC dC 5. a_) (qQ6 (λb=>not b) (iI _))) bC) rfl λσ3 UW UX G3=>?_);refine bW (Xs (s:=wG es i) (s':=wG es (i+1)) C4 (hr.mono ∅) G3 x6.mono 1 rfl 4. #[e,rfl,op,oe,oa,YL] λRD RG G4=>?_);exact q _ _ _ (G4.forget x6.mono #[.inr rfl,.inr rfl,.inl rfl,.inl rfl,.inl rfl,.inl rfl,trivial] rfl)
  .let e:wG es ((rowsOf x).map El).length=es.foldl gQ mn:=by rw[ae,hlen,Nh]
   rw[e]at G;exact bW (Um G 1 rfl (λ_ _ as h=>#[as,λ_ z=>z,h]) N9)
end
end Mg
namespace Mg
open L2 PySem PyProof.Rows
structure nR(p:Pl):Prop where
 kn:(p.kinds.map (·.1)).Nodup
 pn:(p.gates++p.lines.map (·.1)).Nodup
 dn:(p.desks.map (·.name)).Nodup
 dk:∀d∈p.desks,Gw d/\(∀x∈d.places,x∈p.gates++p.lines.map (·.1))/\(d.to=""\/∃r,(d.to,r)∈p.lines/\gx d.rule d.places.length<=r)
 dj:(p.desks.map (·.places)).flatten.Nodup
 tn:(p.times.map λq=>(q.1,q.2.1)).Nodup
 tm:∀q∈p.times,q.1∈p.desks.map (·.name)/\q.2.1∈p.kinds.map (·.1)/\1<=q.2.2
 hr:∀q∈p.hours,q.1∈p.desks.map (·.name)/\q.2.1<q.2.2
 kk:∀q∈p.kinds,∀i,q.2>>i->1<=i/\cV i
 ll:∀q∈p.lines,1<=q.2
 pc:(p.paces.map (·.1)).Nodup
 pp:∀q∈p.paces,q.1∈p.gates/\q.2.1∈p.kinds.map (·.1)/\1<=q.2.2.1/\1<=q.2.2.2
def tK(p:Pl):!Ent:=p.kinds.map (λq=>Ent.kind q.1 q.2)++p.gates.map Ent.gate++p.lines.map (λq=>Ent.line q.1 q.2)++p.desks.map Ent.desk++p.times.map (λq=>Ent.time q.1 q.2.1 q.2.2)++p.hours.map (λq=>Ent.hour q.1 q.2.1 q.2.2)++p.paces.map (λq=>Ent.pace q.1 q.2.1 q.2.2.1 q.2.2.2)
def iO:Pl->!Ent->Prop
 |st,[]=>j7 st
 |st,e::es=>j7 st/\ko e/\sk st e/\iO (gQ st e) es
theorem iO.app:∀{A B:!Ent}{st:Pl},iO st A->iO (A.foldl gQ st) B->iO st (A++B)
 | [],_,_,_,h=>h
 |_::_,_,_,#[h1,h2,h3,h4],h=>#[h1,h2,h3,h4.app h]
theorem iO.es:∀{es:!Ent}{st:Pl},iO st es->(∀e∈es,ko e)/\(∀i,i<=es.length->j7 ((es.take i).foldl gQ st))/\∀(i:Nat)e,es[i]?>>e->sk ((es.take i).foldl gQ st) e
 | [],st,h=>#[λe he=>(by cases he),λi hi=>[List.take_nil]▸h,λi e he=>by simp at he]
 |e::es,st,#[h1,h2,h3,h4]=>by
  let#[a,b,c]:=h4.es;refine#[λx hx=>?_,λi hi=>?_,λi x hx=>?_]
  .rcases ax.mp hx with rfl|hx
   .exact h2
   .exact a x hx
  .cases i with
   |zero=>exact h1
   |succ i=>exact b i ↑hi
  .cases i with
   |zero=>cases hx;exact h3
   |succ i=>exact c i x ↑hx
theorem seg{α:Type}(mk:α->Ent)(put:!α->Pl)(h1:∀l x,gQ (put l) (mk x)=put (l ++ [x]))(l:!α)(hok:∀pre x post,l=pre++x::post->j7 (put pre)/\ko (mk x)/\sk (put pre) (mk x))(zct:j7 (put l)):
  iO (put []) (l.map mk)/\(l.map mk).foldl gQ (put [])=put l:=by
 let go:∀(rest pre:!α),l=pre++rest->iO (put pre) (rest.map mk)/\(rest.map mk).foldl gQ (put pre)=put l:=by
  intro rest;induction rest with
  |nil=>intro pre e;rw[cn]at e;subst e;exact#[zct,rfl]
  |cons x rest ih=>
   intro pre e;let#[a,b,c]:=hok pre x rest e;let#[i1,i2]:=ih (pre ++ [x]) (by rw[e];simp);rw[aq];refine#[#[a,b,c,?_],?_]
   .rwa[h1]
   .rwa[fk,h1]
 exact go l [] rfl
theorem iJ{p q:Pl}(h:j7 p)(k1:q.kinds.length<=p.kinds.length)(k2:∀x∈q.kinds,x∈p.kinds)(g1:q.gates.length<=p.gates.length)(g2:∀x∈q.gates,x∈p.gates)(l1:q.lines.length<=p.lines.length)(l2:∀x∈q.lines,x∈p.lines)(d1:q.desks.length<=p.desks.length)(d2:∀x∈q.desks,x∈p.desks)(t1:q.times.length<=p.times.length)(t2:∀x∈q.times,x∈p.times)(h1:q.hours.length<=p.hours.length)(h2:∀x∈q.hours,x∈p.hours)(a1:q.paces.length<=p.paces.length)(a2:∀x∈q.paces,x∈p.paces):j7 q:=
 #[bZ k1 h.kn,bZ g1 h.gn,bZ l1 h.ln,bZ d1 h.dn,bZ t1 h.tn,bZ h1 h.hn,λx hx=>h.kinds x (k2 x hx),λx hx=>h.gates x (g2 x hx),λx hx=>h.lines x (l2 x hx),λx hx=>h.desks x (d2 x hx),λx hx=>h.times x (t2 x hx),λx hx=>h.hours x (h2 x hx),bZ a1 h.an,λx hx=>h.paces x (a2 x hx)]
theorem lN{κ:Type}[DecidableEq κ]:∀{kvs:!(κ×ai)}{k:κ}{v:ai},(kvs.map (·.1)).Nodup->(k,v)∈kvs->ik kvs k>>v
 | [],_,_,_,h=>by cases h
 |q::l,k,v,nd,h=>by
  rw[aq,cx]at nd;rcases ax.mp h with rfl|h
  .exact dR rfl
  .rw[bT (λe=>nd.1 ([e]▸au.mpr #[(k,v),h,rfl]))];exact lN nd.2 h
theorem uC{α:Type}{l pre post:!α}{x:α}(e:l=pre++x::post):pre.length<=l.length/\∀y∈pre,y∈l:=by subst e;exact#[by rw[aX];omega,λy hy=>bP _ hy]
theorem ni{α β:Type}{f:α->β}{l pre post:!α}{x:α}(nd:(l.map f).Nodup)(e:l=pre++x::post):f x∉pre.map f:=by subst e;rw[aQ,aq,cJ]at nd;intro z;exact nd.2.2 _ z _ aJ rfl
theorem U3{p:Pl}(ok:j7 p)(g:nR p):iO mn (tK p)/\(tK p).foldl gQ mn=p:=by
 let n0:∀{α:Type}(x:α),x∈([]:!α)->False:=λx h=>by cases h
 let s1:=seg (λq:Str×Option Int=>Ent.kind q.1 q.2) (λl=>#[l,[],[],[],[],[],[]]) (λ_ _=>rfl) p.kinds (λpre x post e=>by
  let#[e1,e2]:=uC e;let hx:x∈p.kinds:=by rw[e];simp
  exact#[iJ ok e1 e2 (aW _) (λx h=>(n0 x h).elim) (aW _) (λx h=>(n0 x h).elim) (aW _) (λx h=>(n0 x h).elim) (aW _) (λx h=>(n0 x h).elim) (aW _) (λx h=>(n0 x h).elim) (aW _) (λx h=>(n0 x h).elim),#[(ok.kinds x hx).1,g.kk x hx],ni g.kn e])
  (iJ ok (aE _) (λ_ h=>h) (aW _) (λx h=>(n0 x h).elim) (aW _) (λx h=>(n0 x h).elim) (aW _) (λx h=>(n0 x h).elim) (aW _) (λx h=>(n0 x h).elim) (aW _) (λx h=>(n0 x h).elim) (aW _) (λx h=>(n0 x h).elim));let pn:=g.pn;rw[cJ]at pn;let s2:=seg Ent.gate (λl=>#[p.kinds,l,[],[],[],[],[]]) (λ_ _=>rfl) p.gates (λpre x post e=>by
  let#[e1,e2]:=uC e;let hx:x∈p.gates:=by rw[e];simp
  refine#[iJ ok (aE _) (λ_ h=>h) e1 e2 (aW _) (λx h=>(n0 x h).elim) (aW _) (λx h=>(n0 x h).elim) (aW _) (λx h=>(n0 x h).elim) (aW _) (λx h=>(n0 x h).elim) (aW _) (λx h=>(n0 x h).elim),ok.gates x hx,?_];rintro(h|h)
  .let:=ni (f:=id) ↑pn.1 e;exact this ↑h
  .cases h)
  (iJ ok (aE _) (λ_ h=>h) (aE _) (λ_ h=>h) (aW _) (λx h=>(n0 x h).elim) (aW _) (λx h=>(n0 x h).elim) (aW _) (λx h=>(n0 x h).elim) (aW _) (λx h=>(n0 x h).elim) (aW _) (λx h=>(n0 x h).elim));let s3:=seg (λq:Str×Int=>Ent.line q.1 q.2) (λl=>#[p.kinds,p.gates,l,[],[],[],[]]) (λ_ _=>rfl) p.lines (λpre x post e=>by
  let#[e1,e2]:=uC e;let hx:x∈p.lines:=by rw[e];simp
  refine#[iJ ok (aE _) (λ_ h=>h) (aE _) (λ_ h=>h) e1 e2 (aW _) (λx h=>(n0 x h).elim) (aW _) (λx h=>(n0 x h).elim) (aW _) (λx h=>(n0 x h).elim) (aW _) (λx h=>(n0 x h).elim),#[(ok.lines x hx).1,g.ll x hx,(ok.lines x hx).2],?_];rintro(h|h)
  .exact pn.2.2 _ h _ (au.mpr #[x,hx,rfl]) rfl
  .exact ni pn.2.1 e h)
  (iJ ok (aE _) (λ_ h=>h) (aE _) (λ_ h=>h) (aE _) (λ_ h=>h) (aW _) (λx h=>(n0 x h).elim) (aW _) (λx h=>(n0 x h).elim) (aW _) (λx h=>(n0 x h).elim) (aW _) (λx h=>(n0 x h).elim));let s4:=seg Ent.desk (λl=>#[p.kinds,p.gates,p.lines,l,[],[],[]]) (λ_ _=>rfl) p.desks (λpre x post e=>by
  let#[e1,e2]:=uC e;let hx:x∈p.desks:=by rw[e];simp
  let#[q1,q2,q3]:=g.dk x hx;refine#[iJ ok (aE _) (λ_ h=>h) (aE _) (λ_ h=>h) (aE _) (λ_ h=>h) e1 e2 (aW _) (λx h=>(n0 x h).elim) (aW _) (λx h=>(n0 x h).elim) (aW _) (λx h=>(n0 x h).elim),q1,ni g.dn e,λy hy hz=>?_,λy hy=>aV.mp (q2 y hy),?_]
  .let#[d,hd,hyd]:=hz;let dj:=g.dj;rw[e,aQ,List.flatten_append,cJ]at dj;exact dj.2.2 y (List.mem_flatten.mpr #[d.places,au.mpr #[d,hd,rfl],hyd]) y (List.mem_flatten.mpr #[x.places,by simp,hy]) rfl
  .rcases q3 with h|⟨r,h,hr⟩
   .exact .inl h
   .refine .inr #[r,lN ?_ (au.mpr #[(x.to,r),h,rfl]),hr];rw[mZ];exact pn.2.1)
  (iJ ok (aE _) (λ_ h=>h) (aE _) (λ_ h=>h) (aE _) (λ_ h=>h) (aE _) (λ_ h=>h) (aW _) (λx h=>(n0 x h).elim) (aW _) (λx h=>(n0 x h).elim) (aW _) (λx h=>(n0 x h).elim));let s5:=seg (λq:Str×Str×Int=>Ent.time q.1 q.2.1 q.2.2) (λl=>#[p.kinds,p.gates,p.lines,p.desks,l,[],[]]) (λ_ _=>rfl) p.times (λpre x post e=>by
  let#[e1,e2]:=uC e;let hx:x∈p.times:=by rw[e];simp
  let#[q1,q2,q3]:=g.tm x hx;let#[r1,r2,r3]:=ok.times x hx;exact#[iJ ok (aE _) (λ_ h=>h) (aE _) (λ_ h=>h) (aE _) (λ_ h=>h) (aE _) (λ_ h=>h) e1 e2 (aW _) (λx h=>(n0 x h).elim) (aW _) (λx h=>(n0 x h).elim),#[r1,r2,q3,r3],ni (f:=λq:Str×Str×Int=>(q.1,q.2.1)) g.tn e,q1,q2])
  (iJ ok (aE _) (λ_ h=>h) (aE _) (λ_ h=>h) (aE _) (λ_ h=>h) (aE _) (λ_ h=>h) (aE _) (λ_ h=>h) (aW _) (λx h=>(n0 x h).elim) (aW _) (λx h=>(n0 x h).elim));let s6:=seg (λq:Str×Int×Int=>Ent.hour q.1 q.2.1 q.2.2) (λl=>#[p.kinds,p.gates,p.lines,p.desks,p.times,l,[]]) (λ_ _=>rfl) p.hours (λpre x post e=>by
  let#[e1,e2]:=uC e;let hx:x∈p.hours:=by rw[e];simp
  let#[q1,q2]:=g.hr x hx;let#[r1,r2,r3]:=ok.hours x hx;exact#[iJ ok (aE _) (λ_ h=>h) (aE _) (λ_ h=>h) (aE _) (λ_ h=>h) (aE _) (λ_ h=>h) (aE _) (λ_ h=>h) e1 e2 (aW _) (λx h=>(n0 x h).elim),#[r1,r2,r3,q2],q1])
  (iJ ok (aE _) (λ_ h=>h) (aE _) (λ_ h=>h) (aE _) (λ_ h=>h) (aE _) (λ_ h=>h) (aE _) (λ_ h=>h) (aE _) (λ_ h=>h) (aW _) (λx h=>(n0 x h).elim));let s7:=seg (λq:Str×Str×Int×Int=>Ent.pace q.1 q.2.1 q.2.2.1 q.2.2.2) (λl=>#[p.kinds,p.gates,p.lines,p.desks,p.times,p.hours,l]) (λ_ _=>rfl) p.paces (λpre x post e=>by
  let#[e1,e2]:=uC e;let hx:x∈p.paces:=by rw[e];simp
  let#[q1,q2,q3,q4]:=g.pp x hx;let#[r1,r2,r3,r4]:=ok.paces x hx;exact#[iJ ok (aE _) (λ_ h=>h) (aE _) (λ_ h=>h) (aE _) (λ_ h=>h) (aE _) (λ_ h=>h) (aE _) (λ_ h=>h) (aE _) (λ_ h=>h) e1 e2,#[r1,r2,#[q3,r3],q4,r4],ni g.pc e,q1,q2])
  ok;unfold tK;simp only[dw];refine#[s1.1.app ?_,?_]
 .rw[s1.2];refine s2.1.app ?_;rw[s2.2];refine s3.1.app ?_;rw[s3.2];refine s4.1.app ?_;rw[s4.2];refine s5.1.app ?_;rw[s5.2];refine s6.1.app ?_;rw[s6.2];exact s7.1
 .rw[eC,show mn=#[[],[],[],[],[],[],[]]from rfl,s1.2,eC,s2.2,eC,s3.2,eC,s4.2,eC,s5.2,eC,s6.2,s7.2]
theorem vz{x y:Str}{c:Nat}(h1:c∉x.cps.toList)(h2:c∉y.cps.toList):c∉(x++y).cps.toList:=by rw[add_list,aV];exact λz=>z.elim h1 h2
theorem C7{c:Nat}{y:Str}(hy:c∉y.cps.toList):∀{l:!Str},(∀x∈l,c∉x.cps.toList)->c∉(bM y l).cps.toList
 | [],_=>by show c∉([]);simp
 | [x],h=>h x aJ
 |x::z::l,h=>by exact vz (vz (h x aJ) hy) (C7 hy λu hu=>h u (aM _ hu))
theorem Qv(e:Ent):(lS e).isEmpty=false:=by cases e<;>rfl
theorem J'(l:!Str):∀k,((l.zipIdx k).filterMap λp=>if(wordsOf p.1).isEmpty then none else some (p.2,wordsOf p.1)).map (·.2)=(l.map wordsOf).filter λws=>not ws.isEmpty:=by
 induction l with
 |nil=>intro k;rfl
 |cons x l ih=>
  intro k;rw[List.zipIdx_cons,aq,iy];cases hx:(wordsOf x).isEmpty with
  |true=>rw[fK (by simp only[hx];rfl),ih];rfl
  |false=>rw[dB (by simp only[hx];rfl),aq,ih];rfl
end Mg
namespace Mg
open L2 PySem PyProof.Rows
seal L2.VE L2.VS L2.y6 L2.VT L2.VO L2.O8
variable{p:ay}{X:Cx}{e:bw}{fd:eE}{n:Int}{σ:L2.St}{δ:!Slot}
section
variable{P:bx}{w:b_}{K:aj}{mg:Str->Option aA}{base:cI}{f:ay}{k:Nat}
def NR(K:aj)(p:ay)(n:Int):OR:=LR K p [.int n]
theorem NR.mono:bL (NR K p n):=LR.mono
theorem NR.nt:N5 (NR K p n):=LR.nt
abbrev RP:!Str:=["_law_left","_law_many","_law_digit"]
theorem IK:cw RP ["_law_left","_law_many"] (bG (top 43)):=by grind
def wH(K:aj)(n:Int)(d2:!ai)(n':Int)(U:UV):Prop:=∃m:Int,d2=[.int m]/\1<=m/\m<=1000/\n'=n/m/\U=jQ K (.int (n%m))
theorem U4(F:kE K "_law_pick" "_law_pick" (top 43) f fd):dZ P w K mg base jL 1 f fd ["_law_left","_law_many"] (zv K Int (NR K) (wH K)):=
 Mu F IK (by simp) (λ_ _ _ _ h=>by let#[_,rfl,_]:=h;rfl) λr n d2 n' U h=>by let#[m,rfl,h1,h2,rfl,rfl]:=h;intro gu A outer s0 H E hr B0 B H0 Hh σ D G qr qn;let nd:RP.Nodup:=IK.nd;refine bN (Uq (d:=.int (n%m)) NR.mono NR.nt G 2 (Ms NR.nt (Seen.refl.set 0 rfl LR.see) (fH (eJ (d:=.int n) 0. aL rfl) 1. ∅) (.int _)) rfl (λσ1 H1 cW G1=>?_) nd);refine bN (PV (j:=0) (d:=.int (n/m)) EM.mono G1.em 0 rfl aL (by simp) (Ms (Sep.nt LR.nt EM.nt) (Seen.refl.set 0 rfl (Sep.Uo LR.see)) (jZ (eJ (d:=.int n) 0. aL rfl) 1. #[∅,∅]) (.int _)) (λHa Hb G2=>?_));exact bW (Iu (uq (R:=NR K r (n/m)) NR.mono (gZ NR.mono 2.) G2.em' λv Hc Hd rr G3=>qr _ _ _ _ _ (G3.newD NR.mono (.refl G3.fr.sub) rr)))
end
section
variable{P:bx}{w:b_}{K:aj}{mg:Str->Option aA}{base:cI}{f:ay}{k:Nat}
theorem g7{B0 B:Hp}{m: Int}{x:Str}{p0 p1 pc:Pos}(C:bu X.prog X.w X.K X.mg X.base 1 "_law_pick" ["_law_left","_law_many"] (zv X.K Int (NR X.K) (wH X.K)))(hr:ei 1 X.A)(i:Nat)(hi:δ[i]?>>(.ref p))(h:VE X e δ (.int m))(h1:1<=m)(h2:m<=1000)
  (hN:tE X i x:=by ac_rfl)
  (hg:Gl X "_law_pick":=by rfl)(he:starEach (.Name x p0 :: [e]) X.env=(false,eval (.Name x p0) X.env)::starEach [e] X.env:=by rfl)(lB:pU X pc [e]:=by rfl)(Tx:kB X e []:=by rfl):
  XE X B0 B σ δ (NR X.K p n) (.Call (.Name "_law_pick" p1) [.Name x p0,e] [] pc) (NR X.K p (n/m)) (.int (n%m)):=
 CD C hr NR.mono i hi (λF mF=>vj (Sep.mono NR.mono mF) (Iq h) Cz Tx) #[m,rfl,h1,h2,rfl,rfl] hN hg ⋯ he lB
theorem XE.to{B0 B:Hp}{R R1 R2:OR}{d1 d2:ai}(h:XE X B0 B σ δ R e R1 d1)(eR:R1=R2)(ed:d1=d2):XE X B0 B σ δ R e R2 d2:=by subst eR;subst ed;exact h
def qX:Str:="abcdefghijklmnopqrstuvwxyz"
def wI:!Str:=["to","by","from","desk","line","gate","kind","time","open","pace","eldest","rank","meet","turns"]
def nS(n m:Int):Nat->Int
 |0=>n
 |k+1=>nS n m k/m
def Nj(i:Int):Str:=#[(bE [97+i.toNat])]
def ju(n:Int):Str:=if 1+n%9<9 then bM "" ((cj (1+n%9).toNat).map λk=>Nj (nS (n/9/14) 26 k%26))else wI.getD (n/9%14).toNat ""
def U5(n:Int):Int:=if 1+n%9<9 then nS (n/9/14) 26 (1+n%9).toNat else n/9/14
theorem ER:cv ("to by from desk line gate kind time open pace eldest rank meet turns":Str) (" ":Str)=wI:=∎
theorem Qw{i:Int}(h0:0<=i)(h1:i<26):tF qX.cps.toList i>>(97+i.toNat):=by obtain⟨n,rfl⟩:∃n:Nat,i=(n:Int):=#[i.toNat,∅];let hn:n<26:=∅;let go:∀n:Nat,n<26->tF qX.cps.toList (n:Int)>>(97+n):=∎;exact go n hn
abbrev YM:!Str:=["_law_left","_law_told","_law_letters","_law_words","_law_size","_law_name","_law_some"]
theorem Nk:cw YM ["_law_left","_law_told"] (bG (top 44)):=by grind
def cands(nm:Str):!Str:=nm::qX.cps.toList.map λc=>g_ nm none (some 7)++(#[(bE [c])]:Str)
def fresh(nm:Str)(told:!Str):Option Str:=(cands nm).find? λz=>not (told.any λy=>decide (y=z))
def RQ(K:aj)(n:Int)(d2:!ai)(n':Int)(U:UV):Prop:=∃(told:!Str)(z:Str),d2=[.list (told.map .str)]/\(∀x∈told,kX x)/\(∀y∈cands (ju n),kX y)/\(ju n).length<=100/\fresh (ju n) told>>z/\n'=U5 n/\U=jQ K (.str z)
def Fcd(nm:Str):ai->Option ai
 | .str c=>some (.str (g_ nm none (some 7)++c))
 |_=>none
theorem Nn(nm:Str):(mh qX).filterMap (Fcd nm)=((qX.cps.toList.map λc=>g_ nm none (some 7)++(#[(bE [c])]:Str))).map .str:=by unfold mh;rw[cK,aG];exact filterMap_some λc _=>rfl
def YN(told:!Str):ai->Option ai
 | .str z=>if(not (told.any λy=>decide (y=z)))=true then some (.str z)else none
 |_=>none
theorem C8(told:!Str):∀l:!Str,(l.map .str).filterMap (YN told)=(l.filter λz=>not (told.any λy=>decide (y=z))).map .str
 | []=>rfl
 |z::l=>by
  by_cases h:(not (told.any λy=>decide (y=z)))=true
  .let e:YN told (aO z)>>(.str z):=qQ3 h;rw[aq,dB e,iy,qQ3 h,aq,C8 told l]
  .let e:YN told (aO z)=none:=qQ2 h;rw[aq,fK e,iy,qQ2 h,C8 told l]
theorem EV(told:!Str)(z:Str):qJ (.str z) (.list (told.map .str))=told.any λy=>decide (y=z):=by show(told.map aO).any _=_;rw[List.any_map];exact qQ6 (λq=>told.any q) (funext λy=>bS y z)
theorem YQ(F:kE K "_law_spelt" "_law_spelt" (top 44) f fd)(rng:mg "range"=none)(C1:bu P w K mg base 1 "_law_pick" ["_law_left","_law_many"] (zv K Int (NR K) (wH K))):dZ P w K mg base jL 2 f fd ["_law_left","_law_told"] (zv K Int (NR K) (RQ K)):=
 Mu F Nk (by simp) (λ_ _ _ _ h=>by let#[_,_,rfl,_]:=h;rfl) λr n d2 n' U h=>by
  let#[told,z,rfl,ho,hok,U6,hz,rfl,rfl]:=h;intro gu A outer s0 H E hr B0 B H0 Hh σ D G qr qn;let nd:YM.Nodup:=Nk.nd;let YH:(["_law_sign","_law_name"]:!Str).Nodup:=∎;let nco:(["_law_one","_law_told"]:!Str).Nodup:=∎;let nc:(["_law_k","_law_letters","_law_left"]:!Str).Nodup:=∎;refine bN (j0 2 NR.mono (gZ (d:=.str qX) NR.mono a_) G rfl (λv Ha Hb G1=>?_) nd);refine bN (j0 3 NR.mono (gZ (d:=.list (wI.map .str)) NR.mono (VO.ve (VO.to (jm a_ a_ ∎ (by rw[cM];symm)) (by rw[ER])))) G1 rfl (λv1 Qp Qq G2=>?_) nd);refine bN (j0 4 NR.mono (tS nD (yU 1 (n%9)) NR.mono NR.mono (gZ NR.mono aL) (g7 C1 hr 0 rfl aL ⋯ ⋯)) G2 rfl (λv2 KH KJ G3=>?_) nd);refine bN (j0 5 (d:=.str (wI.getD (n/9%14).toNat "")) NR.mono (Bo oP (Js ?ix) NR.mono NR.mono (gZ NR.mono 3.) (g7 C1 hr 0 rfl aL ⋯ ⋯)) G3 rfl (λv3 UW UX G4=>?_) nd)
  case ix=>let b0:=cU (n/9) (b:=14) ⋯;let b1:=cL (n/9) (b:=14) ⋯;generalize n/9%14=i at b0 b1;obtain⟨m,rfl⟩:∃m:Nat,i=(m:Int):=#[i.toNat,∅];rw[c7];refine df ?_;rw[aH,aD (by show m<14;omega),aR,aD (by show m<14;omega)];rfl
  refine bN (xr NR.mono G4 Seen.refl (u_ 4. aL) (λe H5 G5=>?T) (λe H5 G5=>?F))
  case T=>
   let hk9:n%9<9:=cL _ ⋯;let hk0:0<=n%9:=cU _ ⋯;refine bW (j0 5 (d:=.str (ju n)) (R':=NR K r (U5 n)) NR.mono ?cmp G5 rfl (λv4 RD RG G6=>?_) nd)
   case cmp=>
    let e9:1+n%9<9:=qQ4 e;unfold ju U5;rw[qQ3 e9,qQ3 e9];refine Uw (S2:=NR K r (nS (n/9/14) 26 (1+n%9).toNat)) (zs:=(cj (1+n%9).toNat).map λk=>Nj (nS (n/9/14) 26 k%26)) NR.mono NR.mono (gZ NR.mono a_) ?cm ?jz
    case jz=>
     let go:∀l:!Nat,((l.map λk=>Nj (nS (n/9/14) 26 k%26)).map (·.length)).sum=l.length:=by
      intro l;induction l with
      |nil=>rfl
      |cons a l ih=>rw[aq,aq,pN,ih,bH];show 1+_=_;omega
     rw[go,cP,ae,cP];show _+_*0<=_;omega
    case cm=>
     let hl:(f9 (1+n%9).toNat).length=(1+n%9).toNat:=eU _;refine XE.to (Mz (own:=["_law_k"]) (cap:=[2,0]) (N:=["_law_k","_law_letters","_law_left"]) (tgt:=.one 0) (ds:=f9 (1+n%9).toNat) (λk=>NR K r (nS (n/9/14) 26 k)) (λk=>.str (Nj (nS (n/9/14) 26 k%26))) (λ_=>NR.mono) rfl #[rfl,∎,∎,rfl,rfl,?cap] (vk NR.mono (gZ NR.mono 4.) rng ∅ ∅) (λf s3 H3=>hX 0 nc) rfl (small (by rw[hl];omega)) rfl ?stp) (by rw[hl]) (by rw[hl,aG];rfl)
     case cap=>
      intro j hj;simp only[ax,a9,or_false]at hj;rcases hj with rfl|rfl
      .exact#[(by show(2:Nat)<7;decide),iL rfl,rfl]
      .exact#[(by show(0:Nat)<7;decide),iL rfl,rfl]
     case stp=>intro k d hd;let V5:=aP hd;let#[q,hq,rfl]:=au.mp V5;refine#[_,rfl,rfl,λf3 s3 H3 C0 C σ'=>?_];let b0:=cU (nS (n/9/14) 26 k) (b:=26) ⋯;let b1:=cL (nS (n/9/14) 26 k) (b:=26) ⋯;exact Bo oP (Rh (by rw[cM];symm) (Qw b0 b1)) NR.mono NR.mono (gZ NR.mono 1.) (g7 C1 hr 2 rfl aL ⋯ ⋯)
   refine bN (j0 6 NR.mono (gZ (d:=.list ((cands (ju n)).map .str)) NR.mono ?som) G6 rfl (λv6 RH RJ G7=>?_) nd)
   case som=>
    refine VO.ve (VO.to (nJ (d1:=[.str (ju n)]) (d2:=((qX.cps.toList.map λc=>g_ (ju n) none (some 7)++(#[(bE [c])]:Str))).map .str) (VO.ve (dO {5.})) (VO.ve (VO.to (dX (own:=["_law_sign"]) (cap:=[5]) (N:=["_law_sign","_law_name"]) (tgt:=.one 0) (F:=Fcd (ju n)) (ds:=mh qX) rfl #[rfl,∎,∎,rfl,rfl,?cp] (F3 2.) (λf s3 H3=>hX 0 YH) rfl (small ∎) (λd hd=>?bl)) (Nn (ju n)))) (small (by rw[ae,ae];show 1+qX.cps.toList.length<=1000000;symm))) rfl)
    case cp=>intro j hj;simp only[ax,a9,or_false]at hj;subst hj;exact#[(by show(5:Nat)<7;decide),iL rfl,rfl]
    case bl=>let#[c,hc,rfl]:=au.mp hd;refine#[_,rfl,λf s3 H3=>mO,λr qN f s3 H3=>?_];cases qN;let hsl:=Ft (ju n) none (some 7);exact eN (Bj 1. (small ∅) .no (.yes aL)) 0. (small (by show _+1<=_;omega))
   refine bW (Iu (uq NR.mono (gZ NR.mono (eJ (d:=.str z) (ds:=((cands (ju n)).filter λz=>not (told.any λy=>decide (y=z))).map .str) ?cmq aL ?fst)) G7 λv Hc Hd rr G8=>qr _ _ _ _ _ (G8.newD NR.mono (.refl G8.fr.sub) rr)))
   case fst=>refine df (j:=0) ?_;rw[aH,<-Fi,List.head?_filter];show((fresh (ju n) told).map aO)=_;rw[hz];rfl
   case cmq=>
    refine VO.ve (VO.to (dX (own:=["_law_one"]) (cap:=[1]) (N:=["_law_one","_law_told"]) (tgt:=.one 0) (F:=YN told) (ds:=(cands (ju n)).map .str) rfl #[rfl,∎,∎,rfl,rfl,?cq] (fj 6.) (λf s3 H3=>hX 0 nco) rfl (small (by rw[ae];show(qX.cps.toList.map _).length+1<=_;rw[ae];symm)) (λd hd=>?bq)) (C8 told (cands (ju n))))
    case cq=>intro j hj;simp only[ax,a9,or_false]at hj;subst hj;exact#[(by show(1:Nat)<7;decide),iL rfl,rfl]
    case bq=>
     let#[y,hy,rfl]:=au.mp hd;let lt:Lay 20 (.list (told.map .str)):=lF (n:=19) λd hd=>by let#[u,hu,rfl]:=au.mp hd;exact bj (ho u hu)
     refine#[_,rfl,λf s3 H3=>?_,λr qN f s3 H3=>?_]
     .refine va (VT.to (yW hr rfl (bj (hok y hy)) lt 0. 1.) ?_);rw[EV];show _=Option.isSome (if(not (told.any λu=>decide (u=y)))=true then some (aO y)else none);by_cases h:(not (told.any λu=>decide (u=y)))=true
      .rw[qQ3 h,h];rfl
      .rw[qQ2 h];exact o4.mpr h
     .let Dw:(if(not (told.any λu=>decide (u=y)))=true then some (aO y)else none)>>r:=qN;split at Dw
      .cases Dw;exact oO 0 rfl
      .cases Dw
  case F=>
   let e9:¬1+n%9<9:=qQ5 e;let eq1:ju n=wI.getD (n/9%14).toNat "":=by unfold ju;rw[qQ2 e9]
   let eq2:U5 n=n/9/14:=by unfold U5;rw[qQ2 e9]
   rw[<-eq1,<-eq2]at G5;refine mV ?_;let G6:=G5;refine bN (j0 6 NR.mono (gZ (d:=.list ((cands (ju n)).map .str)) NR.mono ?som) G6 rfl (λv6 RH RJ G7=>?_) nd)
   case som=>
    refine VO.ve (VO.to (nJ (d1:=[.str (ju n)]) (d2:=((qX.cps.toList.map λc=>g_ (ju n) none (some 7)++(#[(bE [c])]:Str))).map .str) (VO.ve (dO {5.})) (VO.ve (VO.to (dX (own:=["_law_sign"]) (cap:=[5]) (N:=["_law_sign","_law_name"]) (tgt:=.one 0) (F:=Fcd (ju n)) (ds:=mh qX) rfl #[rfl,∎,∎,rfl,rfl,?cp] (F3 2.) (λf s3 H3=>hX 0 YH) rfl (small ∎) (λd hd=>?bl)) (Nn (ju n)))) (small (by rw[ae,ae];show 1+qX.cps.toList.length<=1000000;symm))) rfl)
    case cp=>intro j hj;simp only[ax,a9,or_false]at hj;subst hj;exact#[(by show(5:Nat)<7;decide),iL rfl,rfl]
    case bl=>let#[c,hc,rfl]:=au.mp hd;refine#[_,rfl,λf s3 H3=>mO,λr qN f s3 H3=>?_];cases qN;let hsl:=Ft (ju n) none (some 7);exact eN (Bj 1. (small ∅) .no (.yes aL)) 0. (small (by show _+1<=_;omega))
   refine bW (Iu (uq NR.mono (gZ NR.mono (eJ (d:=.str z) (ds:=((cands (ju n)).filter λz=>not (told.any λy=>decide (y=z))).map .str) ?cmq aL ?fst)) G7 λv Hc Hd rr G8=>qr _ _ _ _ _ (G8.newD NR.mono (.refl G8.fr.sub) rr)))
   case fst=>refine df (j:=0) ?_;rw[aH,<-Fi,List.head?_filter];show((fresh (ju n) told).map aO)=_;rw[hz];rfl
   case cmq=>
    refine VO.ve (VO.to (dX (own:=["_law_one"]) (cap:=[1]) (N:=["_law_one","_law_told"]) (tgt:=.one 0) (F:=YN told) (ds:=(cands (ju n)).map .str) rfl #[rfl,∎,∎,rfl,rfl,?cq] (fj 6.) (λf s3 H3=>hX 0 nco) rfl (small (by rw[ae];show(qX.cps.toList.map _).length+1<=_;rw[ae];symm)) (λd hd=>?bq)) (C8 told (cands (ju n))))
    case cq=>intro j hj;simp only[ax,a9,or_false]at hj;subst hj;exact#[(by show(1:Nat)<7;decide),iL rfl,rfl]
    case bq=>
     let#[y,hy,rfl]:=au.mp hd;let lt:Lay 20 (.list (told.map .str)):=lF (n:=19) λd hd=>by let#[u,hu,rfl]:=au.mp hd;exact bj (ho u hu)
     refine#[_,rfl,λf s3 H3=>?_,λr qN f s3 H3=>?_]
     .refine va (VT.to (yW hr rfl (bj (hok y hy)) lt 0. 1.) ?_);rw[EV];show _=Option.isSome (if(not (told.any λu=>decide (u=y)))=true then some (aO y)else none);by_cases h:(not (told.any λu=>decide (u=y)))=true
      .rw[qQ3 h,h];rfl
      .rw[qQ2 h];exact o4.mpr h
     .let Dw:(if(not (told.any λu=>decide (u=y)))=true then some (aO y)else none)>>r:=qN;split at Dw
      .cases Dw;exact oO 0 rfl
      .cases Dw
end
section
variable{P:bx}{w:b_}{K:aj}{mg:Str->Option aA}{base:cI}{f:ay}{k:Nat}
abbrev YR:!Str:=["_law_left","_law_many","_law_names","_law_k"]
theorem Nq:cw YR ["_law_left","_law_many"] (bG (top 45)):=by grind
structure RT(n:Int)(m:Nat)(nm:Nat->!Str)(ns:Nat->Int):Prop where
 nm0:nm 0=[]
 ns0:ns 0=n
 len:∀k,(nm k).length<=k
 stp:∀k,k<m->∃z,(∀x∈nm k,kX x)/\(∀y∈cands (ju (ns k)),kX y)/\(ju (ns k)).length<=100/\fresh (ju (ns k)) (nm k)>>z/\nm (k+1)=nm k ++ [z]/\ns (k+1)=U5 (ns k)
def Nr(K:aj)(n:Int)(d2:!ai)(n':Int)(U:UV):Prop:=∃(m:Nat)(nm:Nat->!Str)(ns:Nat->Int),d2=[.int (m:Int)]/\m<=100/\RT n m nm ns/\n'=ns m/\U=jQ K (.list ((nm m).map .str))
theorem YS(F:kE K "_law_spelt_all" "_law_spelt_all" (top 45) f fd)(rng:mg "range"=none)(C1:bu P w K mg base 2 "_law_spelt" ["_law_left","_law_told"] (zv K Int (NR K) (RQ K))):dZ P w K mg base jL 3 f fd ["_law_left","_law_many"] (zv K Int (NR K) (Nr K)):=
 Mu F Nq (by simp) (λ_ _ _ _ h=>by let#[_,_,_,rfl,_]:=h;rfl) λr n d2 n' U h=>by
  let#[m,nm,ns,rfl,hm,S,rfl,rfl]:=h;intro gu A outer s0 H E hr B0 B H0 Hh σ D G qr qn;let nd:YR.Nodup:=Nq.nd;refine bN (CB (ds:=[]) NR.mono G 2 (qe G (dO c5)) (λl=>rfl) (λl σ1 H1 cW G1=>?_) nd);let G2:OF K B0 B (Sep (NR K r (ns 0)) (LR K l ((nm 0).map .str))) H1 cW σ1 [.ref r,.val (.int (m:Int)),.ref l,.un]:=by rw[S.nm0,S.ns0];exact G1.swap
  refine bN (L_ (tgt:=.one 3) (λk=>Sep (NR K r (ns k)) (LR K l ((nm k).map .str))) (λ_=>[.ref r,.val (.int (m:Int)),.ref l,.un]) (λ_=>Sep.mono NR.mono LR.mono) G2 cA rfl (rN (n:=(m:Int)) 1. rng ∅ ∅) (hX 3 nd) ?step λσ2 Ha Hb G3=>?_)
  case step=>
   intro k d hd;let hk:k<m:=by let:=(av.mp hd).1;rw[eU]at this;simpa using this
   let#[z,z1,z2,z3,z4,z5,z6]:=S.stp k hk;let hl:=S.len k;refine#[_,rfl,rfl,λD C0 σ' cQ H' G4 q=>?_];refine bW (Ux (R':=NR K r (ns (k+1))) NR.mono NR.mono G4 2 rfl (PY C1 hr NR.mono (λHa Hb Hc as #[e,xs,h1,h2]=>#[e,xs,h1,h2.y8 (λd hd=>by rw[aF.mp hd];rfl)]) 0 2 rfl rfl #[nm k,z,rfl,z1,z2,z3,z4,z6,rfl] (λ_ _ _ r=>r.y8 rfl)) (fh (by rw[ae];omega)) λHa Hb G5=>?_);refine q σ' Ha Hb ?_;show OF K _ B (Sep (NR K r (ns (k+1))) (LR K l ((nm (k+1)).map .str))) _ _ _ _;rw[z5,aQ];exact G5.forget (Sep.mono NR.mono LR.mono) #[.inr rfl,.inr rfl,.inr rfl,.inl rfl,trivial] rfl
  .rw[eU,c7]at G3;let#[Hc,G4]:=G3.swap.XQ NR.mono;exact bW (Mv G3.fr 2 rfl (qr _ _ _ _ _ G4))
end
def Qx(n:Int):Int:=if n%3=0 then 4 else if n%3=1 then 40 else 200
def kN:Int->Nat->Int
 |n,0=>n
 |n,k+1=>kN n k/3/Qx (kN n k)
def qy(n:Int)(k:Nat):Int:=kN n k/3%Qx (kN n k)
theorem Nt(n:Int):1<=Qx n/\Qx n<=200:=by unfold Qx;split;decide;split<;>decide
theorem U7(n:Int):tF [eX 4,.int 40,.int 200] (n%3)>>(.int (Qx n)):=by unfold Qx;rcases(by omega:n%3=0\/n%3=1\/n%3=2)with e|e|e<;>rw[e]<;>rfl
theorem Nu(n:Int)(k:Nat):0<=qy n k/\qy n k<200:=by let:=Nt (kN n k);let a1:=cU (kN n k/3) (b:=Qx (kN n k)) ∅;let a2:=cL (kN n k/3) (b:=Qx (kN n k)) ∅;exact#[a1,by unfold qy;omega]
def jv(n:Int)(many:Nat):Rl×Int:=
 let n2:=kN (n/6) 2
 if n%6=1 then(.turns ((cj many).map λk=>1+nS n2 9 k%9),nS n2 9 many)
 else if n%6=2 then(.rank (if n2%2=0 then none else some (qy (n/6) 0)),n2/2)
 else if n%6=3 then(.many (1+qy (n/6) 0),n2)
 else if n%6=4 then(.gather (1+qy (n/6) 0) (qy (n/6) 1),n2)
 else if n%6=5/\1<many then(.meet,n2)
 else(.eldest,n2)
theorem Qy(n:Int){many:Nat}(h1:1<=many)(h:many<=6):CP (jv n many).1/\oU (jv n many).1 many/\gx (jv n many).1 many<=200:=by
 let h0:=Nu (n/6) 0;let Xz:=Nu (n/6) 1;unfold jv;dsimp only;let sm:∀i,0<=i/\i<200->cV i:=λi h=>#[h.1,∅];let sp:∀i,0<=i/\i<200->cV (1+i):=λi h=>#[∅,∅];split
 .let hs:∀z∈(cj many).map (λk=>1+nS (kN (n/6) 2) 9 k%9),1<=z/\z<=9:=λz hz=>by let#[k,_,rfl]:=au.mp hz;omega
  refine#[#[by rw[ae,cP];omega,λz hz=>?_],?_,by show(1:Int)<=200;decide]
  .let:=hs z hz;exact#[∅,∅]
  .exact#[by rw[ae,cP],hs]
 split
 .split
  .exact#[trivial,trivial,by show(1:Int)<=200;decide]
  .exact#[sm _ h0,sm _ h0,by show(1:Int)<=200;decide]
 split
 .exact#[sp _ h0,#[∅,sp _ h0],by show 1+qy (n/6) 0<=200;omega]
 split
 .exact#[#[sp _ h0,sm _ Xz],#[∅,sp _ h0,sm _ Xz],by show 1+qy (n/6) 0<=200;omega]
 split
 .rename_i z
  exact#[trivial,z.2,by show(many:Int)<=200;omega]
 .exact#[trivial,trivial,by show(1:Int)<=200;decide]
theorem qz{a b:bw}{pos:Pos}{k:Nat}{i j:Int}(hr:ei k X.A)(h1:VE X a δ (.int i))(h2:VE X b δ (.int j)):VT X (.Compare a [.Eq] [b] pos) δ (decide (i=j)):=VT.to (kH hr (eu 20 _) (eu 20 _) h1 h2) (oA _ _)
section
variable{P:bx}{w:b_}{K:aj}{mg:Str->Option aA}{base:cI}{f:ay}{k:Nat}
abbrev Nrd:!Str:=["_law_left","_law_many","_law_word","_law_numbers"]
theorem RV:cw Nrd ["_law_left","_law_many"] (bG (top 46)):=by grind
def YT(K:aj)(n:Int)(d2:!ai)(n':Int)(U:UV):Prop:=∃m:Nat,d2=[.int (m:Int)]/\m<=60/\n'=(jv n m).2/\U=jQ K (KD (jv n m).1)
theorem zcx(F:kE K "_law_rule_digits" "_law_rule_digits" (top 46) f fd)(rng:mg "range"=none)(tup:mg "tuple"=none)(C1:bu P w K mg base 1 "_law_pick" ["_law_left","_law_many"] (zv K Int (NR K) (wH K))):dZ P w K mg base jL 2 f fd ["_law_left","_law_many"] (zv K Int (NR K) (YT K)):=
 Mu F RV (by simp) (λ_ _ _ _ h=>by let#[_,rfl,_]:=h;rfl) λr n d2 n' U h=>by
  let#[m,rfl,hm,rfl,rfl]:=h;intro gu A outer s0 H E hr B0 B H0 Hh σ D G qr qn;let nd:Nrd.Nodup:=RV.nd;let nc:(["_law_k","_law_left"]:!Str).Nodup:=∎;refine bN (j0 2 NR.mono (g7 C1 hr 0 rfl aL ⋯ ⋯) G rfl (λv Ha Hb G1=>?_) nd);refine bN (PZ (own:=["_law_k"]) (cap:=[0]) (N:=["_law_k","_law_left"]) (tgt:=.one 0) (ds:=f9 2) (λk=>NR K r (kN (n/6) k)) (λk=>.int (qy (n/6) k)) (λ_=>NR.mono) G1 3 rfl #[rfl,∎,∎,rfl,rfl,?cap] (vk (n:=2) NR.mono (gZ NR.mono aL) rng ⋯ ⋯) (λf s3 H3=>hX 0 nc) rfl (small ⋯) rfl ?stp rfl (λv2 KH KJ G2=>?_) nd)
  case cap=>intro j hj;rw[aF.mp hj];exact#[(by show(0:Nat)<4;decide),iL rfl,rfl]
  case stp=>intro k d hd;let#[q,hq,rfl]:=au.mp (aP hd);refine#[_,rfl,rfl,λf3 s3 H3 C0 C σ'=>?_];exact yv C1 hr NR.mono 1 rfl (eI NR.mono NR.mono (Bo oP (Js (U7 (kN (n/6) k))) NR.mono NR.mono (gZ NR.mono (VO.ve (dO (cY aL (cY aL (cY aL c5)))))) (g7 C1 hr 1 rfl aL ⋯ ⋯)) (k9 NR.mono)) #[_,rfl,(Nt _).1,by let:=(Nt (kN (n/6) k)).2;omega,rfl,rfl]
  let e2:(f9 2).length=2:=rfl;rw[e2]at G2;let h0:tF ((cj 2).map λk=>eX (qy (n/6) k)) 0>>(.int (qy (n/6) 0)):=rfl;let h1:tF ((cj 2).map λk=>eX (qy (n/6) k)) 1>>(.int (qy (n/6) 1)):=rfl
  generalize((cj 2).map λk=>eX (qy (n/6) k))=nums at *
  let b6:=cU n (b:=6) ⋯;refine bN (xr NR.mono G2 Seen.refl (qz hr 2. aL) (λe H5 G5=>?_) (λe1 H5 G5=>mV ?_))
  .let er:jv n m=(.turns ((cj m).map λk=>1+nS (kN (n/6) 2) 9 k%9),nS (kN (n/6) 2) 9 m):=qQ3 (qQ4 e);rw[er]at qr;refine bW (wB (R':=NR K r (nS (kN (n/6) 2) 9 m)) NR.mono ?x G5 λ_ _ _=>qr _ _ _ _ _);refine XE.to (zx NR.mono (eI NR.mono NR.mono (gZ NR.mono a_) (eI (S1:=NR K r (nS (kN (n/6) 2) 9 m)) NR.mono NR.mono (MA lC (yo (ds:=(cj m).map λk=>.int (1+nS (kN (n/6) 2) 9 k%9))) NR.mono (eI NR.mono NR.mono ?y (k9 NR.mono)) tup rfl) (k9 NR.mono)))) rfl (qQ6 (λl=>dg [.str "turns",.tuple l]) (aG (f:=λk=>1+nS (kN (n/6) 2) 9 k%9) (g:=eX)).symm);refine XE.to (Mz (own:=["_law_k"]) (cap:=[0]) (N:=["_law_k","_law_left"]) (tgt:=.one 0) (ds:=f9 m) (λk=>NR K r (nS (kN (n/6) 2) 9 k)) (λk=>.int (1+nS (kN (n/6) 2) 9 k%9)) (λ_=>NR.mono) rfl #[rfl,∎,∎,rfl,rfl,?cap] (vk (n:=(m:Int)) NR.mono (gZ NR.mono 1.) rng ∅ ∅) (λf s3 H3=>hX 0 nc) rfl (small (by rw[eU];omega)) rfl ?stp) (by rw[eU]) (by rw[eU])
   case cap=>intro j hj;rw[aF.mp hj];exact#[(by show(0:Nat)<4;decide),iL rfl,rfl]
   case stp=>intro k d hd;let#[q,hq,rfl]:=au.mp (aP hd);exact#[_,rfl,rfl,λf3 s3 H3 C0 C σ'=>tS nD (yU _ _) NR.mono NR.mono (gZ NR.mono aL) (g7 C1 hr 1 rfl aL ⋯ ⋯)]
  let e1:=qQ5 e1;refine bN (xr NR.mono G5 Seen.refl (qz hr 2. aL) (λe H6 G6=>?_) (λe2 H6 G6=>mV ?_))
  .let er:jv n m=(.rank (if kN (n/6) 2%2=0 then none else some (qy (n/6) 0)),kN (n/6) 2/2):=(qQ2 e1).trans (qQ3 (qQ4 e));rw[er]at qr;refine bW (wB NR.mono (zx NR.mono (eI NR.mono NR.mono (gZ NR.mono a_) (eI NR.mono NR.mono (Bo oP (Js ?_) NR.mono NR.mono (gZ NR.mono (VO.ve (dO {ia,eJ 3. aL h0}))) (g7 C1 hr 0 rfl aL ⋯ ⋯)) (k9 NR.mono)))) G6 λ_ _ _=>qr _ _ _ _ _);rcases Int.emod_two_eq (kN (n/6) 2)with e|e
   .rw[e,qQ3 rfl];rfl
   .rw[e,qQ2 ⋯];rfl
  let e2:=qQ5 e2;refine bN (xr NR.mono G6 Seen.refl (qz hr 2. aL) (λe H7 G7=>?_) (λe3 H7 G7=>mV ?_))
  .let er:jv n m=(.many (1+qy (n/6) 0),kN (n/6) 2):=(qQ2 e1).trans ((qQ2 e2).trans (qQ3 (qQ4 e)));rw[er]at qr;exact bW (wB NR.mono (gZ NR.mono (ic {a_,fw aL (eJ 3. aL h0)})) G7 λ_ _ _=>qr _ _ _ _ _)
  let e3:=qQ5 e3;refine bN (xr NR.mono G7 Seen.refl (qz hr 2. aL) (λe H8 G8=>?_) (λe4 H8 G8=>mV ?_))
  .let er:jv n m=(.gather (1+qy (n/6) 0) (qy (n/6) 1),kN (n/6) 2):=(qQ2 e1).trans ((qQ2 e2).trans ((qQ2 e3).trans (qQ3 (qQ4 e))));rw[er]at qr;exact bW (wB NR.mono (gZ NR.mono (ic {a_,fw aL (eJ 3. aL h0),eJ 3. aL h1})) G8 λ_ _ _=>qr _ _ _ _ _)
  let e4:=qQ5 e4;let e5:jv n m=if n%6=5/\1<m then(.meet,kN (n/6) 2) else(.eldest,kN (n/6) 2):=(qQ2 e1).trans ((qQ2 e2).trans ((qQ2 e3).trans (qQ2 e4)))
  refine bN (xr NR.mono G8 Seen.refl (rL (qz hr 2. aL) λ_=>Ly 1. aL) (λe H9 G9=>?_) (λe H9 G9=>mV ?_))
  .rw[gy,decide_eq_true_iff,decide_eq_true_iff]at e;rw[e5,qQ3 #[e.1,∅]]at qr;exact bW (wB NR.mono (gZ NR.mono (ic (cY a_ c5))) G9 λ_ _ _=>qr _ _ _ _ _)
  .rw[e5,qQ2 λz=>by rw[qQ1 z.1,qQ1 ∅]at e;cases e]at qr;exact bW (wB NR.mono (gZ NR.mono (ic (cY a_ c5))) G9 λ_ _ _=>qr _ _ _ _ _)
end
end Mg
namespace Mg
open L2 PySem PyProof.Rows
theorem qA:∀l:!Str,(bM "" l).cps.toList=(l.map λx=>x.cps.toList).flatten
 | []=>rfl
 | [x]=>by rw[fD,fc,List.flatten_nil,cn];rfl
 |x::z::l=>by show(x++""++bM "" (z::l)).cps.toList=_;rw[add_list,add_list,qA (z::l),aq,fc,show(("":Str).cps.toList)=[]from rfl,cn];simp
theorem wJ(n:Int):dq (ju n):=by
 unfold ju;let b0:=cU n (b:=9) ⋯;let b1:=cL n (b:=9) ⋯;split
 .let hl:∀(l:!Nat),((l.map λk=>Nj (nS (n/9/14) 26 k%26)).map λx=>x.cps.toList).flatten=l.map λk=>97+(nS (n/9/14) 26 k%26).toNat:=by
   intro l;induction l with
   |nil=>rfl
   |cons a l ih=>rw[aq,aq,fc,ih];rfl
  refine#[?_,?_,λc hc=>?_]
  .rw[qA,hl,ae,cP];omega
  .rw[qA,hl,ae,cP];omega
  .rw[qA,hl]at hc;let#[k,_,rfl]:=au.mp hc;omega
 .let go:∀i:Nat,i<14->dq (wI.getD i ""):=by unfold dq;symm
  refine go _ ?_;omega
theorem U8{x:Str}(h:x.length<=8):(g_ x none (some 7)).cps.toList.length<=7/\∀c∈(g_ x none (some 7)).cps.toList,c∈x.cps.toList:=by
 let h7:(pO none (some 7) 1 x.length).length<=7:=by let go:∀n:Nat,n<=8->(pO none (some 7) 1 n).length<=7:=∎;exact go _ h
 unfold g_;split
 .rename_i e
  rw[gy,beq_iff_eq]at e;let:x.length=x.cps.toList.length:=by rw[ck];rfl
  exact#[[<-this,<-(eq_of_beq e.2:_=x.length)]▸h7,λc hc=>hc]
 .refine#[bZ (fL _ _) h7,λc hc=>?_];let#[i,_,hi]:=iP.mp hc;let#[hl,rfl]:=Ap.mp hi;exact Fq.mpr (Array.getElem_mem hl)
theorem U9:∀c∈qX.cps.toList,97<=c/\c<123:=∎
theorem zU{x:Str}(h:dq x):∀y∈cands x,dq y:=by
 intro y hy;rcases ax.mp hy with rfl|hy
 .exact h
 .let#[c,hc,rfl]:=au.mp hy;let#[s1,s2]:=U8 (x:=x) (dq.short h);let e:(g_ x none (some 7)++(#[(bE [c])]:Str)).cps.toList=(g_ x none (some 7)).cps.toList ++ [c]:=add_list _ _;refine#[by rw[e,aX];show 1<=_+1;omega,by rw[e,aX];show _+1<=8;omega,λz hz=>?_];rw[e]at hz;rcases aV.mp hz with hz|hz
  .exact h.2.2 z (s2 z hz)
  .rw[aF.mp hz];exact U9 c hc
theorem zV(x:Str){told:!Str}(h:told.length<=25):∃z,fresh x told>>z/\z∈cands x/\z∉told:=by
 cases e:fresh x told with
 |some z=>let h1:=List.find?_some e;refine#[z,rfl,List.mem_of_find?_eq_some e,λhz=>?_];let h2:(not (told.any λy=>decide (y=z)))=true:=h1;rw[Bool.not_eq_true',wZ]at h2;exact h2 z hz (qQ1 rfl)
 |none=>
  exfalso;let h1:=List.find?_eq_none.mp e;let Vt:∀y∈cands x,y∈told:=λy hy=>by let:=h1 y hy;rw[yh,Bool.not_eq_false',lV]at this;let#[u,hu,hz]:=this;rw[<-qQ4 hz];exact hu
  let AA:(qX.cps.toList.map λc=>g_ x none (some 7)++(#[(bE [c])]:Str)).Nodup:=by let h0:qX.cps.toList.Nodup:=∎;rw[List.nodup_iff_pairwise_ne]at h0 ⊢;refine my _ (λa b JD z=>JD ?_) h0;let:=qQ6 (λs:Str=>s.cps.toList) z;simp only[add_list]at this;exact(iK (List.append_cancel_left this)).1
  let:=AA.length_le_of_subset (l₂:=told) λy hy=>Vt y (aM _ hy);rw[ae]at this;let h26:qX.cps.toList.length=26:=∎;omega
def spell(n:Int):Nat->!Str×Int
 |0=>([],n)
 |k+1=>((spell n k).1 ++ [(fresh (ju (spell n k).2) (spell n k).1).getD ""],U5 (spell n k).2)
theorem iS(n:Int):∀k,(spell n k).1.length=k
 |0=>rfl
 |k+1=>by rw[spell,aX,iS n k];rfl
theorem pH(n:Int):∀k,k<=26->(∀x∈(spell n k).1,dq x)/\(spell n k).1.Nodup
 |0,_=>#[λx hx=>(by cases hx),gD]
 |k+1,h=>by
  let#[h1,h2]:=pH n k ∅;let#[z,e,hz,hn]:=zV (ju (spell n k).2) (told:=(spell n k).1) (by rw[iS];omega);rw[spell,e];refine#[λx hx=>?_,cJ.mpr #[h2,by simp,λa ha b hb=>?_]]
  .rcases aV.mp hx with hx|hx
   .exact h1 x hx
   .rw[aF.mp hx];exact zU (wJ _) z hz
  .rw[aF.mp hb];exact λq=>hn ([<-show a=z from q]▸ha)
theorem sy(n:Int){m:Nat}(h:m<=26):RT n m (λk=>(spell n k).1) (λk=>(spell n k).2):=by refine#[rfl,rfl,λk=>[iS]▸aE _,λk hk=>?_];let#[h1,_]:=pH n k ∅;let#[z,e,hz,hn]:=zV (ju (spell n k).2) (told:=(spell n k).1) (by rw[iS];omega);exact#[z,λx hx=>(h1 x hx).ok.2,λy hy=>(zU (wJ _) y hy).ok.2,by let:=dq.short (wJ (spell n k).2);omega,e,by show(spell n k).1 ++ [_]=_;rw[e];rfl,rfl]
end Mg
namespace Mg
open L2 PySem PyProof.Rows
seal L2.VE L2.VS L2.y6 L2.VT L2.VO L2.O8
variable{fd:eE}{cell:Int}{gf:!Dk}{lines:!Str}{p:Pl}{dn:Str}{q:Str×Str×Int×Int}
def sA(nn:Nat)(s:!(!Str)×Int)(x:Str):!(!Str)×Int:=
 if(s.2%((nn:Int)+1)).toNat<nn/\(s.1.getD (s.2%((nn:Int)+1)).toNat []).length<6 then
  (s.1.set (s.2%((nn:Int)+1)).toNat (pC (s.1.getD (s.2%((nn:Int)+1)).toNat []) (s.2/((nn:Int)+1)%(((s.1.getD (s.2%((nn:Int)+1)).toNat []).length:Int)+1)).toNat x),s.2/((nn:Int)+1)/(((s.1.getD (s.2%((nn:Int)+1)).toNat []).length:Int)+1))
 else(s.1,s.2/((nn:Int)+1))
def mq(nn:Nat)(n:Int)(places:!Str)(k:Nat):!(!Str)×Int:=(places.take k).foldl (sA nn) (bp nn [],n)
def Kc(lines:!Str)(n:Int):Str:=(lines ++ [("":Str)]).getD (n%((lines.length:Int)+1)).toNat ""
def qB(lines:!Str)(s:!Dk×Int)(p:Str×!Str):!Dk×Int:=
 if p.2=[]then s else(s.1 ++ [#[p.1,Kc lines s.2,(jv (s.2/((lines.length:Int)+1)) p.2.length).1,p.2]],(jv (s.2/((lines.length:Int)+1)) p.2.length).2)
def vA(lines:!Str)(ps:!(Str×!Str))(n:Int)(k:Nat):!Dk×Int:=(ps.take k).foldl (qB lines) ([],n)
def eW(n:Int):Nat:=(1+n%8).toNat
def qC(n:Int)(places lines:!Str):!Dk×Int:=
 vA lines ((spell (n/8) (eW n)).1.zip (mq (eW n) (spell (n/8) (eW n)).2 places places.length).1) (mq (eW n) (spell (n/8) (eW n)).2 places places.length).2 (eW n)
theorem fS{α β:Type}(f:β->α->β)(b:β){l:!α}{k:Nat}{x:α}(h:l[k]?>>x):(l.take (k+1)).foldl f b=f ((l.take k).foldl f b) x:=by rw[cB,h,eC];rfl
theorem GH{nn:Nat}{s:!(!Str)×Int}{x:Str}:(sA nn s x).1.length=s.1.length:=by unfold sA;split<;>simp
theorem sC{α β:Type}{f:β->α->β}{I:β->Prop}:∀{l:!α}{b:β},I b->(∀b,∀x∈l,I b->I (f b x))->I (l.foldl f b)
 | [],_,h,_=>h
 |x::l,b,h,st=>sC (l:=l) (st b x aJ h) λb y hy=>st b y (aM _ hy)
theorem vB(nn:Nat)(n:Int)(places:!Str)(k:Nat):(mq nn n places k).1.length=nn/\∀row∈(mq nn n places k).1,row.length<=6/\∀x∈row,x∈places:=by
 refine sC (I:=λs:!(!Str)×Int=>s.1.length=nn/\∀row∈s.1,row.length<=6/\∀x∈row,x∈places) #[dN,λrow hr=>[(iQ.mp hr).2]▸#[aW _,λx hx=>by cases hx]] λs x hx #[h1,h2]=>#[GH.trans h1,λrow hr=>?_];unfold sA at hr;split at hr
 .rename_i c
  rcases jJ hr with z|rfl
  .exact h2 row z
  .refine#[[En]▸c.2,λy hy=>?_];rcases MR hy with hy|rfl
   .rw[aR]at hy;cases e:s.1[(s.2%((nn:Int)+1)).toNat]? with
    |none=>rw[e]at hy;cases hy
    |some row=>rw[e]at hy;exact(h2 row (aP e)).2 y hy
   .exact mB hx
 .exact h2 row hr
theorem IL(lines:!Str)(n:Int):tF (lines.map aO ++ [.str ""]) (n%((lines.length:Int)+1))>>(.str (Kc lines n))/\Kc lines n∈lines ++ [("":Str)]:=by
 let a1:=cU n (b:=(lines.length:Int)+1) ∅;let a2:=cL n (b:=(lines.length:Int)+1) ∅;unfold Kc;generalize n%((lines.length:Int)+1)=j at *;let#[i,rfl]:=qU a1;let hi:i<(lines ++ [("":Str)]).length:=by simp;omega
 let e:(lines ++ [("":Str)]).getD ((i:Int)).toNat ""=(lines ++ [("":Str)])[i]:=by rw[c7,aR,aD hi];rfl
 rw[e];refine#[df ?_,dM hi];rw[show lines.map aO ++ [.str ""]=(lines ++ [("":Str)]).map aO by rw[aQ];rfl,aH,aD hi];rfl
theorem zW(lines:!Str)(ps:!(Str×!Str))(n:Int):∀k,(vA lines ps n k).1.length<=k
 |0=>aE _
 |k+1=>by
  let ih:=zW lines ps n k;cases e:ps[k]? with
  |none=>
   let:vA lines ps n (k+1)=vA lines ps n k:=by unfold vA;rw[cB,e];simp
   rw[this];omega
  |some x=>
   let:vA lines ps n (k+1)=qB lines (vA lines ps n k) x:=fS _ _ e;rw[this];unfold qB;split
   .omega
   .rw[aX];show _+1<=_;omega
theorem zX(n:Int):1<=eW n/\eW n<=8:=by unfold eW;omega
section
variable{P:bx}{w:b_}{K:aj}{mg:Str->Option aA}{base:cI}{f:ay}{k:Nat}
abbrev Ndd:!Str:=["_law_left","_law_places","_law_lines","_law_names","_law_taken","_law_place","_law_at","_law_desks","_law_name","_law_own","_law_to"]
theorem RW:cw Ndd ["_law_left","_law_places","_law_lines"] (bG (top 47)):=by grind
def YV(K:aj)(n:Int)(d2:!ai)(n':Int)(U:UV):Prop:=∃places lines:!Str,d2=[kL places,kL lines]/\places.length<=12/\lines.length<=12/\(∀x∈places,dq x)/\n'=(qC n places lines).2/\U=jQ K (.list ((qC n places lines).1.map gO))
theorem zcy(F:kE K "_law_desks_digits" "_law_desks_digits" (top 47) f fd)(n0:Np mg w.params K)(C1:bu P w K mg base 1 "_law_pick" ["_law_left","_law_many"] (zv K Int (NR K) (wH K)))(C2:bu P w K mg base 3 "_law_spelt_all" ["_law_left","_law_many"] (zv K Int (NR K) (Nr K)))(C3:bu P w K mg base 2 "_law_rule_digits" ["_law_left","_law_many"] (zv K Int (NR K) (YT K))):dZ P w K mg base jL 4 f fd ["_law_left","_law_places","_law_lines"] (zv K Int (NR K) (YV K)):=
 Mu F RW (by simp) (λ_ _ _ _ h=>by let#[_,_,rfl,_]:=h;rfl) λr n d2 n' U h=>by
  let#[places,lines,rfl,hp,hl,hpn,rfl,rfl]:=h;intro gu A outer s0 H E hr B0 B H0 Hh σ D G qr qn;let nd:Ndd.Nodup:=RW.nd;let nc:(["_law_name"]:!Str).Nodup:=∎;let pQ:ei 1 _:=hr.mono ∅;let Dw:ei 2 _:=hr.mono ∅;unfold qC at qr;let#[b1,b8]:=zX n;let em:(1+n%8:Int)=((eW n:Nat):Int):=by unfold eW;omega
  generalize eW n=nn at *;refine bN (j0 3 (d:=kL (spell (n/8) nn).1) (R':=NR K r (spell (n/8) nn).2) NR.mono (yv C2 hr NR.mono 0 rfl (eI NR.mono NR.mono (XE.to (tS nD (yU 1 (n%8)) NR.mono NR.mono (gZ NR.mono aL) (g7 C1 pQ 0 rfl aL ⋯ ⋯)) rfl (by rw[em])) (k9 NR.mono)) #[nn,_,_,rfl,∅,sy (n/8) ∅,rfl,rfl]) G rfl (λv Ha Hb G1=>?_) nd);let nl:=iS (n/8) nn
  generalize(spell (n/8) nn).1=names at *
  generalize(spell (n/8) nn).2=n1 at *
  let enl:(((names.map aO).length:Nat):Int)=nn:=by rw[ae,nl]
  let mL:∀{a ps gs n},bL (Sep (LL K a ps gs) (NR K r n)):=Sep.mono LL.mono NR.mono;refine bN (MB 4 (ds:=names.map aO) (own:=["_law_name"]) (cap:=[]) (N:=["_law_name"]) (cl:=[]) (tgt:=.one 0) NR.mono G1 rfl #[rfl,∎,∎,rfl,rfl,by simp] (fj 3.) (λf s3 H3=>hX 0 nc) rfl (small (by rw[ae,nl];omega)) (λd hd=>#[_,rfl]) nd (λσ1 a ps H1 cW G2=>?_) (λa=>rfl));let e0:((mq nn n1 places 0).1.map λr=>r.map aO)=bp (names.map aO).length []:=by show(bp nn []).map _=_;rw[List.map_replicate,ae,nl];rfl
  rw[<-e0]at G2;refine bN (xn (tgt:=.one 5) (ds:=places.map .str) (λi=>Sep (LL K a ps ((mq nn n1 places i).1.map λr=>r.map aO)) (NR K r (mq nn n1 places i).2)) (λ_=>mL) G2 cA rfl (fj 1.) (hX 5 nd) (λi d hd=>?_) (λσ2 Ha Hb G3=>?_))
  .obtain⟨x,hx,rfl⟩:∃x,places[i]?>>x/\d=.str x:=by
    rw[aH]at hd;cases e:places[i]? with
    |none=>rw[e]at hd;cases hd
    |some x=>rw[e]at hd;cases hd;exact#[x,rfl,rfl]
   refine#[_,rfl,rfl,λD C0 σ' cQ H' G q=>?_];let es:mq nn n1 places (i+1)=sA nn (mq nn n1 places i) x:=fS _ _ hx;let#[t1,t2]:=vB nn n1 places i;rw[es]at q;unfold sA at q;generalize mq nn n1 places i=s at *;let#[tk,m]:=s;dsimp only at *;let c0:=cU m (b:=(nn:Int)+1) ∅;let c1:=cL m (b:=(nn:Int)+1) ∅;refine bN (j0 6 (d:=.int (m%((nn:Int)+1))) mL (((g7 C1 pQ 0 rfl (VE.to (fw (ie 3. n0.len) aL) (by rw[enl])) ∅ ∅).fr LL.mono).oi .comm .comm) G rfl (λv Hc Hd G3=>?_) nd);let hj:((m%((nn:Int)+1)).toNat:Int)=m%((nn:Int)+1):=jW c0
   generalize(m%((nn:Int)+1)).toNat=j at *
   rw[<-hj]at G3;let hgl:((tk.map λr=>r.map aO).map oM).length=nn:=by rw[ae,ae,t1]
   let YW:j<nn->(tk.map λr=>r.map aO)[j]?>>((tk.getD j []).map .str):=λh=>by rw[aH,aR,aD ∅];rfl
   refine bW (xr mL G3 (Seen.refl.set 4 rfl (Sep.Uo LL.see)) (rL (k2:=decide (((tk.getD j []).length:Int)<6)) (u_ 6. (ie 3. n0.len)) λh=>VT.to (u_ (ie (eJ (ds:=(tk.map λr=>r.map aO).map .list) 4. 6. (df (by rw[aH,YW (by let:=qQ4 h;omega)];rfl))) n0.len) aL) (by rw[ae])) (λe H5 G5=>?_) (λe H5 G5=>mV ?_))
   .rw[gy,decide_eq_true_iff,decide_eq_true_iff,enl]at e;let hjn:j<nn:=∅;rw[qQ3 #[hjn,∅]]at q;let YW:=YW hjn;let lB:ps.length=nn:=by let#[_,_,_,_,_,z,_]:=G5.at;exact z.trans (by rw[ae,t1])
    obtain⟨p,hp⟩:∃p,ps[j]?>>p:=#[ps[j]'∅,aD _];let UQ:(tk.getD j []).length<=6:=∅;let egs:((tk.set j (pC (tk.getD j []) (m/((nn:Int)+1)%(((tk.getD j []).length:Int)+1)).toNat x)).map λr=>r.map aO)=(tk.map λr=>r.map aO).set j (pC ((tk.getD j []).map aO) (m/((nn:Int)+1)%(((tk.getD j []).length:Int)+1)).toNat (.str x)):=by
     rw[jG]
     congr 1
     unfold pC;rw[aQ,aq,Dt,pM]
    rw[egs]at q;generalize tk.getD j []=row at *;generalize m/((nn:Int)+1)=m1 at *;let d0:=cU m1 (b:=(row.length:Int)+1) ∅;let d1:=cL m1 (b:=(row.length:Int)+1) ∅;refine bW (JQ NR.mono NR.mono G5 4 (j:=j) (m:=(m1%((row.length:Int)+1)).toNat) (p:=p) (ds:=row.map .str) (d:=.str x) rfl 6. hp YW (R':=NR K r (m1/((row.length:Int)+1))) (XE.oi .comm .comm (PX C1 pQ NR.mono LL.mono 0 rfl (λF mF=>vj (Sep.mono NR.mono (Sep.mono LL.mono mF)) (P0 (d:=.int ((row.length:Int)+1)) (Seen.refl.set 4 rfl (Sep.zbw (Sep.Uo LL.see))) (VE.to (fw (ie (eJ (d:=.list (row.map .str)) 4. 6. (df (by rw[aH,YW];rfl))) n0.len) aL) (by rw[ae])) rfl) Cz) #[(row.length:Int)+1,rfl,∅,∅,rfl,by rw[jW d0];rfl])) (by rw[ae];omega) 5. (fh (by rw[ae];omega)) (λHk Hl G6=>?_));exact q _ _ _ (G6.forget mL #[.inr rfl,.inr rfl,.inr rfl,.inr rfl,.inr rfl,.inl rfl,.inl rfl,.inr rfl,.inr rfl,.inr rfl,.inr rfl,trivial] rfl)
   .rw[qQ2 λz=>by rw[qQ1 ∅,qQ1 ∅]at e;cases e]at q;exact q _ _ _ (G5.forget mL #[.inr rfl,.inr rfl,.inr rfl,.inr rfl,.inr rfl,.inl rfl,.inl rfl,.inr rfl,.inr rfl,.inr rfl,.inr rfl,trivial] rfl)
  rw[ae]at G3;let#[t1,t2]:=vB nn n1 places places.length;generalize mq nn n1 places places.length=s at *;let#[tk,m]:=s;dsimp only at *;let#[Hc,G4]:=G3.Gj NR.mono LL.see 4 rfl;refine bN (CB (ds:=[]) NR.mono G4 7 (qe G4 (dO c5)) (λl=>rfl) (λl σ1 H1 cW G5=>?_) nd);let mS:∀{ds n},bL (Sep (LR K l ds) (NR K r n)):=Sep.mono LR.mono NR.mono;refine bN (xn (tgt:=.tup [8,9]) (ds:=tG (names.map .str) ((tk.map λr=>r.map aO).map .list)) (λi=>Sep (LR K l ((vA lines (names.zip tk) m i).1.map gO)) (NR K r (vA lines (names.zip tk) m i).2)) (λ_=>mS) G5 cA rfl (wt .lst .lst 3. 4. n0.zip) (gU rfl (bY (hX 8 nd) (bY (hX 9 nd) fA))) (λi d hd=>?_) (λσ2 Ha Hb G6=>?_))
  .obtain⟨nm,row,hz,rfl⟩:∃nm row,(names.zip tk)[i]?>>(nm,row)/\d=.tuple [.str nm,.list (row.map .str)]:=by
    let#[x,y,hx,hy,rfl]:=zh hd;rw[aH]at hx;rw[aH,aH]at hy;cases e1:names[i]? with
    |none=>rw[e1]at hx;cases hx
    |some nm=>
     cases e2:tk[i]? with
     |none=>rw[e2]at hy;cases hy
     |some row=>rw[e1]at hx;rw[e2]at hy;cases hx;cases hy;exact#[nm,row,oV.mpr #[e1,e2],rfl]
   let zC:=t2 row (aP (oV.mp hz).2);refine#[_,rfl,rfl,λD C0 σ' cQ H' G q=>?_];let es:vA lines (names.zip tk) m (i+1)=qB lines (vA lines (names.zip tk) m i) (nm,row):=fS _ _ hz;let L0:(vA lines (names.zip tk) m i).1.length<=i:=zW lines (names.zip tk) m i;let IJ:i<8:=by let:=(av.mp hz).1;rw[ng]at this;omega
   rw[es]at q;unfold qB at q;generalize vA lines (names.zip tk) m i=s at *;let#[gf,m1]:=s;dsimp only at *;let zcA:Lay 20 (.list (row.map aO)):=lF (n:=19) λd hd=>by let#[u,hu,rfl]:=au.mp hd;exact bj (hpn u (zC.2 u hu)).ok.2
   refine bW (xr mS G Seen.refl (mJ hr zcA (lF (n:=19) λd hd=>by cases hd) 9. (VO.ve (dO c5))) (λe H5 G5=>?_) (λe H5 G5=>mV ?_))
   .let yr:row≠[]:=λz=>by rw[z]at e;revert e;decide
    rw[qQ2 yr,aQ]at q;let#[ha,Vt]:=IL lines m1;refine bN (j0 10 (d:=.str (Kc lines m1)) (R':=Sep (LR K l (gf.map gO)) (NR K r (m1/((lines.length:Int)+1)))) mS (XE.oi .comm .comm (XE.fr LR.mono (Bo oP (Js ha) NR.mono NR.mono (gZ NR.mono (VO.ve (nJ 2. (VO.ve (dO (cY a_ c5))) (small (by rw[ae];show _+1<=_;omega))))) (g7 C1 pQ 0 rfl (VE.to (fw (ie 2. n0.len) aL) (by rw[ae])) ∅ ∅)))) G5 rfl (λv Hc Hd G6=>?_) nd);refine bW (zy (R':=NR K r (jv (m1/((lines.length:Int)+1)) row.length).2) NR.mono NR.mono G6 7 rfl (zx NR.mono (eI NR.mono NR.mono (gZ NR.mono 8.) (eI NR.mono NR.mono (gZ NR.mono 10.) (eI (S1:=NR K r (jv (m1/((lines.length:Int)+1)) row.length).2) NR.mono NR.mono (CD C3 Dw NR.mono 0 rfl (λF mF=>vj (Sep.mono NR.mono mF) (Iq (VE.to (ie 9. n0.len) (by rw[ae]))) Cz) #[row.length,rfl,∅,rfl,rfl]) (eI NR.mono NR.mono (gZ NR.mono (kf lC yo {9.} n0.tup rfl)) (k9 NR.mono)))))) (fh (by rw[ae];omega)) (λHk Hl G7=>?_));exact q _ _ _ (G7.forget mS #[.inr rfl,.inr rfl,.inr rfl,.inr rfl,.inr rfl,.inr rfl,.inr rfl,.inr rfl,.inl rfl,.inl rfl,.inl rfl,trivial] rfl)
   .let yr:row=[]:=by
     cases row with
     |nil=>rfl
     |cons x row=>exact Bool.noConfusion (show true=false from e)
    rw[qQ3 yr]at q;exact q _ _ _ (G5.forget mS #[.inr rfl,.inr rfl,.inr rfl,.inr rfl,.inr rfl,.inr rfl,.inr rfl,.inr rfl,.inl rfl,.inl rfl,.inr rfl,trivial] rfl)
  .rw[oy,ae,ae,ae,nl,t1,Fu]at G6;let#[Hc,G7]:=G6.XQ NR.mono;exact bW (Mv G6.fr 7 rfl (qr _ _ _ _ _ G7))
end
def wK(s:!(Str×Option Int)×Int)(nm:Str):!(Str×Option Int)×Int:=(s.1 ++ [(nm,if s.2/60%2=0 then none else some (1+s.2%60))],s.2/60/2)
def x8(names:!Str)(a:Int)(k:Nat):!(Str×Option Int)×Int:=(names.take k).foldl wK ([],a)
def wL(gf:!Dk)(s:!(Str×Int)×Int)(nm:Str):!(Str×Int)×Int:=(s.1 ++ [(nm,maxOf (fY gf nm)+s.2%5)],s.2/5)
def uD(gf:!Dk)(lines:!Str)(b:Int)(k:Nat):!(Str×Int)×Int:=(lines.take k).foldl (wL gf) ([],b)
def lz(dn:Str)(s:!(Str×Str×Int)×Int)(kd:Str×Option Int):!(Str×Str×Int)×Int:=if s.2%2=1 then(s.1 ++ [(dn,kd.1,1+s.2/2%20)],s.2/2/20) else(s.1,s.2/2)
def uE(dn:Str)(s:!(Str×Int×Int)×Int):Nat->!(Str×Int×Int)×Int
 |0=>s
 |k+1=>((uE dn s k).1 ++ [(dn,(uE dn s k).2%60,(uE dn s k).2%60+1+(uE dn s k).2/60%60)],(uE dn s k).2/60/60)
def uF(kinds:!(Str×Option Int))(s:(!(Str×Str×Int)×Int)×(!(Str×Int×Int)×Int))(d:Dk):(!(Str×Str×Int)×Int)×(!(Str×Int×Int)×Int):=(kinds.foldl (lz d.name) s.1,uE d.name (s.2.1,s.2.2/3) (s.2.2%3).toNat)
def lA(kinds:!(Str×Option Int))(gf:!Dk)(a c:Int)(k:Nat):(!(Str×Str×Int)×Int)×(!(Str×Int×Int)×Int):=(gf.take k).foldl (uF kinds) (([],a),([],c))
def g8(one:Int):Nat:=(1+one%12).toNat
def mr(two:Int):Nat:=(1+two%6).toNat
def x9(two:Int):Nat:=mr two+(two/6%7).toNat
def kdOf(one:Int):!(Str×Option Int)×Int:=x8 (spell (one/12) (g8 one)).1 (spell (one/12) (g8 one)).2 (g8 one)
def iZ(two:Int):!Str×Int:=spell (two/6/7) (x9 two)
def kT(two:Int):!Str:=(iZ two).1.drop (mr two)
def jE(two three:Int):!Dk×Int:=qC three (iZ two).1 (kT two)
def oH(one two three:Int):Pl:=
 #[(kdOf one).1,(iZ two).1.take (mr two),(uD (jE two three).1 (kT two) (iZ two).2 (kT two).length).1,(jE two three).1,
  (lA (kdOf one).1 (jE two three).1 (kdOf one).2 (jE two three).2 (jE two three).1.length).1.1,(lA (kdOf one).1 (jE two three).1 (kdOf one).2 (jE two three).2 (jE two three).1.length).2.1,[]]
theorem YX(one:Int):1<=g8 one/\g8 one<=12:=by unfold g8;omega
theorem U_(two:Int):1<=mr two/\mr two<=6:=by unfold mr;omega
theorem YY(two:Int):mr two<=x9 two/\x9 two<=12:=by let:=U_ two;unfold x9;omega
theorem sY{names:!Str}{a:Int}:∀k,k<=names.length->(x8 names a k).1.map (·.1)=names.take k
 |0,_=>rfl
 |k+1,h=>by let e:x8 names a (k+1)=wK (x8 names a k) names[k]:=fS _ _ (aD ∅);rw[e,wK,aQ,sY k ∅,cB,aD ∅];rfl
theorem wM{b:Int}:∀k,k<=lines.length->(uD gf lines b k).1.map (·.1)=lines.take k
 |0,_=>rfl
 |k+1,h=>by let e:uD gf lines b (k+1)=wL gf (uD gf lines b k) lines[k]:=fS _ _ (aD ∅);rw[e,wL,aQ,wM k ∅,cB,aD ∅];rfl
theorem GJ{dn:Str}:∀{l:!(Str×Option Int)}{s:!(Str×Str×Int)×Int},(l.foldl (lz dn) s).1.length<=s.1.length+l.length
 | [],s=>aE _
 |x::l,s=>by
  let:=GJ (l:=l) (s:=lz dn s x) (dn:=dn);let h2:(lz dn s x).1.length<=s.1.length+1:=by unfold lz;split<;>simp
  rw[fk,bH];omega
theorem GK{s:!(Str×Int×Int)×Int}:∀k,(uE dn s k).1.length=s.1.length+k
 |0=>rfl
 |k+1=>by rw[uE,aX,GK k];rfl
theorem GL{kinds:!(Str×Option Int)}{gf:!Dk}{a c:Int}(hk:kinds.length<=12):∀k,(lA kinds gf a c k).1.1.length<=12*k/\(lA kinds gf a c k).2.1.length<=2*k
 |0=>#[aE _,aE _]
 |k+1=>by
  let#[i1,i2]:=GL (kinds:=kinds) (gf:=gf) (a:=a) (c:=c) hk k;cases e:gf[k]? with
  |none=>
   let:lA kinds gf a c (k+1)=lA kinds gf a c k:=by unfold lA;rw[cB,e];simp
   rw[this];omega
  |some d=>let:lA kinds gf a c (k+1)=uF kinds (lA kinds gf a c k) d:=fS _ _ e;rw[this];let h1:=GJ (dn:=d.name) (l:=kinds) (s:=(lA kinds gf a c k).1);let h2:=GK (dn:=d.name) (s:=((lA kinds gf a c k).2.1,(lA kinds gf a c k).2.2/3)) ((lA kinds gf a c k).2.2%3).toNat;unfold uF;dsimp only at *;omega
theorem Bz{n:Int}{places: !Str}{d:Dk}(h:d∈(qC n places lines).1):d.name∈(spell (n/8) (eW n)).1/\d.to∈lines ++ [("":Str)]/\d.places∈(mq (eW n) (spell (n/8) (eW n)).2 places places.length).1/\d.places≠[]/\∃m,d.rule=(jv m d.places.length).1:=by
 unfold qC vA at h;revert h;refine sC (I:=λs:!Dk×Int=>d∈s.1->_) (λh=>by cases h) λs x hx ih hd=>?_;unfold qB at hd;split at hd
 .exact ih hd
 .rename_i c
  rcases aV.mp hd with hd|hd
  .exact ih hd
  .rw[aF.mp hd];let hz:=ku (a:=x.1) (b:=x.2) (mB hx);exact#[hz.1,(IL lines s.2).2,hz.2,c,_,rfl]
theorem BD(n:Int)(places lines:!Str):(qC n places lines).1.length<=8:=bZ (zW _ _ _ _) (zX n).2
theorem get_map{α:Type}{g:α->ai}{l:!α}{i:Nat}{d:ai}(h:(l.map g)[i]?>>d):∃x,l[i]?>>x/\d=g x:=by
 rw[aH]at h;cases e:l[i]? with
 |none=>rw[e]at h;cases h
 |some x=>rw[e]at h;cases h;exact#[x,rfl,rfl]
theorem Qz(x:Int):tF [ai.none,.int (1+x%60)] (x/60%2)>>(og (if x/60%2=0 then none else some (1+x%60))):=by rcases Int.emod_two_eq (x/60)with e|e<;>rw[e]<;>rfl
theorem XT.to{X:Cx}{B0 B:Hp}{σ:L2.St}{δ:!Slot}{R R':OR}{c:bw}{k1 k2:Bool}(h:XT X B0 B σ δ R c R' k1)(e:k1=k2):XT X B0 B σ δ R c R' k2:=by subst e;exact h
section
variable{P:bx}{w:b_}{K:aj}{mg:Str->Option aA}{base:cI}{f:ay}{k:Nat}
abbrev Npd:!Str:=["_law_one","_law_two","_law_three","_law_a","_law_b","_law_c","_law_kinds","_law_name","_law_many","_law_places","_law_gates","_law_lines","_law_desks","_law_rooms","_law_loads","_law_times","_law_hours","_law_desk","_law_kind","_law_k","_law_begin"]
theorem RX:cw Npd ["_law_one","_law_two","_law_three"] (bG (top 48)):=by grind
def Rpd(ds:!ai)(d:ai):Prop:=∃one two three:Int,ds=[.int one,.int two,.int three]/\d=g0 (oH one two three)
theorem zcB(F:kE K "_law_plant_digits" "_law_plant_digits" (top 48) f fd)(n0:Np mg w.params K)(C0:bu P w K mg base 1 "_law_greatest" ["_law_rule","_law_many"] (gI K ZX))(C1:bu P w K mg base 1 "_law_pick" ["_law_left","_law_many"] (zv K Int (NR K) (wH K)))(C2:bu P w K mg base 3 "_law_spelt_all" ["_law_left","_law_many"] (zv K Int (NR K) (Nr K)))(C4:bu P w K mg base 4 "_law_desks_digits" ["_law_left","_law_places","_law_lines"] (zv K Int (NR K) (YV K))):dZ P w K mg base jL 5 f fd ["_law_one","_law_two","_law_three"] (gI K Rpd):=
 ji F RX (by ext) λ_ _ h=>by
  let#[one,two,three,rfl,rfl]:=h;intro gu A outer s H E hr;let nd:Npd.Nodup:=RX.nd;let pQ:ei 1 _:=hr.mono ∅;let Z7:ei 3 _:=hr.mono ∅;refine pD λB0 B σ H0 Hh D fr N9=>?_;refine bN (P1 (λ_ _ _ _ _ h _ _=>h) (OF.none fr rfl) 3 4 5 (dO {0.}) (dO {1.}) (dO {2.}) (λ_ _ _=>rfl) (λa b c σ1 H1 cW G=>?_) rfl nd ⋯ ⋯ ⋯);let G:OF K B0 B (Sep (NR K a one) (Sep (NR K b two) (NR K c three))) H1 cW σ1 _:=G.oi (.sep .rfl (.sep .rfl .em));let m3:∀{a b c x y z},bL (Sep (NR K a x) (Sep (NR K b y) (NR K c z))):=Sep.mono NR.mono (Sep.mono NR.mono NR.mono);let m2:∀{a b x y},bL (Sep (NR K a x) (NR K b y)):=Sep.mono NR.mono NR.mono;let m4:∀{l ds a b c x y z},bL (Sep (LR K l ds) (Sep (NR K a x) (Sep (NR K b y) (NR K c z)))):=Sep.mono LR.mono m3;refine bN (CB (ds:=[]) m3 G 6 (qe G (dO c5)) (λl=>rfl) (λl σ2 H2 fG G2=>?_) nd);let#[k1,k12]:=YX one;let ek:(1+one%12:Int)=((g8 one:Nat):Int):=by unfold g8;omega
  let ekd:kdOf one=x8 (spell (one/12) (g8 one)).1 (spell (one/12) (g8 one)).2 (g8 one):=rfl;let Va:=iS (one/12) (g8 one);refine bN (My (tgt:=.one 7) (ds:=(spell (one/12) (g8 one)).1.map .str) (λi=>Sep (LR K l ((x8 (spell (one/12) (g8 one)).1 (spell (one/12) (g8 one)).2 i).1.map rW)) (Sep (NR K a (x8 (spell (one/12) (g8 one)).1 (spell (one/12) (g8 one)).2 i).2) (Sep (NR K b two) (NR K c three)))) (λ_=>_) (λ_=>m4) G2 cA rfl (PQ m4 (XE.fl LR.mono (XE.fr m2 (yv C2 Z7 NR.mono 3 rfl (eI NR.mono NR.mono (XE.to (tS nD (yU 1 (one%12)) NR.mono NR.mono (gZ NR.mono aL) (g7 C1 pQ 3 rfl aL ⋯ ⋯)) rfl (by rw[ek])) (k9 NR.mono)) #[g8 one,_,_,rfl,∅,sy (one/12) ∅,rfl,rfl])))) (hX 7 nd) (λi d hd=>?_) (λσ3 Ha Hb G3=>?_))
  .let#[nm,hn,rfl]:=get_map hd;let IJ:i<12:=by let:=(av.mp hn).1;omega
   refine#[_,rfl,rfl,λD C0 σ' cQ H' G q=>?_];let es:x8 (spell (one/12) (g8 one)).1 (spell (one/12) (g8 one)).2 (i+1)=_:=fS _ _ hn;let hkl:(x8 (spell (one/12) (g8 one)).1 (spell (one/12) (g8 one)).2 i).1.length<=12:=by let:=qQ6 dU (sY (names:=(spell (one/12) (g8 one)).1) (a:=(spell (one/12) (g8 one)).2) i (by let:=(av.mp hn).1;omega));rw[ae,cN]at this;omega
   rw[es,show((spell (one/12) (g8 one)).1.take i).foldl wK ([],(spell (one/12) (g8 one)).2)=x8 (spell (one/12) (g8 one)).1 (spell (one/12) (g8 one)).2 i from rfl]at q;generalize x8 (spell (one/12) (g8 one)).1 (spell (one/12) (g8 one)).2 i=s at *;let#[BF,x]:=s;unfold wK at q;dsimp only at *;rw[aQ]at q;refine bW (zy (R':=Sep (NR K a (x/60/2)) (Sep (NR K b two) (NR K c three))) m3 m3 G 6 rfl (XE.fr m2 (zx NR.mono (eI NR.mono NR.mono (gZ NR.mono 7.) (eI NR.mono NR.mono (Bo oP (Js (Qz x)) NR.mono NR.mono (XH NR.mono (eI NR.mono NR.mono (gZ NR.mono ia) (eI NR.mono NR.mono (tS nD (yU 1 (x%60)) NR.mono NR.mono (gZ NR.mono aL) (g7 C1 pQ 3 rfl aL ⋯ ⋯)) (k9 NR.mono)))) (g7 C1 pQ 3 rfl aL ⋯ ⋯)) (k9 NR.mono))))) (fh (by rw[ae];omega)) (λHk Hl G7=>?_));exact q _ _ _ (G7.un m4 7)
  rw[ae,Va,<-ekd]at G3;let#[Hc,G4]:=G3.Gj m3 LR.see 6 rfl;let hkl:(kdOf one).1.length<=12:=by let:=qQ6 dU (sY (names:=(spell (one/12) (g8 one)).1) (a:=(spell (one/12) (g8 one)).2) (g8 one) ∅);rw[ae,cN,<-ekd]at this;omega
  unfold oH at N9;clear ekd;generalize kdOf one=kd at *;let#[BF,a1]:=kd;dsimp only at *;let#[g1,g6]:=U_ two;let#[p1,p12]:=YY two;let eg:(1+two%6:Int)=((mr two:Nat):Int):=by unfold mr;omega
  let ep:((mr two:Nat):Int)+two/6%7=((x9 two:Nat):Int):=by unfold x9;omega
  refine bN (j0 8 (d:=.int (mr two:Nat)) m3 (XE.fr m2 (XE.to (tS nD (yU 1 (two%6)) NR.mono NR.mono (gZ NR.mono aL) (g7 C1 pQ 4 rfl aL ⋯ ⋯)) rfl (by rw[eg]))) (G4.oi .tr) rfl (λv Ha Hb G5=>?_) nd);refine bN (j0 9 (d:=kL (iZ two).1) (R':=Sep (NR K b (iZ two).2) (Sep (NR K a a1) (NR K c three))) m3 (XE.fr m2 (yv C2 Z7 NR.mono 4 rfl (eI NR.mono NR.mono (XE.to (tS nD (yU (mr two:Nat) (two/6%7)) NR.mono NR.mono (gZ NR.mono 8.) (g7 C1 pQ 4 rfl aL ⋯ ⋯)) rfl (by rw[ep])) (k9 NR.mono)) #[x9 two,_,_,rfl,∅,sy (two/6/7) ∅,rfl,rfl])) G5 rfl (λv2 KH KJ G6=>?_) nd);let pll:(iZ two).1.length=x9 two:=iS _ _;let pln:∀x∈(iZ two).1,dq x:=(pH (two/6/7) (x9 two) ∅).1;let U6:(iZ two).1.drop (mr two)=kT two:=rfl;let hll:(kT two).length<=12:=by rw[<-U6,iu];omega
  let YZ:∀x∈kT two,dq x:=λx hx=>pln x (mI (U6▸hx));refine bN (Cq m3 G6 (LJ 10 11 (d1:=kL ((iZ two).1.take (mr two))) (d2:=kL (kT two)) (VE.to (VO.ve (lL (ds:=(iZ two).1.map .str) 9. .no (.yes 8.))) (by rw[IC,LK];rfl)) (VE.to (VO.ve (lL (ds:=(iZ two).1.map .str) 9. (.yes 8.) .no)) (by rw[IC,lO];rfl)) rfl nd ⋯) rfl λσ4 RD RG G7=>?_);let UL:∀d∈(jE two three).1,kX d.to:=λd hd=>by
   rcases aV.mp (Bz hd).2.1 with h|h
   .exact(YZ _ h).ok.2
   .rw[aF.mp h];show bX (.str ("":Str))=true;symm
  let L0:(jE two three).1.length<=8:=BD _ _ _;refine bN (j0 12 (d:=.list ((jE two three).1.map gO)) (R':=Sep (NR K c (jE two three).2) (Sep (NR K b (iZ two).2) (NR K a a1))) m3 (XE.fr m2 (CD C4 hr NR.mono 5 rfl (λF mF=>vj (Sep.mono NR.mono mF) (Iq 9.) (vj (Sep.mono NR.mono mF) (Iq 11.) Cz)) #[(iZ two).1,kT two,rfl,∅,hll,pln,rfl,rfl])) (G7.oi .r3) rfl (λv3 YJ YK G8=>?_) nd);generalize jE two three=dk at *;let#[gf,c1]:=dk;generalize iZ two=plx at *;let#[VY,b1]:=plx;generalize kT two=Kd at *;dsimp only at *;let G8:=G8.oi .l3;refine bN (CB (ds:=[]) m3 G8 13 (qe G8 (dO c5)) (λl=>rfl) (λl2 σ5 H5 H5' G9=>?_) nd);let G9:OF K B0 B _ H5 H5' σ5 [.val (.int one),.val (.int two),.val (.int three),.ref a,.ref b,.ref c,.val (.list (BF.map rW)),.un,.val (.int (mr two:Nat)),.val (kL VY),.val (kL (VY.take (mr two))),.val (kL Kd),.val (.list (gf.map gO)),.ref l2,.un,.un,.un,.un,.un,.un,.un]:=G9;refine bN (xn (tgt:=.one 7) (ds:=Kd.map .str) (λi=>Sep (LR K l2 ((uD gf Kd b1 i).1.map zD)) (Sep (NR K b (uD gf Kd b1 i).2) (Sep (NR K a a1) (NR K c c1)))) (λ_=>m4) G9 cA rfl (fj 11.) (hX 7 nd) (λi d hd=>?_) (λσ6 RH RJ G10=>?_))
  .let#[nm,hn,rfl]:=get_map hd;let IJ:=(av.mp hn).1;let okn:kX nm:=(YZ nm (aP hn)).ok.2;refine#[_,rfl,rfl,λD C0' σ' cQ H' G q=>?_];let es:uD gf Kd b1 (i+1)=wL gf (uD gf Kd b1 i) nm:=fS _ _ hn;let UQ:(uD gf Kd b1 i).1.length<=12:=by let:=qQ6 dU (wM (gf:=gf) (lines:=Kd) (b:=b1) i ∅);rw[ae,cN]at this;omega
   rw[es]at q;generalize uD gf Kd b1 i=s at *;let#[rms,y]:=s;unfold wL at q;dsimp only at *;rw[aQ]at q;let nc:(["_law_desk","_law_name"]:!Str).Nodup:=∎;let hlo:(fY gf nm).length<=8:=bZ (fL _ _) L0;refine bN (Ut m4 (Sep.nt LR.nt (Sep.nt NR.nt (Sep.nt NR.nt NR.nt))) G Seen.refl 14 (own:=["_law_desk"]) (cap:=[7]) (N:=["_law_desk","_law_name"]) (tgt:=.one 0) (F:=IB nm) (ds:=gf.map gO) rfl #[rfl,∎,∎,rfl,rfl,?cap] (fj 12.) (λf s3 H3=>hX 0 nc) rfl (small (by rw[ae];omega)) (λd hd=>?blk) (JY nm gf) (λd hd=>by let#[z,_,rfl]:=au.mp hd;exact .int z) rfl (λσ7 Ha7 Hb7 Y0=>?_) nd)
   case cap=>intro j hj;rw[aF.mp hj];exact#[(by show(7:Nat)<21;decide),iL rfl,rfl]
   case blk=>
    let#[dk,QB,rfl]:=au.mp hd;refine#[_,rfl,λf s3 H3=>?_,λr qN f s3 H3=>?_]
    .refine va (VT.to (kH (k:=1) pQ (bj (UL dk QB)) (bj okn) (dQ 0. aL rfl) 1.) ?_);rw[uv,bS];by_cases h:dk.to=nm
     .rw[qQ1 h,qQ3 rfl];rfl
     .rw[qQ0 h,qQ2 kx];rfl
    .rw[uv]at qN;split at qN
     .cases qN;exact bQ C0 pQ {dQ 0. aL rfl,lE (ds:=dk.places.map .str) (dQ 0. aL rfl) n0.len} #[dk.rule,dk.places.length,by rw[ae],rfl]
     .cases qN
   let#[mx1,mx2]:=zE (fY gf nm);refine bW (zy (R':=Sep (NR K b (y/5)) (Sep (NR K a a1) (NR K c c1))) m3 m3 Y0 13 rfl (XE.fr m2 (zx NR.mono (eI NR.mono NR.mono (gZ NR.mono 7.) (eI NR.mono NR.mono (tS nD (yU (maxOf (fY gf nm)) (y%5)) NR.mono NR.mono (gZ NR.mono (fX (Ju rfl) (Xd (ns:=1::fY gf nm) mx1 mx2) {VO.ve (nJ (d1:=[.int 1]) (d2:=(fY gf nm).map .int) (VO.ve (dO (ds:=[.int 1]) (cY aL c5))) 14. (small (by simp only[ae,bH,cR];omega)))} n0.max rfl)) (g7 C1 pQ 4 rfl aL ⋯ ⋯)) (k9 NR.mono))))) (fh (by rw[ae];omega)) (λHk Hl Y1=>?_));exact q _ _ _ ((Y1.un m4 7).un m4 14)
  rw[ae]at G10;let#[Hd,Y0]:=G10.Gj m3 LR.see 13 rfl;generalize uD gf Kd b1 Kd.length=rm at *;let#[rms,b2]:=rm;dsimp only at *;let Y0:OF K B0 B _ Hd RJ σ6 [.val (.int one),.val (.int two),.val (.int three),.ref a,.ref b,.ref c,.val (.list (BF.map rW)),.un,.val (.int (mr two:Nat)),.val (kL VY),.val (kL (VY.take (mr two))),.val (kL Kd),.val (.list (gf.map gO)),.val (.list (rms.map zD)),.un,.un,.un,.un,.un,.un,.un]:=Y0;refine bN (P2 m3 Y0 15 16 (dO c5) (dO c5) (λ_ _=>rfl) (λt h σ7 H7 H7' Y1=>?_) rfl nd ⋯);let Y1:OF K B0 B (Sep (LR K t []) (Sep (NR K a a1) (Sep (LR K h []) (Sep (NR K c c1) (NR K b b2))))) H7 H7' σ7 [.val (.int one),.val (.int two),.val (.int three),.ref a,.ref b,.ref c,.val (.list (BF.map rW)),.un,.val (.int (mr two:Nat)),.val (kL VY),.val (kL (VY.take (mr two))),.val (kL Kd),.val (.list (gf.map gO)),.val (.list (rms.map zD)),.un,.ref t,.ref h,.un,.un,.un,.un]:=Y1.oi (.sep .rfl ((OI.sep .rfl .tr).trans (OI.tr.trans (.sep .rfl (.sep .rfl .comm)))));let mF:∀{ds z y},bL (Sep (LR K h ds) (Sep (NR K c z) (NR K b y))):=Sep.mono LR.mono m2;let mG:∀{ds x y},bL (Sep (NR K b y) (Sep (LR K t ds) (NR K a x))):=Sep.mono NR.mono (Sep.mono LR.mono NR.mono);let m5:∀{ts x hs z y},bL (Sep (LR K t ts) (Sep (NR K a x) (Sep (LR K h hs) (Sep (NR K c z) (NR K b y))))):=Sep.mono LR.mono (Sep.mono NR.mono mF);let m6:∀{ts x hs z y},bL (Sep (LR K h hs) (Sep (NR K c z) (Sep (NR K b y) (Sep (LR K t ts) (NR K a x))))):=Sep.mono LR.mono (Sep.mono NR.mono mG);refine bN (xn (tgt:=.one 17) (ds:=gf.map gO) (λi=>Sep (LR K t ((lA BF gf a1 c1 i).1.1.map tT)) (Sep (NR K a (lA BF gf a1 c1 i).1.2) (Sep (LR K h ((lA BF gf a1 c1 i).2.1.map oB)) (Sep (NR K c (lA BF gf a1 c1 i).2.2) (NR K b b2))))) (λ_=>m5) Y1 cA rfl (fj 12.) (hX 17 nd) (λi d hd=>?_) (λσ8 Ha8 Hb8 G13=>?_))
  .let#[dk,QB,rfl]:=get_map hd;let IJ:=(av.mp QB).1;refine#[_,rfl,rfl,λD C0' σ' cQ H' G q=>?_];let es:lA BF gf a1 c1 (i+1)=uF BF (lA BF gf a1 c1 i) dk:=fS _ _ QB;let#[tl,hl]:=GL (kinds:=BF) (gf:=gf) (a:=a1) (c:=c1) hkl i;rw[es]at q;generalize lA BF gf a1 c1 i=s at *;let#[#[Y2,x],#[Vb,z]]:=s;unfold uF at q;dsimp only at *;refine bN (xn (tgt:=.one 18) (ds:=BF.map rW) (λj=>Sep (LR K t (((BF.take j).foldl (lz dk.name) (Y2,x)).1.map tT)) (Sep (NR K a ((BF.take j).foldl (lz dk.name) (Y2,x)).2) (Sep (LR K h (Vb.map oB)) (Sep (NR K c z) (NR K b b2))))) (λ_=>m5) G cA rfl (fj 6.) (hX 18 nd) (λj d hd=>?_) (λσ9 Ha9 Hb9 Z8=>?_))
   .let#[kd,hkd,rfl]:=get_map hd;let Gg:=(av.mp hkd).1;refine#[_,rfl,rfl,λD C0' σ' cQ H' G q=>?_];let tl2:=GJ (dn:=dk.name) (l:=BF.take j) (s:=(Y2,x));rw[cN]at tl2;rw[fS _ _ hkd]at q
    generalize(BF.take j).foldl (lz dk.name) (Y2,x)=s at *
    let#[ts,y]:=s;unfold lz at q;dsimp only at *;refine bW (XJ (R':=Sep (LR K t (ts.map tT)) (Sep (NR K a (y/2)) (Sep (LR K h (Vb.map oB)) (Sep (NR K c z) (NR K b b2))))) (kb:=decide (y%2=1)) m5 (XT.to (Uu (FY (yV hr)) (DW (eu 20 _) (eu 20 _)) m5 m5 (XE.fl LR.mono (XE.fr mF (g7 C1 pQ 3 rfl aL ⋯ ⋯))) (gZ m5 aL) rfl) (oA _ _)) G (λe Ha' Hb' G1=>?_) (λe Ha' Hb' G1=>mV ?_))
    .rw[qQ3 (qQ4 e),aQ]at q;refine bW (zy (R':=Sep (NR K a (y/2/20)) (Sep (LR K h (Vb.map oB)) (Sep (NR K c z) (NR K b b2)))) (Sep.mono NR.mono mF) (Sep.mono NR.mono mF) G1 15 rfl (XE.fr mF (zx NR.mono (eI NR.mono NR.mono (gZ NR.mono (dQ 17. aL rfl)) (eI NR.mono NR.mono (gZ NR.mono (dQ 18. aL rfl)) (eI NR.mono NR.mono (tS nD (yU 1 (y/2%20)) NR.mono NR.mono (gZ NR.mono aL) (g7 C1 pQ 3 rfl aL ⋯ ⋯)) (k9 NR.mono)))))) (fh (by rw[ae];omega)) (λHk Hl G2=>?_));exact q _ _ _ (G2.un m5 18)
    .rw[qQ2 (qQ5 e)]at q;exact q _ _ _ (G1.un m5 18)
   rw[ae,du]at Z8;generalize BF.foldl (lz dk.name) (Y2,x)=s at *;let#[ts,y]:=s;dsimp only at *;let G15:=Z8.oi (OI.qf.trans (OI.comm.trans (OI.assoc.trans (.sep .rfl .assoc))));let z0:=cU z (b:=3) ⋯;let z1:=cL z (b:=3) ⋯;refine bW (My (tgt:=.one 19) (ds:=f9 (z%3).toNat) (λj=>Sep (LR K h ((uE dk.name (Vb,z/3) j).1.map oB)) (Sep (NR K c (uE dk.name (Vb,z/3) j).2) (Sep (NR K b b2) (Sep (LR K t (ts.map tT)) (NR K a y))))) (λ_=>_) (λ_=>m6) G15 cA rfl (vk m6 (XE.fl LR.mono (XE.fr mG (g7 C1 pQ 5 rfl aL ⋯ ⋯))) n0.rng ∅ ∅) (hX 19 nd) (λj d hd=>?_) (λσ9 Ha9 Hb9 G16=>?_))
   .let Gg:j<3:=by let:=(av.mp hd).1;rw[eU]at this;omega
    let#[_,_,rfl]:=au.mp (aP hd);refine#[_,rfl,rfl,λD C0' σ' cQ H' G q=>?_];let Cm:=GK (dn:=dk.name) (s:=(Vb,z/3)) j;rw[uE]at q;generalize uE dk.name (Vb,z/3) j=s at *;let#[hs,u]:=s;dsimp only at *;rw[aQ]at q;refine bN (j0 20 (d:=.int (u%60)) m6 (XE.fl LR.mono (XE.fr mG (g7 C1 pQ 5 rfl aL ⋯ ⋯))) G rfl (λv Ha' Hb' G1=>?_) nd);refine bW (zy (R':=Sep (NR K c (u/60/60)) (Sep (NR K b b2) (Sep (LR K t (ts.map tT)) (NR K a y)))) (Sep.mono NR.mono mG) (Sep.mono NR.mono mG) G1 16 rfl (XE.fr mG (zx NR.mono (eI NR.mono NR.mono (gZ NR.mono (dQ 17. aL rfl)) (eI NR.mono NR.mono (gZ NR.mono 20.) (eI NR.mono NR.mono (tS nD (yU (u%60+1) (u/60%60)) NR.mono NR.mono (gZ NR.mono (fw 20. aL)) (g7 C1 pQ 5 rfl aL ⋯ ⋯)) (k9 NR.mono)))))) (fh (by rw[ae];omega)) (λHk Hl G2=>?_));exact q _ _ _ ((G2.un m6 19).un m6 20)
   rw[eU]at G16;exact q _ _ _ ((G16.oi ((OI.sep .rfl .qf).trans (OI.qf.trans (OI.comm.trans .assoc)))).un m5 17)
  rw[ae]at G13;generalize lA BF gf a1 c1 gf.length=s at *;let#[#[ts,y],#[hs,z]]:=s;dsimp only at *;let#[He,Z8]:=G13.Gj (Sep.mono NR.mono mF) LR.see 15 rfl;let#[Hf,G15]:=(Z8.oi .tr).Gj m3 LR.see 16 rfl;exact bW (Mp G15 (Ig (.cons a_ 6. (.cons a_ 10. (.cons a_ 13. (.cons a_ 12. (.cons a_ 15. (.cons a_ 16. (.cons a_ (VO.ve (dO c5)) .nil))))))) (show([("kinds":Str),"gates","lines","desks","times","hours","paces"]).Nodup by symm) (by simp) (by show 7<=15;decide)) N9)
end
def Nv(p:Pl)(m:Int)(k:Nat):Str×Str×Int×Int:=(p.gates.getD k "",(pickOf p.kinds ("",none) (m/3)).1,1+m/30%5,1+m/150%999999)
def EW(p:Pl)(cell:Int)(k:Nat):Option (Str×Str×Int×Int):=if 0<gw cell (140+k)%3 then some (Nv p (gw cell (140+k)) k)else none
def qP(p:Pl)(cell:Int)(i:Nat):!(Str×Str×Int×Int):=(cj i).filterMap (EW p cell)
def uG(p:Pl)(cell:Int):Pl:={ p with paces:=qP p cell p.gates.length }
theorem QC{i:Nat}(h:q∈qP p cell i):∃k,k<i/\q=Nv p (gw cell (140+k)) k:=by
 let#[k,hk,e]:=iP.mp h;unfold EW at e;split at e
 .cases e;exact#[k,fN.mp hk,rfl]
 .cases e
theorem Ke(hg:p.gates.Nodup)(cell:Int):((qP p cell p.gates.length).map (·.1)).Nodup:=by
 unfold qP;rw[List.map_filterMap];refine List.Pairwise.filterMap _ (R:=λi j=>i<j/\j<p.gates.length) (λi j vX x hx y hy=>?_) ?_
 .simp only[qG]at hx hy;let#[u,hu,rfl]:=hx;let#[v,hv,rfl]:=hy;unfold EW at hu hv;split at hu<;>cases hu;split at hv<;>cases hv;intro e;let e2:p.gates.getD i ""=p.gates.getD j "":=e;rw[aR,aR,aD ∅,aD ∅]at e2;exact jK.mp hg i j ∅ ∅ vX.1 e2
 .refine jK.mpr λi j hi hj vX=>?_;rw[cP]at hi hj;rw[List.getElem_range,List.getElem_range];exact#[vX,hj]
theorem Nx(hk:1<=p.kinds.length)(h:q∈qP p cell p.gates.length):q.1∈p.gates/\q.2.1∈p.kinds.map (·.1)/\(1<=q.2.2.1/\q.2.2.1<=5)/\1<=q.2.2.2/\q.2.2.2<=999999:=by
 let#[k,ZJ,rfl]:=QC h;generalize gw cell (140+(k:Int))=m;let a1:0<=m/30%5:=cU _ ⋯;let a2:m/30%5<5:=cL _ ⋯;let b1:0<=m/150%999999:=cU _ ⋯;let b2:m/150%999999<999999:=cL _ ⋯;refine#[?_,au.mpr #[_,(yy (d:=(("",none):Str×Option Int)) (F:=rW) hk (m/3)).2,rfl],#[?_,?_],?_,?_]
 .show p.gates.getD k ""∈p.gates;rw[aR,aD ZJ];exact dM ZJ
 .show 1<=1+m/30%5;omega
 .show 1+m/30%5<=5;omega
 .show 1<=1+m/150%999999;omega
 .show 1+m/150%999999<=999999;omega
theorem EX(ok:j7 p)(hk:1<=p.kinds.length)(cell:Int):j7 (uG p cell):=by
 refine#[ok.kn,ok.gn,ok.ln,ok.dn,ok.tn,ok.hn,ok.kinds,ok.gates,ok.lines,ok.desks,ok.times,ok.hours,bZ (fL _ _) ([cP]▸ok.gn),?_]
 .intro q hq;let#[h1,h2,h3,h4]:=Nx hk hq;let#[z,hz,e]:=au.mp h2;exact#[ok.gates _ h1,[<-e]▸(ok.kinds z hz).1,#[∅,∅],∅,∅]
theorem GN(g:nR p)(hk:1<=p.kinds.length)(cell:Int):nR (uG p cell):=by
 refine#[g.kn,g.pn,g.dn,g.dk,g.dj,g.tn,g.tm,g.hr,g.kk,g.ll,Ke (cJ.mp g.pn).1 cell,?_]
 .intro q hq;let#[h1,h2,h3,h4]:=Nx hk hq;exact#[h1,h2,h3.1,h4.1]
theorem Ny(p:Pl)(l:!(Str×Str×Int×Int)):D5 (gA p) "paces" (.list (l.map rX))=gA { p with paces:=l }:=by unfold D5 gA;rfl
def Rpa(ds:!ai)(d:ai):Prop:=∃(p:Pl)(cell:Int),ds=[g0 p,.int cell]/\j7 p/\1<=p.kinds.length/\d=g0 (uG p cell)
abbrev Npa:!Str:=["_law_h","_law_cell","_law_paces","_law_k","_law_gate","_law_m","_law_kind","_law_made"]
section
variable{P:bx}{w:b_}{K:aj}{mg:Str->Option aA}{base:cI}{f:ay}{k:Nat}
theorem RZ:cw Npa ["_law_h","_law_cell"] (bG (top 51)):=by grind
theorem zcG(F:kE K "_law_paced" "_law_paced" (top 51) f fd)(n:Na mg)(md:mg "dict"=none)(C1:bu P w K mg base 1 "_law_mix" ["_law_cell","_law_k"] (gI K Gq)):dZ P w K mg base jL 2 f fd ["_law_h","_law_cell"] (gI K Rpa):=
 ji F RZ (by ext) λ_ _ h=>by
  let#[p,cell,rfl,ok,hk,rfl]:=h;intro gu A outer s H E hr;let nd:Npa.Nodup:=RZ.nd;let hgn:=ok.gn;refine aN (mP 2 (ds:=[]) (dO c5) nd) ?_;refine aN (rP (tgt:=.tup [3,4]) (o:=.nx [.val (g0 p),.val (.int cell),.own ((qP p cell p.gates.length).map rX),.un,.un,.un,.un,.un]) cA rfl (yp (ds:=p.gates.map .str) (eV hr 0. a_ (zF p)) n.Xe)
   (gU rfl (bY (hX 3 nd) (bY (hX 4 nd) fA)))
   (λi=>[.val (g0 p),.val (.int cell),.own ((qP p cell i).map rX),.un,.un,.un,.un,.un]) p.gates.length rfl ([gN,ae]▸aE _) (λi d hi hd=>?_) (.inl #[by rw[gN,ae],rfl])) ?_
  .let#[x,hx,rfl]:=sP hd;obtain rfl:x=.str (p.gates.getD i ""):=by rw[aH,aD hi]at hx;cases hx;rw[aR,aD hi];rfl
   refine#[_,rfl,?_];refine aN (dY 5 (d:=.int (gw cell (140+i))) (bQ C1 hr {1.,fw aL 3.} #[cell,140+(i:Int),rfl,∅,∅,rfl]) nd) ?_;let hs:qP p cell (i+1)=qP p cell i++(if 0<gw cell (140+i)%3 then [Nv p (gw cell (140+i)) i]else []):=by
    unfold qP;rw[rn,sM]
    congr 1
    by_cases h:0<gw cell (140+i)%3
    .rw[qQ3 h,dB (show EW p cell i>>(Nv p (gw cell (140+i)) i)from qQ3 h)];rfl
    .rw[qQ2 h,fK (show EW p cell i=none from qQ2 h)];rfl
   rw[hs];let hl:(qP p cell i).length<=i:=bZ (fL _ _) ([cP]▸aE _);generalize gw cell (140+(i:Int))=m;let#[pk,_]:=yy (d:=(("",none):Str×Option Int)) (F:=rW) hk (m/3);by_cases h0:0<m%3
   .rw[qQ3 h0,aQ,fD];refine jA (bA (dI (VT.to (Ly (fH 5. aL ⋯) aL) (qQ1 h0)) (aN (dY 6 (d:=.str (pickOf p.kinds ("",none) (m/3)).1) (dQ (eJ (eV hr 0. a_ (vm p)) (VE.to (fH (jZ 5. aL #[⋯,⋯]) (ie (eV hr 0. a_ (vm p)) n.len) (by rw[ae];omega)) (by rw[ae])) pk) aL rfl) nd) (bA (kj 2 rfl (d:=rX (Nv p m i)) (ic {4.,6.,fw aL (fH (jZ 5. aL #[⋯,⋯]) aL ⋯),fw aL (fH (jZ 5. aL #[⋯,⋯]) aL ⋯)}) (fh (by rw[ae];omega))))))) #[.inr rfl,.inr rfl,.inr rfl,.inl rfl,.inl rfl,.inl rfl,.inl rfl,.inl rfl,trivial]
   .rw[qQ2 h0,cn];exact jA (bA (bR (VT.to (Ly (fH 5. aL ⋯) aL) (qQ0 h0)) bC)) #[.inr rfl,.inr rfl,.inr rfl,.inl rfl,.inl rfl,.inl rfl,.inl rfl,.inl rfl,trivial]
  refine iE 2 rfl ?_;refine pD λB0 B σ H0 Hh D fr N9=>?_;refine bN (Ip fr 7 nd (λ_=>rfl) (kv:=gA p) 0. md λq σ1 Qp Qq Uv G1=>?_);refine bN (Ml G1 hr 7 rfl a_ (d:=.list ((qP p cell p.gates.length).map rX)) 2. (fh (by show 7<=1000000;decide)) λKH KJ G2=>?_);rw[Ny]at G2;let#[Ha,sm,f1]:=G2.done (i:=7) rfl DR.rep;exact Mi (d:=g0 (uG p cell)) (bA (cg 7.)) f1 N9
end
def sD(c k:Int):Nat->Int
 |0=>0
 |j+1=>sD c k j*1999999973+gw c (20*k+j)
def jw(ns:!Int):Pl:=if Qa ns%2=0 then oH (sD (UI ns) 0 12) (sD (UJ ns) 1 12) (sD (Qa ns) 2 12/2)else oH (UI ns) (UJ ns) (Qa ns/2)
def yb(p:Pl)(cell:Int)(k:Nat):Str×Int×Int:=((pickOf p.desks #["","",.eldest,[]] (gw cell (651+k))).name,gw cell (651+k)/9%2000,gw cell (651+k)/9%2000+1+gw cell (651+k)/20000%90)
def Dx(p:Pl)(cell:Int):Nat:=if p.desks=[]then 0 else(gw cell 650%5).toNat
def GO(p:Pl)(cell:Int):Pl:={ p with hours:=p.hours++(cj (Dx p cell)).map (yb p cell) }
theorem QD(p:Pl)(l:!(Str×Int×Int)):D5 (gA p) "hours" (.list (l.map oB))=gA { p with hours:=l }:=by unfold D5 gA;rfl
theorem QF{n:Nat}(r:Rl):Lay (n+2) (KD r):=by
 refine sQ (n:=n+1) λd hd=>?_;rcases ax.mp hd with rfl|hd
 .refine bj ?_;cases r<;>(dsimp only[qW,kX];symm)
 .cases r with
  |turns s=>rw[aF.mp hd];exact sQ (n:=n) λd hd=>by let#[z,_,rfl]:=au.mp hd;exact eu _ _
  |rank b=>rw[aF.mp hd];cases b with|none=>exact#[rfl,aW _]|some i=>exact eu _ _
  |many m=>rw[aF.mp hd];exact eu _ _
  |gather m a=>
   rcases ax.mp hd with rfl|hd
   .exact eu _ _
   .rw[aF.mp hd];exact eu _ _
  |meet=>cases hd
  |eldest=>cases hd
theorem Kf{l:!Dk}(h:∀d∈l,kX d.name/\kX d.to/\∀x∈d.places,kX x):Lay 20 (.list (l.map gO)):=lF (n:=19) λd hd=>by
 let#[k,hk,rfl]:=au.mp hd;let#[h1,h2,h3]:=h k hk;refine sQ (n:=18) λd hd=>?_;simp only[ax,a9,or_false]at hd;rcases hd with rfl|rfl|rfl|rfl
 .exact bj h1
 .exact bj h2
 .exact QF _
 .exact sQ (n:=17) λd hd=>by let#[x,hx,rfl]:=au.mp hd;exact bj (h3 x hx)
section
variable{P:bx}{w:b_}{K:aj}{mg:Str->Option aA}{base:cI}{f:ay}{k:Nat}
abbrev Nri:!Str:=["_law_cell","_law_k","_law_number","_law_j"]
theorem R0:cw Nri ["_law_cell","_law_k"] (bG (top 49)):=by grind
def Rri(ds:!ai)(d:ai):Prop:=∃c k:Int,ds=[.int c,.int k]/\0<=k/\k<=10/\d=.int (sD c k 12)
theorem zcH(F:kE K "_law_rich" "_law_rich" (top 49) f fd)(n:Na mg)(C1:bu P w K mg base 1 "_law_mix" ["_law_cell","_law_k"] (gI K Gq)):dZ P w K mg base jL 2 f fd ["_law_cell","_law_k"] (gI K Rri):=
 ji F R0 (by ext) λ_ _ h=>by
  let#[c,k,rfl,h0,h1,rfl]:=h;intro gu A outer s H E hr;let nd:Nri.Nodup:=R0.nd;refine aN (dY 2 (d:=.int 0) aL nd) ?_;refine aN (rP (tgt:=.one 3) (o:=.nx [.val (.int c),.val (.int k),.val (.int (sD c k 12)),.un]) cA rfl (rN (n:=12) aL n.rng ⋯ ⋯) (hX 3 nd) (λi=>[.val (.int c),.val (.int k),.val (.int (sD c k i)),.un]) 12 rfl (aE _) (λi d hi hd=>?_) (.inl #[rfl,rfl])) (bA (cg 2.));obtain rfl:d=.int i:=by
   let:(f9 12)[i]?>>(.int (i:Nat)):=by unfold f9;rw[aH,jS hi];rfl
   exact(b9 (hd.symm.trans this))
  refine#[_,rfl,?_];refine jA (bA (dY 2 (fw (ug 2. aL (.inr #[⋯,⋯])) (bQ C1 hr {0.,fw (ug aL 1. (.inl #[⋯,⋯])) 3.} #[c,20*k+i,rfl,∅,∅,rfl])) nd)) #[.inr rfl,.inr rfl,.inr rfl,.inl rfl,trivial]
abbrev Nan:!Str:=["_law_script","_law_cells"]
theorem R4:cw Nan ["_law_script"] (bG (top 50)):=by grind
def Ran(ds:!ai)(d:ai):Prop:=∃ns:!Int,ds=[MN ns]/\d=g0 (jw ns)
def Fce(ns:!Int):ai->Option ai
 | .int k=>some (.int (ns.getD k.toNat 0))
 |_=>none
def Y3:ai->Option ai
 | .tuple [.int k,.int c]=>some (.int (sD c k 12))
 |_=>none
theorem zcI(F:kE K "_law_any_plant" "_law_any_plant" (top 50) f fd)(n:Na mg)(C0:bu P w K mg base 1 "_law_cell_at" ["_law_script","_law_k"] (gI K IA))(C1:bu P w K mg base 2 "_law_rich" ["_law_cell","_law_k"] (gI K Rri))(C2:bu P w K mg base 5 "_law_plant_digits" ["_law_one","_law_two","_law_three"] (gI K Rpd)):dZ P w K mg base jL 6 f fd ["_law_script"] (gI K Ran):=
 ji F R4 (by ext) λ_ _ h=>by
  let#[ns,rfl,rfl]:=h;intro gu A outer s H E hr;let nd:Nan.Nodup:=R4.nd;let nc:(["_law_k","_law_script"]:!Str).Nodup:=∎;let nc2:(["_law_k","_law_cell"]:!Str).Nodup:=∎;refine aN (Cj 1 (own:=["_law_k"]) (cap:=[0]) (N:=["_law_k","_law_script"]) (tgt:=.one 0) (F:=Fce ns) (ds:=f9 3) rfl #[rfl,∎,∎,rfl,rfl,?_] (rN (n:=3) aL n.rng ⋯ ⋯) (λf s3 H3=>hX 0 nc) rfl (small ⋯) (λd hd=>?_) nd) ?_
  .intro j hj;rw[aF.mp hj];exact#[(by show(0:Nat)<2;decide),iL rfl,rfl]
  .let#[q,hq,rfl]:=au.mp hd;exact Ci rfl rfl λf s3 H3=>bQ C0 (hr.mono ∅) {1.,0.} #[ns,q,rfl,rfl]
  rw[show(f9 3).filterMap (Fce ns)=[.int (UI ns),.int (UJ ns),.int (Qa ns)]from rfl];refine iE 1 rfl ?_;unfold jw;by_cases h2:Qa ns%2=0
  .rw[qQ3 h2];refine aN (dI (VT.to (qz hr (fH (eJ 1. aL rfl) aL ⋯) aL) (qQ1 h2)) (bA (Cj 1 (own:=["_law_k","_law_cell"]) (cap:=[]) (N:=["_law_k","_law_cell"]) (cl:=[]) (tgt:=.tup [0,1]) (F:=Y3) (ds:=yX [.int (UI ns),.int (UJ ns),.int (Qa ns)]) rfl #[rfl,∎,∎,rfl,rfl,by simp] (yp 1. n.Xe) (λf s3 H3=>gU rfl (bY (hX 0 nc2) (bY (hX 1 nc2) fA))) rfl (small (by show 3<=1000000;decide)) (λd hd=>?_) nd))) ?_
   .let:∃(q:Nat)(c:Int),d=.tuple [.int q,.int c]/\q<=2:=by
     let:d∈[dg [.int (0:Nat),.int (UI ns)],.tuple [.int (1:Nat),.int (UJ ns)],.tuple [.int (2:Nat),.int (Qa ns)]]:=hd;simp only[ax,a9,or_false]at this;rcases this with rfl|rfl|rfl
     .exact#[0,_,rfl,⋯]
     .exact#[1,_,rfl,⋯]
     .exact#[2,_,rfl,⋯]
    let#[q,c,rfl,hq]:=this;exact Ci rfl rfl λf s3 H3=>bQ C1 (hr.mono ∅) {1.,0.} #[c,q,rfl,∅,∅,rfl]
   rw[show(yX [.int (UI ns),.int (UJ ns),.int (Qa ns)]).filterMap Y3=[.int (sD (UI ns) 0 12),.int (sD (UJ ns) 1 12),.int (sD (Qa ns) 2 12)]from rfl];refine iE 1 rfl ?_;exact bA (cg (bQ C2 hr {eJ 1. aL rfl,eJ 1. aL rfl,jZ (eJ 1. aL rfl) aL #[⋯,⋯]} #[_,_,_,rfl,rfl]))
  .rw[qQ2 h2];refine aN (bR (VT.to (qz hr (fH (eJ 1. aL rfl) aL ⋯) aL) (qQ0 h2)) bC) ?_;exact bA (cg (bQ C2 hr {eJ 1. aL rfl,eJ 1. aL rfl,jZ (eJ 1. aL rfl) aL #[⋯,⋯]} #[_,_,_,rfl,rfl]))
abbrev Nhm:!Str:=["_law_h","_law_cell","_law_more","_law_k","_law_m","_law_begin","_law_made"]
theorem R5:cw Nhm ["_law_h","_law_cell"] (bG (top 52)):=by grind
def Rhm(ds:!ai)(d:ai):Prop:=∃(p:Pl)(cell:Int),ds=[g0 p,.int cell]/\j7 p/\d=g0 (GO p cell)
theorem zcJ(F:kE K "_law_hours_more" "_law_hours_more" (top 52) f fd)(n:Na mg)(md:mg "dict"=none)(C1:bu P w K mg base 1 "_law_mix" ["_law_cell","_law_k"] (gI K Gq)):dZ P w K mg base jL 2 f fd ["_law_h","_law_cell"] (gI K Rhm):=
 ji F R5 (by ext) λ_ _ h=>by
  let#[p,cell,rfl,ok,rfl]:=h;intro gu A outer s H E hr;let nd:Nhm.Nodup:=R5.nd;let hh:=ok.hn;let b5:=cU (gw cell 650) (b:=5) ⋯;let b6:=cL (gw cell 650) (b:=5) ⋯;let en:gw cell 650%5*(if(not (c9 (.list (p.desks.map gO)) (.list [])))=true then 1 else 0)=((Dx p cell:Nat):Int):=by
   unfold Dx;cases p.desks with
   |nil=>show _*(0:Int)=_;rw[Int.mul_zero];rfl
   |cons d l=>rw[qQ2 (c:=(d::l:!Dk)=[]) (by simp)];show _*(1:Int)=_;omega
  let hn4:Dx p cell<=4:=by unfold Dx;split<;>omega
  let yr:∀i,i<Dx p cell->p.desks≠[]:=λi hi z=>by unfold Dx at hi;rw[qQ3 z]at hi;omega
  refine aN (mP 2 (ds:=[]) (dO c5) nd) ?_;refine aN (rP (tgt:=.one 3) (o:=.nx [.val (g0 p),.val (.int cell),.own (((cj (Dx p cell)).map (yb p cell)).map oB),.un,.un,.un,.un]) cA rfl (rN (n:=(Dx p cell:Nat)) (VE.to (ug (fH (bQ C1 hr {1.,aL} #[cell,650,rfl,⋯,⋯,rfl]) aL ⋯) (Pz (HV hr (Kf λd hd=>#[(ok.desks d hd).1.ok.2,(ok.desks d hd).2.1.elim (λz=>[z]▸(show bX (.str ("":Str))=true by symm)) λz=>z.ok.2,λx hx=>((ok.desks d hd).2.2.2.2 x hx).ok.2]) (lF (n:=19) λd hd=>by cases hd) (eV hr 0. a_ (rY p)) (VO.ve (dO c5))) n.int) (.inl #[∅,∅])) (by rw[en])) n.rng ∅ ∅) (hX 3 nd) (λi=>[.val (g0 p),.val (.int cell),.own (((cj i).map (yb p cell)).map oB),.un,.un,.un,.un]) (Dx p cell) rfl ([eU]▸aE _) (λi d hi hd=>?_) (.inl #[by rw[eU];rfl,rfl])) ?_
  .obtain rfl:d=.int i:=by
    let:(f9 ((Dx p cell:Int)).toNat)[i]?>>(.int (i:Nat)):=by unfold f9;rw[c7,aH,jS hi];rfl
    exact(b9 (hd.symm.trans this))
   refine#[_,rfl,?_];refine aN (dY 4 (d:=.int (gw cell (651+i))) (bQ C1 hr {1.,fw aL 3.} #[cell,651+(i:Int),rfl,∅,∅,rfl]) nd) ?_;let L0:1<=p.desks.length:=rq.mpr λz=>yr i hi (iw.mp z);rw[rn,aQ,aQ,fD,fD];unfold yb;let pk:=(yy (d:=(#["","",.eldest,[]]:Dk)) (F:=gO) L0 (gw cell (651+i))).1;generalize pickOf p.desks #["","",.eldest,[]] (gw cell (651+i))=dk at *;refine aN (dY 5 (fH (jZ 4. aL #[⋯,⋯]) aL ⋯) nd) ?_;exact jA (bA (kj 2 rfl (ic {dQ (eJ (eV hr 0. a_ (rY p)) (VE.to (fH 4. (ie (eV hr 0. a_ (rY p)) n.len) (by rw[ae];omega)) (by rw[ae])) pk) aL rfl,5.,fw (fw 5. aL) (fH (jZ 4. aL #[⋯,⋯]) aL ⋯)}) (fh (by rw[ae,ae,cP];omega)))) #[.inr rfl,.inr rfl,.inr rfl,.inl rfl,.inl rfl,.inl rfl,.inl rfl,trivial]
  refine iE 2 rfl ?_;refine pD λB0 B σ H0 Hh D fr N9=>?_;refine bN (Ip fr 6 nd (λ_=>rfl) (kv:=gA p) 0. md λq σ1 Qp Qq Uv G1=>?_);refine bN (Ml G1 hr 6 rfl a_ (d:=.list ((p.hours++(cj (Dx p cell)).map (yb p cell)).map oB)) (VE.to (VO.ve (nJ (eV hr 0. a_ (zG p)) 2. (small (by rw[ae,ae,ae,cP];omega)))) (by rw[aQ])) (fh (by show 7<=1000000;decide)) λKH KJ G2=>?_);rw[QD]at G2;let#[Ha,sm,f1]:=G2.done (i:=6) rfl DR.rep;exact Mi (d:=g0 (GO p cell)) (bA (cg 6.)) f1 N9
end
end Mg
namespace Mg
open L2 PySem PyProof.Rows
variable{e:Ent}{gf:!Dk}{es:!Ent}{dn:Str}
theorem IQ(lines:!Str)(n:Int):∀(ps:!(Str×!Str))(s:!Dk×Int),∃ds,(ps.foldl (qB lines) s).1=s.1++ds/\(ds.map (·.name)).Sublist (ps.map (·.1))/\(ds.map (·.places)).Sublist (ps.map (·.2))
 | [],s=>#[[],by simp,.slnil,.slnil]
 |x::ps,s=>by
  let#[ds,e1,e2,e3]:=IQ lines n ps (qB lines s x);rw[fk,e1];unfold qB;split
  .exact#[ds,rfl,.cons _ e2,.cons _ e3]
  .refine#[#[x.1,Kc lines s.2,(jv (s.2/((lines.length:Int)+1)) x.2.length).1,x.2]::ds,by simp,?_,?_]
   .exact .cons_cons _ e2
   .exact .cons_cons _ e3
theorem Kg{α:Type}(l:!α)(i:Nat)(x:α):(pC l i x).Perm (x::l):=by unfold pC;refine List.perm_middle.trans ?_;rw[Fv]
theorem EY{α:Type}:∀(tk:!(!α))(j:Nat)(x:α)(i:Nat),j<tk.length->((tk.set j (pC (tk.getD j []) i x)).flatten).Perm (x::tk.flatten)
 |r::tk,0,x,i,_=>by show(pC r i x++tk.flatten).Perm (x::(r++tk.flatten));exact(Kg r i x).append_right _
 |r::tk,j+1,x,i,h=>by show(r++(tk.set j (pC (tk.getD j []) i x)).flatten).Perm (x::(r++tk.flatten));exact((EY tk j x i ↑h).append_left r).trans List.perm_middle
theorem EZ{nn:Nat}{n:Int}{places:!Str}(nd:places.Nodup):∀k,k<=places.length->(mq nn n places k).1.flatten.Nodup/\∀x∈(mq nn n places k).1.flatten,x∈places.take k
 |0,_=>by
  let e:(mq nn n places 0).1.flatten=[]:=by show(bp nn ([]:!Str)).flatten=[];simp
  rw[e];exact#[gD,λx hx=>by cases hx]
 |k+1,h=>by
  let#[i1,i2]:=EZ (nn:=nn) (n:=n) nd k ∅;let es:mq nn n places (k+1)=sA nn (mq nn n places k) places[k]:=fS _ _ (aD ∅);let hl:=(vB nn n places k).1;rw[es,cB,aD ∅];unfold sA;split
  .rename_i c
   let pm:=EY (mq nn n places k).1 ((mq nn n places k).2%((nn:Int)+1)).toNat places[k] ((mq nn n places k).2/((nn:Int)+1)%((((mq nn n places k).1.getD ((mq nn n places k).2%((nn:Int)+1)).toNat []).length:Int)+1)).toNat ∅;refine#[pm.nodup_iff.mpr (cx.mpr #[λz=>?_,i1]),λx hx=>?_]
   .let hz:=i2 _ z;let#[j,hj,e]:=oW.mp hz;let:=(qE nd (h₀:=∅) (h₁:=∅)).mp e;omega
   .rcases ax.mp (pm.mem_iff.mp hx)with rfl|hx
    .exact bD _ (by simp)
    .exact bP _ (i2 x hx)
  .exact#[i1,λx hx=>bP _ (i2 x hx)]
theorem Nz{dn:Str}:∀{l:!(Str×Option Int)}{s:!(Str×Str×Int)×Int},∃ts,(l.foldl (lz dn) s).1=s.1++ts/\(ts.map (·.2.1)).Sublist (l.map (·.1))/\∀q∈ts,q.1=dn/\1<=q.2.2/\q.2.2<=20
 | [],s=>#[[],by simp,.slnil,λq hq=>by cases hq]
 |x::l,s=>by
  let#[ts,e1,e2,e3]:=Nz (l:=l) (s:=lz dn s x) (dn:=dn);rw[fk,e1];unfold lz;split
  .refine#[(dn,x.1,1+s.2/2%20)::ts,by simp,.cons_cons _ e2,λq hq=>?_];rcases ax.mp hq with rfl|hq
   .exact#[rfl,by dsimp only;omega,by dsimp only;omega]
   .exact e3 q hq
  .exact#[ts,rfl,.cons _ e2,e3]
theorem NB{s:!(Str×Int×Int)×Int}:∀k,∀q∈(uE dn s k).1,q∈s.1\/(q.1=dn/\0<=q.2.1/\q.2.1<q.2.2/\q.2.2<=200)
 |0,q,h=>.inl h
 |k+1,q,h=>by
  rw[uE]at h;rcases aV.mp h with h|h
  .exact NB k q h
  .rw[aF.mp h]
   generalize(uE dn s k).2=u
   exact .inr #[rfl,by dsimp only;omega,by dsimp only;omega,by dsimp only;omega]
theorem NC{kinds:!(Str×Option Int)}(kn:(kinds.map (·.1)).Nodup)(dn:(gf.map (·.name)).Nodup){a c:Int}:∀k,k<=gf.length->((lA kinds gf a c k).1.1.map λq=>(q.1,q.2.1)).Nodup/\(∀q∈(lA kinds gf a c k).1.1,q.1∈(gf.take k).map (·.name)/\q.2.1∈kinds.map (·.1)/\1<=q.2.2/\q.2.2<=20)/\∀q∈(lA kinds gf a c k).2.1,q.1∈(gf.take k).map (·.name)/\0<=q.2.1/\q.2.1<q.2.2/\q.2.2<=200
 |0,_=>#[gD,λq hq=>(by cases hq),λq hq=>(by cases hq)]
 |k+1,h=>by
  let#[i1,i2,i3]:=NC kn dn (a:=a) (c:=c) k ∅;let hk:gf[k]?>>gf[k]:=aD ∅;let es:lA kinds gf a c (k+1)=uF kinds (lA kinds gf a c k) gf[k]:=fS _ _ hk;let et:(gf.take (k+1)).map (·.name)=(gf.take k).map (·.name) ++ [gf[k].name]:=by rw[cB,hk,aQ];rfl
  rw[es,et];unfold uF;dsimp only;let Qt:gf[k].name∉(gf.take k).map (·.name):=λz=>by let#[d,hd,e]:=au.mp z;let#[j,hj,rfl]:=oW.mp hd;let:=(qE dn (h₀:=by rw[ae];omega) (h₁:=by rw[ae];omega) (i:=j) (j:=k)).mp ([jH,jH]▸e);omega
  let#[ts,e1,e2,e3]:=Nz (dn:=gf[k].name) (l:=kinds) (s:=(lA kinds gf a c k).1);rw[e1];refine#[?_,λq hq=>?_,λq hq=>?_]
  .rw[aQ,cJ];refine#[i1,?_,λx hx y hy=>?_]
   .let h2:(ts.map (·.2.1)).Nodup:=kn.sublist e2;let h3:((ts.map λq=>(q.1,q.2.1)).map Prod.snd).Nodup:=[aG]▸h2;exact List.Pairwise.of_map Prod.snd (λa b h e=>h (qQ6 Prod.snd e)) h3
   .let#[q,hq,rfl]:=au.mp hx;let#[r,hr,rfl]:=au.mp hy;intro z;let:=qQ6 Prod.fst z;dsimp only at this;exact Qt ([<-(e3 r hr).1,<-this]▸(i2 q hq).1)
  .rcases aV.mp hq with hq|hq
   .let#[j1,j2]:=i2 q hq;exact#[bP _ j1,j2]
   .let#[j1,j2]:=e3 q hq;exact#[bD _ (by rw[j1];simp),e2.subset (au.mpr #[q,hq,rfl]),j2]
  .rcases NB _ q hq with hq|hq
   .let#[j1,j2]:=i3 q hq;exact#[bP _ j1,j2]
   .exact#[bD _ (by rw[hq.1];simp),hq.2]
theorem kd_mem{names:!Str}{a:Int}(k:Nat):∀q∈(x8 names a k).1,∀i,q.2>>i->1<=i/\i<=60:=by
 refine sC (I:=λs:!(Str×Option Int)×Int=>∀q∈s.1,∀i,q.2>>i->1<=i/\i<=60) (λq hq=>by cases hq) λs x _ ih q hq i hi=>?_;unfold wK at hq;rcases aV.mp hq with hq|hq
 .exact ih q hq i hi
 .rw[aF.mp hq]at hi;dsimp only at hi;split at hi
  .cases hi
  .cases hi;omega
theorem Vc{lines:!Str}{b:Int}(k:Nat):∀q∈(uD gf lines b k).1,maxOf (fY gf q.1)<=q.2/\q.2<=maxOf (fY gf q.1)+4:=by
 refine sC (I:=λs:!(Str×Int)×Int=>∀q∈s.1,maxOf (fY gf q.1)<=q.2/\q.2<=maxOf (fY gf q.1)+4) (λq hq=>by cases hq) λs x _ ih q hq=>?_;unfold wL at hq;rcases aV.mp hq with hq|hq
 .exact ih q hq
 .rw[aF.mp hq];dsimp only;omega
theorem QG(h:∀d∈gf,gx d.rule d.places.length<=200)(nm:Str):1<=maxOf (fY gf nm)/\maxOf (fY gf nm)<=200/\∀d∈gf,d.to=nm->gx d.rule d.places.length<=maxOf (fY gf nm):=by
 let#[m1,m2]:=zE (fY gf nm);refine#[m2 1 aJ,?_,λd hd e=>m2 _ (aM _ (iP.mpr #[d,hd,by rw[qQ1 e];rfl]))];rcases ax.mp m1 with e|e
 .omega
 .let#[d,hd,e2]:=iP.mp e;split at e2
  .rw[<-b9 e2];exact h d hd
  .cases e2
theorem zY{α:Type}:∀{l l':!(!α)},l.Sublist l'->l.flatten.Sublist l'.flatten
 |_,_,.slnil=>.slnil
 |_,_,.cons a h=>(zY h).trans (List.sublist_append_right _ _)
 |_,_,.cons_cons a h=>(mM a).append (zY h)
theorem NF(one two three:Int):j7 (oH one two three)/\nR (oH one two three)/\1<=(oH one two three).kinds.length/\(oH one two three).kinds.length<=12/\(oH one two three).gates.length+(oH one two three).lines.length<=12/\(oH one two three).desks.length<=8/\(oH one two three).times.length<=96/\(oH one two three).hours.length<=16:=by
 let#[k1,k12]:=YX one;let#[g1,g6]:=U_ two;let#[p1,p12]:=YY two;let#[kn1,kn2]:=pH (one/12) (g8 one) ∅;let Va:=iS (one/12) (g8 one);let#[pn1,pn2]:=pH (two/6/7) (x9 two) ∅;let pnl:(iZ two).1.length=x9 two:=iS _ _;let kk:(kdOf one).1.map (·.1)=(spell (one/12) (g8 one)).1:=by let:=sY (names:=(spell (one/12) (g8 one)).1) (a:=(spell (one/12) (g8 one)).2) (g8 one) ∅;rw[gq ∅]at this;exact this
 let kl:(kdOf one).1.length=g8 one:=by rw[<-Va,<-kk,ae]
 let km:=kd_mem (names:=(spell (one/12) (g8 one)).1) (a:=(spell (one/12) (g8 one)).2) (g8 one);let U6:kT two=(iZ two).1.drop (mr two):=rfl;let lB:(iZ two).1.take (mr two)++kT two=(iZ two).1:=Fv _ _;let lll:(kT two).length=x9 two-mr two:=by rw[U6,iu,pnl]
 let YZ:∀x∈kT two,dq x:=λx hx=>pn1 x (mI hx);let rk:(uD (jE two three).1 (kT two) (iZ two).2 (kT two).length).1.map (·.1)=kT two:=by let:=wM (gf:=(jE two three).1) (lines:=kT two) (b:=(iZ two).2) (kT two).length (aE _);rw[du]at this;exact this
 let rl:(uD (jE two three).1 (kT two) (iZ two).2 (kT two).length).1.length=(kT two).length:=by conv=>rhs;rw[<-rk];rw[ae]
 let dl:(jE two three).1.length<=8:=BD _ _ _;let#[m1,m8]:=zX three;let#[dn1,dn2]:=pH (three/8) (eW three) ∅;let dnl:=iS (three/8) (eW three);let tki:=vB (eW three) (spell (three/8) (eW three)).2 (iZ two).1 (iZ two).1.length;let tkn:=EZ (nn:=eW three) (n:=(spell (three/8) (eW three)).2) pn2 (places:=(iZ two).1) (iZ two).1.length (aE _);let#[ds,e1,e2,e3]:=IQ (kT two) 0 (((spell (three/8) (eW three)).1.zip (mq (eW three) (spell (three/8) (eW three)).2 (iZ two).1 (iZ two).1.length).1).take (eW three)) ([],(mq (eW three) (spell (three/8) (eW three)).2 (iZ two).1 (iZ two).1.length).2);let NZ:(jE two three).1=ds:=by let:(jE two three).1=[]++ds:=e1;simpa using this
 let dnn:((jE two three).1.map (·.name)).Nodup:=by rw[NZ];refine List.Nodup.sublist (e2.trans (AY ((w8 _ _).map _) ?_)) dn2;rw[List.map_fst_zip ([tki.1,dnl]▸aE _)];exact mM _
 let dpl:((jE two three).1.map (·.places)).Sublist (mq (eW three) (spell (three/8) (eW three)).2 (iZ two).1 (iZ two).1.length).1:=by rw[NZ];refine e3.trans (AY ((w8 _ _).map _) ?_);rw[List.map_snd_zip ([tki.1,dnl]▸aE _)];exact mM _
 let djn:((jE two three).1.map (·.places)).flatten.Nodup:=tkn.1.sublist (zY dpl);let E1:∀d∈(jE two three).1,dq d.name/\d.to∈kT two ++ [("":Str)]/\CP d.rule/\oU d.rule d.places.length/\gx d.rule d.places.length<=200/\Gu d.places/\∀x∈d.places,x∈(iZ two).1:=by intro d hd;let#[j1,j2,j3,j4,m,j5]:=Bz hd;let zC:=tki.2 d.places j3;let h1:1<=d.places.length:=rq.mpr λz=>j4 (iw.mp z);let#[r1,r2,r3]:=Qy m h1 zC.1;rw[<-j5]at r1 r2 r3;let AA:d.places.Nodup:=djn.sublist (List.sublist_flatten_of_mem (au.mpr #[d,hd,rfl]));exact#[dn1 _ j1,j2,r1,r2,r3,#[h1,zC.1,AA,λx hx=>pn1 x (zC.2 x hx)],zC.2]
 let lb:=λnm=>QG (gf:=(jE two three).1) (λd hd=>(E1 d hd).2.2.2.2.1) nm;let rm:=Vc (gf:=(jE two three).1) (lines:=kT two) (b:=(iZ two).2) (kT two).length;let kn:((kdOf one).1.map (·.1)).Nodup:=[kk]▸kn2;let#[t1,t2,t3]:=NC kn dnn (a:=(kdOf one).2) (c:=(jE two three).2) (jE two three).1.length (aE _);rw[du]at t2 t3;let#[tl,hl]:=GL (kinds:=(kdOf one).1) (gf:=(jE two three).1) (a:=(kdOf one).2) (c:=(jE two three).2) ∅ (jE two three).1.length;let R6:∀x∈(kdOf one).1.map (·.1),dq x:=[kk]▸kn1;let R7:∀x∈(jE two three).1.map (·.name),dq x:=λx hx=>by let#[d,hd,rfl]:=au.mp hx;exact(E1 d hd).1
 let VN:∀d∈(jE two three).1,d.to=""\/dq d.to/\d.to∈kT two:=λd hd=>by
  rcases aV.mp (E1 d hd).2.1 with h|h
  .exact .inr #[YZ _ h,h]
  .exact .inl (aF.mp h)
 let gl:((iZ two).1.take (mr two)).length=mr two:=by rw[cN,pnl];omega
 unfold oH;refine#[#[by dsimp only;omega,by dsimp only;omega,by dsimp only;omega,by dsimp only;omega,by dsimp only;omega,by dsimp only;omega,λq hq=>#[R6 _ (au.mpr #[q,hq,rfl]),?_],λg hg=>pn1 g (mB hg),λq hq=>#[YZ _ (rk▸au.mpr #[q,hq,rfl]),?_],λd hd=>?_,λq hq=>?_,λq hq=>?_,aW _,λq hq=>by cases hq],#[kn,?_,dnn,λd hd=>?_,djn,t1,λq hq=>?_,λq hq=>?_,λq hq i hi=>?_,λq hq=>?_,gD,λq hq=>by cases hq],by dsimp only;omega,by dsimp only;omega,by dsimp only;omega,by dsimp only;omega,by dsimp only;omega,by dsimp only;omega]
 .cases e:q.2 with
  |none=>trivial
  |some i=>have:=km q hq i e;exact#[∅,∅]
 .let:=rm q hq;let:=lb q.1;exact#[∅,∅]
 .let#[a1,a2,a3,a4,a5,a6,a7]:=E1 d hd;exact#[a1,(VN d hd).imp id (·.1),a3,by let:=a6.2.1;omega,a6.2.2.2]
 .let#[a1,a2,a3,a4]:=t2 q hq;exact#[R7 _ a1,R6 _ a2,∅,∅]
 .let#[a1,a2,a3,a4]:=t3 q hq;exact#[R7 _ a1,#[a2,∅],∅,∅]
 .dsimp only;rw[rk,lB];exact pn2
 .let#[a1,a2,a3,a4,a5,a6,a7]:=E1 d hd;refine#[#[a1,(VN d hd).imp id (·.1),a4,a6],λx hx=>?_,?_]
  .dsimp only;rw[rk,lB];exact a7 x hx
  .rcases VN d hd with h|h
   .exact .inl h
   .let#[q,hq,e]:=au.mp (show d.to∈(uD (jE two three).1 (kT two) (iZ two).2 (kT two).length).1.map (·.1) by rw[rk];exact h.2);refine .inr #[q.2,[<-e]▸hq,?_];let:=(lb q.1).2.2 d hd e.symm;let:=rm q hq;omega
 .let#[a1,a2,a3,a4]:=t2 q hq;exact#[a1,a2,a3]
 .let#[a1,a2,a3,a4]:=t3 q hq;exact#[a1,a3]
 .let:=km q hq i hi;exact#[∅,∅,∅]
 .let:=rm q hq;let:=lb q.1;omega
def jF(e:Ent):Str:=bM " " (lS e)
def nT(w:Str):Prop:=Ye w/\kX w/\w.length<=8
theorem kO{x:Str}(h:dq x):nT x:=#[Bw h,h.ok.2,h.short]
theorem mw{i:Int}(h:cV i):nT (cX i):=#[MX h.1 h.2,(mj h.1 h.2).2,by let:=(vo h.1 h.2).2;omega]
theorem sE{x:Str}(h:x≠""/\32∉x.cps.toList/\10∉x.cps.toList)(h2:bX (.str x)=true)(h3:x.length<=8):nT x:=#[h,h2,h3]
theorem C9:nT "-":=sE ∎ ∎ ∎
theorem uH:∀r:Rl,nT (qW r)
 | .meet=>show nT "meet" from sE ∎ ∎ ∎
 | .gather _ _=>show nT "gather" from sE ∎ ∎ ∎
 | .many _=>show nT "many" from sE ∎ ∎ ∎
 | .rank _=>show nT "rank" from sE ∎ ∎ ∎
 | .turns _=>show nT "turns" from sE ∎ ∎ ∎
 | .eldest=>show nT "eldest" from sE ∎ ∎ ∎
theorem QH{r:Rl}{n:Nat}(h:oU r n)(hn:n<=6):(∀w∈cH r,nT w)/\(cH r).length<=7:=by
 cases r with
 |meet=>exact#[λw hw=>[aF.mp hw]▸uH _,⋯]
 |eldest=>exact#[λw hw=>[aF.mp hw]▸uH _,⋯]
 |many m=>
  refine#[λw hw=>?_,by show 2<=7;decide];rcases ax.mp hw with rfl|hw
  .exact uH _
  .rw[aF.mp hw];exact mw h.2
 |gather m a=>
  refine#[λw hw=>?_,by show 3<=7;decide];rcases ax.mp hw with rfl|hw
  .exact uH _
  rcases ax.mp hw with rfl|hw
  .exact mw h.2.1
  .rw[aF.mp hw];exact mw h.2.2
 |rank b=>
  refine#[λw hw=>?_,by show 2<=7;decide];rcases ax.mp hw with rfl|hw
  .exact uH _
  .rw[aF.mp hw];cases b with
   |none=>exact C9
   |some i=>exact mw h
 |turns s=>
  refine#[λw hw=>?_,by show(s.map cX).length+1<=7;rw[ae,h.1];omega];rcases ax.mp hw with rfl|hw
  .exact uH (.turns s)
  .let#[z,hz,rfl]:=au.mp hw;let:=h.2 z hz;exact mw #[∅,∅]
theorem wN(h:ko e):(∀w∈lS e,nT w)/\(lS e).length<=19:=by
 let k1:∀{x:Str},x∈[("kind":Str),"gate","line","desk","time","open","pace","to","by","from"]->nT x:=λ{x}hx=>by simp only[ax,a9,or_false]at hx;rcases hx with rfl|rfl|rfl|rfl|rfl|rfl|rfl|rfl|rfl|rfl<;>exact sE ∎ ∎ ∎
 cases e with
 |kind n k=>
  refine#[λw hw=>?_,by show 3<=19;decide];let hw:w∈[("kind":Str),n,eK (og k)]:=hw;simp only[ax,a9,or_false]at hw;rcases hw with rfl|rfl|rfl
  .exact k1 (by simp)
  .exact kO h.1
  .cases k with
   |none=>exact C9
   |some i=>exact mw (h.2 i rfl).2
 |gate n=>
  refine#[λw hw=>?_,by show 2<=19;decide];let hw:w∈[("gate":Str),n]:=hw;simp only[ax,a9,or_false]at hw;rcases hw with rfl|rfl
  .exact k1 (by simp)
  .exact kO h
 |line n r=>
  refine#[λw hw=>?_,by show 3<=19;decide];let hw:w∈[("line":Str),n,cX r]:=hw;simp only[ax,a9,or_false]at hw;rcases hw with rfl|rfl|rfl
  .exact k1 (by simp)
  .exact kO h.1
  .exact mw h.2.2
 |desk d=>
  let#[h1,h2,h3,h4]:=h;let#[r1,r2]:=QH h3 h4.2.1;let e0:lS (.desk d)=[("desk":Str),d.name,"to",eK (.str d.to),"by"]++cH d.rule ++ [("from":Str)]++d.places:=rfl;refine#[λw hw=>?_,?_]
  .rw[e0]at hw;simp only[aV,ax,a9,or_false]at hw;rcases hw with(((rfl|rfl|rfl|rfl|rfl)|hw)|rfl)|hw
   .exact k1 (by simp)
   .exact kO h1
   .exact k1 (by simp)
   .show nT (if d.to="" then "-" else d.to);split
    .exact C9
    .rename_i hx
     exact kO (h2.resolve_left hx)
   .exact k1 (by simp)
   .exact r1 w hw
   .exact k1 (by simp)
   .exact kO (h4.2.2.2 w hw)
  .rw[e0];simp only[aX,bH,cR];let:=h4.2.1;omega
 |time d k w'=>
  refine#[λw hw=>?_,by show 4<=19;decide];let hw:w∈[("time":Str),d,k,cX w']:=hw;simp only[ax,a9,or_false]at hw;rcases hw with rfl|rfl|rfl|rfl
  .exact k1 (by simp)
  .exact kO h.1
  .exact kO h.2.1
  .exact mw h.2.2.2
 |hour d a b=>
  refine#[λw hw=>?_,by show 4<=19;decide];let hw:w∈[("open":Str),d,cX a,cX b]:=hw;simp only[ax,a9,or_false]at hw;rcases hw with rfl|rfl|rfl|rfl
  .exact k1 (by simp)
  .exact kO h.1
  .exact mw h.2.1
  .exact mw h.2.2.1
 |pace g k a b=>
  refine#[λw hw=>?_,by show 5<=19;decide];let hw:w∈[("pace":Str),g,k,cX a,cX b]:=hw;simp only[ax,a9,or_false]at hw;rcases hw with rfl|rfl|rfl|rfl|rfl
  .exact k1 (by simp)
  .exact kO h.1
  .exact kO h.2.1
  .exact mw h.2.2.1.2
  .exact mw h.2.2.2.2
theorem Vd(e:Ent):lS e≠[]:=by cases e<;>exact List.cons_ne_nil _ _
theorem NK(e:Ent):(lS e)[0]?>>e.form:=by cases e<;>rfl
theorem zZ(h:ko e):cv (jF e) " "=lS e:=by unfold jF;rw[lg];exact nO (Vd e) λx hx=>((wN h).1 x hx).1.2.1
theorem z8{y:Str}{b:Nat}:∀{l:!Str},(∀x∈l,x.length<=b)->(bM y l).length<=l.length*(b+y.length)
 | [],_=>by show 0<=_;omega
 | [x],h=>by let:=h x aJ;show x.length<=1*_;omega
 |x::z::l,h=>by
  let h1:=h x aJ;let h2:=z8 (y:=y) (l:=z::l) λu hu=>h u (aM _ hu);let e:(bM y (x::z::l)).length=x.length+y.length+(bM y (z::l)).length:=by show(x.cps++y.cps++(bM y (z::l)).cps).size=_;rw[vU,vU];rfl
  rw[e,bH,Nat.add_mul];omega
theorem z_(h:ko e):(jF e).length<=171:=by let#[h1,h2]:=wN h;let:=z8 (y:=(" ":Str)) λx hx=>(h1 x hx).2.2;let e1:(" ":Str).length=1:=⋯;rw[e1]at this;unfold jF;omega
theorem Kh(h:ko e):10∉(jF e).cps.toList:=C7 ∎ λx hx=>((wN h).1 x hx).1.2.2
theorem C_{a b:!Str}(ha:a≠[])(hb:b≠[]):bM " " (a++b)=bM " " a++" "++bM " " b:=[lg]▸zH 32 ha hb
theorem GP{p:Pl}(g:∀d∈p.desks,d.places≠[]):iR p=(tK p).map jF:=by
 unfold iR qO r9 tK;simp only[aQ,aG]
 congr 1
 congr 1
 congr 1
 congr 1
 congr 1
 congr 1
 .refine uP λq _=>?_;show sU q=bM " " [("kind":Str),q.1,eK (og q.2)];unfold sU;apply str_inj;show _=(("kind":Str)++" "++(q.1++" "++eK (og q.2))).cps.toList;simp only[add_list,dw,show("kind ":Str).cps.toList=("kind":Str).cps.toList++(" ":Str).cps.toList from by symm]
 .refine uP λq _=>?_;show oE q=bM " " [("line":Str),q.1,cX q.2];unfold oE;apply str_inj;show _=(("line":Str)++" "++(q.1++" "++cX q.2)).cps.toList;simp only[add_list,dw,show("line ":Str).cps.toList=("line":Str).cps.toList++(" ":Str).cps.toList from by symm]
 .refine uP λd hd=>?_;show mX d=bM " " ([("desk":Str),d.name,"to",eK (.str d.to),"by"]++cH d.rule ++ [("from":Str)]++d.places);let hr:cH d.rule≠[]:=by cases d.rule<;>exact List.cons_ne_nil _ _
  rw[C_ (by simp) (g d hd),C_ (by simp) (by simp),C_ (by simp) hr];unfold mX pF pE;apply str_inj;show _=((("desk":Str)++" "++(d.name++" "++(("to":Str)++" "++(eK (.str d.to)++" "++"by"))))++" "++bM " " (cH d.rule)++" "++"from"++" "++bM " " d.places).cps.toList;simp only[add_list,dw,show("desk ":Str).cps.toList=("desk":Str).cps.toList++(" ":Str).cps.toList from by symm,show(" to ":Str).cps.toList=(" ":Str).cps.toList++(("to":Str).cps.toList++(" ":Str).cps.toList)from by symm,show(" by ":Str).cps.toList=(" ":Str).cps.toList++(("by":Str).cps.toList++(" ":Str).cps.toList)from by symm,show(" from ":Str).cps.toList=(" ":Str).cps.toList++(("from":Str).cps.toList++(" ":Str).cps.toList)from by symm]
def apD:ai:=.list [.str "kind gate",.str "kind line",.str "gate line",.str "time open"]
def Y4(a b:Ent):Bool:=qJ (.str (a.form++" "++b.form)) apD
def uI(es:!Ent)(m:Int):!Ent:=
 match es[(m%es.length).toNat]?,es[(m%es.length).toNat+1]? with
 |some a,some b=>if Y4 a b=true then(es.set (m%es.length).toNat b).set ((m%es.length).toNat+1) a else es
 |_,_=>es
def vC(es:!Ent)(cell:Int):Nat->!Ent
 |0=>es
 |k+1=>uI (vC es cell k) (gw cell (200+k))
theorem IU{α:Type}{a b:α}:∀{l:!α}{i:Nat},l[i]?>>a->l[i+1]?>>b->∃A C,l=A++a::b::C/\(l.set i b).set (i+1) a=A++b::a::C
 |x::y::l,0,h1,h2=>by cases h1;cases h2;exact#[[],l,rfl,rfl]
 |x::l,i+1,h1,h2=>by let#[A,C,e1,e2]:=IU (l:=l) (i:=i) h1 h2;exact#[x::A,C,by rw[e1];rfl,by show x::((l.set i b).set (i+1) a)=_;rw[e2];rfl]
 | [x],0,h1,h2=>by cases h2
 | [],_,h1,_=>by cases h1
theorem QI{a b:Ent}(h:Y4 a b=true)(st:Pl):gQ (gQ st b) a=gQ (gQ st a) b/\(sk st a->sk (gQ st a) b->sk st b/\sk (gQ st b) a)/\(j7 (gQ (gQ st a) b)->j7 (gQ st b)):=by
 let nh:∀{st:Pl}{n m:Str}{r:Int},¬jt st n->¬jt (gQ st (.gate n)) m->¬jt st m/\¬jt (gQ st (.line m r)) n:=by intro st n m r h1 h2;unfold jt gQ at *;simp only[aV,aF,aQ,fD,not_or]at *;exact#[#[h2.1.1,h2.2],h1.1,h1.2,λz=>h2.1.2 z.symm]
 cases a<;>cases b<;>first
  |exact qQ7 h (by dsimp only[Y4,Ent.form];symm)
  |exact#[rfl,λh1 h2=>#[h2,h1],λh=>by refine iJ h ?_ ?_ ?_ ?_ ?_ ?_ ?_ ?_ ?_ ?_ ?_ ?_ ?_ ?_<;>simp +contextual [gQ]]
  |exact#[rfl,λh1 h2=>nh h1 h2,λh=>by refine iJ h ?_ ?_ ?_ ?_ ?_ ?_ ?_ ?_ ?_ ?_ ?_ ?_ ?_ ?_<;>simp +contextual [gQ]]
theorem iO.hd:∀{es:!Ent}{st:Pl},iO st es->j7 st
 | [],_,h=>h
 |_::_,_,h=>h.1
theorem iO.sw{a b:Ent}(h:Y4 a b=true):∀{A C:!Ent}{st:Pl},iO st (A++a::b::C)->iO st (A++b::a::C)/\(A++b::a::C).foldl gQ st=(A++a::b::C).foldl gQ st
 | [],C,st,#[h1,h2,h3,h4,h5,h6,h7]=>by let#[c1,c2,c3]:=QI h st;let#[d1,d2]:=c2 h3 h6;refine#[#[h1,h5,d1,c3 h7.hd,h2,d2,[c1]▸h7],?_];show C.foldl gQ (gQ (gQ st b) a)=C.foldl gQ (gQ (gQ st a) b);rw[c1]
 |x::A,C,st,#[h1,h2,h3,h4]=>by let#[i1,i2]:=iO.sw h (A:=A) h4;exact#[#[h1,h2,h3,i1],i2]
theorem Ki{m:Int}(h:iO mn es):iO mn (uI es m)/\(uI es m).foldl gQ mn=es.foldl gQ mn/\(uI es m).length=es.length:=by
 unfold uI;split
 .rename_i a b e1 e2
  split
  .rename_i c
   let#[A,C,q1,q2]:=IU e1 e2;rw[q2];rw[q1]at h;let#[i1,i2]:=h.sw c;exact#[i1,by rw[i2,<-q1],by rw[q1];simp]
  .exact#[h,rfl,rfl]
 .exact#[h,rfl,rfl]
theorem Dc{cell:Int}(h:iO mn es):∀k,iO mn (vC es cell k)/\(vC es cell k).foldl gQ mn=es.foldl gQ mn/\(vC es cell k).length=es.length
 |0=>#[h,rfl,rfl]
 |k+1=>by let#[i1,i2,i3]:=Dc h k;let#[j1,j2,j3]:=Ki (m:=gw cell (200+k)) i1;exact#[j1,j2.trans i2,j3.trans i3]
end Mg
namespace Mg
open L2 PySem PyProof.Rows
seal L2.VE L2.VS L2.y6 L2.VT L2.VO L2.O8
variable{fd:eE}{cell:Int}{cs:!ay}{es:!Ent}{ds xs:!ai}{m n:Nat}{p:Pl}{d x:ai}{K:aj}
theorem vD:∀{es:!Ent}{st:Pl},iO st es->∀e∈es,ko e
 | [],_,_,e,h=>by cases h
 |x::es,_,#[_,h2,_,h4],e,h=>by
  rcases ax.mp h with rfl|h
  .exact h2
  .exact vD h4 e h
theorem E2(e:Ent):kX e.form/\e.form.length<=8:=by cases e<;>(dsimp only[Ent.form,kX];exact#[∎,∎])
theorem GQ{y:Str}(hy:kX y):∀{l:!Str},(∀x∈l,kX x)->kX (bM y l)
 | [],_=>(iV _).mpr λc hc=>by cases hc
 | [x],h=>h x aJ
 |x::z::l,h=>(iV _).mpr λc hc=>by
  let hc:c∈(x++y++bM y (z::l)).cps.toList:=hc;rw[add_list,add_list]at hc;rcases aV.mp hc with hc|hc
  .rcases aV.mp hc with hc|hc
   .exact(iV _).mp (h x aJ) c hc
   .exact(iV _).mp hy c hc
  .exact(iV _).mp (GQ hy λu hu=>h u (aM _ hu)) c hc
theorem wO{x y:Str}(hx:kX x)(hy:kX y):kX (x++y):=(iV _).mpr λc hc=>by
 rw[add_list]at hc;rcases aV.mp hc with hc|hc
 .exact(iV _).mp hx c hc
 .exact(iV _).mp hy c hc
theorem wQ(x y:Str):(x++y).length=x.length+y.length:=by show(x.cps++y.cps).size=_;rw[vU];rfl
theorem nU(n:Nat):(gb " " n).length=n:=by show(gb " " n).cps.size=n;rw[<-ck,lg,CL,dN]
theorem Dd(n:Nat):kX (gb " " n):=(iV _).mpr λc hc=>by rw[lg,CL]at hc;let:=(iQ.mp hc).2;omega
theorem yz(n:Nat):10∉(gb " " n).cps.toList:=by rw[lg,CL];intro z;let:=(iQ.mp z).2;omega
section
variable{P:bx}{w:b_}{K:aj}{mg:Str->Option aA}{base:cI}{f:ay}{k:Nat}
abbrev Nsa:!Str:=["_law_text","_law_cell","_law_rows","_law_k","_law_m","_law_at","_law_one","_law_other","_law_apart"]
theorem R8:cw Nsa ["_law_text","_law_cell"] (bG (top 56)):=by grind
def Rsa(ds zs:!ai):Prop:=∃(es:!Ent)(cell:Int),ds=[.str (bM "\n" (es.map jF)),.int cell]/\es≠[]/\es.length<=200/\iO mn es/\zs=((vC es cell 6).map jF).map .str
theorem zcN(F:kE K "_law_sorted_apart" "_law_sorted_apart" (top 56) f fd)(n:Na mg)(C1:bu P w K mg base 1 "_law_mix" ["_law_cell","_law_k"] (gI K Gq)):dZ P w K mg base jL 2 f fd ["_law_text","_law_cell"] (N3 K Rsa):=
 O9 F R8 (by ext) λ_ _ h=>by
  let#[es,cell,rfl,yr,hl,ok,rfl]:=h;intro gu A outer s H E hr;let nd:Nsa.Nodup:=R8.nd;let R9:=vD ok;let htl:(bM "\n" (es.map jF)).length<=34400:=by
   let:=z8 (y:=("\n":Str)) (l:=es.map jF) (b:=171) λx hx=>by let#[e,he,rfl]:=au.mp hx;exact z_ (R9 e he)
   let e1:("\n":Str).length=1:=⋯;rw[e1,ae]at this;omega
  let yk:cv (bM "\n" (es.map jF)) "\n"=es.map jF:=by rw[MT];exact nO ↑yr λx hx=>by let#[e,he,rfl]:=au.mp hx;exact Kh (R9 e he)
  refine aN (mP 2 (ds:=(es.map jF).map .str) (VO.to (jm 0. a_ ∎ (small ∅)) (by rw[yk])) nd) ?_;refine aN (rP (tgt:=.one 3) (o:=.nx [.val (.str (bM "\n" (es.map jF))),.val (.int cell),.own (((vC es cell 6).map jF).map .str),.un,.un,.un,.un,.un,.un]) cA rfl (rN (n:=6) aL n.rng ⋯ ⋯) (hX 3 nd) (λi=>[.val (.str (bM "\n" (es.map jF))),.val (.int cell),.own (((vC es cell i).map jF).map .str),.un,.un,.un,.un,.un,.un]) 6 rfl (aE _) (λi d hi hd=>?_) (.inl #[rfl,rfl])) (bA (HR 2 rfl));obtain rfl:d=.int i:=by
   let:(f9 6)[i]?>>(.int (i:Nat)):=by unfold f9;rw[aH,jS hi];rfl
   exact(b9 (hd.symm.trans this))
  let#[s1,s2,s3]:=Dc (cell:=cell) ok i;let hen:=vD s1;refine#[_,rfl,?_];refine aN (dY 4 (d:=.int (gw cell (200+i))) (bQ C1 hr {1.,fw aL 3.} #[cell,200+(i:Int),rfl,∅,∅,rfl]) nd) ?_;rw[show vC es cell (i+1)=uI (vC es cell i) (gw cell (200+i))from rfl];generalize gw cell (200+(i:Int))=m at *;let hsl:1<=(vC es cell i).length:=by rw[s3];exact rq.mpr λz=>yr (iw.mp z)
  generalize vC es cell i=fs at *;let c0:=cU m (b:=(fs.length:Int)) ∅;let c1:=cL m (b:=(fs.length:Int)) ∅;let Y5:(((fs.map jF).map aO).length:Int)=fs.length:=by rw[ae,ae]
  unfold uI;let hj:((m%(fs.length:Int)).toNat:Int)=m%(fs.length:Int):=jW c0;refine aN (dY 5 (d:=.int (m%(fs.length:Int))) (mQ 2 rfl (VE.to (fH 4. (ie 2. n.len) ∅) (by rw[Y5])) rfl) nd) ?_
  generalize(m%(fs.length:Int)).toNat=j at *
  rw[<-hj];let Gg:j<fs.length:=∅;obtain⟨a,ha⟩:∃a,fs[j]?>>a:=#[fs[j],aD Gg];obtain⟨j2,ZU,zcO⟩:∃j2:Nat,((j2:Nat):Int)=((j:Int)+1)%(fs.length:Int)/\j2<fs.length:=by let d0:=cU ((j:Int)+1) (b:=(fs.length:Int)) ∅;let d1:=cL ((j:Int)+1) (b:=(fs.length:Int)) ∅;exact#[(((j:Int)+1)%(fs.length:Int)).toNat,jW d0,∅]
  obtain⟨b,hb⟩:∃b,fs[j2]?>>b:=#[fs[j2],aD zcO];let rowAt:∀{q:Nat}{e:Ent},fs[q]?>>e->((fs.map jF).map aO)[q]?>>(.str (jF e)):=λ{q e}h=>by rw[aH,aH,h];rfl
  let Y6:∀{e:Ent},e∈fs->(cv (jF e) " ").map aO=(lS e).map .str:=λ{e}he=>by rw[zZ (hen e he)]
  let hd0:∀e:Ent,tF ((lS e).map aO) 0>>(.str e.form):=λe=>df (j:=0) (by rw[aH,NK];rfl);let Y7:∀{e:Ent},e∈fs->(jF e).length+2<=sizeLine:=λ{e}he=>small (by let:=z_ (hen e he);omega);let ain:=aP ha;let bin:=aP hb;refine aN (LJ 6 7 (d1:=.str a.form) (d2:=.str b.form) (mQ 2 rfl (eJ (VE.to (VO.ve (jm (eJ 2. 5. (df (rowAt ha))) a_ ∎ (Y7 ain))) (by rw[Y6 ain])) aL (hd0 a)) rfl) (mQ 2 rfl (eJ (VE.to (VO.ve (jm (eJ 2. (VE.to (k:=.int (j2:Nat)) (fH (fw 5. aL) (ie 2. n.len) ∅) (by rw[Y5,ZU])) (df (rowAt hb))) a_ ∎ (Y7 bin))) (by rw[Y6 bin])) aL (hd0 b)) rfl) rfl nd ⋯) ?_;refine aN (dY 8 (d:=apD) (VO.ve (dO (cY a_ (cY a_ (cY a_ (cY a_ c5)))))) nd) ?_;let la:Lay 20 apD:=#[∎,∎];let#[fa1,fa2]:=E2 a;let#[fb1,fb2]:=E2 b;let e1:(" ":Str).length=1:=⋯;by_cases hc:j+1<fs.length
  .let ej:j2=j+1:=by let:((j:Int)+1)%(fs.length:Int)=(j:Int)+1:=Int.emod_eq_of_lt ∅ ∅;omega
   subst ej;rw[ha,hb];dsimp only;cases Ub:Y4 a b with
   |true=>
    rw[qQ3 rfl];refine jA (bA (dI (VT.to (rL (k1:=true) (k2:=true) (VT.to (u_ (fw 5. aL) (mQ 2 rfl (ie 2. n.len) rfl)) ([Y5]▸qQ1 ∅)) λ_=>VT.to (Lz hr rfl (bj (wO (wO fa1 (by show bX (.str (" ":Str))=true;symm)) fb1)) la (eN (eN 6. a_ (small ∅)) 7. (small (by rw[wQ];omega))) 8.) Ub) rfl) (bA (P4 (j:=j) (j2:=j+1) (d1:=.str (jF b)) (d2:=.str (jF a)) (ds:=(fs.map jF).map .str) 2 rfl rfl ?h1 (by rw[ae,ae];omega) ?h3 (by rw[ae,ae];omega) ?h5)))) #[.inr rfl,.inr rfl,.inr ?h6,.inl rfl,.inl rfl,.inl rfl,.inl rfl,.inl rfl,.inl rfl,trivial]
    case h1=>exact oO 5 rfl
    case h3=>exact VE.to (fw 5. aL) (show eX ((j:Int)+1)=.int ((j+1:Nat):Int) by rw[Int.natCast_add];rfl)
    case h5=>exact ic {mQ 2 rfl (eJ 2. (VE.to (fw 5. aL) (show eX ((j:Int)+1)=.int ((j+1:Nat):Int) by rw[Int.natCast_add];rfl)) (df (j:=j+1) (rowAt hb))) rfl,mQ 2 rfl (eJ 2. 5. (df (rowAt ha))) rfl}
    case h6=>rw[jG,jG,jG,jG]
   |false=>rw[qQ2 ⋯];exact jA (bA (bR (VT.to (rL (k1:=true) (k2:=false) (VT.to (u_ (fw 5. aL) (mQ 2 rfl (ie 2. n.len) rfl)) ([Y5]▸qQ1 ∅)) λ_=>VT.to (Lz hr rfl (bj (wO (wO fa1 (by show bX (.str (" ":Str))=true;symm)) fb1)) la (eN (eN 6. a_ (small ∅)) 7. (small (by rw[wQ];omega))) 8.) Ub) rfl) bC)) #[.inr rfl,.inr rfl,.inr rfl,.inl rfl,.inl rfl,.inl rfl,.inl rfl,.inl rfl,.inl rfl,trivial]
  .let en:fs[j+1]?=none:=fz ∅;rw[ha,en];exact jA (bA (bR (VT.to (rL (k1:=false) (k2:=false) (VT.to (u_ (fw 5. aL) (mQ 2 rfl (ie 2. n.len) rfl)) ([Y5]▸qQ0 ∅)) λz=>by cases z) rfl) bC)) #[.inr rfl,.inr rfl,.inr rfl,.inl rfl,.inl rfl,.inl rfl,.inl rfl,.inl rfl,.inl rfl,trivial]
def xI(e:Ent)(m:Int):Str:=gb " " (m/20%3).toNat++bM (gb " " (1+m/60%3).toNat) (lS e)++gb " " (m/180%3).toNat
def E3(m:Int):!Str:=if m%5=0 then [gb " " (m/5%4).toNat]else []
def sF(es:!Ent)(cell:Int):Nat->!Str
 |0=>[]
 |k+1=>sF es cell k++E3 (gw cell (300+k))++(es[k]?.map λe=>xI e (gw cell (300+k))).toList
def Kj(es:!Ent)(cell:Int):Str:=bM "\n" (sF es cell es.length)
theorem IV{e:Ent}(h:ko e)(m:Int):(bM (gb " " (1+m/60%3).toNat) (lS e)).length<=209:=by let#[h1,h2]:=wN h;let:=z8 (y:=gb " " (1+m/60%3).toNat) λx hx=>(h1 x hx).2.2;rw[nU]at this;let b:(1+m/60%3).toNat<=3:=∅;let:(lS e).length*(8+(1+m/60%3).toNat)<=19*11:=gF h2 ∅;omega
theorem NM{e:Ent}(h:ko e)(m:Int):10∉(xI e m).cps.toList/\(xI e m).length<=213/\kX (xI e m)/\wordsOf (xI e m)=lS e:=by
 let#[h1,h2]:=wN h;let hj:=IV h m;unfold xI;refine#[?_,?_,wO (wO (Dd _) (GQ (Dd _) λx hx=>(h1 x hx).2.1)) (Dd _),?_]
 .exact vz (vz (yz _) (C7 (yz _) λx hx=>(h1 x hx).1.2.2)) (yz _)
 .rw[wQ,wQ,nU,nU];omega
 .let:(1+m/60%3).toNat=(m/60%3).toNat+1:=∅;rw[this];exact Eu _ _ _ λx hx=>#[(h1 x hx).1.1,(h1 x hx).1.2.1]
theorem QJ(m:Int):(∀r∈E3 m,10∉r.cps.toList/\r.length<=213/\kX r)/\(E3 m).length<=1/\((E3 m).map wordsOf).filter (λws=>not ws.isEmpty)=[]:=by
 unfold E3;split
 .refine#[λr hr=>?_,aE _,?_]
  .rw[aF.mp hr];exact#[yz _,by rw[nU];omega,Dd _]
  .rw[fD,Ew];rfl
 .exact#[λr hr=>(by cases hr),aW _,rfl]
theorem yA(hok:∀e∈es,ko e)(cell:Int):∀k,k<=es.length->(∀r∈sF es cell k,10∉r.cps.toList/\r.length<=213/\kX r)/\(sF es cell k).length<=2*k/\((sF es cell k).map wordsOf).filter (λws=>not ws.isEmpty)=(es.take k).map lS
 |0,_=>#[λr hr=>(by cases hr),aE _,rfl]
 |k+1,h=>by
  let#[i1,i2,i3]:=yA hok cell k ∅;let#[b1,b2,b3]:=QJ (gw cell (300+k));let hk:es[k]?>>es[k]:=aD ∅;let#[r1,r2,r3,r4]:=NM (hok es[k] (dM _)) (gw cell (300+k));let e0:sF es cell (k+1)=sF es cell k++E3 (gw cell (300+k)) ++ [xI es[k] (gw cell (300+k))]:=by rw[sF,hk];rfl
  rw[e0];refine#[λr hr=>?_,?_,?_]
  .rcases aV.mp hr with hr|hr
   .rcases aV.mp hr with hr|hr
    .exact i1 r hr
    .exact b1 r hr
   .rw[aF.mp hr];exact#[r1,r2,r3]
  .rw[aX,aX,i_];omega
  .rw[aQ,aQ,vJ,vJ,i3,b3,cn,fD,r4,cB,hk,aQ]
   congr 1
   show List.filter _ [lS es[k]]=[lS es[k]];rw[iy,qQ3 (by rw[Qv];rfl)];rfl
theorem QK(hok:∀e∈es,ko e)(yr:es≠[])(hl:es.length<=200)(cell:Int):xx (Kj es cell)/\(rowsOf (Kj es cell)).map (·.2)=es.map lS:=by
 let#[h1,h2,h3]:=yA hok cell es.length (aE _);let zcP:sF es cell es.length≠[]:=λz=>by rw[z,du]at h3;exact yr (List.map_eq_nil_iff.mp h3.symm)
 unfold Kj;refine#[#[?_,GQ (by show bX (.str ("\n":Str))=true;symm) λx hx=>(h1 x hx).2.2],?_]
 .let:=z8 (y:=("\n":Str)) (b:=213) λx hx=>(h1 x hx).2.1;let e1:("\n":Str).length=1:=⋯;rw[e1]at this;let:(sF es cell es.length).length*(213+1)<=400*214:=gF ∅ ∅;omega
 .rw[J1 zcP λr hr=>(h1 r hr).1,J',h3,du]
abbrev Nlk:!Str:=["_law_rows","_law_cell","_law_told","_law_k","_law_row","_law_m"]
theorem R_:cw Nlk ["_law_rows","_law_cell"] (bG (top 57)):=by grind
def Rlk(ds:!ai)(d:ai):Prop:=∃(es:!Ent)(cell:Int),ds=[kL (es.map jF),.int cell]/\es.length<=200/\(∀e∈es,ko e)/\d=.str (Kj es cell)
theorem zcQ(F:kE K "_law_loose" "_law_loose" (top 57) f fd)(n:Na mg)(C1:bu P w K mg base 1 "_law_mix" ["_law_cell","_law_k"] (gI K Gq)):dZ P w K mg base jL 2 f fd ["_law_rows","_law_cell"] (gI K Rlk):=
 ji F R_ (by ext) λ_ _ h=>by
  let#[es,cell,rfl,hl,hok,rfl]:=h;intro gu A outer s H E hr;let nd:Nlk.Nodup:=R_.nd;let#[q1,q2,q3]:=yA hok cell es.length (aE _);refine aN (mP 2 (ds:=[]) (dO c5) nd) ?_;refine aN (rP (tgt:=.tup [3,4]) (o:=.nx [.val (kL (es.map jF)),.val (.int cell),.own ((sF es cell es.length).map .str),.un,.un,.un]) cA rfl (yp (ds:=(es.map jF).map .str) 0. n.Xe)
   (gU rfl (bY (hX 3 nd) (bY (hX 4 nd) fA))) (λi=>[.val (kL (es.map jF)),.val (.int cell),.own ((sF es cell i).map .str),.un,.un,.un]) es.length rfl ([gN,ae,ae]▸aE _) (λi d hi hd=>?_) (.inl #[by rw[gN,ae,ae],rfl])) ?_
  .let#[x,hx,rfl]:=sP hd;let he:=hok es[i] (dM hi);obtain rfl:x=.str (jF es[i]):=by rw[aH,aH,aD hi]at hx;cases hx;rfl
   let e0:sF es cell (i+1)=sF es cell i++E3 (gw cell (300+i)) ++ [xI es[i] (gw cell (300+i))]:=by rw[sF,aD hi];rfl
   rw[e0];let hli:=(yA hok cell i ∅).2.1;let yk:=zZ he;let UQ:=z_ he;let#[w1,w2]:=wN he;refine#[_,rfl,?_];refine aN (dY 5 (d:=.int (gw cell (300+i))) (bQ C1 hr {1.,fw aL 3.} #[cell,300+(i:Int),rfl,∅,∅,rfl]) nd) ?_;generalize gw cell (300+(i:Int))=z at *;let hj:=IV he z;let zh4:=lq (l:=lS es[i]) (b:=8) λx hx=>(w1 x hx).2.2;let r1:=nU (1+z/60%3).toNat;let c1:(" ":Str).length<=1000:=⋯;let zfU:(lS es[i]).length*(gb " " (1+z/60%3).toNat).length<=19*3:=gF w2 (by rw[r1];omega);let app:∀{δ:!Slot}{gs:!ai},δ[2]?>>(.own gs)->gs.length<=1000->δ[5]?>>(.val (.int z))->δ[4]?>>(.val (.str (jF es[i])))->True:=λ_ _ _ _=>trivial;unfold E3;by_cases h5:z%5=0
   .rw[qQ3 h5,aQ,aQ];refine aN (dI (VT.to (qz hr (fH 5. aL ⋯) aL) (qQ1 h5)) (bA (kj 2 rfl (qc a_ (fH (jZ 5. aL #[⋯,⋯]) aL ⋯) ∅ ∅ c1) (fh (by rw[ae];omega))))) ?_;exact jA (bA (kj 2 rfl (eN (eN (qc a_ (fH (jZ 5. aL #[⋯,⋯]) aL ⋯) ∅ ∅ c1) (lG (zs:=lS es[i]) (qc a_ (fw aL (fH (jZ 5. aL #[⋯,⋯]) aL ⋯)) ∅ ∅ c1) (VE.to (VO.ve (jm 4. a_ rfl (small ∅))) (by rw[yk])) ∅) (small (by rw[nU];omega))) (qc a_ (fH (jZ 5. aL #[⋯,⋯]) aL ⋯) ∅ ∅ c1) (small (by rw[wQ,nU,nU];omega))) (fh (by rw[aX,ae,i_];omega)))) #[.inr rfl,.inr rfl,.inr rfl,.inl rfl,.inl rfl,.inl rfl,trivial]
   .rw[qQ2 h5,cn,aQ];refine aN (bR (VT.to (qz hr (fH 5. aL ⋯) aL) (qQ0 h5)) bC) ?_;exact jA (bA (kj 2 rfl (eN (eN (qc a_ (fH (jZ 5. aL #[⋯,⋯]) aL ⋯) ∅ ∅ c1) (lG (zs:=lS es[i]) (qc a_ (fw aL (fH (jZ 5. aL #[⋯,⋯]) aL ⋯)) ∅ ∅ c1) (VE.to (VO.ve (jm 4. a_ rfl (small ∅))) (by rw[yk])) ∅) (small (by rw[nU];omega))) (qc a_ (fH (jZ 5. aL #[⋯,⋯]) aL ⋯) ∅ ∅ c1) (small (by rw[wQ,nU,nU];omega))) (fh (by rw[ae];omega)))) #[.inr rfl,.inr rfl,.inr rfl,.inl rfl,.inl rfl,.inl rfl,trivial]
  .refine bA (cg (mQ 2 rfl (lG (zs:=sF es cell es.length) a_ 2. ?_) rfl));let:=lq (l:=sF es cell es.length) (b:=213) λx hx=>(q1 x hx).2.1;let e1:("\n":Str).length=1:=⋯;rw[e1];omega
end
def m9(p:Pl):ai:=.list [iM (jB p),kL p.gates,iM (iG p),.list (p.desks.map gO),qd (kM p),iM (lH p),iM (iH p)]
def Sb(p:Pl)(i:Nat):!((Str×Str)×Int):=(p.times.take i).map λq=>((q.1,q.2.1),q.2.2)
def N_(l:!(Str×Int×Int)):!(Str×!ai):=l.foldl (λacc q=>Fm acc q.1 (Mg.pairD q.2)) []
theorem GR(l:!(Str×Int×Int)):N_ l=(dG l).map λq=>(q.1,q.2.map Mg.pairD):=by
 let h1:∀(acc:!(Str×!(Int×Int)))(n:Str)(z:Int×Int),Fm (acc.map λq=>(q.1,q.2.map Mg.pairD)) n (Mg.pairD z)=(nQ acc n z).map λq=>(q.1,q.2.map Mg.pairD):=by
  intro acc n z;induction acc with
  |nil=>rfl
  |cons q acc ih=>
   rw[aq,Fm,nQ];by_cases h:q.1=n
   .rw[qQ3 h,qQ3 h,aq,aQ];rfl
   .rw[qQ2 h,qQ2 h,aq,ih]
 let go:∀(l:!(Str×Int×Int))(acc:!(Str×!(Int×Int))),l.foldl (λacc q=>Fm acc q.1 (Mg.pairD q.2)) (acc.map λq=>(q.1,q.2.map Mg.pairD))=(l.foldl (λacc q=>nQ acc q.1 q.2) acc).map λq=>(q.1,q.2.map Mg.pairD):=by
  intro l;induction l with
  |nil=>intro acc;rfl
  |cons q l ih=>intro acc;rw[fk,fk,h1,ih]
 exact go l []
theorem QL{kl:!(Str×!ai)}{z:Str}(h1:(kl.map (·.1)).Nodup)(h2:kl.length<=n)(h3:∀q∈kl,q.2.length<=n):((Fm kl z d).map (·.1)).Nodup/\(Fm kl z d).length<=n+1/\∀q∈Fm kl z d,q.2.length<=n+1:=by
 by_cases hz:z∈kl.map (·.1)
 .let#[j,ds,hj,e]:=yw (d:=d) hz;rw[e];let Gg:=(av.mp hj);refine#[?_,by rw[fZ];omega,λq hq=>?_]
  .rw[jG];let:(kl.map (·.1)).set j z=kl.map (·.1):=by
    refine hG λm=>?_;by_cases hm:j=m
    .subst hm;rw[aY ([ae]▸Gg.1),aH,hj];rfl
    .rw[aS hm]
   rw[this];exact h1
  .rcases jJ hq with w|rfl
   .let:=h3 q w;omega
   .let:=h3 _ (aP hj);dsimp only at *;rw[aX];show _+1<=_;omega
 .rw[CH hz];refine#[?_,by rw[aX];show _+1<=_;omega,λq hq=>?_]
  .rw[aQ,cJ];exact#[h1,by simp,λa ha b hb=>by rw[aF.mp hb];exact λw=>hz ([<-show a=z from w]▸ha)]
  .rcases aV.mp hq with w|w
   .let:=h3 q w;omega
   .rw[aF.mp w];show 1<=_;omega
theorem yB(l:!(Str×Int×Int)):∀i,((N_ (l.take i)).map (·.1)).Nodup/\(N_ (l.take i)).length<=i/\∀q∈N_ (l.take i),q.2.length<=i
 |0=>#[gD,aE _,λq hq=>by cases hq]
 |i+1=>by
  let#[h1,h2,h3]:=yB l i;cases e:l[i]? with
  |none=>
   let:l.take (i+1)=l.take i:=by rw[cB,e];simp
   rw[this];exact#[h1,∅,λq hq=>by let:=h3 q hq;omega]
  |some x=>let:N_ (l.take (i+1))=Fm (N_ (l.take i)) x.1 (Mg.pairD x.2):=fS _ _ e;rw[this];exact QL h1 h2 h3
theorem IW:HP K (λxs H Q=>∃p ys,xs=[.ref p]/\(jb K H p ys\/nV K H p ys)/\∀l,H l=none->Q (.ref l) (upd H l (.lst ys))) [.list ds] ds:=λvs H0 H Q s r q=>by
 let#[v,rfl,r1]:=r.one;cases r1 with
 |lst h t=>exact#[_,_,rfl,.inl (s.seq h),λl hl=>q l _ _ _ (.loose s hl) hl (s.free hl) aT t]
def Fpc:ai->Option ai
 | .tuple [g,k,a,b]=>some (.tuple [g,.tuple [k,a,b]])
 |_=>none
theorem QM(p:Pl):(p.paces.map rX).filterMap Fpc=(iH p).map L2.pairD:=by unfold iH;rw[cK,aG];exact filterMap_some λq _=>rfl
section
variable{P:bx}{w:b_}{K:aj}{mg:Str->Option aA}{base:cI}{f:ay}{k:Nat}
abbrev Nfi:!Str:=["_law_h","_law_times","_law_desk","_law_kind","_law_work","_law_hours","_law_begin","_law_end","_law_paces"]
theorem Sd:cw Nfi ["_law_h"] (bG (top 53)):=by grind
def Rfi(ds:!ai)(d:ai):Prop:=∃p:Pl,ds=[g0 p]/\j7 p/\nR p/\d=m9 p
theorem Kk(p:Pl):ik (gA p) "paces"=some (.list (p.paces.map rX)):=by unfold gA;rw[bT (show ¬(("kinds":Str)="paces") by symm),bT (show ¬(("gates":Str)="paces") by symm),bT (show ¬(("lines":Str)="paces") by symm),bT (show ¬(("desks":Str)="paces") by symm),bT (show ¬(("times":Str)="paces") by symm),bT (show ¬(("hours":Str)="paces") by symm)];exact dR rfl
theorem zcR(F:kE K "_law_fields" "_law_fields" (top 53) f fd)(n:Na mg)(md:mg "dict"=none):dZ P w K mg base jL 1 f fd ["_law_h"] (gI K Rfi):=
 ji F Sd (by ext) λ_ _ h=>by
  let#[p,rfl,ok,gd,rfl]:=h;intro gu A outer s H E hr;let nd:Nfi.Nodup:=Sd.nd;let nc:(["_law_gate","_law_kind","_law_burst","_law_gap"]:!Str).Nodup:=∎;let htn:=ok.tn;let hhn:=ok.hn;refine pD λB0 B σ H0 Hh D fr N9=>?_;refine bN (UA EM.mono (OF.none fr rfl) 1 (λ_=>rfl) (λa σ1 H1 cW G=>?_) nd);let mT:∀{l},bL (Sep (Dv a l) EM):=Sep.mono Dv.mono EM.mono;refine bN (xn (tgt:=.tup [2,3,4]) (ds:=p.times.map tT) (λi=>Sep (Dv a (Sb p i)) EM) (λ_=>mT) G cA rfl (fj (eV hr 0. a_ (Ep p))) (gU rfl (bY (hX 2 nd) (bY (hX 3 nd) (bY (hX 4 nd) fA)))) (λi d hd=>?_) (λσ2 Ha Hb G2=>?_))
  .let#[x,hx,rfl]:=get_map hd;let IJ:=(av.mp hx);refine#[_,rfl,rfl,λD C0 σ' cQ H' G q=>?_];let es:Sb p (i+1)=Sb p i ++ [((x.1,x.2.1),x.2.2)]:=by unfold Sb;rw[cB,hx,aQ];rfl
   rw[es]at q;refine bW (UB EM.mono G hr 1 rfl 2. 3. 4. (fh (by unfold Sb;rw[ae,cN];omega)) (λz=>?_) λHk Hl G1=>?_)
   .unfold Sb at z;rw[aG]at z;let#[y,hy,e]:=au.mp z;let#[j,hj,rfl]:=oW.mp hy;let:=(qE gd.tn (h₀:=by rw[ae];omega) (h₁:=[ae]▸IJ.1) (i:=j) (j:=i)).mp ([jH,jH,IJ.2]▸e);omega
   .exact q _ _ _ (((G1.un mT 2).un mT 3).un mT 4)
  let e1:Sb p p.times.length=p.times.map λq=>((q.1,q.2.1),q.2.2):=by unfold Sb;rw[du]
  rw[ae,e1]at G2;refine bN (Us mT G2 5 (λ_=>rfl) (λb σ3 H3 wg G3=>?_) nd);let mH:∀{kl l},bL (Sep (DL K b kl) (Sep (Dv a l) EM)):=Sep.mono DL.mono mT;refine bN (xn (tgt:=.tup [2,6,7]) (ds:=p.hours.map oB) (λi=>Sep (DL K b (N_ (p.hours.take i))) (Sep (Dv a (p.times.map λq=>((q.1,q.2.1),q.2.2))) EM)) (λ_=>mH) G3 cA rfl (fj (eV hr 0. a_ (zG p))) (gU rfl (bY (hX 2 nd) (bY (hX 6 nd) (bY (hX 7 nd) fA)))) (λi d hd=>?_) (λσ4 RD RG G4=>?_))
  .let#[x,hx,rfl]:=get_map hd;let IJ:=(av.mp hx).1;refine#[_,rfl,rfl,λD C0 σ' cQ H' G q=>?_];let es:N_ (p.hours.take (i+1))=Fm (N_ (p.hours.take i)) x.1 (Mg.pairD x.2):=fS _ _ hx;let#[i1,i2,i3]:=yB p.hours i;rw[es]at q;refine bW (MC mT G 5 rfl 2. (ic {6.,7.}) i1 (fh ∅) (λq hq=>fh (by let:=i3 q hq;omega)) λHk Hl G1=>?_);exact q _ _ _ (((G1.un mH 2).un mH 6).un mH 7)
  rw[ae,du]at G4;let hpn:((iH p).map (·.1)).Nodup:=by unfold iH;rw[aG];exact gd.pc
  let han:=ok.an;refine bN (Cq mH G4 (dY 8 (d:=iM (iH p)) (zr (VE.to (VO.ve (dX (own:=["_law_gate","_law_kind","_law_burst","_law_gap"]) (cap:=[]) (N:=["_law_gate","_law_kind","_law_burst","_law_gap"]) (cl:=[]) (tgt:=.tup [0,1,2,3]) (F:=Fpc) (ds:=p.paces.map rX) rfl #[rfl,∎,∎,rfl,rfl,by simp] (fj (eV hr 0. a_ (Kk p))) (λf s3 H3=>gU rfl (bY (hX 0 nc) (bY (hX 1 nc) (bY (hX 2 nc) (bY (hX 3 nc) fA))))) rfl (small (by rw[ae];omega)) (λd hd=>?_))) (by rw[QM])) hpn rfl md) nd) rfl λσ5 YJ YK G5=>?_)
  .let#[q,_,rfl]:=au.mp hd;exact Ci rfl rfl λf s3 H3=>ic {0.,ic {1.,2.,3.}}
  let#[Hc,G6]:=G5.Gj mT DL.see 5 rfl;let#[Hd,G7]:=G6.Gj EM.mono Dv.see 1 rfl;let hkn:((jB p).map (·.1)).Nodup:=by unfold jB;rw[aG];exact gd.kn
  let U6:((iG p).map (·.1)).Nodup:=by unfold iG;rw[aG];exact(cJ.mp gd.pn).2.1
  let eh:VG (N_ p.hours)=lH p:=by rw[GR];unfold VG lH;rw[aG];rfl
  let et:((p.times.map λq=>((q.1,q.2.1),q.2.2)).map λq=>(q.1,eX q.2))=kM p:=by unfold kM;rw[aG];rfl
  rw[eh,et]at G7;refine bW (Mp G7 (d:=m9 p) (VO.ve (dO {zr (l:=jB p) (VE.to (eV hr 0. a_ (vm p)) ?_) hkn rfl md,VO.ve (pq pY IW {eV hr 0. a_ (zF p)} n.lst rfl),zr (l:=iG p) (VE.to (eV hr 0. a_ (Eo p)) ?_) U6 rfl md,VO.ve (pq pY IW {eV hr 0. a_ (rY p)} n.lst rfl),1.,5.,8.})) N9)
  .unfold jB;rw[aG];rfl
  .unfold iG;rw[aG];rfl
theorem Y8:cw ["_law_plant"] ["_law_plant"] (bG (top 54)):=by grind
def Rtf(ds:!ai)(d:ai):Prop:=∃p:Pl,ds=[uy p]/\d=m9 p
theorem zcS(F:kE K "_law_told_fields" "_law_told_fields" (top 54) f fd):dZ P w K mg base jL 1 f fd ["_law_plant"] (gI K Rtf):=
 ji F Y8 (by ext) λ_ _ h=>by let#[p,rfl,rfl]:=h;intro gu A outer s H E hr;exact bA (cg (VO.ve (dO {iF 0. (vv p),iF 0. (zN p),iF 0. (vw p),iF 0. (zO p),iF 0. (EF p),iF 0. (M7 p),iF 0. (EG p)})))
end
structure Kq(K:aj):Prop extends Ka K where
 dd:bo K (.type "dict") (.type "dict")>>true
 nd:bo K (.type "NoneType") (.type "dict")>>false
 id_:bo K (.type "int") (.type "dict")>>false
 sd:bo K (.type "str") (.type "dict")>>false
 ld:bo K (.type "list") (.type "dict")>>false
 td:bo K (.type "tuple") (.type "dict")>>false
 nl:bo K (.type "NoneType") (.type "list")>>false
 il:bo K (.type "int") (.type "list")>>false
 sl:bo K (.type "str") (.type "list")>>false
 nt:bo K (.type "NoneType") (.type "tuple")>>false
 it:bo K (.type "int") (.type "tuple")>>false
 st:bo K (.type "str") (.type "tuple")>>false
def sG:Nat->ai->Prop
 |0,x=>zB x
 |n+1,x=>zB x\/(∃xs,(x=.list xs\/x=.tuple xs)/\xs.length<=1000/\∀e∈xs,sG n e)\/(∃kvs:!(Str×ai),x=iM kvs/\kvs.length<=1000/\(kvs.map (·.1)).Nodup/\(∀q∈kvs,kX q.1/\D4 q.2/\sG n q.2))\/∃l:!((Str×Str)×ai),x=qd l/\l.length<=1000/\(l.map (·.1)).Nodup/\∀q∈l,kX q.1.1/\kX q.1.2/\qK q.2=true/\sG n q.2
theorem sH:∀{l:!((Str×Str)×ai)},(l.map (·.1)).Nodup->∀q∈l,ik l q.1>>q.2
 | [],_,q,h=>by cases h
 |w::l,nd,q,h=>by
  rw[aq,cx]at nd;rcases ax.mp h with rfl|h
  .exact dR rfl
  .rw[bT (λe=>nd.1 ([e]▸au.mpr #[q,h,rfl]))];exact sH nd.2 q h
section
variable{P:bx}{w:b_}{K:aj}{mg:Str->Option aA}{base:cI}{f:ay}{k:Nat}
abbrev Kl:!Str:=["_law_found","_law_due"]
theorem Se:cw Kl Kl (bG (top 55)):=by grind
def QN(n:Nat)(ds:!ai)(d:ai):Prop:=∃x,ds=[x,x]/\sG n x/\d=.bool true
theorem Sf(n:Na mg)(md:mg "dict"=none)(kt:Kq K)(h:zB x):rQ P w K mg base Kl "_law_same" (top 55) f k [x,x] (.rt (.bool true)):=by
 intro gu A outer s H E hr;cases x with
 |none=>refine aN (bR (eS (fx (tn:="dict") 1. rfl kt.nd rfl n.um md rfl) rfl) bC) ?_;refine aN (bR (VT.to (gE (eS (fx (tn:="list") 1. rfl kt.nl rfl n.um n.lst rfl) rfl) λ_=>eS (fx (tn:="tuple") 1. rfl kt.nt rfl n.um n.tup rfl) rfl) rfl) bC) ?_;exact dD (dI (VT.to (gX jX nM 1. ia (f7 _)) rfl) (bA (cg (VE.to (uf jX nM 0. ia (f7 _)) rfl)))) rfl
 |int i=>refine aN (bR (eS (fx (tn:="dict") 1. rfl kt.id_ rfl n.um md rfl) rfl) bC) ?_;refine aN (bR (VT.to (gE (eS (fx (tn:="list") 1. rfl kt.il rfl n.um n.lst rfl) rfl) λ_=>eS (fx (tn:="tuple") 1. rfl kt.it rfl n.um n.tup rfl) rfl) rfl) bC) ?_;refine aN (bR (VT.to (gX jX nM 1. ia (f7 _)) rfl) bC) ?_;refine aN (bR (eS (fx (tn:="str") 1. rfl kt.is rfl n.um n.str rfl) rfl) bC) ?_;refine bA (cg (VE.to (jC (fx (tn:="int") 0. rfl kt.ii rfl n.um n.int rfl) (λ_=>jC (vd (fx (tn:="bool") 0. rfl kt.ib rfl n.um n.bool rfl)) (λ_=>gY (nH hr (eu 20 _) (eu 20 _) 0. 1.)))) ?_));rw[oA,qQ1 rfl];rfl
 |str z=>refine aN (bR (eS (fx (tn:="dict") 1. rfl kt.sd rfl n.um md rfl) rfl) bC) ?_;refine aN (bR (VT.to (gE (eS (fx (tn:="list") 1. rfl kt.sl rfl n.um n.lst rfl) rfl) λ_=>eS (fx (tn:="tuple") 1. rfl kt.st rfl n.um n.tup rfl) rfl) rfl) bC) ?_;refine aN (bR (VT.to (gX jX nM 1. ia (f7 _)) rfl) bC) ?_;refine dD (dI (eS (fx (tn:="str") 1. rfl kt.ss rfl n.um n.str rfl) rfl) (bA (cg (VE.to (jC (fx (tn:="str") 0. rfl kt.ss rfl n.um n.str rfl) (λ_=>gY (nH hr (bj h) (bj h) 0. 1.))) ?_)))) rfl;rw[bS,qQ1 rfl];rfl
 |_=>exact h.elim
theorem Y9(n:Np mg w.params K)(md:mg "dict"=none)(kt:Kq K)(C:bu P w K mg base (m+1) "_law_same" Kl (gI K (QN m)))(hx:x=.list xs\/x=.tuple xs)(hl:xs.length<=1000)(ho:∀e∈xs,sG m e):rQ P w K mg base Kl "_law_same" (top 55) f (m+1) [x,x] (.rt (.bool true)):=by
 intro gu A outer s H E hr;let nk:(["_law_one","_law_other"]:!Str).Nodup:=∎;let zl:(tG xs xs).length=xs.length:=by rw[oy,Fu]
 let blk:∀d∈tG xs xs,∃e,d=.tuple [e,e]/\sG m e:=λd hd=>by let#[i,hi]:=lJ.mp hd;let#[y,z,h1,h2,rfl]:=zh hi;rw[h1]at h2;cases h2;exact#[y,rfl,ho y (aP h1)]
 rcases hx with rfl|rfl
 .refine aN (bR (eS (fx (tn:="dict") 1. rfl kt.ld rfl n.um md rfl) rfl) bC) ?_;refine dD (dI (VT.to (gE (k2:=false) (eS (fx (tn:="list") 1. rfl kt.ll rfl n.um n.lst rfl) rfl) λz=>by cases z) rfl) (aN (bR (VT.to (gE (mJ hr (lP 20 _) (lP 20 _) (fx (tn:="list") 0. rfl kt.ll rfl n.um n.lst rfl) (fx (tn:="list") 1. rfl kt.ll rfl n.um n.lst rfl)) (λ_=>mJ hr (lP 20 _) (lP 20 _) (fx (tn:="tuple") 0. rfl kt.lt rfl n.um n.tup rfl) (fx (tn:="tuple") 1. rfl kt.lt rfl n.um n.tup rfl))) rfl) bC) (bA (cg ?_)))) rfl;refine VE.to (jC (nH hr (eu 20 _) (eu 20 _) (ie 0. n.len) (ie 1. n.len)) (λ_=>gY (fX (jl rfl) rS {VO.ve (VO.to (dX (own:=["_law_one","_law_other"]) (cap:=[]) (N:=["_law_one","_law_other"]) (cl:=[]) (tgt:=.tup [0,1]) (F:=Qb) (ds:=tG xs xs) rfl #[rfl,∎,∎,rfl,rfl,by simp] (wt .lst .lst 0. 1. n.zip) (λf s3 H3=>gU rfl (bY (hX 0 nk) (bY (hX 1 nk) fA))) rfl (small (by rw[zl];omega)) (λd hd=>?_)) (oC _))} n.all rfl))) ?_
  .let#[e,rfl,he]:=blk d hd;exact Ci rfl rfl λf s3 H3=>bQ C hr {0.,1.} #[e,rfl,he,rfl]
  .rw[oA,qQ1 rfl,k_];rfl
 .refine aN (bR (eS (fx (tn:="dict") 1. rfl kt.td rfl n.um md rfl) rfl) bC) ?_;refine dD (dI (VT.to (gE (eS (fx (tn:="list") 1. rfl kt.tl rfl n.um n.lst rfl) rfl) λ_=>eS (fx (tn:="tuple") 1. rfl kt.tt rfl n.um n.tup rfl) rfl) rfl) (aN (bR (VT.to (gE (mJ hr (lP 20 _) (lP 20 _) (fx (tn:="list") 0. rfl kt.tl rfl n.um n.lst rfl) (fx (tn:="list") 1. rfl kt.tl rfl n.um n.lst rfl)) (λ_=>mJ hr (lP 20 _) (lP 20 _) (fx (tn:="tuple") 0. rfl kt.tt rfl n.um n.tup rfl) (fx (tn:="tuple") 1. rfl kt.tt rfl n.um n.tup rfl))) rfl) bC) (bA (cg ?_)))) rfl;refine VE.to (jC (nH hr (eu 20 _) (eu 20 _) (lE 0. n.len) (lE 1. n.len)) (λ_=>gY (fX (jl rfl) rS {VO.ve (VO.to (dX (own:=["_law_one","_law_other"]) (cap:=[]) (N:=["_law_one","_law_other"]) (cl:=[]) (tgt:=.tup [0,1]) (F:=Qb) (ds:=tG xs xs) rfl #[rfl,∎,∎,rfl,rfl,by simp] (wt .tup .tup 0. 1. n.zip) (λf s3 H3=>gU rfl (bY (hX 0 nk) (bY (hX 1 nk) fA))) rfl (small (by rw[zl];omega)) (λd hd=>?_)) (oC _))} n.all rfl))) ?_
  .let#[e,rfl,he]:=blk d hd;exact Ci rfl rfl λf s3 H3=>bQ C hr {0.,1.} #[e,rfl,he,rfl]
  .rw[oA,qQ1 rfl,k_];rfl
theorem Y_(n:Np mg w.params K)(md:mg "dict"=none)(kt:Kq K)(C:bu P w K mg base (m+1) "_law_same" Kl (gI K (QN m))){kvs:!(Str×ai)}(hl:kvs.length<=1000)(AA:(kvs.map (·.1)).Nodup)(ho:∀q∈kvs,kX q.1/\D4 q.2/\sG m q.2):rQ P w K mg base Kl "_law_same" (top 55) f (m+1) [iM kvs,iM kvs] (.rt (.bool true)):=by
 intro gu A outer s H E hr;let nk:(["_law_name","_law_found","_law_due"]:!Str).Nodup:=∎;let ly:Lay 20 (.list (kvs.map λq=>aO q.1)):=lF (n:=19) λd hd=>by let#[q,hq,rfl]:=au.mp hd;exact bj (ho q hq).1
 refine dD (dI (eS (zu (tn:="dict") 1. kt.dd rfl n.um md rfl) rfl) (aN (bR (VT.to (gE (uh (eS (zu (tn:="dict") 0. kt.dd rfl n.um md rfl) rfl)) λ_=>mJ hr ly ly (VO.ve (pq (rU rfl) Ij {0.} n.lst rfl)) (VO.ve (pq (rU rfl) Ij {1.} n.lst rfl))) (by rw[SeqAt.eqv_refl _ ly.1];rfl)) bC) (bA (cg ?_)))) rfl;let cap:∀j∈[0,1],j=0\/j=1:=by simp
 refine MH 1 0 (δ1:=[.val (iM kvs),.val (AH kvs)]) (δ2:=[.val (AH kvs),.val (AH kvs)]) rfl rfl (λq hq=>(ho q hq).2.1) rfl rfl rfl (λk sl h=>?_) (λk sl h=>?_) ?_ ?_
 .match k,h with
  |0,h=>cases h;exact .inr (.inr #[rfl,rfl])
  |1,h=>cases h;exact .inr (.inl #[rfl,rfl])
 .match k,h with
  |0,h=>cases h;exact .inr #[.inr rfl,rfl]
  |1,h=>cases h;exact .inr #[.inl rfl,rfl]
 .refine VE.to (fX (jl rfl) rS {VO.ve (VO.to (dX (own:=["_law_name"]) (cap:=[0,1]) (N:=["_law_name","_law_found","_law_due"]) (tgt:=.one 0) (F:=Qb) (ds:=kvs.map λq=>.str q.1) rfl #[rfl,∎,∎,rfl,rfl,?_] (D8 1.) (λf s3 H3=>hX 0 nk) rfl (small (by rw[ae];omega)) (λd hd=>?_)) (oC _))} n.all rfl) (by rw[k_])
  .intro j hj;rcases cap j hj with rfl|rfl
   .exact#[(by show(0:Nat)<2;decide),iL rfl,rfl]
   .exact#[(by show(1:Nat)<2;decide),iL rfl,rfl]
  .let#[q,hq,rfl]:=au.mp hd;exact Ci rfl rfl λf s3 H3=>bQ C hr {eV hr 1. 0. (L2.lN AA q hq),zt hr 2. 0. (L2.lN AA q hq)} #[q.2,rfl,(ho q hq).2.2,rfl]
 .refine VE.to (fX (jl rfl) rS {VO.ve (VO.to (dX (own:=["_law_name"]) (cap:=[0,1]) (N:=["_law_name","_law_found","_law_due"]) (tgt:=.one 0) (F:=Qb) (ds:=kvs.map λq=>.str q.1) rfl #[rfl,∎,∎,rfl,rfl,?_] (D8 1.) (λf s3 H3=>hX 0 nk) rfl (small (by rw[ae];omega)) (λd hd=>?_)) (oC _))} n.all rfl) (by rw[k_])
  .intro j hj;rcases cap j hj with rfl|rfl
   .exact#[(by show(0:Nat)<2;decide),iL rfl,rfl]
   .exact#[(by show(1:Nat)<2;decide),iL rfl,rfl]
  .let#[q,hq,rfl]:=au.mp hd;exact Ci rfl rfl λf s3 H3=>bQ C hr {zt hr 1. 0. (L2.lN AA q hq),zt hr 2. 0. (L2.lN AA q hq)} #[q.2,rfl,(ho q hq).2.2,rfl]
theorem Y'(n:Np mg w.params K)(md:mg "dict"=none)(kt:Kq K)(C:bu P w K mg base (m+1) "_law_same" Kl (gI K (QN m))){l:!((Str×Str)×ai)}(hl:l.length<=1000)(AA:(l.map (·.1)).Nodup)(ho:∀q∈l,kX q.1.1/\kX q.1.2/\qK q.2=true/\sG m q.2):rQ P w K mg base Kl "_law_same" (top 55) f (m+1) [qd l,qd l] (.rt (.bool true)):=by
 intro gu A outer s H E hr;let nk:(["_law_name","_law_found","_law_due"]:!Str).Nodup:=∎;let ly:Lay 20 (.list (l.map KC)):=lF (n:=19) λd hd=>by
  let#[q,hq,rfl]:=au.mp hd;refine sQ (n:=18) λd hd=>?_;rcases ax.mp hd with rfl|hd
  .exact bj (ho q hq).1
  .rw[aF.mp hd];exact bj (ho q hq).2.1
 refine dD (dI (eS (xu (tn:="dict") 1. kt.dd rfl n.um md rfl) rfl) (aN (bR (VT.to (gE (uh (eS (xu (tn:="dict") 0. kt.dd rfl n.um md rfl) rfl)) λ_=>P6 hr ly rfl 0. 1. n.lst) rfl) bC) (bA (cg ?_)))) rfl;let cap:∀j∈[0,1],j=0\/j=1:=by simp
 refine MJ 1 0 (δ1:=[.val (qd l),.val (AJ l)]) (δ2:=[.val (AJ l),.val (AJ l)]) rfl rfl (λq hq=>(ho q hq).2.2.1) rfl rfl rfl (λk sl h=>?_) (λk sl h=>?_) ?_ ?_
 .match k,h with
  |0,h=>cases h;exact .inr (.inr #[rfl,rfl])
  |1,h=>cases h;exact .inr (.inl #[rfl,rfl])
 .match k,h with
  |0,h=>cases h;exact .inr #[.inr rfl,rfl]
  |1,h=>cases h;exact .inr #[.inl rfl,rfl]
 .refine VE.to (fX (jl rfl) rS {VO.ve (VO.to (dX (own:=["_law_name"]) (cap:=[0,1]) (N:=["_law_name","_law_found","_law_due"]) (tgt:=.one 0) (F:=Qb) (ds:=l.map KC) rfl #[rfl,∎,∎,rfl,rfl,?_] (Eh 1.) (λf s3 H3=>hX 0 nk) rfl (small (by rw[ae];omega)) (λd hd=>?_)) (oC _))} n.all rfl) (by rw[k_])
  .intro j hj;rcases cap j hj with rfl|rfl
   .exact#[(by show(0:Nat)<2;decide),iL rfl,rfl]
   .exact#[(by show(1:Nat)<2;decide),iL rfl,rfl]
  .let#[q,hq,rfl]:=au.mp hd;exact Ci rfl rfl λf s3 H3=>bQ C hr {JT (x:=q.1) hr 1. 0. (sH AA q hq),zA (x:=q.1) hr 2. 0. (sH AA q hq)} #[q.2,rfl,(ho q hq).2.2.2,rfl]
 .refine VE.to (fX (jl rfl) rS {VO.ve (VO.to (dX (own:=["_law_name"]) (cap:=[0,1]) (N:=["_law_name","_law_found","_law_due"]) (tgt:=.one 0) (F:=Qb) (ds:=l.map KC) rfl #[rfl,∎,∎,rfl,rfl,?_] (Eh 1.) (λf s3 H3=>hX 0 nk) rfl (small (by rw[ae];omega)) (λd hd=>?_)) (oC _))} n.all rfl) (by rw[k_])
  .intro j hj;rcases cap j hj with rfl|rfl
   .exact#[(by show(0:Nat)<2;decide),iL rfl,rfl]
   .exact#[(by show(1:Nat)<2;decide),iL rfl,rfl]
  .let#[q,hq,rfl]:=au.mp hd;exact Ci rfl rfl λf s3 H3=>bQ C hr {zA (x:=q.1) hr 1. 0. (sH AA q hq),zA (x:=q.1) hr 2. 0. (sH AA q hq)} #[q.2,rfl,(ho q hq).2.2.2,rfl]
theorem Za(F:kE K "_law_same" "_law_same" (top 55) f fd)(n:Np mg w.params K)(md:mg "dict"=none)(kt:Kq K):dZ P w K mg base jL 1 f fd Kl (gI K (QN 0)):=
 ji F Se (by ext) λ_ _ h=>by let#[x,rfl,ho,rfl]:=h;exact Sf n.toNa md kt ho
theorem E4(F:kE K "_law_same" "_law_same" (top 55) f fd)(n:Np mg w.params K)(md:mg "dict"=none)(kt:Kq K)(C:bu P w K mg base (m+1) "_law_same" Kl (gI K (QN m))):dZ P w K mg base jL (m+2) f fd Kl (gI K (QN (m+1))):=
 ji F Se (by ext) λ_ _ h=>by
  let#[x,rfl,ho,rfl]:=h;rcases ho with ho|⟨xs,h1,h2,h3⟩|⟨kvs,rfl,h2,h3,h4⟩|⟨l,rfl,h2,h3,h4⟩
  .exact Sf n.toNa md kt ho
  .exact Y9 n md kt C h1 h2 h3
  .exact Y_ n md kt C h2 h3 h4
  .exact Y' n md kt C h2 h3 h4
end
theorem Zb{k:Nat}(hk:k<Dx p cell):(∃d∈p.desks,(yb p cell k).1=d.name)/\0<=(yb p cell k).2.1/\(yb p cell k).2.1<(yb p cell k).2.2/\(yb p cell k).2.2<=3000:=by
 let hd:p.desks≠[]:=λz=>by unfold Dx at hk;rw[qQ3 z]at hk;omega
 let hl:1<=p.desks.length:=by cases e:p.desks with|nil=>exact qQ7 e hd|cons a l=>rw[bH];omega
 let h1:=(yy (F:=gO) (d:=(#["","",.eldest,[]]:Dk)) hl (gw cell (651+k))).2;refine#[#[_,h1,rfl],?_];show 0<=gw cell (651+k)/9%2000/\gw cell (651+k)/9%2000<gw cell (651+k)/9%2000+1+gw cell (651+k)/20000%90/\gw cell (651+k)/9%2000+1+gw cell (651+k)/20000%90<=3000;generalize gw cell (651+k)=m;omega
theorem Ve(p:Pl)(cell:Int):Dx p cell<=4:=by
 unfold Dx;split
 .omega
 .let:=P9 cell 650;omega
theorem NP{q:Str×Int×Int}(h:q∈(GO p cell).hours):q∈p.hours\/((∃d∈p.desks,q.1=d.name)/\0<=q.2.1/\q.2.1<q.2.2/\q.2.2<=3000):=by
 rcases aV.mp (show q∈p.hours++(cj (Dx p cell)).map (yb p cell)from h)with h|h
 .exact .inl h
 .let#[k,hk,rfl]:=au.mp h;exact .inr (Zb (fN.mp hk))
theorem NQ(p:Pl)(cell:Int):(GO p cell).hours.length<=p.hours.length+4:=by show(p.hours++(cj (Dx p cell)).map (yb p cell)).length<=_;rw[aX,ae,cP];let:=Ve p cell;omega
theorem Zc(ok:j7 p)(hl:p.hours.length<=500)(cell:Int):j7 (GO p cell):=by
 refine#[ok.kn,ok.gn,ok.ln,ok.dn,ok.tn,?_,ok.kinds,ok.gates,ok.lines,ok.desks,ok.times,?_,ok.an,ok.paces]
 .let:=NQ p cell;omega
 .intro q hq;rcases NP hq with h|⟨⟨d,hd,e⟩,h1,h2,h3⟩
  .exact ok.hours q h
  .exact#[[e]▸(ok.desks d hd).1,#[h1,∅],∅,∅]
theorem QO(g:nR p)(cell:Int):nR (GO p cell):=by
 refine#[g.kn,g.pn,g.dn,g.dk,g.dj,g.tn,g.tm,?_,g.kk,g.ll,g.pc,g.pp];intro q hq;rcases NP hq with h|⟨⟨d,hd,e⟩,h1,h2,h3⟩
 .exact g.hr q h
 .exact#[au.mpr #[d,hd,e.symm],h2]
theorem E5(ns:!Int):j7 (jw ns)/\nR (jw ns)/\1<=(jw ns).kinds.length/\(jw ns).kinds.length<=12/\(jw ns).gates.length+(jw ns).lines.length<=12/\(jw ns).desks.length<=8/\(jw ns).times.length<=96/\(jw ns).hours.length<=16:=by unfold jw;split<;>exact NF _ _ _
theorem QP(p:Pl)(cell:Int):(uG p cell).paces.length<=p.gates.length:=bZ (fL _ _) ([cP]▸aE _)
def tU(ns:!Int)(c3 c4:Int):Pl:=GO (uG (jw ns) c3) c4
structure Drawn(p:Pl):Prop where
 ok:j7 p
 good:nR p
 ne:tK p≠[]
 len:(tK p).length<=200
 run:iO mn (tK p)
 fold:(tK p).foldl gQ mn=p
 tx:CT p=bM "\n" ((tK p).map jF)
theorem Km(ns:!Int)(c3 c4:Int):Drawn (tU ns c3 c4):=by
 let#[ok,g,k1,k2,gl,dl,tl,hl]:=E5 ns;let ok1:=EX ok k1 c3;let g1:=GN g k1 c3;let VR:=Zc ok1 (show(jw ns).hours.length<=500 by omega) c4;let g2:=QO g1 c4;let#[r1,r2]:=U3 VR g2;let e1:(tU ns c3 c4).kinds.length=(jw ns).kinds.length:=rfl;let e2:(tU ns c3 c4).gates.length=(jw ns).gates.length:=rfl;let e3:(tU ns c3 c4).lines.length=(jw ns).lines.length:=rfl;let e4:(tU ns c3 c4).desks.length=(jw ns).desks.length:=rfl;let e5:(tU ns c3 c4).times.length=(jw ns).times.length:=rfl;let e6:(tU ns c3 c4).hours.length<=(jw ns).hours.length+4:=NQ (uG (jw ns) c3) c4;let e7:(tU ns c3 c4).paces.length<=(jw ns).gates.length:=QP (jw ns) c3;refine#[VR,g2,λz=>?_,?_,r1,r2,?_]
 .let:=qQ6 dU z;unfold tK at this;simp only[aX,ae,cR]at this;omega
 .unfold tK;simp only[aX,ae];omega
 .unfold CT;rw[GP λd hd z=>by let:=(g2.dk d hd).1.2.2.2.1;rw[z]at this;exact qQ7 this ⋯]
theorem U1.Zd(h:iO mn es):U1 es:=by let#[h1,h2,h3]:=h.es;exact#[h1,h2,h3]
theorem QQ(o:Option Int):D4 (og o):=by cases o with|none=>exact .non|some i=>exact .int i
theorem NS(o:Option Int):sG n (og o):=by cases n<;>cases o<;>first|trivial|exact .inl trivial
theorem sI(i:Int):sG n (.int i):=by cases n<;>first|trivial|exact .inl trivial
theorem wR{x:Str}(h:kX x):sG n (.str x):=by cases n<;>first|exact h|exact .inl h
theorem De(hl:xs.length<=1000)(h:∀e∈xs,sG n e):sG (n+1) (.list xs):=.inr (.inl #[xs,.inl rfl,hl,h])
theorem wU(hl:xs.length<=1000)(h:∀e∈xs,sG n e):sG (n+1) (.tuple xs):=.inr (.inl #[xs,.inr rfl,hl,h])
theorem Ze{r:Rl}(h:oU r n)(hn:n<=6)(w:kX (qW r)):sG 2 (KD r):=by
 refine wU (n:=1) (by cases r<;>exact jg rfl) λe he=>?_;rcases ax.mp he with rfl|he
 .exact wR w
 .cases r with
  |meet=>cases he
  |eldest=>cases he
  |gather m a=>simp only[tJ,ax,a9,or_false]at he;rcases he with rfl|rfl<;>exact sI _
  |many m=>rw[aF.mp he];exact sI _
  |rank b=>rw[aF.mp he];exact NS _
  |turns s=>
   rw[aF.mp he];refine wU (n:=0) ?_ λe he=>by let#[i,_,rfl]:=au.mp he;exact sI _
   rw[ae];let#[h1,_]:=h;omega
theorem NT(z:Int×Int):D4 (pairD z):=.tup λd hd=>by simp only[ax,a9,or_false]at hd;rcases hd with rfl|rfl<;>exact .int _
theorem Kn{acc:!(Str×!(Int×Int))}{n:Str}{z:Int×Int}:∀q∈nQ acc n z,q.1=n\/∃w∈acc,w.1=q.1:=by
 induction acc with
 |nil=>intro q hq;rw[aF.mp (show q∈[(n,[z])]from hq)];exact .inl rfl
 |cons a acc ih=>
  intro q hq;rw[nQ]at hq;by_cases h:a.1=n
  .rw[qQ3 h]at hq;rcases ax.mp hq with rfl|hq
   .exact .inl h
   .exact .inr #[q,aM _ hq,rfl]
  .rw[qQ2 h]at hq;rcases ax.mp hq with rfl|hq
   .exact .inr #[_,aJ,rfl]
   .rcases ih q hq with e|⟨w,hw,e⟩
    .exact .inl e
    .exact .inr #[w,aM _ hw,e]
theorem GU{l:!(Str×Int×Int)}{z:Str×!(Int×Int)}(h:z∈dG l):∃w∈l,w.1=z.1:=by
 let go:∀(l:!(Str×Int×Int))(acc:!(Str×!(Int×Int))),z∈l.foldl (λacc q=>nQ acc q.1 q.2) acc->(∃w∈acc,w.1=z.1)\/∃w∈l,w.1=z.1:=by
  intro l;induction l with
  |nil=>intro acc h;exact .inl #[z,h,rfl]
  |cons q l ih=>
   intro acc h;rcases ih _ h with⟨w,hw,e⟩|⟨w,hw,e⟩
   .rcases Kn w hw with e2|⟨y,hy,e2⟩
    .exact .inr #[q,aJ,by rw[<-e2,e]]
    .exact .inl #[y,hy,by rw[e2,e]]
   .exact .inr #[w,aM _ hw,e]
 rcases go l [] h with⟨w,hw,_⟩|h
 .cases hw
 .exact h
theorem BG(ok:j7 p)(g:nR p):sG 5 (m9 p):=by
 let hk:=ok.kn;let hg:=ok.gn;let hl:=ok.ln;let hd:=ok.dn;let ht:=ok.tn;let hh:=ok.hn;let ha:=ok.an;refine De (n:=4) (jg rfl) λe he=>?_;simp only[ax,a9,or_false]at he;rcases he with rfl|rfl|rfl|rfl|rfl|rfl|rfl
 .refine .inr (.inr (.inl #[_,rfl,by unfold jB;rw[ae];omega,by unfold jB;rw[aG];exact g.kn,λq hq=>?_]));let#[z,hz,rfl]:=au.mp hq;exact#[(ok.kinds z hz).1.ok.2,QQ _,NS _]
 .refine De (n:=3) (by rw[ae];omega) λe he=>?_;let#[z,hz,rfl]:=au.mp he;exact wR (ok.gates z hz).ok.2
 .refine .inr (.inr (.inl #[_,rfl,by unfold iG;rw[ae];omega,by unfold iG;rw[aG];exact(cJ.mp g.pn).2.1,λq hq=>?_]));let#[z,hz,rfl]:=au.mp hq;exact#[(ok.lines z hz).1.ok.2,.int _,sI _]
 .refine De (n:=3) (by rw[ae];omega) λe he=>?_;let#[z,hz,rfl]:=au.mp he;let#[h1,h2,h3,h4]:=(g.dk z hz).1;refine wU (n:=2) (jg rfl) λe he=>?_;simp only[ax,a9,or_false]at he;rcases he with rfl|rfl|rfl|rfl
  .exact wR h1.ok.2
  .refine wR ?_;rcases h2 with h|h
   .rw[h];show bX (.str "")=true;symm
   .exact h.ok.2
  .exact Ze h3 h4.2.1 (uH z.rule).2.1
  .refine wU (n:=1) (by rw[ae];let:=(ok.desks z hz).2.2.2.1;omega) λe he=>?_;let#[y,hy,rfl]:=au.mp he;exact wR ((ok.desks z hz).2.2.2.2 y hy).ok.2
 .refine .inr (.inr (.inr #[_,rfl,by unfold kM;rw[ae];omega,by unfold kM;rw[aG];exact g.tn,λq hq=>?_]));let#[z,hz,rfl]:=au.mp hq;exact#[(ok.times z hz).1.ok.2,(ok.times z hz).2.1.ok.2,rfl,sI _]
 .let hv:=yB p.hours p.hours.length;rw[du,GR]at hv;let#[v1,v2,v3]:=hv;rw[ae]at v2;rw[aG]at v1;refine .inr (.inr (.inl #[_,rfl,by unfold lH;rw[ae];omega,by unfold lH;rw[aG];exact v1,λq hq=>?_]));let#[z,hz,rfl]:=au.mp hq;let hz3:=v3 _ (au.mpr #[z,hz,rfl]);refine#[?_,.lst λe he=>by let#[y,_,rfl]:=au.mp he;exact NT y,De (n:=2) (by rw[show((z.1,z.2.map pairD):Str×!ai).2.length=(z.2.map pairD).length from rfl]at hz3;omega) λe he=>?_]
  .let#[w,hw,e]:=GU hz;show kX z.1;rw[<-e];exact(ok.hours w hw).1.ok.2
  .let#[y,_,rfl]:=au.mp he;refine wU (n:=1) (jg rfl) λe he=>?_;simp only[ax,a9,or_false]at he;rcases he with rfl|rfl<;>exact sI _
 .refine .inr (.inr (.inl #[_,rfl,by unfold iH;rw[ae];omega,by unfold iH;rw[aG];exact g.pc,λq hq=>?_]));let#[z,hz,rfl]:=au.mp hq;refine#[(ok.paces z hz).1.ok.2,.tup λe he=>?_,wU (n:=2) (jg rfl) λe he=>?_]
  .simp only[ax,a9,or_false]at he;rcases he with rfl|rfl|rfl
   .exact .str _
   .exact .int _
   .exact .int _
  .simp only[ax,a9,or_false]at he;rcases he with rfl|rfl|rfl
   .exact wR (ok.paces z hz).2.1.ok.2
   .exact sI _
   .exact sI _
theorem E6{κ:Type}[DecidableEq κ]:∀{kvs:!(κ×V)},(kvs.map (·.1)).Nodup->∀q∈kvs,gW kvs q.1>>q.2
 | [],_,q,h=>by cases h
 |w::l,nd,q,h=>by
  rw[aq,cx]at nd;rcases ax.mp h with rfl|h
  .exact kF rfl
  .rw[h8 (λe=>nd.1 ([e]▸au.mpr #[q,h,rfl]))];exact E6 nd.2 q h
theorem E7(l:!(Str×Int×Int)):((dG l).map (·.1)).Nodup:=by let h:=(yB l l.length).1;rw[du,GR,aG]at h;exact h
theorem GV{h:!(Str×!(Int×Int))}(e:cs.length=h.length):(eT h cs).length=h.length:=by unfold eT;rw[ae,ng,e,Fu]
theorem tw_of{B0 B H0 H:Hp}{σ:L2.St}{δ:!Slot}{a:ay}(ok:j7 p)(G:OF K B0 B (x6 K a p) H0 H σ δ):∃C dx ak ag al ad at_ ah ap cs,yK K C/\(∀f∈Qo,gG K C f)/\cs.length=(dG p.hours).length/\OF K B0 B (TW a C dx (M_ ak ag al ad at_ ah ap) ak ag ad ah cs (.dK (eT (dG p.hours) cs)) 1000) H0 H σ δ:=by
 let#[as,h1,C,dx,ak,ag,al,ad,at_,ah,ap,cs,xd,xp,rfl,nd,W]:=G.ex;refine#[C,dx,ak,ag,al,ad,at_,ah,ap,cs,W.cls,W.qx,W.hl,G.fr,G.no,a::ak::ag::ad::ah::cs,λb hb=>h1 b ?_,rfl,List.Sublist.nodup (.cons₂ _ (.cons₂ _ (.cons₂ _ (.cons _ (.cons₂ _ (.cons _ (.cons₂ _ (.cons _ (mM _))))))))) nd,W.ins,#[_,W.ki],#[_,W.ga,?_],#[_,W.de],W.ho,λc hc=>?_]
 .simp only[ax]at hb ⊢;rcases hb with h|h|h|h|h|h<;>simp[h]
 .rw[ae];let:=ok.gn;omega
 .let#[i,hi]:=lJ.mp hc;let IJ:=(av.mp hi).1;let#[xs,x1,x2]:=W.ce i c _ hi (aD ([<-W.hl]▸IJ));refine#[xs,x1,?_];let h2:=xH p.hours _ (dM (h:=[<-W.hl]▸IJ));let h3:=ok.hn;rw[x2.length,ae];omega
theorem Ko(hl:cs.length=(dG p.hours).length):∀q∈eT (dG p.hours) cs,∃z c,q=((bf z:Key),V.ref c)/\c∈cs/\gW (eT (dG p.hours) cs) (bf z)>>(.ref c):=λq hq=>by
 let nd:((eT (dG p.hours) cs).map (·.1)).Nodup:=by rw[su hl,show((dG p.hours).map λq=>(bf q.1:Key))=((dG p.hours).map (·.1)).map (bf:Str->Key) by rw[aG];rfl];exact my _ (λa b JD z=>JD (j9 z)) (E7 p.hours)
 let hv:=E6 nd q hq;let#[z,hz,rfl]:=au.mp hq;exact#[z.1.1,z.2,rfl,(ku hz).2,hv]
theorem QR:nR mn:=by refine#[?_,?_,?_,?_,?_,?_,?_,?_,?_,?_,?_,?_]<;>simp[mn]
section
variable{P:bx}{w:b_}{K:aj}{mg:Str->Option aA}{base:cI}{f:ay}{k:Nat}
structure LawC(P:bx)(w:b_)(K:aj)(mg:Str->Option aA)(base:cI):Prop where
 ca:bu P w K mg base 1 "_law_cell_at" ["_law_script","_law_k"] (gI K IA)
 an:bu P w K mg base 6 "_law_any_plant" ["_law_script"] (gI K Ran)
 pa:bu P w K mg base 2 "_law_paced" ["_law_h","_law_cell"] (gI K Rpa)
 hm:bu P w K mg base 2 "_law_hours_more" ["_law_h","_law_cell"] (gI K Rhm)
 pt:bu P w K mg base 3 "_law_plant_text" ["_law_h"] (gI K Rpt)
 sa:bu P w K mg base 2 "_law_sorted_apart" ["_law_text","_law_cell"] (N3 K Rsa)
 lk:bu P w K mg base 2 "_law_loose" ["_law_rows","_law_cell"] (gI K Rlk)
 fi:bu P w K mg base 1 "_law_fields" ["_law_h"] (gI K Rfi)
 rp:bu P w K mg base 9 "read_plant" ["text"] (ZO K (Z6 K))
 tf:bu P w K mg base 1 "_law_told_fields" ["_law_plant"] (gI K Rtf)
 sm:bu P w K mg base 6 "_law_same" Kl (gI K (QN 5))
abbrev Vf:!Str:=["_law_script","_law_h","_law_rows","_law_text","_law_due","_law_told","_law_desk"]
theorem NV:cw Vf ["_law_script"] (bG (top 58)):=by grind
def Zf(ds:!ai)(d:ai):Prop:=∃ns:!Int,ds=[MN ns]/\ns.length<=63/\d=.bool true
theorem Zg(C:LawC P w K mg base)(h:Zf ds d):rQ P w K mg base Vf "law" (top 58) f 9 ds (.rt d):=by
 let#[ns,rfl,Lc,rfl]:=h;intro gu A outer s H E hr;let nd:Vf.Nodup:=NV.nd;let pQ:=hr.mono (show 1<=9 by decide);let Dw:=hr.mono (show 2<=9 by decide);let Z7:=hr.mono (show 3<=9 by decide);let Z9:=hr.mono (show 6<=9 by decide);let#[ok,g,k1,_]:=E5 ns;let D:=Km ns (ns.getD 3 0) (ns.getD 4 0);let ok1:=EX ok k1 (ns.getD 3 0);refine aN (dY 1 (d:=g0 (tU ns (ns.getD 3 0) (ns.getD 4 0))) (bQ C.hm Dw {bQ C.pa Dw {bQ C.an Z9 {0.} #[ns,rfl,rfl],bQ C.ca pQ {0.,aL} #[ns,3,rfl,rfl]} #[_,_,rfl,ok,k1,rfl],bQ C.ca pQ {0.,aL} #[ns,4,rfl,rfl]} #[_,_,rfl,ok1,rfl]) nd) ?_;generalize tU ns (ns.getD 3 0) (ns.getD 4 0)=p at *;let#[Zh,gp,ne,len,run,fold,tx]:=D;let#[Vg,Sg,Vh]:=Dc (cell:=ns.getD 4 0) run 6;rw[fold]at Sg;refine aN (dY 2 (d:=kL ((vC (tK p) (ns.getD 4 0) 6).map jF)) (VO.ve (yq C.sa Dw {bQ C.pt Z7 {1.} #[p,rfl,Zh,rfl],bQ C.ca pQ {0.,aL} #[ns,4,rfl,rfl]} #[tK p,ns.getD 4 0,by rw[tx],ne,len,run,rfl])) nd) ?_;let ne2:vC (tK p) (ns.getD 4 0) 6≠[]:=λz=>by rw[z]at Vh;exact ne (iw.mp Vh.symm)
 rw[<-Vh]at len;generalize vC (tK p) (ns.getD 4 0) 6=es at *;let eok:=vD Vg;refine aN (dY 3 (d:=.str (Kj es (ns.getD 5 0))) (bQ C.lk Dw {2.,bQ C.ca pQ {0.,aL} #[ns,5,rfl,rfl]} #[es,_,rfl,len,eok,rfl]) nd) ?_;let#[tok,trw]:=QK eok ne2 len (ns.getD 5 0);generalize Kj es (ns.getD 5 0)=text at *;let hrp:Z6 K [.str text] (Uk λa=>x6 K a p):=#[text,es,rfl,tok,trw,.Zd Vg,by rw[Sg]];let hsm:QN 5 [m9 p,m9 p] (.bool true):=#[_,rfl,BG Zh gp,rfl];refine aN (dY 4 (d:=m9 p) (bQ C.fi pQ {1.} #[p,rfl,Zh,gp,rfl]) nd) ?_;refine aN (bR (VT.to (uh (eS (bQ C.sm Z9 {bQ C.tf pQ {Cy (yu C.rp hr vi {3.} hrp) (λa Ha Hb as sb h=>x6.rep Ha Hb as sb h)} #[p,rfl,rfl],4.} hsm) rfl)) rfl) bC) ?_;refine pD λB0 B σ H0 Hh D fr okk=>?_;refine bN (Ul fr 5 (yu C.rp hr vi {3.} hrp) nd (λ_=>rfl) λa σ1 H1 cW G1=>?_);let#[C',dx,ak,ag,al,ad,at_,ah,ap,cs,cl,na,hl,G2]:=tw_of Zh G1;let hhl:=zS p.hours;let hhn:=Zh.hn;refine bN (tw_clearD G2 cl (na "kinds" (by simp[Qo])) rfl 5 rfl λH2 G3=>?_);refine bN (tw_gapp G3 cl (na "gates" (by simp[Qo])) rfl 5 rfl ⋯ a_ λH3 wg G4=>?_);refine bN (tw_clearL G4 cl (na "desks" (by simp[Qo])) rfl 5 rfl λH4 G5=>?_);refine bN (tw_for (d:=.tuple [.int 0,.int 1]) 5 6 G5 pQ cA rfl cl (na "hours" (by simp[Qo])) rfl rfl ⋯ (hX 6 nd) (Ko hl) (by rw[GV hl];omega) (λz=>oO 6 rfl) (λz=>ic (cY aL (cY aL c5))) (λz=>rfl) (λz=>#[.inr rfl,.inr rfl,.inr rfl,.inr rfl,.inr rfl,.inr rfl,.inl rfl,trivial]) λσ6 H6 H6' fr6=>?_);let v7:=iO.hd Vg;let zcV:Z6 K [.str ""] (Uk λa=>x6 K a mn):=#["",[],rfl,UO ∎ ∎,∎,#[λe he=>(by cases he),λi hi=>([Nat.le_zero.mp hi]▸v7),λi e he=>(by cases he)],rfl];let zcW:QN 5 [m9 mn,m9 mn] (.bool true):=#[_,rfl,BG v7 QR,rfl];refine P8 (aN (bR (VT.to (uh (eS (bQ C.sm Z9 {bQ C.tf pQ {Cy (yu C.rp hr vi {3.} hrp) (λa Ha Hb as sb h=>x6.rep Ha Hb as sb h)} #[p,rfl,rfl],4.} hsm) rfl)) rfl) bC) (bA (cg (d:=.bool true) ?_))) fr6 okk;exact bQ C.sm Z9 {bQ C.tf pQ {Cy (yu C.rp hr vi (cY a_ c5) zcV) (λa Ha Hb as sb h=>x6.rep Ha Hb as sb h)} #[mn,rfl,rfl],VO.ve (dO {yx,VO.ve (dO c5),yx,VO.ve (dO c5),MK,yx,yx})} zcW
end
end Mg
namespace Mg
open L2 PySem PyProof.Rows
variable{g:ay}{K4:Array (Option aA)}{fd:eE}{h:cI}{ps:!Str}{od:Option ay}{K:aj}{st:eO}{oc:aA}
structure dS(K:aj)(mg:Str->Option aA)(g x:Str)(st:eO)(ps:!Str):Prop where
 ex:∃f fd,kE K x x st f fd/\mg g>>(.ref f)/\∀us:!aA,us.length=ps.length->bindArgs fd #[us,[]]=pure (ps.zip us)
theorem GW{mg:Str->Option aA}{g x:Str}{f:ay}{an: Option ay}{kV doc pm gu ct:aA}(X:K.In h)(G:h.Ns mainGlobals mg)
  (hb:∀(kV doc pm:aA)(an:Option ay)(gu ct:aA)(us:!aA),us.length=ps.length->bindArgs (iC x x (pZ st) (lD st) (bG st) .none kV doc pm an gu ct) #[us,[]]=pure (ps.zip us))
  (a:PySem.W.nsIn K mainGlobals g>>(some (.ref f)))(l:K.lookup f>>#[oc,od,.func (iC x x (pZ st) (lD st) (bG st) .none kV doc pm an gu ct),K4])
  (c:nr K gu x=true)(k:hZ K (.ref f)=true):dS K mg g x st ps:=
 #[f,_,Ld l c k,oN X G a,hb kV doc pm an gu ct]
section
variable{P:bx}{w:b_}{K:aj}{mg:Str->Option aA}{base:cI}{f:ay}{k:Nat}
theorem dS.call{g x:Str}{sp:Sp}(D:dS K mg g x st ps)(h:∀f fd,kE K x x st f fd->dZ P w K mg base jL k f fd ps sp):bu P w K mg base k g ps sp:=by let#[f,fd,F,hm,hb]:=D.ex;exact#[f,fd,h f fd F,hm,F.kp,.all hb]
theorem kP{ws:!Str}{its:Array aA}{n:Nat}{sl:Array (Option aA)}(l:K.lookup g>>#[.type "tuple",od,.seq its n,sl])(hs:its.size<=100)(hv:dA (ws.map V.str) its.toList):L6 K g ws:=
 #[_,_,_,l,rfl,rfl,small ∅,hv]
theorem Si{pr:BM}{kvs:!(Str×!Str)}{es:Array fU}{ep:Nat}(nm:(g==sysModules)=false)(nd:(kvs.map (·.1)).Nodup)(l:K.lookup g>>#[.type "dict",none,.dict es ep,#[]])(ge:GE pr K es.toList kvs):GD pr K g kvs:=
 #[nm,nd,_,es,ep,l,#[rfl,rfl,rfl],rfl,ge]
structure QS(K:aj)(mg:Str->Option aA):Prop where
 ex:∃C fi fd,mg "Plant"=some (.ref C)/\yK K C/\(∀f∈Qo,gG K C f)/\Mk K C fi/\kE K "__init__" "Plant.__init__" Bx fi fd/\Binds K fd ["self"] []
theorem Zi{C f:ay}{an: Option ay}{kV doc pm gu ct:aA}(X:K.In h)(G:h.Ns mainGlobals mg)(aC:PySem.W.nsIn K mainGlobals "Plant"=some (some (.ref C)))
  (a1:cZ K (.ref C) "__init__"=some (some (.ref f)))(i1:PySem.W.isFn K (.ref f)=true)(l:K.lookup f>>#[oc,od,.func (iC "__init__" "Plant.__init__" (pZ Bx) (lD Bx) (bG Bx) .none kV doc pm an gu ct),K4])(c:nr K gu "Plant.__init__"=true)(k:hZ K (.ref f)=true)
  (pg:oX K C fE=true)(hd:oh K C=true)(po:uT K C=true)(sa:cZ K (.ref C) "__setattr__"=some (some (.builtin "object.__setattr__")))(mk:xP K C=true)(kc:hZ K (.ref C)=true)
  (z1:cZ K (.ref C) "kinds"=some none)(z2:cZ K (.ref C) "gates"=some none)(z3:cZ K (.ref C) "lines"=some none)(z4:cZ K (.ref C) "desks"=some none)(z5:cZ K (.ref C) "times"=some none)(z6:cZ K (.ref C) "hours"=some none)(z7:cZ K (.ref C) "paces"=some none):QS K mg:=by
 let F:=Ld l c k;refine#[C,f,_,oN X G aC,#[pg,hd,po,sa],λf hf=>?_,#[mk,a1,i1,kc],F,F.binds λ_ _ _ _ _ _ us hl=>match us,hl with | [_],_=>rfl];simp[ax,a9,or_false]at hf;rcases hf with rfl|rfl|rfl|rfl|rfl|rfl|rfl
 .exact z1
 .exact z2
 .exact z3
 .exact z4
 .exact z5
 .exact z6
 .exact z7
theorem QS.pc(T:QS K mg):PlC P w K mg base:=by let#[C,fi,fd,h1,h2,h3,h4,h5,h6]:=T.ex;exact#[C,fi,fd,h1,h2,h3,h4,zcm h5 h2 h3,h6]
structure Defs(K:aj)(mg:Str->Option aA)(pr:BM):Prop where
 n:Np mg pr K
 nw:Nw mg
 kt:Ka K
 pa:QS K mg
 md:mg "dict"=none
 kdd:bo K (.type "dict") (.type "dict")>>true
 knd:bo K (.type "NoneType") (.type "dict")>>false
 kid:bo K (.type "int") (.type "dict")>>false
 ksd:bo K (.type "str") (.type "dict")>>false
 kld:bo K (.type "list") (.type "dict")>>false
 ktd:bo K (.type "tuple") (.type "dict")>>false
 Va:bo K (.type "NoneType") (.type "list")>>false
 kil:bo K (.type "int") (.type "list")>>false
 ksl:bo K (.type "str") (.type "list")>>false
 knt:bo K (.type "NoneType") (.type "tuple")>>false
 kit:bo K (.type "int") (.type "tuple")>>false
 kst:bo K (.type "str") (.type "tuple")>>false
 d0:dS K mg "is_made_of" "is_made_of" (top 10) ["signs","longest","word"]
 d1:dS K mg "is_name" "is_name" (top 11) ["word"]
 d2:dS K mg "is_number" "is_number" (top 12) ["word"]
 d3:dS K mg "words_of" "words_of" (top 13) ["row"]
 d4:dS K mg "rows_of" "rows_of" (top 14) ["text"]
 d5:dS K mg "greatest_load" "greatest_load" (top 4) ["rule","many"]
 d6:dS K mg "read_plant" "read_plant" (top 20) ["text"]
 d7:dS K mg "fits" "fits" (top 21) ["shape","word"]
 d8:dS K mg "value_of" "value_of" (top 22) ["shape","word"]
 d9:dS K mg "values_of" "values_of" (top 23) ["shapes","words"]
 d10:dS K mg "entry_of" "entry_of" (top 24) ["words"]
 d11:dS K mg "desk_entry" "desk_entry" (top 25) ["words"]
 d12:dS K mg "rule_of" "rule_of" (top 26) ["words","many"]
 d13:dS K mg "are_places" "are_places" (top 27) ["names"]
 d14:dS K mg "fault_of" "fault_of" (top 28) ["plant","entry"]
 d15:dS K mg "tells_twice" "tells_twice" (top 29) ["plant","entry"]
 d16:dS K mg "lacks_name" "lacks_name" (top 30) ["plant","entry"]
 d17:dS K mg "lacks_room" "lacks_room" (top 31) ["plant","entry"]
 d18:dS K mg "is_place" "is_place" (top 32) ["plant","name"]
 d19:dS K mg "is_desk" "is_desk" (top 33) ["plant","name"]
 d20:dS K mg "takers_of" "takers_of" (top 34) ["plant","place"]
 d21:dS K mg "add_entry" "add_entry" (top 35) ["plant","entry"]
 d22:dS K mg "_law_cell_at" "_law_cell_at" (top 37) ["_law_script","_law_k"]
 d23:dS K mg "_law_mix" "_law_mix" (top 38) ["_law_cell","_law_k"]
 d24:dS K mg "_law_greatest" "_law_greatest" (top 39) ["_law_rule","_law_many"]
 d25:dS K mg "_law_dash" "_law_dash" (top 40) ["_law_thing"]
 d26:dS K mg "_law_rule_text" "_law_rule_text" (top 41) ["_law_rule"]
 d27:dS K mg "_law_plant_text" "_law_plant_text" (top 42) ["_law_h"]
 d28:dS K mg "_law_pick" "_law_pick" (top 43) ["_law_left","_law_many"]
 d29:dS K mg "_law_spelt" "_law_spelt" (top 44) ["_law_left","_law_told"]
 d30:dS K mg "_law_spelt_all" "_law_spelt_all" (top 45) ["_law_left","_law_many"]
 d31:dS K mg "_law_rule_digits" "_law_rule_digits" (top 46) ["_law_left","_law_many"]
 d32:dS K mg "_law_desks_digits" "_law_desks_digits" (top 47) ["_law_left","_law_places","_law_lines"]
 d33:dS K mg "_law_plant_digits" "_law_plant_digits" (top 48) ["_law_one","_law_two","_law_three"]
 d34:dS K mg "_law_rich" "_law_rich" (top 49) ["_law_cell","_law_k"]
 d35:dS K mg "_law_any_plant" "_law_any_plant" (top 50) ["_law_script"]
 d36:dS K mg "_law_paced" "_law_paced" (top 51) ["_law_h","_law_cell"]
 d37:dS K mg "_law_hours_more" "_law_hours_more" (top 52) ["_law_h","_law_cell"]
 d38:dS K mg "_law_fields" "_law_fields" (top 53) ["_law_h"]
 d39:dS K mg "_law_told_fields" "_law_told_fields" (top 54) ["_law_plant"]
 Sj:dS K mg "_law_same" "_law_same" (top 55) ["_law_found","_law_due"]
 d41:dS K mg "_law_sorted_apart" "_law_sorted_apart" (top 56) ["_law_text","_law_cell"]
 d42:dS K mg "_law_loose" "_law_loose" (top 57) ["_law_rows","_law_cell"]
theorem Defs.all(D:Defs K mg w.params):LawC P w K mg base:=by let n:=D.n;let nw:=D.nw;let pc:=D.pa.pc (P:=P) (w:=w) (base:=base);let vE:=D.d0.call (P:=P) (w:=w) (base:=base) λ_ _ F=>zbP F nw;let wV:=D.d1.call (P:=P) (w:=w) (base:=base) λ_ _ F=>zbQ F nw vE;let xJ:=D.d2.call (P:=P) (w:=w) (base:=base) λ_ _ F=>zbR F nw vE;let GX:=D.d3.call (P:=P) (w:=w) (base:=base) λ_ _ F=>zbS F;let Kr:=D.d4.call (P:=P) (w:=w) (base:=base) λ_ _ F=>zbT F nw GX;let yc:=D.d5.call (P:=P) (w:=w) (base:=base) λ_ _ F=>zci F;let QT:=D.d7.call (P:=P) (w:=w) (base:=base) λ_ _ F=>Yg F n.toNa wV xJ;let Vi:=D.d7.call (P:=P) (w:=w) (base:=base) λ_ _ F=>zb1 F n.toNa wV xJ QT;let GY:=D.d8.call (P:=P) (w:=w) (base:=base) λ_ _ F=>zb2 F n.toNa;let sJ:=D.d9.call (P:=P) (w:=w) (base:=base) λ_ _ F=>zb3 F n.toNa n.zip Vi GY;let Ks:=D.d12.call (P:=P) (w:=w) (base:=base) λ_ _ F=>Yl F n sJ;let Df:=D.d13.call (P:=P) (w:=w) (base:=base) λ_ _ F=>zb6 F n wV;let Dg:=D.d11.call (P:=P) (w:=w) (base:=base) λ_ _ F=>zb8 F n sJ Ks Df;let GZ:=D.d10.call (P:=P) (w:=w) (base:=base) λ_ _ F=>zcc F n sJ Dg;let Aa:=D.d18.call (P:=P) (w:=w) (base:=base) λ_ _ F=>zcf F;let BH:=D.d19.call (P:=P) (w:=w) (base:=base) λ_ _ F=>zcg F;let E8:=D.d20.call (P:=P) (w:=w) (base:=base) λ_ _ F=>zch F;let AO:=D.d15.call (P:=P) (w:=w) (base:=base) λ_ _ F=>zcj F n Aa BH E8;let Dh:=D.d16.call (P:=P) (w:=w) (base:=base) λ_ _ F=>zck F n Aa BH;let Di:=D.d17.call (P:=P) (w:=w) (base:=base) λ_ _ F=>Yz F n yc;let G_:=D.d14.call (P:=P) (w:=w) (base:=base) λ_ _ F=>zcl F AO Dh Di;let E9:=D.d21.call (P:=P) (w:=w) (base:=base) λ_ _ F=>zco F;let Dj:=D.d6.call (P:=P) (w:=w) (base:=base) λ_ _ F=>zcs F n pc Kr GZ G_ E9;let tV:=D.d22.call (P:=P) (w:=w) (base:=base) λ_ _ F=>UH F n.len;let pI:=D.d23.call (P:=P) (w:=w) (base:=base) λ_ _ F=>X' F;let Ab:=D.d24.call (P:=P) (w:=w) (base:=base) λ_ _ F=>zbU F;let Ac:=D.d25.call (P:=P) (w:=w) (base:=base) λ_ _ F=>zbX F n.toNa;let yd:=D.d26.call (P:=P) (w:=w) (base:=base) λ_ _ F=>zbZ F n.toNa Ac;let wW:=D.d27.call (P:=P) (w:=w) (base:=base) λ_ _ F=>zb0 F n.toNa Ac yd;let qD:=D.d28.call (P:=P) (w:=w) (base:=base) λ_ _ F=>U4 F;let E_:=D.d29.call (P:=P) (w:=w) (base:=base) λ_ _ F=>YQ F n.rng qD;let qQ:=D.d30.call (P:=P) (w:=w) (base:=base) λ_ _ F=>YS F n.rng E_;let vF:=D.d31.call (P:=P) (w:=w) (base:=base) λ_ _ F=>zcx F n.rng n.tup qD;let uJ:=D.d32.call (P:=P) (w:=w) (base:=base) λ_ _ F=>zcy F n qD qQ vF;let uK:=D.d33.call (P:=P) (w:=w) (base:=base) λ_ _ F=>zcB F n Ab qD qQ uJ;let Hg:=D.d34.call (P:=P) (w:=w) (base:=base) λ_ _ F=>zcH F n.toNa pI;let ye:=D.d35.call (P:=P) (w:=w) (base:=base) λ_ _ F=>zcI F n.toNa tV Hg uK;let Fb:=D.d36.call (P:=P) (w:=w) (base:=base) λ_ _ F=>zcG F n.toNa D.md pI;let wX:=D.d37.call (P:=P) (w:=w) (base:=base) λ_ _ F=>zcJ F n.toNa D.md pI;let Dl:=D.d38.call (P:=P) (w:=w) (base:=base) λ_ _ F=>zcR F n.toNa D.md;let vG:=D.d39.call (P:=P) (w:=w) (base:=base) λ_ _ F=>zcS F;let kq:Kq K:=#[D.kt,D.kdd,D.knd,D.kid,D.ksd,D.kld,D.ktd,D.Va,D.kil,D.ksl,D.knt,D.kit,D.kst];let Zj:=D.Sj.call (P:=P) (w:=w) (base:=base) λ_ _ F=>Za F n D.md kq;let Zk:=D.Sj.call (P:=P) (w:=w) (base:=base) λ_ _ F=>E4 F n D.md kq Zj;let Zm:=D.Sj.call (P:=P) (w:=w) (base:=base) λ_ _ F=>E4 F n D.md kq Zk;let Zn:=D.Sj.call (P:=P) (w:=w) (base:=base) λ_ _ F=>E4 F n D.md kq Zm;let Zo:=D.Sj.call (P:=P) (w:=w) (base:=base) λ_ _ F=>E4 F n D.md kq Zn;let Hi:=D.Sj.call (P:=P) (w:=w) (base:=base) λ_ _ F=>E4 F n D.md kq Zo;let uL:=D.d41.call (P:=P) (w:=w) (base:=base) λ_ _ F=>zcN F n.toNa pI;let Fc:=D.d42.call (P:=P) (w:=w) (base:=base) λ_ _ F=>zcQ F n.toNa pI;exact#[tV,ye,Fb,wX,wW,uL,Fc,Dl,Dj,vG,Hi]
def NW(K:aj):Sp:=λvs H Q _=>∃(a:ay)(ns:!Int),vs=[.ref a]/\jb K H a (ns.map V.int)/\ns.length<=63/\∀H',Q (.bl true) H'
theorem BI{H:Hp}:∀ns:!Int,bU K H (ns.map V.int) (ns.map eX)
 | []=>.nil
 |n::ns=>.cons (.int n) (BI ns)
theorem QV(F:dZ P w K mg base jL k f fd ps (gI K Zf)):dZ P w K mg base jL k f fd ps (NW K):=F.imp λvs H Q E h=>by let#[a,ns,rfl,hS,hn,q]:=h;exact#[H,_,_,cz.refl _,.cons (.lst hS (BI ns)) .nil,#[ns,rfl,hn,rfl],λv cQ H' g r=>by cases r;exact q H']
theorem Zq(F:kE K "law" "law" (top 58) f fd)(C:LawC P w K mg base):dZ P w K mg base jL 10 f fd ["_law_script"] (NW K):=
 QV (ji F NV (by ext) λ_ _ h=>Zg C h)
end
theorem walk{l:PySem.W.OpenLaw}{q:bx}{loose:!Str}{XP:(Str->Option aA)->cI->Prop}{YP:b_->cI->Prop}{d:DefRec}{K:BM->aj}(hn:l.most>>63)(WL:d.params.defaults=[])(hdn:d.name="law")
  (hY:∀(w:b_)(h:cI),YP w h->(K w.params).In h)
  (F:∀(w:b_)(mg:Str->Option aA)(h:cI),(K w.params).In h->h.Ns mainGlobals mg->Defs (K w.params) mg w.params/\dS (K w.params) mg "law" "law" (top 58) ["_law_script"]):
  PySem.W.WalkO q loose XP YP l.row.toRowW d [] (λf vs=>PySem.call f vs):=
 L2.OJ (n:=63) (k:=10) (x:="_law_script") (CX:=λ_=>jL) (sp:=λw=>NW (K w.params)) hn ⋯ WL #[rfl,⋯,⋯] hY (λw mg fa h X G Kx=>by let#[D,L]:=F w mg h X G;let#[f,fd,Fl,hm,hb]:=L.ex;rw[hdn]at Kx;rw[hm]at Kx;cases Kx;exact#[fd,λs v=>.of_eq (hb [v] rfl),λbase _ _=>Zq Fl D.all]) (λ_ _ a ns hl _ hS=>#[a,ns,rfl,hS,hl,λ_=>rfl]) λ_ _ _ _ _ z=>z
end Mg
namespace PySem.W.Fast
def tw10000096338840578565:=0
def tw10042804852610910478:=0
def tw10121907615940959212:=0
def tw10144552914023779716:=0
def tw10159661252359433605:=0
def tw10261909403632693436:=0
def tw10344230330417706388:=0
def tw10396249576866570909:=0
def tw10415418215335851967:=0
def tw10444916265119960639:=0
def tw10465329446095072150:=0
def tw10505512138317679296:=0
def tw10562236123387636137:=0
def tw10629331023230904891:=0
def tw10681899992937206571:=0
def tw10682002072641639392:=0
def tw1070253582344065500:=0
def tw10752705382590027318:=0
def tw10774486346212615715:=0
def tw10810196220262782733:=0
def tw1086579758438782869:=0
def tw11052327016294675004:=0
def tw11072295486662880886:=0
def tw11161538489515204838:=0
def tw11258230054387185043:=0
def tw1132960580393807375:=0
def tw11417166357496633809:=0
def tw1142307594929694110:=0
def tw11531776626335992568:=0
def tw11640349028864018392:=0
def tw11648157461952006890:=0
def tw1168125191185811085:=0
def tw1171572646274733067:=0
def tw11746480802408380484:=0
def tw11764517166650904439:=0
def tw11812597301566283532:=0
def tw12039294064528704403:=0
def tw1204938743201841300:=0
def tw12075520645270545885:=0
def tw12115765726261348346:=0
def tw12172127450329244798:=0
def tw12318446248612703988:=0
def tw12400330269419068691:=0
def tw12507865895273843984:=0
def tw12552792874830882480:=0
def tw12605723601111582201:=0
def tw12640323898242254741:=0
def tw12728914833531429764:=0
def tw12743868773081143225:=0
def tw12773304965580999703:=0
def tw12876512009602023687:=0
def tw12883187166650291321:=0
def tw12895180463051521230:=0
def tw12901696230573735993:=0
def tw1301714709389225726:=0
def tw13042585282412320339:=0
def tw13046709023186587374:=0
def tw13071789092429457620:=0
def tw13100750573416294929:=0
def tw13141498186637730978:=0
def tw13214270930028686070:=0
def tw13243327581733080166:=0
def tw13255484183938513223:=0
def tw1334891291290550427:=0
def tw13476532465419098236:=0
def tw13487836385362166434:=0
def tw1350448772463157388:=0
def tw13508553068701915863:=0
def tw13569597605175602429:=0
def tw13670578283160104416:=0
def tw13758315779757453181:=0
def tw13762302674108442022:=0
def tw1379743314894920438:=0
def tw13829339760750794379:=0
def tw14161138922762812979:=0
def tw14179414127209981528:=0
def tw14394364081621437179:=0
def tw14450707913369950735:=0
def tw14453586413899127116:=0
def tw14497747877183894609:=0
def tw14566699925391923410:=0
def tw14637975897680086739:=0
def tw146516907408709685:=0
def tw14662268316838895795:=0
def tw1468784199735332022:=0
def tw14740082163847133642:=0
def tw14897611967756946479:=0
def tw14908659920210197896:=0
def tw1491636070062666731:=0
def tw14964707124041984784:=0
def tw15026663241818428359:=0
def tw15183973894631584562:=0
def tw15205832196792706757:=0
def tw15220852784042647052:=0
def tw15221540103168415803:=0
def tw15227912131231119938:=0
def tw15323757945938011758:=0
def tw15327829934374833493:=0
def tw15344486007940217980:=0
def tw15355011162340836262:=0
def tw15359275623034582939:=0
def tw15444534359465928949:=0
def tw15452158524096600586:=0
def tw15457027060292796073:=0
def tw15465320139155620265:=0
def tw15518623052707477933:=0
def tw15529281937990554697:=0
def tw15547621251585333544:=0
def tw15574112086083644679:=0
def tw15581038220493886172:=0
def tw15714098717846151329:=0
def tw15786608815409998678:=0
def tw15897052597649905372:=0
def tw15914935264126422647:=0
def tw15920457015772786883:=0
def tw16022527720260431702:=0
def tw16313552300627778280:=0
def tw16395256228145430205:=0
def tw16402138099366887149:=0
def tw16430307914136537983:=0
def tw16454210612190833051:=0
def tw16462127957087733336:=0
def tw16489315239781181671:=0
def tw16537656990187518037:=0
def tw16556190022641219011:=0
def tw16571731933224373283:=0
def tw16576008762916890077:=0
def tw16582552988053051701:=0
def tw16583924143614805873:=0
def tw16601133119667114899:=0
def tw16689517448102335581:=0
def tw16719960864793995515:=0
def tw16721552478029642366:=0
def tw16851226179835322814:=0
def tw16883298558308280679:=0
def tw16901779457330533800:=0
def tw16998748231732879956:=0
def tw1709043180022826472:=0
def tw17110575297977741668:=0
def tw17140885460109299886:=0
def tw17162732158179507205:=0
def tw17189219864253534380:=0
def tw17280941035782609127:=0
def tw17329183014155472965:=0
def tw17375402298708560122:=0
def tw17382055259977325865:=0
def tw17437108994822197821:=0
def tw1747192347777433701:=0
def tw17665610659824488016:=0
def tw17747759643353071844:=0
def tw17830478678807672627:=0
def tw17834059841080805112:=0
def tw17867905003767628882:=0
def tw17892748444068711396:=0
def tw17930538797631603918:=0
def tw18119045628928415393:=0
def tw18153344956793277637:=0
def tw18283985739944748189:=0
def tw18316225357074638468:=0
def tw18367306802496356483:=0
def tw18436765078989380120:=0
def tw1854279115353140458:=0
def tw1897029745996969540:=0
def tw190161621965647919:=0
def tw1957199720706789413:=0
def tw19956330719730778:=0
def tw2010543002221927730:=0
def tw2103976569966280535:=0
def tw219169120459999946:=0
def tw2192152220698716289:=0
def tw2199692626210348697:=0
def tw2305849438591488979:=0
def tw2323263773770264178:=0
def tw2463330133590463351:=0
def tw2521493209670388576:=0
def tw272128963556132141:=0
def tw2836770329945264735:=0
def tw2882848212921025856:=0
def tw3015105662377569164:=0
def tw3016018974602859539:=0
def tw3031271894890295752:=0
def tw3036445118669110576:=0
def tw3114095742930575223:=0
def tw3153741413959848601:=0
def tw3158297736534403182:=0
def tw3191428241784210824:=0
def tw3220680012288183764:=0
def tw322361303798067987:=0
def tw3260206805131915989:=0
def tw3268361813284907412:=0
def tw3319152198243159036:=0
def tw3336709170550955152:=0
def tw337876137451401125:=0
def tw3426620512095092964:=0
def tw3443781525773771076:=0
def tw3553203363430728222:=0
def tw3567374325253571665:=0
def tw3585925814699203504:=0
def tw364582251410143099:=0
def tw3716500001269580672:=0
def tw3791513588325929761:=0
def tw3815316101065528304:=0
def tw3851068374275872013:=0
def tw3875267936821948110:=0
def tw4143475231847054004:=0
def tw4180797597082803385:=0
def tw4206106677815861022:=0
def tw4228215257774883704:=0
def tw4278842499536513513:=0
def tw4283039785261079285:=0
def tw4329063482114870084:=0
def tw44022103402683690:=0
def tw4415521731716005325:=0
def tw4477175337155482437:=0
def tw4597208741391181015:=0
def tw4599945087414428999:=0
def tw4652482423269795218:=0
def tw4875225083582001170:=0
def tw4875249494766954943:=0
def tw4892526263476827619:=0
def tw4946346567518305026:=0
def tw5069843343511646145:=0
def tw5103188885410207658:=0
def tw5122202886613617222:=0
def tw5186346228368953171:=0
def tw5254118375278120780:=0
def tw5276990333936080864:=0
def tw5302580684310505066:=0
def tw530647580316711641:=0
def tw5422086726931081260:=0
def tw5628136004712266591:=0
def tw5628933592884321571:=0
def tw5639708266045298657:=0
def tw5676318214329754188:=0
def tw5686559304923620566:=0
def tw5735626600581791832:=0
def tw5791756975530813962:=0
def tw5843984553948005549:=0
def tw5905384461751869861:=0
def tw592502666514543282:=0
def tw5952703278059428287:=0
def tw5955787629743693901:=0
def tw6011319309804870083:=0
def tw6015871508227953552:=0
def tw6033590060477111797:=0
def tw6153303682319598031:=0
def tw6285195232633341942:=0
def tw6311763224661281628:=0
def tw6353068577820226022:=0
def tw6401651299360976506:=0
def tw6412242693609697934:=0
def tw6463651747837716563:=0
def tw6503605741163697805:=0
def tw6512734532022402731:=0
def tw6536336986280306908:=0
def tw6551136456416191538:=0
def tw6579579902195733270:=0
def tw6631525956784281236:=0
def tw6641653336812686471:=0
def tw6642702052123726532:=0
def tw67503939453533241:=0
def tw675848644015013009:=0
def tw6837147211869831362:=0
def tw687392291518384113:=0
def tw6923768356390613767:=0
def tw7022871111219898310:=0
def tw7076167889483153925:=0
def tw7149801332219089460:=0
def tw7206492563756940200:=0
def tw72241505174204895:=0
def tw7251546504616938014:=0
def tw7290712556882580428:=0
def tw7312760487226480563:=0
def tw7409711185899539871:=0
def tw7515344449204381033:=0
def tw7628490070503607665:=0
def tw7681288498520331429:=0
def tw76953031625762983:=0
def tw7868652232893588517:=0
def tw7895351967493352576:=0
def tw7897431958945671963:=0
def tw8035231347214470539:=0
def tw8039500141454451951:=0
def tw8039601896611421520:=0
def tw8095553647877883214:=0
def tw8110373224915597731:=0
def tw8129939939933338691:=0
def tw8164511780018674500:=0
def tw8538168160475422393:=0
def tw8582483808498314749:=0
def tw8589309869821345273:=0
def tw862524255410636122:=0
def tw8668348542363154844:=0
def tw8731024233143475010:=0
def tw8738306842657107001:=0
def tw8775072137479519611:=0
def tw884659618508768526:=0
def tw8854973371004146195:=0
def tw8920862165350834747:=0
def tw8926424227334643667:=0
def tw8945031807173472562:=0
def tw89629239521906532:=0
def tw9033569817355161296:=0
def tw9118651010225326119:=0
def tw912337205465549100:=0
def tw9225725213599178522:=0
def tw9286479189723563481:=0
def tw9348290634458698044:=0
def tw9403960885816498535:=0
def tw9431283853690161198:=0
def tw9462175380506133618:=0
def tw947315931297946564:=0
def tw9521150082534695660:=0
def tw9578245422826479307:=0
def tw9590089538997947444:=0
def tw9596151636291084444:=0
def tw9627411840278757796:=0
def tw9694777860959829920:=0
def tw9707617179597931491:=0
def tw9711831054265436325:=0
def tw9831480542472358991:=0
def tw9941723713099689616:=0
def tw9951246431670835973:=0
def tw9974603786828257688:=0
end PySem.W.Fast
end
open PySem PySem.W PyProof.Rows
theorem PySem.Challenge.cw_mergeline_k01_plants_read_holds : PySem.Challenge.rw_mergeline_k01_plants_read.Holds := by
 w_on;o_law;k_head;(case hw=>w_witness2)
 k_fill
 refine Mg.walk (l:=PySem.Challenge.rw_mergeline_k01_plants_read) rfl rfl rfl (λw h Y=>PySem.W.kIn_of Y) ?F
 case F=>
  intro w mg h KX G;refine⟨⟨⟨⟨⟨?n1,?n2,?n3,?n4,?n5,?n6,?n7,?n8,?n9,?n10,?n11,?n12⟩,?n13,?n14⟩,?y1,?y2,?y3,?ymp,?yfo,?yru⟩,⟨?w1,?w2,?w3,?xa,?xb,?xc,?xd⟩,⟨?t0,?t1,?t2,?t3,?t4,?t5,?t6,?t7,?t8,?t9,?t10,?t11⟩,?ypl,?md,?kdd,?knd,?kid,?ksd,?kld,?ktd,?Va,?kil,?ksl,?knt,?kit,?kst,?d0,?d1,?d2,?d3,?d4,?d5,?d6,?d7,?d8,?d9,?d10,?d11,?d12,?d13,?d14,?d15,?d16,?d17,?d18,?d19,?d20,?d21,?d22,?d23,?d24,?d25,?d26,?d27,?d28,?d29,?d30,?d31,?d32,?d33,?d34,?d35,?d36,?d37,?d38,?d39,?Sj,?d41,?d42⟩,?law⟩
  case n1|n2|n3|n4|n5|n6|n7|n8|n9|n10|n11|n12|n13|n14|y1|y2|y3|w1|w2|w3|md=>exact PySem.W.mg_none_of KX G (by k_is)
  case ymp|xa|xb|xc|xd=>exact⟨_,oN KX G (by k_is)⟩
  case yfo=>refine⟨_,oN KX G (by k_is),Mg.Si (by decide) (by symm) (by k_is) (.cons rfl (Mg.kP (by k_is) (by decide) (.cons ⟨_,rfl⟩ (.cons ⟨_,rfl⟩ .nil))) (.cons rfl (Mg.kP (by k_is) (by decide) (.cons ⟨_,rfl⟩ .nil)) (.cons rfl (Mg.kP (by k_is) (by decide) (.cons ⟨_,rfl⟩ (.cons ⟨_,rfl⟩ .nil))) (.cons rfl (Mg.kP (by k_is) (by decide) (.cons ⟨_,rfl⟩ (.cons ⟨_,rfl⟩ (.cons ⟨_,rfl⟩ .nil)))) (.cons rfl (Mg.kP (by k_is) (by decide) (.cons ⟨_,rfl⟩ (.cons ⟨_,rfl⟩ (.cons ⟨_,rfl⟩ .nil)))) (.cons rfl (Mg.kP (by k_is) (by decide) (.cons ⟨_,rfl⟩ (.cons ⟨_,rfl⟩ (.cons ⟨_,rfl⟩ (.cons ⟨_,rfl⟩ .nil))))) .nil))))))⟩
  case yru=>refine⟨_,oN KX G (by k_is),Mg.Si (by decide) (by symm) (by k_is) (.cons rfl (Mg.kP (by k_is) (by decide) .nil) (.cons rfl (Mg.kP (by k_is) (by decide) (.cons ⟨_,rfl⟩ .nil)) (.cons rfl (Mg.kP (by k_is) (by decide) (.cons ⟨_,rfl⟩ .nil)) (.cons rfl (Mg.kP (by k_is) (by decide) (.cons ⟨_,rfl⟩ (.cons ⟨_,rfl⟩ .nil))) (.cons rfl (Mg.kP (by k_is) (by decide) .nil) .nil)))))⟩
  case t0|t1|t2|t3|t4|t5|t6|t7|t8|t9|t10|t11|kdd|knd|kid|ksd|kld|ktd|Va|kil|ksl|knt|kit|kst=>kit_is
  case ypl=>refine' Mg.Zi KX G ?aC ?a1 ?i1 ?l ?c ?k ?pg ?hd ?po ?sa ?mk ?kc ?z1 ?z2 ?z3 ?z4 ?z5 ?z6 ?z7;(case aC|a1|i1|l|c|k|pg|hd|po|sa|mk|kc|z1|z2|z3|z4|z5|z6|z7=>k_is)
  case d1|d2|d3|d4|d6|d10|d11|d13|d25|d26|d27|d35|d38|d39|law=>refine' Mg.GW KX G (λ_ _ _ _ _ _ us hl=>match us,hl with | [_],_=>rfl) ?a ?l ?c ?k;(case a|l|c|k=>k_is)
  case d5|d7|d8|d9|d12|d14|d15|d16|d17|d18|d19|d20|d21|d22|d23|d24|d28|d29|d30|d31|d34|d36|d37|Sj|d41|d42=>refine' Mg.GW KX G (λ_ _ _ _ _ _ us hl=>match us,hl with | [_,_],_=>rfl) ?a ?l ?c ?k;(case a|l|c|k=>k_is)
  case d0|d32|d33=>refine' Mg.GW KX G (λ_ _ _ _ _ _ us hl=>match us,hl with | [_,_,_],_=>rfl) ?a ?l ?c ?k;(case a|l|c|k=>k_is)
