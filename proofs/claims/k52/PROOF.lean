import PyProof.Rows.All
import KE.KFromBytes
import KE.KSortTup
import KE.KIsAll
import PyProof.InstStoreFacts
import PyProof.InstSpecial
import PyProof.FString
import OpenK.KCls
import PyProof.TupleKey
import PyProof.Rows.TupTab
import PyProof.FactsAll.NoneType
import PyProof.DictRoadsH
import PyProof.Rows.TupDisplay
import KE.KDictList
import PyProof.AttrMiss
import KE.KDictOf
import PySem.Challenge.RW_throwruns_k52_whole_who_first
set_option Elab.async false
set_option linter.all false
set_option genSizeOf false
set_option genSizeOfSpec false
set_option genInjectivity false
set_option maxRecDepth 100000
set_option maxHeartbeats 0
def DV.nf{P:Prop}(h:false=true):P:=absurd h Bool.false_ne_true
open List (mem_filter mem_range filterMap_cons mem_cons_self mem_cons_of_mem mem_cons mem_append mem_append_left getElem?_set_self getElem?_set_ne mem_filterMap mem_append_right append_nil nodup_cons of_mem_zip replicate length getElem?_append_right getElem?_append_left getElem?_map mem_of_getElem? length_append length_map size_toArray all_cons any_cons replicate_succ flatten_cons foldl append_assoc foldl_cons map_nil map_cons find?_cons map_append nodup_append mem_singleton mem_map map_map map_congr_left sublist_cons_self eraseIdx_sublist nil_append perm_append_comm sublist_append_right length_cons drop_length perm_middle zip_cons_cons zip_append lookup_cons forIn_cons forIn_nil all_eq_true mem_nil_iff getD_eq_getElem?_getD getElem?_eq_getElem getElem_toArray getElem_mem take_add_one sum_append take_length zipWith length_nil isEmpty_iff set_set range_succ range' sum_cons getElem?_range length_range)
open Nat (lt_of_lt_of_le lt_irrefl ne_of_lt le_trans le_of_lt ne_of_gt le_refl zero_le add_comm mul_comm lt_trans lt_succ_of_lt not_lt le_succ le_add_right zero_add mul_add add_mul pow_succ gcd_pos_of_pos_right gcd_dvd_left gcd_dvd_right mul_pos mul_zero gcd_comm gcd_rec mod_lt div_pos le_of_dvd lt_of_le_of_lt pow_le_pow_left pow_pos div_self mul_le_mul mul_assoc div_le_self add_zero zero_mul pow_add le_add_left)
open PySem.W (clsIn typeIn findIn specialIn takesIn nsIn codeIn keepIn fnOf excIn methodObj hideAll hideAll_get of_hideAll cellsFrom_some kitOne kia_one mg_of)
open PySem.Heap (lt_size get?_push_of_some get?_push_size size_push)
noncomputable section
def qA:=@PySem.Heap.get?_push_of_some
def qB:=@PySem.wpAny_bind
def qC:=@PySem.wpAny_pure
def qD:=@List.mem_cons_of_mem
def qE:=@List.mem_cons_self
def qF:=@Bool.false_ne_true
def qG:=@List.getElem?_eq_some_iff
def qJ:=@Option.some.inj
def qK:=@List.mem_append_right
abbrev qH:=PySem.W.Frag
namespace L2
open PySem
def J3(s:Stmt):Arguments:=match s with
 | .FunctionDef _ a _ _ _ _ _ _ _ _=>a|_=>{posonlyargs:=[],args:=[],vararg:=none,kwonlyargs:=[],kw_defaults:=[],kwarg:=none,defaults:=[]}
def jO(s:Stmt):List Stmt:=match s with
 | .FunctionDef _ _ b _ _ _ _ _ _ _=>b|_=>[]
def zn(s:Stmt):Scope:=match s with
 | .FunctionDef _ _ _ _ _ _ sc _ _ _=>sc|_=>{kind:=.function,names:=[],isGenerator:=false,isCoroutine:=false}
end L2
namespace DV
open PySem L2
abbrev VB:List Value:=[.type "ValueError",.type "Exception",.type "BaseException",.type "object"]
def xIn(K:qH)(c:Str)(C T:Addr):Bool:=(match clsIn K C with|some cd=>cd.name==c&&cd.mro==[.ref C,.ref T,.type "ValueError",.type "Exception",.type "BaseException",.type "object"]|none=>false)
 && typeIn K (.ref C)==some (.type "type")&&findIn K (.ref C) "__getattribute__" == some (some (.builtin "BaseException.__getattribute__"))&&findIn K (.ref C) "__getattr__" == some none
 && findIn K (.ref C) "__class__" == some (some (.builtin "object.__class__"))&&specialIn K (.builtin "object.__class__") "__get__" == some (some (.builtin "getset_descriptor.__get__"))&&takesIn K (.builtin "object.__class__")==some true&&!(C==T)
def tIn(K:qH)(T:Addr):Bool:=(match clsIn K T with|some cd=>cd.mro==(.ref T::VB)|none=>false)&&typeIn K (.ref T)==some (.type "type")
def isFr:Obj->Bool
 |⟨_,_,.freed,_⟩=>true|_=>false
def GT:List Obj->Nat->List Addr->qH
 | [],_,_=>[]|_::_,_,[]=>[]
 |o::os,i,a::as=>match Nat.beq i a with
  |true=>(match isFr o with
   |true=>GT os (i+1) as|false=>(i,o)::GT os (i+1) as)
  |false=>GT os (i+1) (a::as)
def YL(h:Heap)(as:List Addr):qH:=GT h.objs.toList 0 as
def FvT:Type:=Bool×Str×Str×Arguments×FuncBody×Scope×Addr×List (Str×Addr)×Value×Addr
def fvOf(b:Bool)(fd:FuncData):FvT:=(b,fd.name,fd.qualname,fd.params,fd.body,fd.scope,fd.globals,fd.closure,fd.defaults,fd.builtins)
def yL(K:qH)(n:Str):Option FvT:=match nsIn K mainGlobals n with
 |some (some (.ref a))=>(match K.lookup a with
  |some ⟨_,_,.func fd,_⟩=>some (fvOf (codeIn K fd.code n&&keepIn K (.ref a)) fd)|_=>none)
 |_=>none
def yM(n:Str)(st:Stmt):Option FvT:=some (fvOf true (fnOf n n (J3 st) (jO st) (zn st) .none .none .none .none none .none .none))
def YM(K:qH)(n:Str):Option Int:=match nsIn K mainGlobals n with
 |some (some (.int i _))=>some i|_=>none
def zAL(K:qH)(n:Str)(i j:Int):Bool:=match nsIn K mainGlobals n with
 |some (some (.ref a))=>(match K.lookup a with
  |some ⟨.type t,_,.seq its _,_⟩=>t == "tuple"&&(match its.toList with
   | [.int x _,.int y _]=>x==i&&y==j|_=>false)
  |_=>false)
 |_=>false
def zBk(K:qH)(n:Str)(j:Int):Bool:=match nsIn K mainGlobals n with
 |some (some (.ref a))=>(match K.lookup a with
  |some ⟨.type t,_,.seq its _,_⟩=>t == "tuple"&&(match its.toList with
   | [.none,.int y _]=>y==j|_=>false)
  |_=>false)
 |_=>false
def jl(K:qH)(n:Str):Bool:=match nsIn K mainGlobals n with
 |some none=>true|_=>false
def Ji(K:qH)(n:Str):Option Addr:=match nsIn K mainGlobals n with
 |some (some (.ref a))=>some a|_=>none
def zBl(K:qH):Bool:=match K.lookup sysModules with
 |some o=>(match o.data with | .dict _ _=>true|_=>false)
 |none=>false
def zFR(K:qH)(cl rs:List Str):Bool :=
 (cl.isEmpty||(match Ji K "ThrowError" with
  |some T=>tIn K T&&cl.all λc=>(match Ji K c with|some C=>xIn K c C T|none=>false)
  |none=>false)) &&
 (rs.all λc=>(match Ji K c with|some C=>excIn K C VB "ValueError.__new__" |none=>false))&&zBl K
end DV
namespace My
open PySem L2 DV
def top(i:Nat):Stmt:=PySem.Challenge.pw_throwruns_k52_whole_who_first.main.body.getD i (.Pass ⟨0,0,0,0⟩)
abbrev vV:Stmt:=top 8
abbrev wL:Stmt:=top 9
abbrev jw:Stmt:=top 10
abbrev YN:Stmt:=top 11
abbrev ZY:Stmt:=top 12
abbrev vW:Stmt:=top 13
abbrev ZZ:Stmt:=top 14
abbrev Za:Stmt:=top 15
abbrev YO:Stmt:=top 16
abbrev vX:Stmt:=top 17
abbrev YQ:Stmt:=top 18
abbrev WM:Stmt:=top 19
abbrev vY:Stmt:=top 25
abbrev vZ:Stmt:=top 26
abbrev YR:Stmt:=top 27
abbrev WN:Stmt:=top 28
abbrev Jj:Stmt:=top 30
abbrev Jk:Stmt:=top 33
abbrev Zb:Stmt:=top 35
abbrev Zc:Stmt:=top 34
abbrev Zd:Stmt:=top 40
abbrev Ze:Stmt:=top 41
abbrev YS:Stmt:=top 42
abbrev Jl:Stmt:=top 43
abbrev YT:Stmt:=top 45
abbrev YU:Stmt:=top 44
abbrev Zf:Stmt:=top 46
abbrev YV:Stmt:=top 47
abbrev WO:Stmt:=top 48
abbrev Jm:Stmt:=top 50
abbrev WP:Stmt:=top 51
abbrev YW:Stmt:=top 52
abbrev WQ:Stmt:=top 53
abbrev Zg:Stmt:=top 54
abbrev vb:Stmt:=top 55
abbrev YX:Stmt:=top 57
abbrev w6:Stmt:=top 58
abbrev WR:Stmt:=top 59
abbrev s_law:Stmt:=top 60
def cl_:List Str:=[]
def rs_:List Str:=[]
def lkT:Type:=List (Option FvT)×List (Option Int)×List Bool×Bool
def WS(K:qH):lkT:=([yL K "is_whole",yL K "is_whole_within",yL K "greatest_divisor",yL K "whole_power",yL K "share_good",yL K "share_of",yL K "share_plus",yL K "share_less",yL K "share_times",yL K "share_by",yL K "share_power",yL K "share_sum",yL K "die_good",yL K "need_die",yL K "need_number",yL K "need_sign",yL K "share_in_all",yL K "need_awaited",yL K "waits_list",yL K "mean_first",yL K "match_good",yL K "need_match",yL K "stands_list",yL K "stand_behind",yL K "share_paper",yL K "first_share",yL K "paper_good",yL K "mean_throws",yL K "shares_by",yL K "_law_cell_at",yL K "_law_next",yL K "_law_pen_of",yL K "_law_draw",yL K "_law_share",yL K "_law_add",yL K "_law_die_by",yL K "_law_match_by",yL K "_law_upto",yL K "law"],[YM K "LEAST_SIGNS",YM K "LEAST_WEIGHT",YM K "MOST_AWAITED",YM K "MOST_MATCHED",YM K "MOST_PLAYED",YM K "MOST_SIGNS",YM K "MOST_WEIGHT"],[jl K "abs",jl K "all",jl K "bool",jl K "dict",jl K "enumerate",jl K "int",jl K "isinstance",jl K "len",jl K "max",jl K "range",jl K "sum",jl K "tuple",jl K "zip",zAL K "ALL" 1 1,zAL K "NOTHING" 0 1,zBk K "NO_STAND" 0],zFR K cl_ rs_)
def wants:lkT:=([yM "is_whole" vV,yM "is_whole_within" wL,yM "greatest_divisor" jw,yM "whole_power" YN,yM "share_good" ZY,yM "share_of" vW,yM "share_plus" ZZ,yM "share_less" Za,yM "share_times" YO,yM "share_by" vX,yM "share_power" YQ,yM "share_sum" WM,yM "die_good" vY,yM "need_die" vZ,yM "need_number" YR,yM "need_sign" WN,yM "share_in_all" Jj,yM "need_awaited" Jk,yM "waits_list" Zb,yM "mean_first" Zc,yM "match_good" Zd,yM "need_match" Ze,yM "stands_list" YS,yM "stand_behind" Jl,yM "share_paper" YT,yM "first_share" YU,yM "paper_good" Zf,yM "mean_throws" YV,yM "shares_by" WO,yM "_law_cell_at" Jm,yM "_law_next" WP,yM "_law_pen_of" YW,yM "_law_draw" WQ,yM "_law_share" Zg,yM "_law_add" vb,yM "_law_die_by" YX,yM "_law_match_by" w6,yM "_law_upto" WR,yM "law" s_law],[some 2,some 1,some 8,some 6,some 30,some 3,some 9],[true,true,true,true,true,true,true,true,true,true,true,true,true,true,true,true],true)
def q0:Program:=PySem.Challenge.pw_throwruns_k52_whole_who_first
def isLaw:Stmt->Bool
 | .FunctionDef f ..=>f == "law"|_=>false
def q:Program:={q0 with main:={q0.main with body:=q0.main.body.filter isLaw}}
def nameOf:Stmt->List Str
 | .FunctionDef f ..=>[f]| .ClassDef f ..=>[f]| .Assign [.Name x _] _ _=>[x]|_=>[]
def ls:List Str:=(q0.main.body.flatMap nameOf).filter (· != "law")
def as:List Addr:=[1,2,3,15,22,23,24,25,28,35,36,37,40,47,48,49,52,59,60,61,64,65,66,68,69,71,72,73,75,76,78,79,80,82,83,85,86,87,89,90,92,93,94,96,97,99,100,101,103,104,106,107,108,110,111,113,114,115,117,118,120,121,122,124,125,127,128,129,131,132,134,135,136,138,139,141,142,143,145,146,148,149,150,153,154,155,157,158,160,161,162,164,165,167,168,169,171,172,174,175,176,178,179,181,182,183,185,186,188,189,190,192,193,195,196,197,200,201,202,203,206,207,208,210,211,213,214,215,218,219,220,222,223,225,226,227,229,230,232,233,234,237,238,239,242,243,244,246,247,249,250,251,254,255,256,258,259,261,262,263,265,266,268,269,270,272,273,275,276,277,279,280,282,283,284,286,287,289,290,291,293,294,296,297,305,308,309,310,312,313,315,316,317,319,320,322,323,324,326,327,329,330]
end My
section
open PySem PySem.W PyProof.Rows
theorem My.hz:OpenLaw.wellSaid PySem.Challenge.rw_throwruns_k52_whole_who_first=true:=by decide +kernel
theorem My.h2{α β γ:Type}{o:Option α}{f:α->β}{g:α->γ}{b:β}{c:γ}(h1:o.map f=some b)(h2:o.map g=some c):o.map (λs=>(f s,g s))=some (b,c):=by
 cases o with
 |none=>cases h1|some s=>cases h1;cases h2;rfl
theorem My.hu:∀(w:World) (os:OsState),(topFrom treeTable (OpenLaw.row PySem.Challenge.rw_throwruns_k52_whole_who_first).toRowW.prog w 4504 ⟨boot_heap w.params,#[],boot_drawn,boot_toks,os⟩).map (λs=>openSeen My.q My.ls (importedModules (OpenLaw.row PySem.Challenge.rw_throwruns_k52_whole_who_first).toRowW.prog.main.body) (λs=>xlAt My.q [] s&&recOk (RowW.records (OpenLaw.row PySem.Challenge.rw_throwruns_k52_whole_who_first).toRowW) s) true s)=some (openGood My.q My.ls):=by
 intro w os
 kernel_rfl
theorem My.h4{α γ:Type}{o:Option α}{g:α->List γ}{w:List γ}(n:Nat)(ha:o.map (λs=>(g s).take n)=some (w.take n))(hb:o.map (λs=>(g s).drop n)=some (w.drop n)):o.map g=some w:=by
 cases o with
 |none=>cases ha|some s=>exact congrArg some ((List.take_append_drop n (g s)).symm.trans ((congr (congrArg HAppend.hAppend (qJ ha)) (qJ hb)).trans (List.take_append_drop n w)))
theorem My.h5{α γ δ:Type}{o:Option α}{g:α->γ×δ}{w:γ×δ}(ha:o.map (λs=>(g s).1)=some w.1)(hc:o.map (λs=>(g s).2)=some w.2):o.map g=some w:=by
 cases o with
 |none=>cases ha|some s=>exact congrArg some (Prod.ext (qJ ha) (qJ hc))
theorem My.hv0:∀(w:World) (os:OsState),(topFrom treeTable (OpenLaw.row PySem.Challenge.rw_throwruns_k52_whole_who_first).toRowW.prog w 4504 ⟨boot_heap w.params,#[],boot_drawn,boot_toks,os⟩).map (λs=>((My.WS (DV.YL s.heap My.as)).1.take 20))=some (My.wants.1.take 20):=by
 intro w os
 kernel_rfl
theorem My.hv1:∀(w:World) (os:OsState),(topFrom treeTable (OpenLaw.row PySem.Challenge.rw_throwruns_k52_whole_who_first).toRowW.prog w 4504 ⟨boot_heap w.params,#[],boot_drawn,boot_toks,os⟩).map (λs=>((My.WS (DV.YL s.heap My.as)).1.drop 20))=some (My.wants.1.drop 20):=by
 intro w os
 kernel_rfl
theorem My.hvc:∀(w:World) (os:OsState),(topFrom treeTable (OpenLaw.row PySem.Challenge.rw_throwruns_k52_whole_who_first).toRowW.prog w 4504 ⟨boot_heap w.params,#[],boot_drawn,boot_toks,os⟩).map (λs=>(My.WS (DV.YL s.heap My.as)).2)=some My.wants.2:=by
 intro w os
 kernel_rfl
theorem My.hv(w:World)(os:OsState):(topFrom treeTable (OpenLaw.row PySem.Challenge.rw_throwruns_k52_whole_who_first).toRowW.prog w 4504 ⟨boot_heap w.params,#[],boot_drawn,boot_toks,os⟩).map (λs=>My.WS (DV.YL s.heap My.as))=some My.wants:=My.h5 (My.h4 20 (My.hv0 w os) (My.hv1 w os)) (My.hvc w os)
theorem My.ht:∀(w:World) (os:OsState),(topFrom treeTable (OpenLaw.row PySem.Challenge.rw_throwruns_k52_whole_who_first).toRowW.prog w 4504 ⟨boot_heap w.params,#[],boot_drawn,boot_toks,os⟩).map (λs=>(openSeen My.q My.ls (importedModules (OpenLaw.row PySem.Challenge.rw_throwruns_k52_whole_who_first).toRowW.prog.main.body) (λs=>xlAt My.q [] s&&recOk (RowW.records (OpenLaw.row PySem.Challenge.rw_throwruns_k52_whole_who_first).toRowW) s) true s,My.WS (DV.YL s.heap My.as)))=some (openGood My.q My.ls,My.wants):=λw os=>My.h2 (My.hu w os) (My.hv w os)
theorem My.ho:opening (OpenLaw.row PySem.Challenge.rw_throwruns_k52_whole_who_first).toRowW.prog=plainProg (OpenLaw.row PySem.Challenge.rw_throwruns_k52_whole_who_first).toRowW.prog.main.scope.names:=by kernel_rfl
theorem My.hf:∀s,fenceModules? (OpenLaw.row PySem.Challenge.rw_throwruns_k52_whole_who_first).toRowW.prog s=some s:=by
 intro s
 kernel_rfl
theorem My.hl:LeftO (OpenLaw.row PySem.Challenge.rw_throwruns_k52_whole_who_first).toRowW.prog My.q My.ls (λs=>xlAt My.q [] s&&recOk (RowW.records (OpenLaw.row PySem.Challenge.rw_throwruns_k52_whole_who_first).toRowW) s) (λs=>My.WS (DV.YL s.heap My.as)) (λ_=>My.wants) 4504:=by
 intro w;obtain⟨s,hs,hv⟩:=Option.map_eq_some_iff.mp (boot_open My.ho (N:=4504) rfl My.hf w);unfold openEnds;rw[hs];obtain⟨h,g,d,t,os⟩:=s;have h1:h=boot_heap w.params:=congrArg Prod.fst hv;have h2:g=#[]:=congrArg (λx=>x.2.1) hv;have h3:d=boot_drawn:=congrArg (λx=>x.2.2.1) hv;have h4:t=boot_toks:=congrArg (λx=>x.2.2.2) hv;subst h1;subst h2;subst h3;subst h4;exact My.ht w os
end
namespace L2
open PySem PySem.Spec PyProof.Rows
abbrev Key:=Sum Int Str
def keyIs:Key->Value->Bool
 | .inl k,v=>Value.isInt k v| .inr x,v=>Value.isStrOf x v
def keyH(w:World):Key->Int
 | .inl k=>hashInt k| .inr x=>hashStr w x
def yR:∀{k:Key} {v:Value},keyIs k v=true->(∃i t,k=Sum.inl i/\v=Value.int i t)\/(∃x t,k=Sum.inr x/\v=Value.str x t)
 | .inl i,v,h=>by
  obtain⟨t,e⟩:=Value.isInt_shape (k:=i) (v:=v) h;exact .inl ⟨i,t,rfl,e⟩
 | .inr x,v,h=>by
  obtain⟨t,e⟩:=Value.isStrOf_shape (x:=x) (v:=v) h;exact .inr ⟨x,t,rfl,e⟩
def key_ll(a b:Int):decide ((Sum.inl a:Key)=Sum.inl b)=(a==b):=by
 by_cases e:a=b
 ·subst e;simp
 ·have h:¬(Sum.inl a:Key)=Sum.inl b:=λq=>e (Sum.inl.inj q)
  rw[decide_eq_false h];exact(beq_eq_false_iff_ne.mpr e).symm
def key_rr(a b:Str):decide ((Sum.inr a:Key)=Sum.inr b)=decide (a=b):=by
 by_cases e:a=b
 ·subst e;simp
 ·have h:¬(Sum.inr a:Key)=Sum.inr b:=λq=>e (Sum.inr.inj q)
  rw[decide_eq_false h,decide_eq_false e]
def key_lr(a:Int)(b:Str):decide ((Sum.inl a:Key)=Sum.inr b)=false:=decide_eq_false (λq=>nomatch q)
def key_rl(a:Str)(b:Int):decide ((Sum.inr a:Key)=Sum.inl b)=false:=decide_eq_false (λq=>nomatch q)
def zBm(prog:Program)(w:World):PySem.KeyKind prog w Key where
 is:=keyIs
 hash:=keyH w
 inj:=λv a b ha hb=>by
  rcases yR ha with⟨i,t,rfl,rfl⟩|⟨x,t,rfl,rfl⟩
  ·rcases yR hb with⟨j,u,rfl,e⟩|⟨y,u,rfl,e⟩
   ·injection e with e1 _;rw[e1]
   ·exact nomatch e
  ·rcases yR hb with⟨j,u,rfl,e⟩|⟨y,u,rfl,e⟩
   ·exact nomatch e
   ·injection e with e1 _;rw[e1]
 byValue:=λk v h=>by
  rcases yR h with⟨i,t,rfl,rfl⟩|⟨x,t,rfl,rfl⟩<;>rfl
 pyHash:=λhv h=>by
  rcases yR hv with⟨i,t,rfl,rfl⟩|⟨x,t,rfl,rfl⟩
  ·exact wpAny_pyHash_int h
  ·exact wpAny_pyHash_str h
 eqBool:=λhu hv h=>by
  rcases yR hu with⟨i,t,rfl,rfl⟩|⟨x,t,rfl,rfl⟩
  ·rcases yR hv with⟨j,u,rfl,rfl⟩|⟨y,u,rfl,rfl⟩
   ·rw[key_ll]at h;exact wpAny_eqBool_int h
   ·rw[key_lr]at h;exact SeqAt.EqAt.int_str i t y u _ _ _ _ h
  ·rcases yR hv with⟨j,u,rfl,rfl⟩|⟨y,u,rfl,rfl⟩
   ·rw[key_rl]at h;exact SeqAt.EqAt.str_int x t j u _ _ _ _ h
   ·rw[key_rr]at h;exact wpAny_eqBool_str h
 «strs»:=λk x t v h=>by
  rcases yR h with⟨i,u,rfl,e⟩|⟨y,u,rfl,e⟩
  ·exact nomatch e
  ·injection e with e1 _
   subst e1;cases v<;>rfl
set_option genInjectivity true in
inductive V where
 |non|bl (b:Bool)|int (i:Int)|str (x:Str)|byt (b:Array UInt8)|flt (b:UInt64)|ref (a:Addr)|ty (n:String)
 deriving DecidableEq
def yK:V->Value->Prop
 | .non,u=>u=Value.none| .bl b,u=>u=Value.bool b| .int i,u=>∃t,u=Value.int i t| .str x,u=>∃t,u=Value.str x t| .byt b,u=>∃t,u=Value.bytes b t| .flt b,u=>∃t,u=Value.float b t| .ref a,u=>u=Value.ref a| .ty n,u=>u=Value.type n
abbrev ya:List V->List Value->Prop:=Paired yK
theorem ya.length{xs:List V}{us:List Value}(r:ya xs us):xs.length=us.length:=Paired.length r
theorem ya.get:∀{xs:List V} {us:List Value} {i:Nat} {x:V},ya xs us->xs[i]?=some x->∃u,us[i]?=some u/\yK x u
 |_,_,_,_,.nil,e=>by simp at e|_,_,0,_,.cons r _,e=>by simp at e;subst e;exact⟨_,rfl,r⟩
 |_,_,i+1,x,.cons _ t,e=>by
  obtain⟨u,h1,h2⟩:=ya.get (i:=i) (x:=x) t (by simpa using e);exact⟨u,by simpa using h1,h2⟩
theorem ya.set{x:V}{u:Value}(r:yK x u):∀{xs:List V} {us:List Value} (i:Nat),ya xs us->ya (xs.set i x) (us.set i u)
 |_,_,_,.nil=>.nil|_,_,0,.cons _ t=>.cons r t|_,_,i+1,.cons q t=>.cons q (ya.set r i t)
theorem ya.append:∀{xs ys:List V} {us ws:List Value},ya xs us->ya ys ws->ya (xs++ys) (us++ws)
 |_,_,_,_,.nil,s=>s|_,_,_,_,.cons r t,s=>.cons r (ya.append t s)
theorem ya.take:∀{xs:List V} {us:List Value} (n:Nat),ya xs us->ya (xs.take n) (us.take n)
 |_,_,0,_=>.nil|_,_,_+1,.nil=>.nil|_,_,n+1,.cons r t=>.cons r (ya.take n t)
theorem ya.drop:∀{xs:List V} {us:List Value} (n:Nat),ya xs us->ya (xs.drop n) (us.drop n)
 |_,_,0,r=>r|_,_,_+1,.nil=>.nil|_,_,n+1,.cons _ t=>ya.drop n t
def RelO:Option V->Option Value->Prop
 |some v,some u=>yK v u|none,none=>True|_,_=>False
def KV{κ:Type}:List (κ×V)->List (κ×Value)->Prop:=Paired λ(p:κ×V) (q:κ×Value)=>p.1=q.1/\yK p.2 q.2
def kV:Key->V
 | .inl i=>.int i| .inr x=>.str x
inductive HO where
 /-- a list -/
 |l (xs:List V)
 /-- a tuple (never changes) -/
 |t (xs:List V)
 /-- a dict whose keys are ints and texts; one whose keys are tuples of ints and texts (the empty one is both) -/
 |dK (kvs:List (Key×V))|dT (kvs:List (List Key×V))
 /-- a set of ints: its members,its size -/
 |set (S:Int->Bool) (n:Nat)
 /-- an instance of the class at C,its dict at dx,its attributes -/
 |ins (C dx:Addr) (fs:List (Str×V))
 /-- the dict of the instance at x -/
 |own (x:Addr)
 /-- the dict of an exception -/
 |xd (fs:List (Str×V))
 /-- a bound method,f of x -/
 |met (f x:Addr)
 /-- a range object lo,lo+1,.. below hi -/
 |rng (lo hi:Int)
 /-- a thing that is known to the object (the script; a dict while a loop walks it): read,never written while it is so -/
 |frz (o:Obj) (u:HO)
 /-- a code object's table -/
 |tbl (ps:Array Value)
 /-- any other thing,by what is true of its one object (a def of one's own: SetO a S n:=HO.ext fun h=>..) -/
 |ext (φ:Heap->Prop)
 |dN (φ:Heap->Prop)
abbrev Hp:=Addr->Option HO
def upd(H:Hp)(a:Addr)(o:HO):Hp:=λb=>if b=a then some o else H b
def jF{H:Hp}{a:Addr}{o:HO}:upd H a o a=some o:=by unfold upd;rw[if_pos rfl]
def zp{H:Hp}{a b:Addr}{o:HO}(h:b≠a):upd H a o b=H b:=by unfold upd;rw[if_neg h]
def wM{H:Hp}{a b:Addr}{o:HO}(h:H a=some o)(h':H b=none):a≠b:=by
 intro e;subst e;rw[h]at h';cases h'
section
variable(P:Program)(w:World)
def j9(H:Hp)(h:Heap)(a:Addr):HO->Prop
 | .l xs=>xs.length<=sizeLine/\∃(its:List Value) (n:Nat),ya xs its/\h.get? a=some {cls:=.type "list",data:=.seq its.toArray n}| .t xs=>xs.length<=sizeLine/\∃its:List Value,ya xs its/\IsTup h a its.toArray| .dK kvs=>kvs.length<=sizeLine/\(a==sysModules)=false/\∃vs,KV kvs vs/\h.DictOf (zBm P w) a vs
 | .dT kvs=>kvs.length<=sizeLine/\(a==sysModules)=false/\∃xs:List (List Key×Addr×Value),
   Paired (λ(p:List Key×V) (q:List Key×Addr×Value)=>p.1=q.1/\H q.2.1=some (.t (p.1.map kV))/\yK p.2 q.2.2) kvs xs /\
   ∃o es ep,h.get? a=some o/\o.ExactDict/\o.data=.dict es ep/\es.toList=xs.map (entryOfKey (tupleKind (zBm P w)))/\(xs.map (·.1)).Nodup
 | .set S n=>h.SetOf (intKind P w) a S n
 | .ins C dx fs=>H dx=some (.own a)/\fs.length<=1000/\dx≠a/\h.get? a=some (PySem.W.instObj C dx) /\
   ∃mA,h.Ns1 dx mA/\(∀f,RelO (fs.lookup f) (mA f))/\PySem.Within mA (fs.map (·.1))
 | .own _=>∃o,h.get? a=some o| .xd fs=>∃mA,h.Ns1 a mA/\∀f,RelO (fs.lookup f) (mA f)| .rng lo hi=>∃t u v,h.get? a=some {cls:=.type "range",data:=.fields #[.int lo t,.int hi u,.int 1 v]}| .frz o u=>h.get? a=some o/\j9 H h a u| .tbl ps=>h.get? a=some {cls:=.none,data:=.fields ps}| .met f x=>h.get? a=some (methodObj (.ref f) (.ref x))| .ext φ=>φ h/\(∃o,h.get? a=some o)/\∀h1 h2:Heap,φ h1->(∀o,h1.get? a=some o->h2.get? a=some o)->φ h2| .dN φ=>φ h/\(∃o,h.get? a=some o)/\∀h1 h2:Heap,φ h1->(∀o,h1.get? a=some o->h2.get? a=some o)->φ h2
def HOk(H:Hp)(h:Heap):Prop:=∀a o,H a=some o->j9 P w H h a o
end
section
variable{P:Program}{w:World}{H H':Hp}{h h':Heap}{a:Addr}{o:HO}
theorem j9.lt(x:j9 P w H h a o):a<h.objs.size:=by
 cases o with
 |l xs=>obtain⟨_,_,_,_,e⟩:=x;exact lt_size e|t xs=>obtain⟨_,_,_,p⟩:=x;exact p.lt|dK kvs=>obtain⟨_,_,_,_,o,_,_,e,_⟩:=x;exact lt_size e|dT kvs=>obtain⟨_,_,_,_,o,_,_,e,_⟩:=x;exact lt_size e|set S n=>obtain⟨o,_,_,_,e,_⟩:=x;exact lt_size e|ins C dx fs=>obtain⟨_,_,_,e,_⟩:=x;exact lt_size e|own y=>obtain⟨_,e⟩:=x;exact lt_size e|xd fs=>obtain⟨_,⟨_,_,_,e,_⟩,_⟩:=x;exact lt_size e|rng lo hi=>obtain⟨_,_,_,e⟩:=x;exact lt_size e|frz ob u=>obtain⟨e,_⟩:=x;exact lt_size e|tbl ps=>exact lt_size (show h.get? a=some _ from x)|met f y=>exact lt_size (show h.get? a=some _ from x)|ext φ=>obtain⟨_,⟨_,e⟩,_⟩:=x;exact lt_size e|dN φ=>obtain⟨_,⟨_,e⟩,_⟩:=x;exact lt_size e
theorem Paired.mapP{α β:Type}{F G:α->β->Prop}:∀{l₁:List α} {l₂:List β},Paired F l₁ l₂->(∀a b,F a b->G a b)->Paired G l₁ l₂
 |_,_,.nil,_=>.nil|_,_,.cons r t,f=>.cons (f _ _ r) (Paired.mapP t f)
def j9.stay(x:j9 P w H h a o)(k:∀b u,(b=a\/H b=some (.own a))->h.get? b=some u->h'.get? b=some u)
  (ho:∀b,H b=some (.own a)->H' b=some (.own a)) (ht:∀b xs,H b=some (.t xs)->H' b=some (.t xs)):j9 P w H' h' a o:=by
 induction o with
 |l xs=>obtain⟨z,its,n,r,e⟩:=x;exact⟨z,its,n,r,k _ _ (.inl rfl) e⟩|t xs=>obtain⟨z,its,r,ob,e,c⟩:=x;exact⟨z,its,r,ob,k _ _ (.inl rfl) e,c⟩|dK kvs=>obtain⟨z,y,vs,r,ob,es,ep,e,c⟩:=x;exact⟨z,y,vs,r,ob,es,ep,k _ _ (.inl rfl) e,c⟩
 |dT kvs =>
  obtain⟨z,y,xs,r,ob,es,ep,e,c⟩:=x;exact⟨z,y,xs,Paired.mapP r λp q z=>⟨z.1,ht _ _ z.2.1,z.2.2⟩,ob,es,ep,k _ _ (.inl rfl) e,c⟩
 |set S n=>obtain⟨ob,es,ep,t,e,c⟩:=x;exact⟨ob,es,ep,t,k _ _ (.inl rfl) e,c⟩
 |ins C dx fs =>
  obtain⟨d,z,ne,e,mA,⟨od,es,ep,e2,c⟩,r⟩:=x;exact⟨ho _ d,z,ne,k _ _ (.inl rfl) e,mA,⟨od,es,ep,k _ _ (.inr d) e2,c⟩,r⟩
 |own y=>obtain⟨ob,e⟩:=x;exact⟨ob,k _ _ (.inl rfl) e⟩|xd fs=>obtain⟨mA,⟨od,es,ep,e,c⟩,r⟩:=x;exact⟨mA,⟨od,es,ep,k _ _ (.inl rfl) e,c⟩,r⟩|rng lo hi=>obtain⟨t,u,v,e⟩:=x;exact⟨t,u,v,k _ _ (.inl rfl) e⟩|frz ob u ih=>obtain⟨e,q⟩:=x;exact⟨k _ _ (.inl rfl) e,ih q⟩
 |tbl ps =>
  have e:h.get? a=some {cls:=.none,data:=.fields ps}:=x;show h'.get? a=some {cls:=.none,data:=.fields ps};exact k a _ (.inl rfl) e
 |met f y =>
  have e:h.get? a=some (methodObj (.ref f) (.ref y)):=x;show h'.get? a=some (methodObj (.ref f) (.ref y));exact k a _ (.inl rfl) e
 |ext φ=>obtain⟨p,⟨o,e⟩,st⟩:=x;exact⟨st _ _ p λo q=>k _ _ (.inl rfl) q,⟨o,k _ _ (.inl rfl) e⟩,st⟩|dN φ=>obtain⟨p,⟨o,e⟩,st⟩:=x;exact⟨st _ _ p λo q=>k _ _ (.inl rfl) q,⟨o,k _ _ (.inl rfl) e⟩,st⟩
theorem HOk.lt(x:HOk P w H h)(e:H a=some o):a<h.objs.size:=(x a o e).lt
def HOk.fresh(x:HOk P w H h)(e:h.objs.size<=a):H a=none:=by
 cases q:H a with
 |none=>rfl|some u=>exact absurd (lt_of_lt_of_le (x.lt q) e) (lt_irrefl _)
def HOk.kept(x:HOk P w H h)(k:∀b u,h.get? b=some u->h'.get? b=some u):HOk P w H h':=λa o e =>
 (x a o e).stay (λb u _ q=>k b u q) (λ_ q=>q) λ_ _ q=>q
def HOk.laid(x:HOk P w H h)(k:∀b u,h.get? b=some u->h'.get? b=some u)(hp:h.objs.size<=a)(new:j9 P w (upd H a o) h' a o):HOk P w (upd H a o) h':=λb u e=>by
 have hn:=x.fresh hp;by_cases hb:b=a
 ·subst hb;rw[jF]at e;cases e;exact new
 ·rw[zp hb]at e
  exact(x b u e).stay (λc v _ q=>k c v q) (λc q=>by rw[zp (wM q hn)];exact q) λc xs q=>by rw[zp (wM q hn)];exact q
end
def Rd(H:Hp)(a:Addr)(u:HO):Prop:=H a=some u\/∃o,H a=some (.frz o u)
def Rd.ok{P:Program}{w:World}{H:Hp}{h:Heap}{a:Addr}{u:HO}(r:Rd H a u)(x:HOk P w H h):j9 P w H h a u:=by
 rcases r with r|⟨o,r⟩
 ·exact x a u r
 ·obtain⟨_,q⟩:=x a _ r
  exact q
def Mut:Option HO->Prop
 |some (.l _)=>True|some (.dK _)=>True|some (.dT _)=>True|some (.set _ _)=>True|some (.ins _ _ _)=>True|some (.ext _)=>True|some (.dN _)=>True|_=>False
section
variable{P:Program}{w:World}{H:Hp}{h h':Heap}{x e:Addr}{o':HO}
def HOk.write(ok:HOk P w H h)(mu:Mut (H x))(he:e=x\/H e=some (.own x))(k:∀b u,b≠e->h.get? b=some u->h'.get? b=some u)(heo:∃u,h'.get? e=some u)
  (new:j9 P w (upd H x o') h' x o'):HOk P w (upd H x o') h':=λb u q=>by
 have nown:∀c y,H c=some (.own y)->c≠x:=λc y r z=>by subst z;rw[r]at mu;exact mu
 have ntup:∀c xs,H c=some (.t xs)->c≠x:=λc xs r z=>by subst z;rw[r]at mu;exact mu
 by_cases hb:b=x
 ·subst hb;rw[jF]at q;cases q;exact new
 ·rw[zp hb]at q
  by_cases hbe:b=e
  ·have q':H b=some (.own x):=by
    rcases he with z|z
    ·exact absurd (hbe.trans z) hb
    ·rw[hbe];exact z
   rw[q]at q';cases q';obtain⟨v,hv⟩:=heo;exact⟨v,by rw[hbe];exact hv⟩
  ·refine(ok b u q).stay (λc v hc r=>k c v ?_ r) (λc r=>by rw[zp (nown c b r)];exact r) λc xs r=>by rw[zp (ntup c xs r)];exact r
   rcases hc with rfl|hc
   ·exact hbe
   ·rintro rfl
    rcases he with z|z
    ·exact nown c b hc z
    ·rw[hc]at z;cases z;exact hb rfl
end
structure Un(fs ex:List Addr)(H H':Hp)(h h':Heap):Prop where
 keep:∀b o,h.get? b=some o->H b=none->b∉fs->b∉ex->h'.get? b=some o
 slot:∀b o,h.get? b=some o->H b=none->b∈fs->b∉ex->∃sl,h'.get? b=some {o with slots:=sl}
 free:∀b o,h.get? b=some o->H b=none->b∉ex->H' b=none
 there:∀b o,h.get? b=some o->b∉ex->∃o',h'.get? b=some o'
 tups:∀b xs,H b=some (.t xs)->H' b=some (.t xs)
 frzs:∀b o u,H b=some (.frz o u)->H' b=some (.frz o u)
 tbls:∀b ps,H b=some (.tbl ps)->∃more,H' b=some (.tbl (ps++more))
section
variable{fs fs' ex ex':List Addr}{H H1 H2:Hp}{h h1 h2 h':Heap}{a x e:Addr}{o:HO}
def Un.any(u:Un fs ex H H1 h h1){b:Addr}{ob:Obj}(q:h.get? b=some ob)(n:H b=none)(hx:b∉ex):∃sl,h1.get? b=some {ob with slots:=sl}:=by
 by_cases hb:b∈fs
 ·exact u.slot b ob q n hb hx
 ·exact⟨ob.slots,u.keep b ob q n hb hx⟩
def Un.kept(k:∀b u,h.get? b=some u->h'.get? b=some u):Un fs ex H H h h' :=
 ⟨λb ob q _ _ _=>k b ob q,λb ob q _ _ _=>⟨ob.slots,k b ob q⟩,λ_ _ _ n _=>n,λb ob q _=>⟨ob,k b ob q⟩,λ_ _ q=>q,λ_ _ _ q=>q,λ_ ps q=>⟨#[],by rw[q];simp⟩⟩
def Un.refl:Un fs ex H H h h:=Un.kept λ_ _ q=>q
def Un.laid(k:∀b u,h.get? b=some u->h'.get? b=some u)(hp:h.objs.size<=a)(hn:H a=none):Un fs ex H (upd H a o) h h' where
 keep:=λb u q _ _ _=>k b u q
 slot:=λb u q _ _ _=>⟨u.slots,k b u q⟩
 free:=λb u q n _=>by rw[zp (ne_of_lt (lt_of_lt_of_le (lt_size q) hp))];exact n
 there:=λb u q _=>⟨u,k b u q⟩
 tups:=λb xs q=>by rw[zp (wM q hn)];exact q
 frzs:=λb u xs q=>by rw[zp (wM q hn)];exact q
 tbls:=λb ps q=>⟨#[],by rw[zp (wM q hn),q];simp⟩
def Un.write(mu:Mut (H x))(he:e=x\/H e=some (.own x))(k:∀b u,b≠e->h.get? b=some u->h'.get? b=some u)(heo:∃u,h'.get? e=some u):Un fs ex H (upd H x o) h h':=by
 have hx:∀b,H b=none->b≠x:=λb n z=>by subst z;rw[n]at mu;exact mu
 have hb:∀b,H b=none->b≠e:=λb n z=>by
  subst z;rcases he with r|r
  ·exact hx b n r
  ·rw[n]at r;cases r
 have hm:∀b u,H b=some u->¬Mut (some u)->b≠x:=λb u q nm z=>by subst z;rw[q]at mu;exact nm mu
 refine⟨λb u q n _ _=>k b u (hb b n) q,λb u q n _ _=>⟨u.slots,k b u (hb b n) q⟩,λb u q n _=>by rw[zp (hx b n)];exact n,λb u q _=>?_,
  λb xs q=>by rw[zp (hm b _ q λz=>z)];exact q,λb u xs q=>by rw[zp (hm b _ q λz=>z)];exact q,λb ps q=>⟨#[],by rw[zp (hm b _ q λz=>z),q];simp⟩⟩
 by_cases hbe:b=e
 ·subst hbe;exact heo
 ·exact⟨u,k b u hbe q⟩
end
def trk(h:Heap)(H:Hp):List Addr:=(List.range h.objs.size).filter λa=>(H a).isSome
def zDo(h:Heap)(H:Hp):Heap:=hideAll h (trk h H)
def zBn(h:Heap)(H:Hp):(zDo h H).objs.size=h.objs.size:=PySem.W.hideAll_size _ _
def zDp{h:Heap}{H:Hp}{b:Addr}{o:Obj}(e:h.get? b=some o)(n:H b=none):(zDo h H).get? b=some o :=
 hideAll_get _ e λhm=>by
  have q:(H b).isSome=true:=(mem_filter.mp hm).2;rw[n]at q;simp at q
def of_hidT{h:Heap}{H:Hp}{b:Addr}{o:Obj}(e:(zDo h H).get? b=some o):h.get? b=some o/\H b=none:=by
 have e':h.get? b=some o:=of_hideAll (trk h H) e;refine⟨e',?_⟩;cases q:H b with
 |none=>rfl
 |some x =>
  have hm:b∈trk h H:=mem_filter.mpr ⟨mem_range.mpr (lt_size e'),by simp[q]⟩;have z:(zDo h H).get? b=none:=PySem.W.hideAll_none (trk h H) hm;rw[z]at e;cases e
def allNews(g h:Heap)(L:Addr):List (Addr×Obj):=(List.range h.objs.size).filterMap λa=>if a=L\/(g.get? a).isSome=true then none else(h.get? a).map λo=>(a,o)
def Y9(g h:Heap)(L d:Addr):List (Addr×Obj):=(allNews g h L).filter λp=>decide (p.1≠d)
structure Mod(K:qH)(mg:Str->Option Value)(base:Heap):Prop where
 kin:K.In base
 glob:base.Ns mainGlobals mg
 blt:∃mb,base.Ns builtinsNs mb/\∀x:Str,x≠"__name__"->mb x=bootBuiltins x
 nolimit:base.NoLimit
structure Cx where
 prog:Program
 w:World
 K:qH
 mg:Str->Option Value
 base:Heap
 A:Around
 N:List Str
 s₀:Shared
 H₀:Hp
 env:Env
 outer:List Env
 stack:List Env
 ex:List Addr
 fn:Str->Bool
 calm:Bool
 pn:List (Addr×Obj)
 xe:Value->Shared->Prop
def frs(l:List Env):List Addr:=l.filterMap (·.frame)
abbrev Cx.fs(X:Cx):List Addr:=frs X.outer
def Vis(sc:Scope)(x:Str):Prop:=sc.names.lookup x=some .local\/sc.names.lookup x=some .cell\/sc.names.lookup x=some .free
def Loc(sc:Scope)(x:Str):Prop:=sc.names.lookup x=some .local\/sc.names.lookup x=some .cell
def Look(env:Env)(h:Heap)(m:Str->Option Value)(x:Str)(u:Value):Prop :=
 (env.kindOf x=some .local/\m x=some u)\/((env.kindOf x=some .cell\/env.kindOf x=some .free)/\∃c,env.cells.lookup x=some c/\h.IsCell c (some u))
structure Cx.Ok(X:Cx):Prop where
 mod:Mod X.K X.mg X.base
 kind:X.env.scope.kind=.function
 glob:X.env.globals=mainGlobals
 blt:X.env.builtins=builtinsNs
 above:X.s₀.heap.objs.size<=X.env.locals
 inj:∀x y c,X.env.cells.lookup x=some c->X.env.cells.lookup y=some c->x=y
 has:∀x,(X.env.kindOf x=some .cell\/X.env.kindOf x=some .free)->∃c,X.env.cells.lookup x=some c
 cab:∀x c,X.fn x=true->X.env.cells.lookup x=some c->X.s₀.heap.objs.size<=c
 hd:X.calm=true->X.A.handled=none
 frames:X.A.frames=some X.stack
 stk:X.stack=X.outer\/(X.stack=X.env::X.outer/\X.env.frame=some X.env.locals)
 exf:∀b∈X.ex,b≠X.env.locals/\∀x c,X.env.cells.lookup x=some c->c≠b
 bs:∀b o,X.base.get? b=some o->X.s₀.heap.get? b=some o/\X.H₀ b=none
 bsz:X.base.objs.size<=X.s₀.heap.objs.size
 noex:∀b o,X.base.get? b=some o->b∉X.ex
 exfs:∀b∈X.ex,b∉X.fs
 funs:X.s₀.heap.FunFrames X.base X.outer
 frf:∀b∈X.fs,X.H₀ b=none
structure Inv(X:Cx)(pins:List (Addr×Obj))(O:List (Option V))(H:Hp)(s:Shared):Prop where
 ok:X.Ok
 os:s.os=X.s₀.os
 bare:AllBare s.gens
 base:Un X.fs X.ex X.H₀ H X.s₀.heap s.heap
 loc:∃m,s.heap.Ns X.env.locals m/\∀(i:Nat) (x:Str) (v:V),X.N[i]?=some x->O[i]?=some (some v)->Vis X.env.scope x->∃u,yK v u/\Look X.env s.heap m x u
 cell:∀x c,X.env.cells.lookup x=some c->∃v,s.heap.IsCell c v
 free:H X.env.locals=none
 freeC:∀x c,X.env.cells.lookup x=some c->H c=none
 pin:∀p∈X.pn++pins,s.heap.get? p.1=some p.2/\H p.1=none/\p.1≠X.env.locals/\p.1∉X.fs/\∀v,p.2.data≠.cell v
 hok:HOk X.prog X.w H s.heap
 len:O.length=X.N.length
section
variable{X:Cx}{pins:List (Addr×Obj)}{O:List (Option V)}{H H':Hp}{s:Shared}{h':Heap}
def Cx.Ok.nofr(ok:X.Ok){b:Addr}{o:Obj}(e:X.base.get? b=some o):b∉X.fs:=λhb=>by
 have:=(ok.funs.mem hb).1;rw[e]at this;cases this
theorem Inv.bs(I:Inv X pins O H s):∀b o,X.base.get? b=some o->s.heap.get? b=some o/\H b=none:=λb o e =>
 ⟨I.base.keep b o (I.ok.bs b o e).1 (I.ok.bs b o e).2 (I.ok.nofr e) (I.ok.noex b o e),I.base.free b o (I.ok.bs b o e).1 (I.ok.bs b o e).2 (I.ok.noex b o e)⟩
def Inv.bk(I:Inv X pins O H s):∀b o,X.base.get? b=some o->s.heap.get? b=some o:=λb o e=>(I.bs b o e).1
theorem Inv.mod(I:Inv X pins O H s):Mod X.K X.mg X.base:=I.ok.mod
def Inv.kIn(I:Inv X pins O H s):X.K.In s.heap:=I.ok.mod.kin.keeps I.bk
theorem Inv.lt(I:Inv X pins O H s):X.env.locals<s.heap.objs.size:=let ⟨_,hn,_⟩:=I.loc;hn.lt
def Inv.sz(I:Inv X pins O H s):X.s₀.heap.objs.size<=s.heap.objs.size:=le_trans I.ok.above (le_of_lt I.lt)
def Inv.nofs(I:Inv X pins O H s){a:Addr}(h:s.heap.objs.size<=a):a∉X.fs:=λhb=>by
 obtain⟨_,o,ho,_⟩:=I.ok.funs.mem hb;exact absurd (lt_of_lt_of_le (lt_size ho) (le_trans I.sz h)) (lt_irrefl _)
def Inv.cne(I:Inv X pins O H s):∀x c,X.env.cells.lookup x=some c->c≠X.env.locals:=λx c e z=>by
 obtain⟨v,o,ho,hd⟩:=I.cell x c e;obtain⟨m,⟨o',es,ep,ho',hd',_⟩,_⟩:=I.loc;rw[z,ho']at ho;cases ho;rw[hd']at hd;cases hd
theorem Inv.funs(I:Inv X pins O H s):s.heap.FunFrames X.base X.outer:=by
 have all:∀(l:List Env),(∀b∈frs l,b∈X.fs)->X.s₀.heap.FunFrames X.base l->s.heap.FunFrames X.base l:=by
  intro l
  induction l with
  |nil=>intro _ _;trivial
  |cons env r ih =>
   intro hs hl;obtain⟨hk,⟨L,o,hf,hn,ho,hd⟩,hr⟩:=hl;have hL:L∈X.fs:=hs L (by unfold frs;rw[filterMap_cons,hf];exact qE);obtain⟨sl,e⟩:=I.base.slot L o ho (I.ok.frf L hL) hL λz=>I.ok.exfs L z hL
   exact⟨hk,⟨L,_,hf,hn,e,hd⟩,ih (λb hb=>hs b (by unfold frs;rw[filterMap_cons,hf];exact qD _ hb)) hr⟩
 exact all X.outer (λ_ hb=>hb) I.ok.funs
theorem Inv.stack(I:Inv X pins O H s):s.heap.FunFrames X.base X.stack:=by
 rcases I.ok.stk with e|⟨e,hf⟩
 ·rw[e];exact I.funs
 ·rw[e]
  obtain⟨m,hn,_⟩:=I.loc;refine .cons (by rw[I.ok.kind];decide) hf hn ?_ I.funs;exact Heap.get?_none_of_le (le_trans I.ok.bsz I.ok.above)
def Inv.stkSub(I:Inv X pins O H s):∀b∈frs X.stack,b∈X.env.locals::X.fs:=λb hb=>by
 rcases I.ok.stk with e|⟨e,hf⟩
 ·rw[e]at hb;exact qD _ hb
 ·rw[e]at hb
  unfold frs at hb;rw[filterMap_cons,hf]at hb;exact hb
def Inv.stkFree(I:Inv X pins O H s):∀b∈frs X.stack,H b=none:=λb hb=>by
 rcases mem_cons.mp (I.stkSub b hb)with e|hb
 ·rw[e];exact I.free
 ·obtain⟨_,o,ho,_⟩:=I.ok.funs.mem hb
  exact I.base.free b o ho (I.ok.frf b hb) λz=>I.ok.exfs b z hb
def Inv.step{g':Array GenState}{t':Nat}{d':Drawn}{ch:List Addr}(I:Inv X pins O H s)
  (hch:∀b∈ch,(b∈X.ex\/X.s₀.heap.objs.size<=b)/\b≠X.env.locals/\(∀x c,X.env.cells.lookup x=some c->c≠b)/\∀p∈X.pn++pins,p.1≠b)
  (keep:∀b o,b≠X.env.locals->b∉X.fs->b∉ch->s.heap.get? b=some o->H b=none->h'.get? b=some o)
  (slot:∀b o,b≠X.env.locals->b∈X.fs->b∉ch->s.heap.get? b=some o->H b=none->∃sl,h'.get? b=some {o with slots:=sl}) (free:∀b o,b∉ch->s.heap.get? b=some o->H b=none->H' b=none)
  (there:∀b o,b∉ch->s.heap.get? b=some o->∃o',h'.get? b=some o')
  (tups:∀b xs,H b=some (.t xs)->H' b=some (.t xs)) (frzs:∀b o u,H b=some (.frz o u)->H' b=some (.frz o u)) (tbls:∀b ps,H b=some (.tbl ps)->∃more,H' b=some (.tbl (ps++more)))
  (ns:∀m,s.heap.Ns X.env.locals m->h'.Ns X.env.locals m) (hok:HOk X.prog X.w H' h') (hg:AllBare g') :
  Inv X pins O H' {s with heap:=h',gens:=g',drawn:=d',toks:=t'}:=by
 have neL:∀b o,X.s₀.heap.get? b=some o->b≠X.env.locals:=λb o e=>ne_of_lt (lt_of_lt_of_le (lt_size e) I.ok.above)
 have neC:∀b o,X.s₀.heap.get? b=some o->b∉X.ex->b∉ch:=λb o e hx hb=>by
  rcases(hch b hb).1 with z|z
  ·exact hx z
  ·exact absurd (lt_of_lt_of_le (lt_size e) z) (lt_irrefl _)
 have cellK:∀x c,X.env.cells.lookup x=some c->∀v,s.heap.IsCell c v->h'.IsCell c v:=λx c e v ⟨o,ho,hd⟩=>by
  have nch:c∉ch:=λz=>(hch c z).2.2.1 x c e rfl
  by_cases hc:c∈X.fs
  ·obtain⟨sl,q⟩:=slot c o (I.cne x c e) hc nch ho (I.freeC x c e)
   exact⟨_,q,hd⟩
  ·exact⟨o,keep c o (I.cne x c e) hc nch ho (I.freeC x c e),hd⟩
 refine⟨I.ok,I.os,hg,⟨λb o e n hb hx=>?_,λb o e n hb hx=>?_,λb o e n hx=>?_,λb o e hx=>?_,λb xs e=>tups b xs (I.base.tups b xs e),λb o xs e=>frzs b o xs (I.base.frzs b o xs e),λb ps e=>?_⟩,?_,λx c e=>?_,?_,λx c e=>?_,λp hp=>?_,hok,I.len⟩
 ·exact keep b o (neL b o e) hb (neC b o e hx) (I.base.keep b o e n hb hx) (I.base.free b o e n hx)
 ·obtain⟨sl,e1⟩:=I.base.slot b o e n hb hx
  obtain⟨sl',e2⟩:=slot b _ (neL b o e) hb (neC b o e hx) e1 (I.base.free b o e n hx);exact⟨sl',e2⟩
 ·obtain⟨o',e1⟩:=I.base.there b o e hx
  exact free b o' (neC b o e hx) e1 (I.base.free b o e n hx)
 ·obtain⟨o',e1⟩:=I.base.there b o e hx
  exact there b o' (neC b o e hx) e1
 ·obtain⟨m1,e1⟩:=I.base.tbls b ps e
  obtain⟨m2,e2⟩:=tbls b _ e1;exact⟨m1++m2,by rw[e2,Array.append_assoc]⟩
 ·obtain⟨m,hn,hl⟩:=I.loc
  refine⟨m,ns m hn,λi x v e1 e2 e3=>?_⟩;obtain⟨u,r,l⟩:=hl i x v e1 e2 e3;refine⟨u,r,?_⟩;rcases l with l|⟨k,c,e,z⟩
  ·exact .inl l
  ·exact .inr ⟨k,c,e,cellK x c e _ z⟩
 ·obtain⟨v,z⟩:=I.cell x c e
  exact⟨v,cellK x c e v z⟩
 ·obtain⟨m,⟨o,_,_,ho,_⟩,_⟩:=I.loc
  exact free _ o (λz=>(hch _ z).2.1 rfl) ho I.free
 ·obtain⟨v,o,ho,hd⟩:=I.cell x c e
  exact free c o (λz=>(hch c z).2.2.1 x c e rfl) ho (I.freeC x c e)
 ·obtain⟨e,n,ne,nf,d⟩:=I.pin p hp
  have nch:p.1∉ch:=λz=>(hch p.1 z).2.2.2 p hp rfl
  exact⟨keep p.1 p.2 ne nf nch e n,free p.1 p.2 nch e n,ne,nf,d⟩
def Inv.un{t':Nat}(I:Inv X pins O H s)(u:Un X.fs [] H H' s.heap h')(hok:HOk X.prog X.w H' h'):Inv X pins O H' {s with heap:=h',toks:=t'}:=by
 obtain⟨m,⟨o,es,ep,ho,r⟩,_⟩:=id I.loc;obtain⟨sl,hL⟩:=u.any ho I.free (by simp);exact I.step (g':=s.gens) (d':=s.drawn) (ch:=[]) (λ_ z=>nomatch z) (λb o _ hb _ e n=>u.keep b o e n hb (by simp)) (λb o _ hb _ e n=>u.slot b o e n hb (by simp)) (λb o _ e n=>u.free b o e n (by simp)) (λb o _ e=>u.there b o e (by simp)) u.tups u.frzs u.tbls (λm' hm=>by
  obtain⟨o',es',ep',ho',r'⟩:=hm;rw[ho]at ho';cases ho';exact⟨_,es',ep',hL,r'⟩) hok I.bare
def Inv.call{g':Array GenState}{t':Nat}{d':Drawn}{ch:List Addr}(I:Inv X pins O H s)(u:Un (frs X.stack) ch H H' s.heap h')(hok:HOk X.prog X.w H' h')(hg:AllBare g')
  (hch:∀b∈ch,(b∈X.ex\/X.s₀.heap.objs.size<=b)/\b≠X.env.locals/\(∀x c,X.env.cells.lookup x=some c->c≠b)/\∀p∈X.pn++pins,p.1≠b) :
  Inv X pins O H' {s with heap:=h',gens:=g',drawn:=d',toks:=t'}:=by
 obtain⟨m,⟨o,es,ep,ho,r⟩,_⟩:=id I.loc;obtain⟨sl,hL⟩:=u.any ho I.free λz=>(hch _ z).2.1 rfl
 exact I.step (ch:=ch) hch (λb o hL hb hc e n=>u.keep b o e n (λz=>(mem_cons.mp (I.stkSub b z)).elim hL hb) hc) (λb o _ _ hc e n=>u.any e n hc) (λb o hc e n=>u.free b o e n hc) (λb o hc e=>u.there b o e hc) u.tups u.frzs u.tbls (λm' hm=>by
  obtain⟨o',es',ep',ho',r'⟩:=hm;rw[ho]at ho';cases ho';exact⟨_,es',ep',hL,r'⟩) hok hg
def Inv.turned{t':Nat}{it:Addr}(I:Inv X pins O H s)(k:∀b o,b≠it->s.heap.get? b=some o->h'.get? b=some o)(hn:H it=none)(hL:it≠X.env.locals)
  (h1:it∈X.ex\/X.s₀.heap.objs.size<=it) (h2:∀x c,X.env.cells.lookup x=some c->c≠it) (h3:∀p∈X.pn++pins,p.1≠it):Inv X pins O H {s with heap:=h',toks:=t'}:=by
 have nit:∀b u,H b=some u->b≠it:=λb u e z=>by rw[z,hn]at e;cases e
 refine I.step (g':=s.gens) (d':=s.drawn) (ch:=[it]) (λb hb=>?_) (λb o _ _ hc e _=>k b o (λz=>hc (by simp[z])) e) (λb o _ _ hc e _=>⟨o.slots,k b o (λz=>hc (by simp[z])) e⟩) (λ_ _ _ _ n=>n)
  (λb o hc e=>⟨o,k b o (λz=>hc (by simp[z])) e⟩) (λ_ _ e=>e) (λ_ _ _ e=>e) (λb ps e=>⟨#[],by rw[e];simp⟩) (λm hm=>?_) (λb u e=>?_) I.bare
 ·have e:b=it:=by simpa using hb
  subst e;exact⟨h1,hL,h2,h3⟩
 ·obtain⟨o,es,ep,ho,r⟩:=hm
  exact⟨o,es,ep,k _ o (Ne.symm hL) ho,r⟩
 ·refine(I.hok b u e).stay (λc v hc q=>k c v ?_ q) (λ_ q=>q) λ_ _ q=>q
  rcases hc with z|z
  ·rw[z];exact nit b u e
  ·exact nit c _ z
def Inv.tok(I:Inv X pins O H s)(t:Nat):Inv X pins O H {s with toks:=t}:=I.un (h':=s.heap) (t':=t) Un.refl I.hok
theorem Inv.kept{t':Nat}(I:Inv X pins O H s)(k:∀b u,s.heap.get? b=some u->h'.get? b=some u):Inv X pins O H {s with heap:=h',toks:=t'}:=I.un (Un.kept k) (I.hok.kept k)
theorem Inv.laid{a:Addr}{o:HO}{t':Nat}(I:Inv X pins O H s)(k:∀b u,s.heap.get? b=some u->h'.get? b=some u)(hp:s.heap.objs.size<=a)(new:j9 X.prog X.w (upd H a o) h' a o) :
  Inv X pins O (upd H a o) {s with heap:=h',toks:=t'}:=I.un (Un.laid k hp (I.hok.fresh hp)) (I.hok.laid k hp new)
theorem Inv.write{x e:Addr}{o:HO}{t':Nat}(I:Inv X pins O H s)(mu:Mut (H x))(he:e=x\/H e=some (.own x))(k:∀b u,b≠e->s.heap.get? b=some u->h'.get? b=some u)(heo:∃u,h'.get? e=some u)
  (new:j9 X.prog X.w (upd H x o) h' x o):Inv X pins O (upd H x o) {s with heap:=h',toks:=t'}:=I.un (Un.write mu he k heo) (I.hok.write mu he k heo new)
def Inv.pins_of{pins':List (Addr×Obj)}(I:Inv X pins O H s)(h:∀p∈pins',s.heap.get? p.1=some p.2/\H p.1=none/\p.1≠X.env.locals/\p.1∉X.fs/\∀v,p.2.data≠.cell v):Inv X pins' O H s :=
 ⟨I.ok,I.os,I.bare,I.base,I.loc,I.cell,I.free,I.freeC,λp hp=>(mem_append.mp hp).elim (λz=>I.pin p (mem_append_left _ z)) (h p),I.hok,I.len⟩
def zAM{N:List Str}(hN:N.Nodup){i j:Nat}{x:Str}(a:N[i]?=some x)(b:N[j]?=some x):i=j:=by
 obtain⟨h1,e1⟩:=qG.mp a;obtain⟨h2,e2⟩:=qG.mp b;exact(List.getElem_inj hN).mp (e1.trans e2.symm)
def WT{M:Model}{A:Around}{E:Value->Shared->Prop}{i:Nat}{x:Str}{v:V}{u:Value}{Q:Unit->Shared->Prop}(I:Inv X pins O H s)(hN:X.N.Nodup)(hi:X.N[i]?=some x)(hx:Loc X.env.scope x)(r:yK v u)
  (h:∀s',Inv X pins (O.set i (some v)) H s'->(∃a,Heap.SameBut a s.heap s'.heap/\(a=X.env.locals\/X.env.cells.lookup x=some a))->Q () s') (hf:X.fn x=true\/X.env.scope.names.lookup x=some .local:=by first|exact .inl rfl|exact .inr rfl|assumption):wpAny M A (storeName X.env x u) Q E s:=by
 obtain⟨m,hn,hl⟩:=id I.loc;have hcls:(X.env.scope.kind==.class||(X.env.scope.kind==.module&&X.env.locals != X.env.globals))=false:=by rw[I.ok.kind];rfl
 have hiO:i<O.length:=by rw[I.len];exact(qG.mp hi).1
 have cne:=I.cne;have tracked:∀{a:Addr} {h':Heap},(∃o,s.heap.get? a=some o/\H a=none)->Heap.SameBut a s.heap h'->HOk X.prog X.w H h':=λ{a h'} ha hs b ob e=>by
  obtain⟨_,_,hfree⟩:=ha;refine(I.hok b ob e).stay (λc w' hc q=>(hs.2 c ?_).trans q) (λ_ q=>q) λ_ _ q=>q
  rintro rfl
  rcases hc with rfl|hc
  ·rw[hfree]at e;cases e
  ·rw[hfree]at hc;cases hc
 rcases hx with hk|hk
 ·refine wpAny_storeName_local hk hn (λh' hn' hs=>?_) hcls
  obtain⟨oL,_,_,hoL,_⟩:=id hn;refine h _ ⟨I.ok,I.os,I.bare,⟨λb o e n hb hx=>?_,λb o e n hb hx=>?_,I.base.free,λb o e hx=>?_,I.base.tups,I.base.frzs,I.base.tbls⟩,⟨_,hn',λj y v' e1 e2 e3=>?_⟩,λy c e=>?_,I.free,I.freeC,λp hp=>?_,tracked ⟨oL,hoL,I.free⟩ hs,by simpa using I.len⟩ ⟨_,hs,.inl rfl⟩
  ·exact(hs.2 b (ne_of_lt (lt_of_lt_of_le (lt_size e) I.ok.above))).trans (I.base.keep b o e n hb hx)
  ·obtain⟨sl,e1⟩:=I.base.slot b o e n hb hx
   exact⟨sl,(hs.2 b (ne_of_lt (lt_of_lt_of_le (lt_size e) I.ok.above))).trans e1⟩
  ·obtain⟨o',e1⟩:=I.base.there b o e hx
   exact⟨o',(hs.2 b (ne_of_lt (lt_of_lt_of_le (lt_size e) I.ok.above))).trans e1⟩
  ·by_cases hj:j=i
   ·subst hj
    rw[hi]at e1;cases e1;rw[getElem?_set_self hiO]at e2;cases e2;exact⟨u,r,.inl ⟨hk,by simp⟩⟩
   ·rw[getElem?_set_ne (Ne.symm hj)]at e2
    obtain⟨u',r',q⟩:=hl j y v' e1 e2 e3;refine⟨u',r',?_⟩;rcases q with⟨k,e⟩|⟨k,c,e,z⟩
    ·refine .inl ⟨k,?_⟩
     have:y≠x:=λe=>hj (zAM hN e1 (e▸hi))
     simp[this,e]
    ·exact .inr ⟨k,c,e,z.sameBut hs (cne y c e)⟩
  ·obtain⟨w',z⟩:=I.cell y c e
   exact⟨w',z.sameBut hs (cne y c e)⟩
  ·obtain⟨e,n,ne,nf,d⟩:=I.pin p hp
   exact⟨(hs.2 p.1 ne).trans e,n,ne,nf,d⟩
 ·have hfn:X.fn x=true:=by
   rcases hf with z|z
   ·exact z
   ·rw[z]at hk;cases hk
  obtain⟨c,hc⟩:=I.ok.has x (.inl hk);obtain⟨w',z⟩:=I.cell x c hc;refine wpAny_storeName_cell I.ok.kind hk hc z (λh' hc' hs=>?_);obtain⟨oc,hoc,hocd⟩:=id z;refine h {s with heap:=h'} ⟨I.ok,I.os,I.bare,⟨λb o e n hb hx=>?_,λb o e n hb hx=>?_,I.base.free,λb o e hx=>?_,I.base.tups,I.base.frzs,I.base.tbls⟩,⟨m,hn.sameBut hs (Ne.symm (cne x c hc)),λj y v' e1 e2 e3=>?_⟩,λy c' e=>?_,I.free,I.freeC,λp hp=>?_,tracked ⟨oc,hoc,I.freeC x c hc⟩ hs,by simpa using I.len⟩ ⟨c,hs,.inr hc⟩
  ·exact(hs.2 b (ne_of_lt (lt_of_lt_of_le (lt_size e) (I.ok.cab x c hfn hc)))).trans (I.base.keep b o e n hb hx)
  ·obtain⟨sl,e1⟩:=I.base.slot b o e n hb hx
   exact⟨sl,(hs.2 b (ne_of_lt (lt_of_lt_of_le (lt_size e) (I.ok.cab x c hfn hc)))).trans e1⟩
  ·obtain⟨o',e1⟩:=I.base.there b o e hx
   exact⟨o',(hs.2 b (ne_of_lt (lt_of_lt_of_le (lt_size e) (I.ok.cab x c hfn hc)))).trans e1⟩
  ·by_cases hj:j=i
   ·subst hj
    rw[hi]at e1;cases e1;rw[getElem?_set_self hiO]at e2;cases e2;exact⟨u,r,.inr ⟨.inl hk,c,hc,hc'⟩⟩
   ·rw[getElem?_set_ne (Ne.symm hj)]at e2
    obtain⟨u',r',q⟩:=hl j y v' e1 e2 e3;refine⟨u',r',?_⟩;rcases q with q|⟨k,c',e,z'⟩
    ·exact .inl q
    ·refine .inr ⟨k,c',e,z'.sameBut hs ?_⟩
     rintro rfl
     exact hj (zAM hN e1 (I.ok.inj _ _ _ e hc▸hi))
  ·by_cases hcc:c'=c
   ·subst hcc;exact⟨_,hc'⟩
   ·obtain⟨w2,z2⟩:=I.cell y c' e
    exact⟨w2,z2.sameBut hs hcc⟩
  ·obtain⟨e,n,ne,nf,d⟩:=I.pin p hp
   refine⟨(hs.2 p.1 ?_).trans e,n,ne,nf,d⟩;intro q;rw[q,hoc]at e;have q':oc=p.2:=qJ e;exact d w' (by rw[<- q'];exact hocd)
def YY{M:Model}{A:Around}{E:Value->Shared->Prop}{i:Nat}{x:Str}{v:V}{u:Value}{Q:Unit->Shared->Prop}(I:Inv X pins O H s)(hN:X.N.Nodup)(hi:X.N[i]?=some x)(hx:Loc X.env.scope x)(r:yK v u)
  (h:∀s',Inv X pins (O.set i (some v)) H s'->Q () s') (hf:X.fn x=true\/X.env.scope.names.lookup x=some .local:=by first|exact .inl rfl|exact .inr rfl|assumption):wpAny M A (storeName X.env x u) Q E s :=
 WT I hN hi hx r (λs' I' _=>h s' I') hf
def Inv.call'{s':Shared}{ch:List Addr}(I:Inv X pins O H s)(ho:s'.os=s.os)(u:Un (frs X.stack) ch H H' s.heap s'.heap)(hok:HOk X.prog X.w H' s'.heap)(hg:AllBare s'.gens)
  (hch:∀b∈ch,(b∈X.ex\/X.s₀.heap.objs.size<=b)/\b≠X.env.locals/\(∀x c,X.env.cells.lookup x=some c->c≠b)/\∀p∈X.pn++pins,p.1≠b):Inv X pins O H' s':=by
 obtain⟨h',g',d',t',o'⟩:=s';have e:o'=s.os:=ho;subst e;exact I.call (g':=g') (t':=t') (d':=d') u hok hg hch
end
abbrev XK:=Value->Option Addr->Hp->Prop
abbrev St:=List (Option V)
abbrev VK:=V->Hp->Prop
abbrev TE:=St->Hp->VK->Prop
abbrev TT:=St->Hp->(Bool->Hp->Prop)->Prop
abbrev TA:=St->Hp->(List V->Hp->Prop)->Prop
structure Ends where
 nx:St->Hp->Prop
 rt:VK
 bk:St->Hp->Prop:=λ_ _=>False
 ct:St->Hp->Prop:=λ_ _=>False
abbrev TS:=Ends->St->Hp->Prop
def EP(X:Cx)(pins:List (Addr×Obj))(O:St)(Q:VK)(u:Value)(s':Shared):Prop:=∃v H',Inv X pins O H' s'/\yK v u/\Q v H'
def TP(X:Cx)(pins:List (Addr×Obj))(O:St)(Q:Bool->Hp->Prop)(b:Bool)(s':Shared):Prop:=∃H',Inv X pins O H' s'/\Q b H'
def AP(X:Cx)(pins:List (Addr×Obj))(O:St)(Q:List V->Hp->Prop)(us:List Value)(s':Shared):Prop:=∃vs H',Inv X pins O H' s'/\ya vs us/\Q vs H'
def SP(X:Cx)(pins:List (Addr×Obj))(D:Ends)(f:Flow)(s':Shared):Prop :=
 match f with
 | .next=>∃O' H',Inv X pins O' H' s'/\D.nx O' H'| .brk=>∃O' H',Inv X pins O' H' s'/\D.bk O' H'| .cont=>∃O' H',Inv X pins O' H' s'/\D.ct O' H'| .ret u=>∃v O' H',Inv X pins O' H' s'/\yK v u/\D.rt v H'
def PE(X:Cx)(e:Expr)(t:TE):Prop :=
 ∀(pins:List (Addr×Obj)) (s:Shared) (O:St) (H:Hp) (Q:VK),Inv X pins O H s->t O H Q->wpAny (model X.prog X.w) X.A (eval e X.env) (EP X pins O Q) X.xe s
def PT(X:Cx)(e:Expr)(t:TT):Prop :=
 ∀(pins:List (Addr×Obj)) (s:Shared) (O:St) (H:Hp) (Q:Bool->Hp->Prop),Inv X pins O H s->t O H Q->wpAny (model X.prog X.w) X.A (isTrue e X.env (eval e X.env)) (TP X pins O Q) X.xe s
def PW(X:Cx)(e:Expr)(t:TT):Prop :=
 ∀(whole:Sem Value) (pins:List (Addr×Obj)) (s:Shared) (O:St) (H:Hp) (Q:Bool->Hp->Prop),Inv X pins O H s->t O H Q->wpAny (model X.prog X.w) X.A (isTrue e X.env whole) (TP X pins O Q) X.xe s
def PW.pt{X:Cx}{e:Expr}{t:TT}(h:PW X e t):PT X e t:=h _
def PA(X:Cx)(es:List Expr)(t:TA):Prop :=
 ∀(pos:Pos) (pins:List (Addr×Obj)) (s:Shared) (O:St) (H:Hp) (Q:List V->Hp->Prop),Inv X pins O H s->t O H Q->wpAny (model X.prog X.w) X.A (spliced (backTo pos (starEach es X.env))) (AP X pins O Q) X.xe s
def PS(X:Cx)(st:Stmt)(t:TS):Prop :=
 ∀(pins:List (Addr×Obj)) (s:Shared) (O:St) (H:Hp) (D:Ends),Inv X pins O H s->t D O H->wpAny (model X.prog X.w) X.A (exec st X.env) (SP X pins D) X.xe s
def PSs(X:Cx)(st:List Stmt)(t:TS):Prop :=
 ∀(pins:List (Addr×Obj)) (s:Shared) (O:St) (H:Hp) (D:Ends),Inv X pins O H s->t D O H->wpAny (model X.prog X.w) X.A (execs st X.env) (SP X pins D) X.xe s
def thn{α:Type}{t:Sem α}{Q Q':α->Shared->Prop}{M:Model}{A:Around}{E:Value->Shared->Prop}{s:Shared}(h:wpAny M A t Q E s)(hQ:∀a s,Q a s->Q' a s):wpAny M A t Q' E s:=wpAny_mono h hQ λ_ _ x=>x
section
variable{X:Cx}
def bin{a b:Expr}{ta tb:TE}(ha:PE X a ta)(hb:PE X b tb){pins:List (Addr×Obj)}{s:Shared}{O:St}{H:Hp}{R:V->V->Hp->Prop}(I:Inv X pins O H s)(h:ta O H λx H1=>tb O H1 λy H2=>R x y H2)
  {α:Type} {Q:α->Shared->Prop} {f:Value->Value->Sem α}
  (hf:∀v u s2 x y H2,Inv X pins O H2 s2->yK x v->yK y u->R x y H2->wpAny (model X.prog X.w) X.A (f v u) Q X.xe s2) :
  wpAny (model X.prog X.w) X.A (eval a X.env) (λv s₁=>wpAny (model X.prog X.w) X.A (eval b X.env) (λu s₂=>wpAny (model X.prog X.w) X.A (f v u) Q X.xe s₂) X.xe s₁) X.xe s:=by
 refine thn (ha pins s O H _ I h) λv s1 ⟨x,H1,I1,r1,q1⟩=>?_
 refine thn (hb pins s1 O H1 _ I1 q1) λu s2 ⟨y,H2,I2,r2,q2⟩=>?_
 exact hf v u s2 x y H2 I2 r1 r2 q2
def Qd(i:Nat):TE:=λO H Q=>∃v,O[i]?=some (some v)/\Q v H
def tC(v:V):TE:=λ_ H Q=>Q v H
def pe_var{i:Nat}{x:Str}{pos:Pos}(hN:X.N[i]?=some x)(hv:Vis X.env.scope x)(hd:(x==("__debug__":Str))=false:=by decide)(hcd:(x==("__classdict__":Str))=false:=by decide):PE X (.Name x pos) (Qd i):=by
 intro pins s O H Q I h;obtain⟨v,e,h⟩:=h;obtain⟨m,hn,hl⟩:=I.loc;obtain⟨u,r,l⟩:=hl i x v hN e hv;have fin:EP X pins O Q u s:=⟨v,H,I,r,h⟩;rcases l with⟨hk,hm⟩|⟨hk,c,hc,hcell⟩
 ·exact wpAny_Name (wpAny_loadName_local I.ok.kind hk hn hm fin) hd
 ·rcases hk with hk|hk
  ·exact wpAny_Name (wpAny_loadName_cell I.ok.kind hk hc hcell fin) hd
  ·exact wpAny_Name (wpAny_loadName_free I.ok.kind hk hc hcell fin hcd) hd
def pe_int{i j pos}:PE X (.Constant (.int i) j pos) (tC (.int i)):=λ_ _ _ H _ I h=>wpAny_Constant_int ⟨.int i,H,I.tok _,⟨_,rfl⟩,h⟩
def pe_bl{b j pos}:PE X (.Constant (.bool b) j pos) (tC (.bl b)):=λ_ _ _ H _ I h=>Constant_bool ⟨.bl b,H,I,rfl,h⟩
def pe_non{j pos}:PE X (.Constant .none j pos) (tC .non):=λ_ _ _ H _ I h=>Constant_none ⟨.non,H,I,rfl,h⟩
def pe_str{x j pos}:PE X (.Constant (.str x) j pos) (tC (.str x)):=λ_ _ _ H _ I h=>Calls.Constant_str ⟨.str x,H,I.tok _,⟨_,rfl⟩,h⟩
def Gl(X:Cx)(x:Str):Prop:=X.env.kindOf x=some .globalImplicit
def zBo{E:Value->Shared->Prop}{pins:List (Addr×Obj)}{s:Shared}{O:St}{H:Hp}{x:Str}{u:Value}{pos:Pos}{Q:Value->Shared->Prop}(I:Inv X pins O H s)(hg:Gl X x)(hm:X.mg x=some u)(h:Q u s)
  (hd:(x==("__debug__":Str))=false:=by decide):wpAny (model X.prog X.w) X.A (eval (.Name x pos) X.env) Q E s :=
 Calls.Name_function_global I.ok.kind hg (Calls.loadGlobal_global (by rw[I.ok.glob];exact I.mod.glob.keeps I.bk) hm h) hd
def YZ{E:Value->Shared->Prop}{pins:List (Addr×Obj)}{s:Shared}{O:St}{H:Hp}{x:Str}{u:Value}{pos:Pos}{Q:Value->Shared->Prop}(I:Inv X pins O H s)(hg:Gl X x)(hm:X.mg x=none)(hv:bootBuiltins x=some u)(h:Q u s)
  (hn:x≠"__name__":=by decide) (hd:(x==("__debug__":Str))=false:=by decide):wpAny (model X.prog X.w) X.A (eval (.Name x pos) X.env) Q E s:=by
 obtain⟨mb,h1,h2⟩:=I.mod.blt;exact Calls.Name_function_global I.ok.kind hg (Calls.loadGlobal_builtin (by rw[I.ok.glob];exact I.mod.glob.keeps I.bk) hm (by rw[I.ok.blt];exact h1.keeps I.bk) ((h2 x hn).trans hv) h) hd
def pe_glob{x:Str}{v:V}{u:Value}{pos:Pos}(hg:Gl X x)(hm:X.mg x=some u)(r:yK v u)(hd:(x==("__debug__":Str))=false:=by decide):PE X (.Name x pos) (tC v) :=
 λ_ _ _ H _ I h=>zBo I hg hm ⟨v,H,I,r,h⟩ hd
def pe_bltn{x:Str}{v:V}{u:Value}{pos:Pos}(hg:Gl X x)(hm:X.mg x=none)(hv:bootBuiltins x=some u)(r:yK v u)(hn:x≠"__name__":=by decide)(hd:(x==("__debug__":Str))=false:=by decide):PE X (.Name x pos) (tC v) :=
 λ_ _ _ H _ I h=>YZ I hg hm hv ⟨v,H,I,r,h⟩ hn hd
variable{a b:Expr}{ta tb:TE}{pos:Pos}
def tB(t:TE):TT:=λO H Q=>t O H λx H1=>∃c,x=.bl c/\Q c H1
def pt_val{e:Expr}{t:TE}(h:PE X e t)(he:∀whole,isTrue e X.env whole=(do let v <- whole;standAt e.pos;holding [v] (truthy v)):=by intro _;rfl):PT X e (tB t):=by
 intro pins s O H Q I hw;refine isTrue_plain (thn (h pins s O H _ I hw) λv s1 ⟨x,H1,I1,r1,q1⟩=>?_) (he _);obtain⟨d,rfl,q⟩:=q1;cases r1;exact wpAny_truthy_bool ⟨H1,I1,q⟩
variable{tA tB':TT}{Y9:List Expr}
def tAnd(t u:TT):TT:=λO H Q=>t O H λc H1=>if c=true then u O H1 Q else Q false H1
def tOr(t u:TT):TT:=λO H Q=>t O H λc H1=>if c=true then Q true H1 else u O H1 Q
def tNot(t:TT):TT:=λO H Q=>t O H λc H1=>Q (!c) H1
def pw_and1(ha:PT X a tA):PW X (.BoolOp .And [a] pos) tA:=by
 intro wh pins s O H Q I h;refine isTrue_and (thn (ha pins s O H Q I h) λc s1 e=>?_);cases c with
 |true=>exact isTrue_and_nil e|false=>exact e
def pw_or1(ha:PT X a tA):PW X (.BoolOp .Or [a] pos) tA:=by
 intro wh pins s O H Q I h;refine isTrue_or (thn (ha pins s O H Q I h) λc s1 e=>?_);cases c with
 |false=>exact isTrue_or_nil e|true=>exact e
def pw_and(ha:PT X a tA)(hb:PW X (.BoolOp .And (b::Y9) pos) tB'):PW X (.BoolOp .And (a::b::Y9) pos) (tAnd tA tB'):=by
 intro wh pins s O H Q I h;refine isTrue_and (thn (ha pins s O H _ I h) λc s1 ⟨H1,I1,q1⟩=>?_);cases c with
 |true=>exact hb wh pins s1 O H1 Q I1 q1|false=>exact⟨H1,I1,q1⟩
def pw_or(ha:PT X a tA)(hb:PW X (.BoolOp .Or (b::Y9) pos) tB'):PW X (.BoolOp .Or (a::b::Y9) pos) (tOr tA tB'):=by
 intro wh pins s O H Q I h;refine isTrue_or (thn (ha pins s O H _ I h) λc s1 ⟨H1,I1,q1⟩=>?_);cases c with
 |true=>exact⟨H1,I1,q1⟩|false=>exact hb wh pins s1 O H1 Q I1 q1
def pt_not(ha:PT X a tA):PT X (.UnaryOp .Not a pos) (tNot tA):=by
 intro pins s O H Q I h;exact isTrue_not (ha pins s O H (λc H1=>Q (!c) H1) I h)
def tAndV(ta tb:TE):TE:=λO H Q=>ta O H λx H1=>∃c,x=.bl c/\if c=true then tb O H1 Q else Q (.bl false) H1
def tNotV(ta:TE):TE:=λO H Q=>ta O H λx H1=>∃c,x=.bl c/\Q (.bl (!c)) H1
def pe_one{op}{t:TE}(h:PE X a t):PE X (.BoolOp op [a] pos) t:=λpins s O H Q I hw=>BoolOp_one (h pins s O H Q I hw)
def pe_and(ha:PE X a ta)(hb:PE X (.BoolOp .And (b::Y9) pos) tb):PE X (.BoolOp .And (a::b::Y9) pos) (tAndV ta tb):=by
 intro pins s O H Q I h;refine BoolOp_and (thn (ha pins s O H _ I h) λv s1 ⟨x,H1,I1,r1,q1⟩=>?_);obtain⟨c,rfl,q1⟩:=q1;cases r1;refine wpAny_truthy_bool ?_;cases c with
 |true=>exact hb pins s1 O H1 Q I1 q1|false=>exact⟨.bl false,H1,I1,rfl,q1⟩
def pe_not(ha:PE X a ta):PE X (.UnaryOp .Not a pos) (tNotV ta):=by
 intro pins s O H Q I h;refine UnaryOp_ (thn (ha pins s O H _ I h) λv s1 ⟨x,H1,I1,r1,q1⟩=>?_);obtain⟨c,rfl,q1⟩:=q1;cases r1;exact not_of (wpAny_truthy_bool ⟨.bl (!c),H1,I1,rfl,q1⟩)
def tIf(t:TT)(ta tb:TE):TE:=λO H Q=>t O H λc H1=>if c=true then ta O H1 Q else tb O H1 Q
def zDq{c:Expr}(hc:PT X c tA)(ha:PE X a ta)(hb:PE X b tb):PE X (.IfExp c a b pos) (tIf tA ta tb):=by
 intro pins s O H Q I h;refine wpAny_IfExp (thn (hc pins s O H _ I h) λd s1 ⟨H1,I1,q1⟩=>?_);cases d with
 |true=>exact ha pins s1 O H1 Q I1 q1|false=>exact hb pins s1 O H1 Q I1 q1
end
def SqL(K:qH)(H:Hp)(a:Addr)(xs:List V):Prop :=
 Rd H a (.l xs) \/
  ∃(o:Obj) (its:Array Value) (n:Nat),K.lookup a=some o/\o.cls=.type "list"/\o.dict=none/\o.data=.seq its n/\its.size<=sizeLine/\ya xs its.toList
def SqT(K:qH)(H:Hp)(a:Addr)(xs:List V):Prop :=
 Rd H a (.t xs) \/
  ∃(o:Obj) (its:Array Value) (n:Nat),K.lookup a=some o/\o.cls=.type "tuple"/\o.data=.seq its n/\its.size<=sizeLine/\ya xs its.toList
def absV:Value->Option V
 | .none=>some .non| .bool b=>some (.bl b)| .int i _=>some (.int i)| .str x _=>some (.str x)| .bytes b _=>some (.byt b)| .float b _=>some (.flt b)| .ref a=>some (.ref a)| .type n=>some (.ty n)|_=>none
def yK.abs{x:V}{u:Value}(r:yK x u):absV u=some x:=by
 cases x with
 |non=>cases r;rfl|bl _=>cases r;rfl|int _=>obtain⟨t,rfl⟩:=r;rfl|str _=>obtain⟨t,rfl⟩:=r;rfl|byt _=>obtain⟨t,rfl⟩:=r;rfl|flt _=>obtain⟨t,rfl⟩:=r;rfl|ref _=>cases r;rfl|ty _=>cases r;rfl
theorem yK.inj{x y:V}{u:Value}(r:yK x u)(q:yK y u):x=y:=qJ (r.abs.symm.trans q.abs)
theorem ya.inj:∀{xs ys:List V} {us:List Value},ya xs us->ya ys us->xs=ys
 |_,_,_,.nil,.nil=>rfl|_,_,_,.cons r t,.cons r' t'=>by rw[r.inj r',ya.inj t t']
section
variable{X:Cx}{pins:List (Addr×Obj)}{O:St}{H:Hp}{s:Shared}{a:Addr}{xs ys:List V}
def SqL.of{K:qH}(h:H a=some (.l xs)):SqL K H a xs:=.inl (.inl h)
def SqT.of{K:qH}(h:H a=some (.t xs)):SqT K H a xs:=.inl (.inl h)
def Inv.list(I:Inv X pins O H s)(h:SqL X.K H a xs):∃its:List Value,ya xs its/\PlainL s.heap a its.toArray/\xs.length<=sizeLine:=by
 rcases h with h|⟨o,its,n,hk,hc,hd,hs,hz,r⟩
 ·obtain⟨z,its,n,r,e⟩:=h.ok I.hok
  exact⟨its,r,⟨_,n,e,rfl,rfl,rfl⟩,z⟩
 ·refine⟨its.toList,r,⟨o,n,I.kIn a o hk,hc,hd,by simpa using hs⟩,?_⟩
  have e:=r.length;simp only[Array.length_toList]at e;omega
def Inv.tuple(I:Inv X pins O H s)(h:SqT X.K H a xs):∃its:List Value,ya xs its/\IsTup s.heap a its.toArray/\xs.length<=sizeLine:=by
 rcases h with h|⟨o,its,n,hk,hc,hs,hz,r⟩
 ·obtain⟨z,its,r,p⟩:=h.ok I.hok
  exact⟨its,r,p,z⟩
 ·refine⟨its.toList,r,⟨o,I.kIn a o hk,hc,n,by simpa using hs⟩,?_⟩
  have e:=r.length;simp only[Array.length_toList]at e;omega
def Inv.list_inj(I:Inv X pins O H s)(h:SqL X.K H a xs)(h':SqL X.K H a ys):xs=ys:=by
 obtain⟨its,r,⟨o,n,e,_,_,d⟩,_⟩:=I.list h;obtain⟨its',r',⟨o',n',e',_,_,d'⟩,_⟩:=I.list h';rw[e]at e';cases e';rw[d]at d';injection d' with d1 _
 have:its=its':=by simpa using congrArg Array.toList d1
 subst this;exact r.inj r'
def Inv.tuple_inj(I:Inv X pins O H s)(h:SqT X.K H a xs)(h':SqT X.K H a ys):xs=ys:=by
 obtain⟨its,r,⟨o,e,_,n,d⟩,_⟩:=I.tuple h;obtain⟨its',r',⟨o',e',_,n',d'⟩,_⟩:=I.tuple h';rw[e]at e';cases e';rw[d]at d';injection d' with d1 _
 have:its=its':=by simpa using congrArg Array.toList d1
 subst this;exact r.inj r'
end
abbrev Cx.wish(X:Cx)(E:Value->Shared->Prop):Cx:={X with xe:=E}
abbrev Cx.nox(X:Cx):Cx:=X.wish λ_ _=>False
theorem Cx.Ok.wish{X:Cx}(ok:X.Ok)(E:Value->Shared->Prop):(X.wish E).Ok :=
 ⟨ok.mod,ok.kind,ok.glob,ok.blt,ok.above,ok.inj,ok.has,ok.cab,ok.hd,ok.frames,ok.stk,ok.exf,ok.bs,ok.bsz,ok.noex,ok.exfs,ok.funs,ok.frf⟩
def Cx.Ok.unwish{X:Cx}{E:Value->Shared->Prop}(ok:(X.wish E).Ok):X.Ok :=
 ⟨ok.mod,ok.kind,ok.glob,ok.blt,ok.above,ok.inj,ok.has,ok.cab,ok.hd,ok.frames,ok.stk,ok.exf,ok.bs,ok.bsz,ok.noex,ok.exfs,ok.funs,ok.frf⟩
section
variable{X:Cx}{pins:List (Addr×Obj)}{O:St}{H:Hp}{s:Shared}{E:Value->Shared->Prop}
theorem Inv.wish(I:Inv X pins O H s)(E:Value->Shared->Prop):Inv (X.wish E) pins O H s:=⟨I.ok.wish E,I.os,I.bare,I.base,I.loc,I.cell,I.free,I.freeC,I.pin,I.hok,I.len⟩
theorem Inv.unwish(I:Inv (X.wish E) pins O H s):Inv X pins O H s:=⟨I.ok.unwish,I.os,I.bare,I.base,I.loc,I.cell,I.free,I.freeC,I.pin,I.hok,I.len⟩
theorem SP.unwish{D:Ends}{f:Flow}{s':Shared}(h:SP (X.wish E) pins D f s'):SP X pins D f s':=by
 cases f with
 |next=>obtain⟨O',H',I,q⟩:=h;exact⟨O',H',I.unwish,q⟩|brk=>obtain⟨O',H',I,q⟩:=h;exact⟨O',H',I.unwish,q⟩|cont=>obtain⟨O',H',I,q⟩:=h;exact⟨O',H',I.unwish,q⟩|ret u=>obtain⟨v,O',H',I,r,q⟩:=h;exact⟨v,O',H',I.unwish,r,q⟩
theorem PE.nox{e:Expr}{t:TE}(h:PE X.nox e t):PE X e t:=λpins s O H Q I hw =>
 wpAny_mono (h pins s O H Q (I.wish _) hw) (λ_ _ ⟨v,H',I',r,q⟩=>⟨v,H',I'.unwish,r,q⟩) λ_ _ z=>False.elim z
end
section
variable{X:Cx}{st:Stmt}{Y9:List Stmt}{t u:TS}{e:Expr}{te:TE}{pos:Pos}
def tNext:TS:=λD O H=>D.nx O H
def tSeq(t u:TS):TS:=λD O H=>t {D with nx:=u D} O H
def pss_nil:PSs X [] tNext:=λ_ _ O H _ I h=>wpAny_execs_nil ⟨O,H,I,h⟩
def zDr(h1:PS X st t)(h2:PSs X Y9 u):PSs X (st::Y9) (tSeq t u):=by
 intro pins s O H D I h;refine wpAny_execs_cons (thn (h1 pins s O H {D with nx:=u D} I h) λf s1 q=>?_)
 cases f with
 |next =>
  obtain⟨O',H',I',q⟩:=q;exact h2 pins s1 O' H' D I' q
 |ret v=>exact q|brk=>exact q|cont=>exact q
def pss_one(h1:PS X st t):PSs X [st] t:=by
 intro pins s O H D I h;refine wpAny_execs_cons (thn (h1 pins s O H D I h) λf s1 q=>?_);cases f with
 |next=>exact wpAny_execs_nil q|ret v=>exact q|brk=>exact q|cont=>exact q
def Inv.quiet{pins:List (Addr×Obj)}{O:St}{H:Hp}{s:Shared}(I:Inv X pins O H s):interactive X.env=false:=by simp[interactive,I.ok.kind]
def tDrop(te:TE):TS:=λD O H=>te O H λ_ H1=>D.nx O H1
def ps_expr(he:PE X e te)(hs:swapsWith e none pos.line X.env=pure false:=by rfl):PS X (.Expr e pos) (tDrop te):=by
 intro pins s O H D I h;exact wpAny_Expr_any (thn (he pins s O H _ I h) λv s1 ⟨x,H1,I1,r1,q1⟩=>⟨O,H1,I1,q1⟩) I.quiet hs
def tRet(te:TE):TS:=λD O H=>te O H D.rt
def ps_ret(he:PE X e te):PS X (.Return (some e) pos) (tRet te):=by
 intro pins s O H D I h;exact wpAny_Return_some (thn (he pins s O H _ I h) λv s1 ⟨x,H1,I1,r1,q1⟩=>⟨x,O,H1,I1,r1,q1⟩)
def tIfS(c:TT)(t u:TS):TS:=λD O H=>c O H λb H1=>if b=true then t D O H1 else u D O H1
def ps_if{c:Expr}{a b:List Stmt}{tc:TT}(hc:PT X c tc)(ha:PSs X a t)(hb:PSs X b u):PS X (.If c a b pos) (tIfS tc t u):=by
 intro pins s O H D I h;refine wpAny_If (thn (hc pins s O H _ I h) λd s1 ⟨H1,I1,q1⟩=>?_);cases d with
 |true=>exact ha pins s1 O H1 D I1 q1|false=>exact hb pins s1 O H1 D I1 q1
def tNever:TS:=λ_ _ _=>False
def zDs:PS X st tNever:=λ_ _ _ _ _ _ h=>h.elim
end
abbrev TG:=V->St->Hp->(St->Hp->Prop)->Prop
abbrev TGs:=List V->St->Hp->(St->Hp->Prop)->Prop
def PG(X:Cx)(target:Expr)(t:TG):Prop :=
 ∀(pins:List (Addr×Obj)) (s:Shared) (O:St) (H:Hp) (v:V) (u:Value) (Q:St->Hp->Prop),Inv X pins O H s->yK v u->t v O H Q ->
  wpAny (model X.prog X.w) X.A (assign target X.env u) (λ_ s'=>∃O' H',Inv X pins O' H' s'/\Q O' H') X.xe s
def PGs(X:Cx)(ts:List Expr)(t:TGs):Prop :=
 ∀(pins:List (Addr×Obj)) (s:Shared) (O:St) (H:Hp) (vs:List V) (us:List Value) (Q:St->Hp->Prop),Inv X pins O H s->ya vs us->t vs O H Q ->
  wpAny (model X.prog X.w) X.A (assignInOrder ((assignEach ts X.env).map (·.2)) us) (λ_ s'=>∃O' H',Inv X pins O' H' s'/\Q O' H') X.xe s
abbrev TSet:=V->V->V->Hp->(Hp->Prop)->Prop
def PSet(X:Cx)(t:TSet):Prop :=
 ∀(pins:List (Addr×Obj)) (s:Shared) (O:St) (H:Hp) (o i v:V) (ov iv u:Value) (Q:Hp->Prop),Inv X pins O H s->yK o ov->yK i iv->yK v u->t o i v H Q ->
  wpAny (model X.prog X.w) X.A (setItem ov iv u) (λ_ s'=>∃H',Inv X pins O H' s'/\Q H') X.xe s
abbrev TIp:=V->V->Hp->VK->Prop
def PIp(X:Cx)(op:Operator)(t:TIp):Prop :=
 ∀(pins:List (Addr×Obj)) (s:Shared) (O:St) (H:Hp) (x y:V) (v u:Value) (Q:VK),Inv X pins O H s->yK x v->yK y u->t x y H Q ->
  wpAny (model X.prog X.w) X.A (inplaceOp op v u) (EP X pins O Q) X.xe s
section
variable{X:Cx}{pos:Pos}
def GU(i:Nat):TG:=λv O H Q=>Q (O.set i (some v)) H
def zBp{i:Nat}{x:Str}(hN:X.N.Nodup)(hi:X.N[i]?=some x)(hx:Loc X.env.scope x)(hf:X.fn x=true\/X.env.scope.names.lookup x=some .local:=by first|exact .inl rfl|exact .inr rfl|assumption):PG X (.Name x pos) (GU i):=by
 intro pins s O H v u Q I r h;exact wpAny_assign_Name (YY I hN hi hx r (λs' I'=>⟨_,H,I',h⟩) hf)
def gNil:TGs:=λvs O H Q=>vs=[]/\Q O H
def gCons(t:TG)(u:TGs):TGs:=λvs O H Q=>∃v r,vs=v::r/\t v O H λO' H'=>u r O' H' Q
def pgs_nil:PGs X [] gNil:=by
 intro pins s O H vs us Q I r h;obtain⟨e,h⟩:=h;subst e;cases r;exact assignInOrder_nil ⟨O,H,I,h⟩
def zDt{e:Expr}{es:List Expr}{t:TG}{u:TGs}(h1:PG X e t)(h2:PGs X es u)
  (hs:(assignEach (e::es) X.env).map (·.2)=assign e X.env::(assignEach es X.env).map (·.2):=by rfl):PGs X (e::es) (gCons t u):=by
 intro pins s O H vs us Q I r h;obtain⟨v,vr,e1,h⟩:=h;subst e1;cases r with
 |cons r rr =>
  rw[hs];refine assignInOrder_cons (thn (h1 pins s O H _ _ _ I r h) λ_ s1 ⟨O1,H1,I1,q1⟩=>?_);exact h2 pins s1 O1 H1 _ _ Q I1 rr q1
def gTup(K:qH)(n:Nat)(t:TGs):TG:=λv O H Q=>∃a xs,v=.ref a/\SqT K H a xs/\xs.length=n/\t xs O H Q
def zFS{es:List Expr}{k:Nat}{t:TGs}{n:Nat}(hc:X.calm=true)(h:PGs X es t)
  (hn:(assignEach es X.env).length=n:=by rfl) (hst:(assignEach es X.env).findIdx? (·.1)=none:=by rfl):PG X (.Tuple es k pos) (gTup X.K n t):=by
 intro pins s O H v u Q I r hw;obtain⟨a,xs,e1,hq,hl,hw⟩:=hw;subst e1;cases r;obtain⟨its,rv,ht,hz⟩:=I.tuple hq;refine assign_Tuple_tuple (I.ok.hd hc) ht (by simp[hn,<- hl,rv.length]) hst λh' hx=>?_
 have I1:Inv X pins O H {s with heap:=h'}:=I.kept (t':=s.toks) λb o e=>hx b o (ne_of_lt (lt_size e)) e
 exact h pins _ O H xs _ Q I1 (by simpa using rv) hw
def gSub(to ti:TE)(t:TSet):TG:=λv O H Q=>to O H λo H1=>ti O H1 λi H2=>t o i v H2 λH3=>Q O H3
def zFT{o i:Expr}{to ti:TE}{t:TSet}(ho:PE X o to)(hi:PE X i ti)(hs:PSet X t)
  (ha:∀v,assign (.Subscript o i pos) X.env v=(do
   let ov <- holding [v] (eval o X.env)
   let iv <- holding [v,ov] (eval i X.env)
   standAt pos
   holding [v,ov,iv] (setItem ov iv v)
   release [v,ov,iv] []):=by intro _;rfl):PG X (.Subscript o i pos) (gSub to ti t):=by
 intro pins s O H v u Q I r h;rw[ha];refine qB (wpAny_holding (thn (ho pins s O H _ I h) λov s1 ⟨x,H1,I1,r1,q1⟩=>?_));refine qB (wpAny_holding (thn (hi pins s1 O H1 _ I1 q1) λiv s2 ⟨y,H2,I2,r2,q2⟩=>?_));refine qB (wpAny_standAt (qB (wpAny_holding (thn (hs pins s2 O H2 x y v ov iv u _ I2 r1 r2 r q2) λ_ s3 ⟨H3,I3,q3⟩=>?_))));exact wpAny_release ⟨O,H3,I3,q3⟩
def zFU(te:TE)(g:TG):TS:=λD O H=>te O H λx H1=>g x O H1 D.nx
def zBq{tg e:Expr}{te:TE}{g:TG}(he:PE X e te)(hg:PG X tg g)(hs:swapsWithSole [tg] e pos.line X.env=pure false:=by rfl)(hw:swappedStores [tg] e X.env=pure none:=by rfl)
  (h1:(assignEach [tg] X.env).map (·.2)=[assign tg X.env]:=by rfl):PS X (.Assign [tg] e pos) (zFU te g):=by
 intro pins s O H D I h;refine wpAny_Assign_stores (thn (he pins s O H _ I h) λv s1 ⟨x,H1,I1,r1,q1⟩=>?_) hs hw;rw[h1];exact thn (hg pins s1 O H1 x v _ I1 r1 q1) λ_ s2 q=>q
def ps_set{i:Nat}{x:Str}{e:Expr}{te:TE}{pos':Pos}(hN:X.N.Nodup)(hi:X.N[i]?=some x)(hx:Loc X.env.scope x)(he:PE X e te)(hs:swapsWith e (some (.Name x pos')) pos.line X.env=pure false:=by rfl)(hf:X.fn x=true\/X.env.scope.names.lookup x=some .local:=by first|exact .inl rfl|exact .inr rfl|assumption) :
  PS X (.Assign [.Name x pos'] e pos) (zFU te (GU i)):=by
 intro pins s O H D I h;refine wpAny_Assign_Name (thn (he pins s O H _ I h) λv s1 ⟨y,H1,I1,r1,q1⟩=>?_) hs;exact YY I1 hN hi hx r1 (λs2 I2=>⟨_,H1,I2,q1⟩) hf
def tPar(i j:Nat)(ta:TA):TS:=λD O H=>ta O H λvs H1=>∃v w,vs=[v,w]/\D.nx ((O.set i (some v)).set j (some w)) H1
def ps_par{i j:Nat}{x y:Str}{a b:Expr}{ta:TA}{px py pt:Pos}{kt k2 pt2}(hc:X.calm=true)(hN:X.N.Nodup)(hi:X.N[i]?=some x)(hj:X.N[j]?=some y)(hij:i≠j)
  (hx:X.env.scope.names.lookup x=some .local) (hy:X.env.scope.names.lookup y=some .local) (ha:PA X [a,b] ta)
  (hw:swappedStores [.Tuple [.Name x px,.Name y py] kt pt] (.Tuple [a,b] k2 pt2) X.env=pure (some [x,y]))
  (hs:swapsWithSole [.Tuple [.Name x px,.Name y py] kt pt] (.Tuple [a,b] k2 pt2) pos.line X.env=pure false:=by rfl) :
  PS X (.Assign [.Tuple [.Name x px,.Name y py] kt pt] (.Tuple [a,b] k2 pt2) pos) (tPar i j ta):=by
 intro pins s O H D I h;rw[exec_Assign_arm];refine qB (wpAny_standAt ?_);rw[hs];refine qB (qC ?_);rw[if_neg (by decide)];refine qB (Tuple_ (thn (ha _ pins s O H _ I h) λus s1 ⟨vs,H1,I1,r1,q1⟩=>?_));obtain⟨v,w,e1,q1⟩:=q1;subst e1;obtain⟨u1,u2,rfl,rv,rw'⟩:∃u1 u2,us=[u1,u2]/\yK v u1/\yK w u2:=by
  cases r1 with
  |cons p q =>
   cases q with
   |cons p' q' =>
    cases q';exact⟨_,_,rfl,p,p'⟩
 refine wpAny_newObj_type ?_ (by show 2<=sizeLine;decide);have I2:Inv X pins O H1 {s1 with heap:=s1.heap.push {cls:=.type "tuple",data:=.seq [u1,u2].toArray}}:=I1.kept (t':=s1.toks) λb o e=>qA _ e
 rw[hw];refine qB (qC ?_);show wpAny (model X.prog X.w) X.A (do rule "assign.swapped-stores";let items <- unpackItems (.ref s1.heap.objs.size) 2 none;assignInOrder [λv=>bindName X.env y v,λv=>bindName X.env x v] items.reverse;pure Flow.next) _ _ _;refine qB (wpAny_rule (qB (unpackItems_tuple (items:=#[u1,u2]) (I.ok.hd hc) (IsTup.new s1.heap _) λh' hx'=>?_)));have I3:=I2.kept (h':=h') (t':=s1.toks) λb o e=>hx' b o (ne_of_lt (lt_size e)) e
 show wpAny _ _ (assignInOrder [λv=>bindName X.env y v,λv=>bindName X.env x v] [u2,u1] >>= λ_=>pure Flow.next) _ _ _
 refine qB (assignInOrder_cons (wpAny_bindName (YY I3 hN hj (.inl hy) rw' (λs2 I4=>?_) (.inr hy))));refine assignInOrder_cons (wpAny_bindName (YY I4 hN hi (.inl hx) rv (λs3 I5=>assignInOrder_nil (qC ?_)) (.inr hx)));rw[List.set_comm _ _ (Ne.symm hij)]at I5;exact⟨_,H1,I5,q1⟩
def tAug(i:Nat)(te:TE)(ti:TIp):TS:=λD O H=>∃x,O[i]?=some (some x)/\te O H λy H1=>ti x y H1 λz H2=>D.nx (O.set i (some z)) H2
def zBr{i:Nat}{x:Str}{e:Expr}{te:TE}{op:Operator}{ti:TIp}{pos':Pos}(hN:X.N.Nodup)(hi:X.N[i]?=some x)(hx:Loc X.env.scope x)(he:PE X e te)(ho:PIp X op ti)(hf:X.fn x=true\/X.env.scope.names.lookup x=some .local:=by first|exact .inl rfl|exact .inr rfl|assumption) :
  PS X (.AugAssign (.Name x pos') op e pos) (tAug i te ti):=by
 intro pins s O H D I h;obtain⟨v,e1,h⟩:=h;obtain⟨m,hn,hl⟩:=I.loc;have vis:Vis X.env.scope x:=by rcases hx with k|k;exact .inl k;exact .inr (.inl k)
 obtain⟨u,r,l⟩:=hl i x v hi e1 vis;refine wpAny_AugAssign_Name ?_;have go:wpAny (model X.prog X.w) X.A (eval e X.env) (λw s₂=>wpAny (model X.prog X.w) X.A (inplaceOp op u w) (λr s₃=>wpAny (model X.prog X.w) X.A (storeName X.env x r) (λ_=>SP X pins D .next) X.xe s₃) X.xe s₂) X.xe s:=by
  refine thn (he pins s O H _ I h) λw s1 ⟨y,H1,I1,r1,q1⟩=>?_
  refine thn (ho pins s1 O H1 v y u w _ I1 r r1 q1) λz s2 ⟨zv,H2,I2,r2,q2⟩=>?_
  exact YY I2 hN hi hx r2 (λs3 I3=>⟨_,H2,I3,q2⟩) hf
 rcases l with⟨hk,hm⟩|⟨hk,c,hc,hcell⟩
 ·exact wpAny_loadName_local I.ok.kind hk hn hm go
 ·rcases hk with hk|hk
  ·exact wpAny_loadName_cell I.ok.kind hk hc hcell go
  ·rcases hx with k|k
   ·have:X.env.scope.names.lookup x=some .free:=hk
    rw[k]at this;cases this
   ·have:X.env.scope.names.lookup x=some .free:=hk
    rw[k]at this;cases this
def tAugS(to ti te:TE)(tget:V->V->Hp->VK->Prop)(tip:TIp)(tset:TSet):TS:=λD O H=>to O H λo H1=>ti O H1 λi H2=>tget o i H2 λx H3=>te O H3 λy H4=>tip x y H4 λz H5=>tset o i z H5 λH6=>D.nx O H6
def PGet(X:Cx)(t:V->V->Hp->VK->Prop):Prop :=
 ∀(pins:List (Addr×Obj)) (s:Shared) (O:St) (H:Hp) (o i:V) (ov iv:Value) (Q:VK),Inv X pins O H s->yK o ov->yK i iv->t o i H Q ->
  wpAny (model X.prog X.w) X.A (getItem ov iv) (EP X pins O Q) X.xe s
def ps_augS{o i e:Expr}{to ti te:TE}{tget:V->V->Hp->VK->Prop}{tip:TIp}{tset:TSet}{op:Operator}{tpos:Pos}(ho:PE X o to)(hi:PE X i ti)(hg:PGet X tget)(he:PE X e te)(hp:PIp X op tip)(hs:PSet X tset)
  (ha:∀ov iv new,augStore i ov iv new=(do holding [new,ov,iv] (setItem ov iv new);release [new,ov,iv] [];pure .next):=by intros;rfl):PS X (.AugAssign (.Subscript o i tpos) op e pos) (tAugS to ti te tget tip tset):=by
 intro pins s O H D I h;refine wpAny_AugAssign_SubscriptAny (thn (ho pins s O H _ I h) λov s1 ⟨x1,H1,I1,r1,q1⟩=>?_) ha;refine thn (hi pins s1 O H1 _ I1 q1) λiv s2 ⟨x2,H2,I2,r2,q2⟩=>?_
 refine thn (hg pins s2 O H2 x1 x2 ov iv _ I2 r1 r2 q2) λold s3 ⟨x3,H3,I3,r3,q3⟩=>?_
 refine thn (he pins s3 O H3 _ I3 q3) λv s4 ⟨x4,H4,I4,r4,q4⟩=>?_
 refine thn (hp pins s4 O H4 x3 x4 old v _ I4 r3 r4 q4) λnew s5 ⟨x5,H5,I5,r5,q5⟩=>?_
 exact thn (hs pins s5 O H5 x1 x2 x5 ov iv new _ I5 r1 r2 r5 q5) λ_ s6 ⟨H6,I6,q6⟩=>⟨O,H6,I6,q6⟩
def ipI(f:Int->Int->Int):TIp:=λx y H Q=>∃i j,x=.int i/\y=.int j/\Q (.int (f i j)) H
def zFV:PIp X .Add (ipI λi j=>i+j):=by
 intro pins s O H x y v u Q I r1 r2 h;obtain⟨i,j,e1,e2,q⟩:=h;subst e1;subst e2;obtain⟨t,rfl⟩:=r1;obtain⟨t',rfl⟩:=r2;exact iadd_int ⟨.int _,H,I.tok _,⟨_,rfl⟩,q⟩
def ip_sub:PIp X .Sub (ipI λi j=>i-j):=by
 intro pins s O H x y v u Q I r1 r2 h;obtain⟨i,j,e1,e2,q⟩:=h;subst e1;subst e2;obtain⟨t,rfl⟩:=r1;obtain⟨t',rfl⟩:=r2;exact isub_int ⟨.int _,H,I.tok _,⟨_,rfl⟩,q⟩
end
section
variable{X:Cx}{pos:Pos}
def zFW(c:TT)(tb:TS):TS:=λD O H=>∃W:Nat->St->Hp->Prop,(∃m,W m O H)/\∀m O H,W m O H ->
 c O H λb H1=>if b=true then ∃N:St->Hp->Prop,(∀O' H',N O' H'->∃m',m'<m/\W m' O' H')/\tb {D with nx:=N,ct:=N,bk:=D.nx} O H1 else D.nx O H1
def zDu{c:Expr}{body:List Stmt}{tc:TT}{tb:TS}(hp:PassesOwn (model X.prog X.w) X.A X.env X.xe)(hc:PT X c tc)(hb:PSs X body tb):PS X (.While c body [] pos) (zFW tc tb):=by
 intro pins s O H D I h;obtain⟨W,⟨m0,w0⟩,turn⟩:=h;refine wpAny_While (codeAny_whileLoop (λn s'=>∃O' H',Inv X pins O' H' s'/\W n O' H') ?_ m0 ⟨O,H,I,w0⟩)
 rintro n s1 ⟨O1,H1,I1,w1⟩
 refine wpAny_passesOwn hp (thn (hc pins s1 O1 H1 _ I1 (turn n O1 H1 w1)) λb s2 ⟨H2,I2,q2⟩=>?_);cases b with
 |true =>
  obtain⟨N,hN,q2⟩:=q2;rw[if_pos rfl];refine wpAny_passesOwn hp (thn (hb pins s2 O1 H2 _ I2 q2) λf s3 q3=>?_);cases f with
  |next =>
   obtain⟨O3,H3,I3,n3⟩:=q3;obtain⟨m',hm,w3⟩:=hN O3 H3 n3;exact⟨m',hm,O3,H3,I3,w3⟩
  |cont =>
   obtain⟨O3,H3,I3,n3⟩:=q3;obtain⟨m',hm,w3⟩:=hN O3 H3 n3;exact⟨m',hm,O3,H3,I3,w3⟩
  |brk=>exact q3|ret v=>exact q3
 |false =>
  rw[if_neg qF];exact wpAny_execs_nil ⟨O1,H2,I2,q2⟩
end
structure It where
 go:Nat->Hp->Prop
 yld:Nat->Hp->V->Hp->Prop
 stop:Nat->Hp->Prop
def Qe(X:Cx)(pins:List (Addr×Obj))(H:Hp)(b:Addr):Prop :=
 H b=none/\b≠X.env.locals/\b∉X.fs/\(b∈X.ex\/X.s₀.heap.objs.size<=b)/\(∀x c,X.env.cells.lookup x=some c->c≠b)/\∀p∈X.pn++pins,p.1≠b
def Inv.fpOk{X:Cx}{pins:List (Addr×Obj)}{O:St}{H H':Hp}{s:Shared}{b:Addr}(I:Inv X pins O H s)(hb:s.heap.objs.size<=b)(hn:H' b=none):Qe X pins H' b:=by
 refine⟨hn,ne_of_gt (lt_of_lt_of_le I.lt hb),I.nofs hb,.inr (le_trans I.sz hb),λx c e z=>?_,λp hp z=>?_⟩
 ·obtain⟨v,q⟩:=I.cell x c e
  exact absurd (lt_of_lt_of_le q.lt (by rw[z];exact hb)) (lt_irrefl _)
 ·exact absurd (lt_of_lt_of_le (lt_size (I.pin p hp).1) (by rw[z];exact hb)) (lt_irrefl _)
structure Turn(P:Program)(w:World)(K:qH)(tg:Expr)(J:It)(fp:List Addr)(it:Addr)(tn:Nat->Heap->Prop):Prop where
 mem:it∈fp
 obj:∀i h,tn i h->∀b∈fp,∃o,h.get? b=some o/\∀v,o.data≠.cell v
 keep:∀i h h',tn i h->(∀b∈fp,∀o,h.get? b=some o->h'.get? b=some o)->tn i h'
 item:∀(X:Cx),X.prog=P->X.w=w->X.K=K->X.calm=true->∀(i:Nat) (pins:List (Addr×Obj)) (s:Shared) (O:St) (H:Hp) (E:Value->Shared->Prop),Inv X pins O H s->(∀b∈fp,Qe X pins H b)->tn i s.heap->J.go i H ->
  wpAny (model P w) X.A (pyNext (.ref it)) (λr s1=>∃u,r=some u /\
   wpAny (model P w) X.A (letOwnedTupleGo tg (.ref it) u) (λ_ s2=>∃x H',Inv X pins O H' s2/\yK x u/\J.yld i H x H'/\tn (i+1) s2.heap/\∀b∈fp,H' b=none) E s1) E s
 done:∀(X:Cx),X.prog=P->X.w=w->X.K=K->X.calm=true->∀(i:Nat) (pins:List (Addr×Obj)) (s:Shared) (O:St) (H:Hp) (E:Value->Shared->Prop),Inv X pins O H s->(∀b∈fp,Qe X pins H b)->tn i s.heap->J.stop i H ->
  wpAny (model P w) X.A (pyNext (.ref it)) (λr s1=>r=none/\Inv X pins O H s1) E s
 self:∀(A:Around) (i:Nat) (s:Shared) (Q:Value->Shared->Prop) (E:Value->Shared->Prop),tn i s.heap->Q (.ref it) s->wpAny (model P w) A (pyIter (.ref it)) Q E s
abbrev TI:=St->Hp->(It->Hp->Prop)->Prop
def PIE(X:Cx)(pins:List (Addr×Obj))(O:St)(tg:Expr)(R:It->Hp->Prop)(itv:Value)(s2:Shared):Prop :=
 ∃(it:Addr) (fp:List Addr) (tn:Nat->Heap->Prop) (J:It) (H':Hp),itv=.ref it/\Inv X pins O H' s2/\Turn X.prog X.w X.K tg J fp it tn/\tn 0 s2.heap/\(∀b∈fp,Qe X pins H' b)/\R J H'
def PI(X:Cx)(tg iter:Expr)(wi:TI):Prop :=
 ∀(pins:List (Addr×Obj)) (s:Shared) (O:St) (H:Hp) (R:It->Hp->Prop),Inv X pins O H s->wi O H R ->
  wpAny (model X.prog X.w) X.A (eval iter X.env) (λv s1=>wpAny (model X.prog X.w) X.A (pyIter v) (PIE X pins O tg R) X.xe s1) X.xe s
def WU{M:Model}{A:Around}{E:Value->Shared->Prop}{s:Shared}{tg:Expr}{it:Addr}{u:Value}{o:Obj}{n:String}{vs:Array Value}{Q:Unit->Shared->Prop}(ho:s.heap.get? it=some o)(hc:o.cls=.type n)(hd:o.data=.fields vs)
  (hn:["enumerate","zip","dict_itemiterator","dict_reverseitemiterator","odict_iterator","itertools.zip_longest","itertools.pairwise"].contains n=false) (hQ:Q () s):wpAny M A (letOwnedTupleGo tg (.ref it) u) Q E s:=by
 unfold letOwnedTupleGo
 cases tg<;>first
  |exact qC hQ
  | (cases u<;>first
    |exact qC hQ
    | (refine qB (wpAny_load ho ?_)
       rw[hc,hd];show wpAny M A (if(["enumerate","zip","dict_itemiterator","dict_reverseitemiterator","odict_iterator","itertools.zip_longest","itertools.pairwise"].contains n&&vs[0]?==some (rawInt _))=true then _ else _) Q E s;rw[if_neg (by intro h;rw[hn,Bool.false_and]at h;cases h)];exact qC hQ))
def Itl(K:qH)(a:Addr):It :=
 ⟨λi H=>∃xs x,SqL K H a xs/\xs[i]?=some x,λi H x H'=>H'=H/\∀xs,SqL K H a xs->xs[i]?=some x,λi H=>∃xs,SqL K H a xs/\xs.length<=i⟩
def Itt(K:qH)(a:Addr):It :=
 ⟨λi H=>∃xs x,SqT K H a xs/\xs[i]?=some x,λi H x H'=>H'=H/\∀xs,SqT K H a xs->xs[i]?=some x,λi H=>∃xs,SqT K H a xs/\xs.length<=i⟩
def Itr(lo:Int)(n:Nat):It:=⟨λi _=>i<n,λi H x H'=>H'=H/\x=.int (lo+i),λi _=>n<=i⟩
def zBs{P:Program}{w:World}{K:qH}{tg:Expr}(a it:Addr):Turn P w K tg (Itl K a) [it] it (λi h=>h.IsListIter it a i) where
 mem:=by simp
 obj:=λi h st b hb=>by
  have e:b=it:=by simpa using hb
  subst e;obtain⟨o,e,c,d⟩:=st;exact⟨o,e,λv z=>by rw[d]at z;cases z⟩
 keep:=λi h h' st k=>st.at λo e=>k it (by simp) o e
 item:=by
  intro X hP hw hK hc i pins s O H E I hf st hg;subst hP hw hK;obtain⟨xs,x,hq,hx⟩:=hg;obtain⟨its,rv,p,hz⟩:=I.list hq;obtain⟨u,hu,ru⟩:=rv.get hx;obtain⟨f0,f1,f2,f3,f4,f5⟩:=hf it (by simp);refine wpAny_pyNext_list_item st p.isList (x:=u) (by simpa using hu) λh' st' sb=>?_
  have I1:Inv X pins O H {s with heap:=h'}:=I.turned (t':=s.toks) (λb o hb e=>(sb.2 b hb).trans e) f0 f1 f3 f4 f5
  obtain⟨o,e,c,d⟩:=id st';exact⟨u,rfl,WU (s:={s with heap:=h'}) e c d (by decide) ⟨x,H,I1,ru,⟨rfl,λys hy=>by rw[I.list_inj hy hq];exact hx⟩,st',λb hb=>(hf b hb).1⟩⟩
 done:=by
  intro X hP hw hK hc i pins s O H E I hf st hg;subst hP hw hK;obtain⟨xs,hq,hx⟩:=hg;obtain⟨its,rv,p,hz⟩:=I.list hq;obtain⟨f0,f1,f2,f3,f4,f5⟩:=hf it (by simp);have hl:=rv.length;exact wpAny_pyNext_list_end (I.ok.hd hc) st p.isList (by simp;omega) λh' eb=>⟨rfl,I.turned (t':=s.toks) (λb o hb e=>eb b o hb e) f0 f1 f3 f4 f5⟩
 self:=λ_ _ _ _ _ st h=>wpAny_pyIter_listiter st h
def zBE{P:Program}{w:World}{K:qH}{tg:Expr}(a it:Addr):Turn P w K tg (Itt K a) [it] it (λi h=>h.IsTupleIter it a i) where
 mem:=by simp
 obj:=λi h st b hb=>by
  have e:b=it:=by simpa using hb
  subst e;obtain⟨o,e,c,d⟩:=st;exact⟨o,e,λv z=>by rw[d]at z;cases z⟩
 keep:=λi h h' st k=>st.at λo e=>k it (by simp) o e
 item:=by
  intro X hP hw hK hc i pins s O H E I hf st hg;subst hP hw hK;obtain⟨xs,x,hq,hx⟩:=hg;obtain⟨its,rv,p,hz⟩:=I.tuple hq;obtain⟨u,hu,ru⟩:=rv.get hx;obtain⟨f0,f1,f2,f3,f4,f5⟩:=hf it (by simp);refine wpAny_pyNext_tuple_item st (show s.heap.IsTuple a its.toArray from p) (x:=u) (by simpa using hu) λh' st' sb=>?_
  have I1:Inv X pins O H {s with heap:=h'}:=I.turned (t':=s.toks) (λb o hb e=>(sb.2 b hb).trans e) f0 f1 f3 f4 f5
  obtain⟨o,e,c,d⟩:=id st';exact⟨u,rfl,WU (s:={s with heap:=h'}) e c d (by decide) ⟨x,H,I1,ru,⟨rfl,λys hy=>by rw[I.tuple_inj hy hq];exact hx⟩,st',λb hb=>(hf b hb).1⟩⟩
 done:=by
  intro X hP hw hK hc i pins s O H E I hf st hg;subst hP hw hK;obtain⟨xs,hq,hx⟩:=hg;obtain⟨its,rv,p,hz⟩:=I.tuple hq;obtain⟨f0,f1,f2,f3,f4,f5⟩:=hf it (by simp);have hl:=rv.length;exact wpAny_pyNext_tuple_end (I.ok.hd hc) st (show s.heap.IsTuple a its.toArray from p) (by simp;omega) λh' eb=>⟨rfl,I.turned (t':=s.toks) (λb o hb e=>eb b o hb e) f0 f1 f3 f4 f5⟩
 self:=λ_ _ _ _ _ st h=>wpAny_pyIter_tupleiter st h
def zBF{P:Program}{w:World}{K:qH}{tg:Expr}(it:Addr)(lo:Int)(n:Nat):Turn P w K tg (Itr lo n) [it] it (λi h=>IsRangeIter h it (lo+(i:Nat)*1) ((n:Int)-(i:Nat)) 1) where
 mem:=by simp
 obj:=λi h st b hb=>by
  have e:b=it:=by simpa using hb
  subst e;exact⟨_,st,λv z=>by
   have z':Data.fields _=Data.cell v:=z;cases z'⟩
 keep:=λi h h' st k=>k it (by simp) _ st
 item:=by
  intro X hP hw hK hc i pins s O H E I hf st hg;subst hP hw hK;obtain⟨f0,f1,f2,f3,f4,f5⟩:=hf it (by simp);have W:=Walks.range (prog:=X.prog) (w:=X.w) (I.ok.hd hc) it lo 1 n;refine W.item i s _ _ hg st λv h' tk hv st' kk=>?_
  obtain⟨t,rfl⟩:=hv;have I1:Inv X pins O H {s with heap:=h',toks:=tk}:=I.turned (λb o hb e=>kk b o (by simpa using hb) e) f0 f1 f3 f4 f5
  refine⟨_,rfl,WU (s:={s with heap:=h',toks:=tk}) (n:="range_iterator") st' rfl rfl (by decide) ⟨.int (lo+i),H,I1,⟨t,?_⟩,⟨rfl,rfl⟩,st',λb hb=>(hf b hb).1⟩⟩
  rw[Int.mul_one]
 done:=by
  intro X hP hw hK hc i pins s O H E I hf st hg;subst hP hw hK;obtain⟨f0,f1,f2,f3,f4,f5⟩:=hf it (by simp);exact wpAny_pyNext_range_end (I.ok.hd hc) st (by have:n<=i:=hg;omega) λh' eb=>⟨rfl,I.turned (t':=s.toks) (λb o hb e=>eb b o hb e) f0 f1 f3 f4 f5⟩
 self:=λ_ _ _ _ _ st h=>wpAny_pyIter_rangeiter st h
section
variable{X:Cx}{tg:Expr}
def iList(K:qH)(tl:TE):TI:=λO H R=>tl O H λx H1=>∃a,x=.ref a/\(∃xs,SqL K H1 a xs)/\R (Itl K a) H1
def iTup(K:qH)(tl:TE):TI:=λO H R=>tl O H λx H1=>∃a,x=.ref a/\(∃xs,SqT K H1 a xs)/\R (Itt K a) H1
def zBt{l:Expr}{tl:TE}(hl:PE X l tl):PI X tg l (iList X.K tl):=by
 intro pins s O H R I h;refine thn (hl pins s O H _ I h) λv s1 ⟨x,H1,I1,r1,q1⟩=>?_
 obtain⟨a,e,⟨xs,hq⟩,q⟩:=q1;subst e;cases r1;obtain⟨its,rv,p,hz⟩:=I1.list hq;refine wpAny_pyIter_list p.isList ?_;refine⟨s1.heap.objs.size,[s1.heap.objs.size],_,_,H1,rfl,I1.kept (t':=s1.toks) λb o e=>qA _ e,zBs a _,⟨_,get?_push_size _ rfl,rfl,rfl⟩,λb hb=>?_,q⟩;have e:b=s1.heap.objs.size:=by simpa using hb
 subst e;exact I1.fpOk (le_refl _) (I1.hok.fresh (le_refl _))
def pi_tup{l:Expr}{tl:TE}(hl:PE X l tl):PI X tg l (iTup X.K tl):=by
 intro pins s O H R I h;refine thn (hl pins s O H _ I h) λv s1 ⟨x,H1,I1,r1,q1⟩=>?_
 obtain⟨a,e,⟨xs,hq⟩,q⟩:=q1;subst e;cases r1;obtain⟨its,rv,p,hz⟩:=I1.tuple hq;refine wpAny_pyIter_tuple (show s1.heap.IsTuple a its.toArray from p) ?_;refine⟨s1.heap.objs.size,[s1.heap.objs.size],_,_,H1,rfl,I1.kept (t':=s1.toks) λb o e=>qA _ e,zBE a _,⟨_,get?_push_size _ rfl,rfl,rfl⟩,λb hb=>?_,q⟩;have e:b=s1.heap.objs.size:=by simpa using hb
 subst e;exact I1.fpOk (le_refl _) (I1.hok.fresh (le_refl _))
def zAN{pins:List (Addr×Obj)}{O:St}{H:Hp}{s:Shared}{R:It->Hp->Prop}{E:Value->Shared->Prop}{lo hi:Int}{t u v:Tok}{tk:Nat}(I:Inv X pins O H s)(h1:-(2^62)<=lo)(h2:lo<2^62)(h3:-(2^62)<=hi)(h4:hi<2^62)
  (q:R (Itr lo (hi-lo).toNat) H):wpAny (model X.prog X.w) X.A (pyIter (.ref s.heap.objs.size)) (PIE X pins O tg R) E {s with heap:=s.heap.push {cls:=.type "range",data:=.fields #[.int lo t,.int hi u,.int 1 v]},toks:=tk}:=by
 refine wpAny_pyIter_range (IsRange.new ..) (small_one h1 h2 h3 h4) ?_;have I1:Inv X pins O H {s with heap:=s.heap.push {cls:=.type "range",data:=.fields #[.int lo t,.int hi u,.int 1 v]},toks:=tk}:=I.kept λb o e=>qA _ e
 refine⟨(s.heap.push {cls:=.type "range",data:=.fields #[.int lo t,.int hi u,.int 1 v]}).objs.size,[(s.heap.push {cls:=.type "range",data:=.fields #[.int lo t,.int hi u,.int 1 v]}).objs.size],_,_,H,rfl,
  I1.kept (t':=tk) λb o e=>qA _ e,zBF _ lo (hi-lo).toNat,?_,λb hb=>?_,q⟩
 ·have e1:lo+((0:Nat):Int)*1=lo:=by simp
  have e2:(((hi-lo).toNat:Nat):Int)-((0:Nat):Int)=Builtin.Range.rangeSize lo hi 1:=by rw[rangeSize_one];split<;>omega
  show IsRangeIter _ _ (lo+((0:Nat):Int)*1) ((((hi-lo).toNat:Nat):Int)-((0:Nat):Int)) 1
  rw[e1,e2];exact get?_push_size _ rfl
 ·have e:b=(s.heap.push {cls:=.type "range",data:=.fields #[.int lo t,.int hi u,.int 1 v]}).objs.size:=by simpa using hb
  subst e;exact I1.fpOk (le_refl _) (I1.hok.fresh (le_refl _))
def iRng1(ta:TA):TI:=λO H R=>ta O H λvs H1=>∃j:Int,vs=[.int j]/\-(2^62)<=j/\j<2^62/\R (Itr 0 j.toNat) H1
def iRng2(ta:TA):TI:=λO H R=>ta O H λvs H1=>∃i j:Int,vs=[.int i,.int j]/\(-(2^62)<=i/\i<2^62/\-(2^62)<=j/\j<2^62)/\R (Itr i (j-i).toNat) H1
def GV{a:Expr}{ta:TA}{p pos:Pos}(hg:Gl X "range")(hm:X.mg "range"=none)(ha:PA X [a] ta)(hs:starEach [a] X.env=[(false,eval a X.env)]:=by rfl):PI X tg (.Call (.Name "range" p) [a] [] pos) (iRng1 ta):=by
 intro pins s O H R I h;refine Call_ (YZ I hg hm boot_range (PyProof.Rows.callWith_type1 (thn (ha pos pins s O H _ I h) λus s1 ⟨vs,H1,I1,r1,q1⟩=>?_) hs rfl));obtain⟨j,e,q1,q2,q⟩:=q1;subst e;cases r1 with
 |cons r rr =>
  cases rr;obtain⟨t,rfl⟩:=r;exact call_range_1 (zAN I1 (by omega) (by omega) q1 q2 (by simpa using q))
def zBu{a b:Expr}{ta:TA}{p pos:Pos}(hg:Gl X "range")(hm:X.mg "range"=none)(ha:PA X [a,b] ta)(hs:starEach [a,b] X.env=[(false,eval a X.env),(false,eval b X.env)]:=by rfl)(hs2:starEach [b] X.env=[(false,eval b X.env)]:=by rfl) :
  PI X tg (.Call (.Name "range" p) [a,b] [] pos) (iRng2 ta):=by
 intro pins s O H R I h;refine Call_ (YZ I hg hm boot_range (PyProof.Rows.callWith_type1 (thn (ha pos pins s O H _ I h) λus s1 ⟨vs,H1,I1,r1,q1⟩=>?_) (by rw[hs,hs2]) (by rw[hs2];rfl)));obtain⟨i,j,e,⟨q1,q2,q3,q4⟩,q⟩:=q1;subst e;cases r1 with
 |cons r rr =>
  cases rr with
  |cons r' rr =>
   cases rr;obtain⟨t,rfl⟩:=r;obtain⟨t',rfl⟩:=r';exact call_range_2 (zAN I1 q1 q2 q3 q4 q)
def tFor(wi:TI)(g:TG)(tb:TS):TS:=λD O H=>wi O H λJ H1=>∃W:Nat->Nat->St->Hp->Prop,(∃m,W 0 m O H1)/\∀i m O H,W i m O H ->
 (J.stop i H/\D.nx O H)\/(J.go i H/\∃N:St->Hp->Prop,(∀O' H',N O' H'->∃m',m'<m/\W (i+1) m' O' H')/\∀x H',J.yld i H x H'->g x O H' λO2 H2=>tb {D with nx:=N,ct:=N,bk:=D.nx} O2 H2)
def vc(fp:List Addr)(h:Heap):List (Addr×Obj):=fp.filterMap λb=>(h.get? b).map λo=>(b,o)
def jj{fp:List Addr}{h:Heap}{b:Addr}{o:Obj}(hb:b∈fp)(e:h.get? b=some o):(b,o)∈vc fp h:=mem_filterMap.mpr ⟨b,hb,by rw[e];rfl⟩
def zBv{fp:List Addr}{h:Heap}{p:Addr×Obj}(hp:p∈vc fp h):p.1∈fp/\h.get? p.1=some p.2:=by
 obtain⟨b,hb,e⟩:=mem_filterMap.mp hp;cases q:h.get? b with
 |none=>rw[q]at e;cases e
 |some o =>
  rw[q]at e;have e':(b,o)=p:=qJ e;subst e';exact⟨hb,q⟩
def Inv.pinned{pins:List (Addr×Obj)}{O:St}{H:Hp}{s:Shared}{fp:List Addr}(I:Inv X pins O H s)(hf:∀b∈fp,Qe X pins H b)(ho:∀b∈fp,∃o,s.heap.get? b=some o/\∀v,o.data≠.cell v):Inv X (pins++vc fp s.heap) O H s :=
 I.pins_of λp hp=>(mem_append.mp hp).elim (λz=>I.pin p (qK _ z)) λz=>by
  obtain⟨hb,e⟩:=zBv z;obtain⟨f0,f1,f2,_⟩:=hf p.1 hb;obtain⟨o,e',d⟩:=ho p.1 hb;rw[e]at e';cases e';exact⟨e,f0,f1,f2,d⟩
def Inv.unpinned{pins pl:List (Addr×Obj)}{O:St}{H:Hp}{s:Shared}(I:Inv X (pins++pl) O H s):Inv X pins O H s:=I.pins_of λp hp=>I.pin p (qK _ (mem_append_left _ hp))
def zBw{iter:Expr}{body:List Stmt}{wi:TI}{g:TG}{tb:TS}{pos:Pos}(hp:PassesOwn (model X.prog X.w) X.A X.env X.xe)(hc:X.calm=true)(hi:PI X tg iter wi)(hg:PG X tg g)(hb:PSs X body tb)
  (hs:∀x,foldedSetIterable iter X.env x=pure x:=by intro _;rfl):PS X (.For tg iter body [] pos) (tFor wi g tb):=by
 intro pins s O H D I h;refine wpAny_For (thn (hi pins s O H _ I h) λv s1 h1=>thn h1 λitv s2 h2=>?_) hs;obtain⟨it,fp,tn,J,H2,e,I2,T,st2,f2,W,⟨m0,w0⟩,turn⟩:=h2;subst e
 -- what stays true of the iterator's objects through the loop
 have stat:∀{H':Hp},(∀b∈fp,H' b=none)->∀b∈fp,Qe X pins H' b:=λhn b hb=>⟨hn b hb,(f2 b hb).2⟩
 refine codeAny_forLoop_any (λn s'=>∃i O' H',Inv X pins O' H' s'/\tn i s'.heap/\(∀b∈fp,H' b=none)/\W i n O' H') ?_ m0 ⟨0,O,H2,I2,st2,λb hb=>(f2 b hb).1,w0⟩
 rintro n s3 ⟨i,O3,H3,I3,st3,fr3,w3⟩
 rcases turn i n O3 H3 w3 with⟨stop,qn⟩|⟨go,N,hN,step⟩
 ·refine wpAny_passesOwn hp (thn (T.done X rfl rfl rfl hc i pins s3 O3 H3 X.xe I3 (stat fr3) st3 stop) λr s4 ⟨hr,I4⟩=>?_)
  subst hr;exact wpAny_execs_nil ⟨O3,H3,I4,qn⟩
 ·refine wpAny_passesOwn hp (thn (T.item X rfl rfl rfl hc i pins s3 O3 H3 X.xe I3 (stat fr3) st3 go) λr s4 ⟨u,hr,h4⟩=>?_)
  subst hr;refine wpAny_passesOwn hp (thn h4 λ_ s5 ⟨x,H5,I5,r5,y5,st5,fr5⟩=>?_);have I5':=I5.pinned (stat fr5) (T.obj _ _ st5);refine wpAny_passesOwn hp (thn (hg _ s5 O3 H5 x u _ I5' r5 (step x H5 y5)) λ_ s6 ⟨O6,H6,I6,q6⟩=>?_);refine wpAny_passesOwn hp (thn (hb _ s6 O6 H6 _ I6 q6) λf s7 q7=>?_);have again:∀{O7:St} {H7:Hp},Inv X (pins++vc fp s5.heap) O7 H7 s7->N O7 H7->∃m,m<n/\∃i O' H',Inv X pins O' H' s7/\tn i s7.heap/\(∀b∈fp,H' b=none)/\W i m O' H':=λ{O7 H7} I7 n7=>by
   obtain⟨m',hm,w7⟩:=hN O7 H7 n7;refine⟨m',hm,i+1,O7,H7,I7.unpinned,T.keep _ _ _ st5 λb hb o e=>(I7.pin (b,o) (qK _ (qK _ (jj hb e)))).1,λb hb=>?_,w7⟩;obtain⟨o,e,d⟩:=T.obj _ _ st5 b hb;exact(I7.pin (b,o) (qK _ (qK _ (jj hb e)))).2.1
  cases f with
  |next=>obtain⟨O7,H7,I7,n7⟩:=q7;exact again I7 n7|cont=>obtain⟨O7,H7,I7,n7⟩:=q7;exact again I7 n7|brk=>obtain⟨O7,H7,I7,q7⟩:=q7;exact⟨O7,H7,I7.unpinned,q7⟩|ret v=>obtain⟨x7,O7,H7,I7,r7,q7⟩:=q7;exact⟨x7,O7,H7,I7.unpinned,r7,q7⟩
end
def zDv{K:qH}{a:Addr}{xs:List V}{g:TG}{tb:TS}{D:Ends}{O:St}{H:Hp}(Pv:Nat->St->Hp->Prop)(h0:Pv 0 O H)(hl:∀i O H,i<=xs.length->Pv i O H->SqL K H a xs)
  (hs:∀i x O H,xs[i]?=some x->Pv i O H->g x O H λO2 H2=>tb {D with nx:=Pv (i+1),ct:=Pv (i+1),bk:=D.nx} O2 H2) (hd:∀O H,Pv xs.length O H->D.nx O H) :
  ∃W:Nat->Nat->St->Hp->Prop,(∃m,W 0 m O H)/\∀i m O H,W i m O H ->
   ((Itl K a).stop i H/\D.nx O H)\/((Itl K a).go i H/\∃N:St->Hp->Prop,(∀O' H',N O' H'->∃m',m'<m/\W (i+1) m' O' H')/\∀x H',(Itl K a).yld i H x H'->g x O H' λO2 H2=>tb {D with nx:=N,ct:=N,bk:=D.nx} O2 H2):=by
 refine⟨λi m O H=>m=xs.length-i/\i<=xs.length/\Pv i O H,⟨xs.length,by simp,zero_le _,h0⟩,?_⟩
 rintro i m O H ⟨rfl,hi,p⟩
 have q:=hl i O H hi p;by_cases hlt:i<xs.length
 ·refine .inr ⟨⟨xs,xs[i],q,by simp[hlt]⟩,Pv (i+1),λO' H' p'=>⟨xs.length-(i+1),by omega,rfl,hlt,p'⟩,λx H' y=>?_⟩
  obtain⟨e,y⟩:=y;subst e;exact hs i x O _ (y xs q) p
 ·have e:i=xs.length:=by omega
  subst e;exact .inl ⟨⟨xs,q,le_refl _⟩,hd O H p⟩
def zBx{lo:Int}{n:Nat}{g:TG}{tb:TS}{D:Ends}{O:St}{H:Hp}(Pv:Nat->St->Hp->Prop)(h0:Pv 0 O H)
  (hs:∀i O H,i<n->Pv i O H->g (.int (lo+i)) O H λO2 H2=>tb {D with nx:=Pv (i+1),ct:=Pv (i+1),bk:=D.nx} O2 H2) (hd:∀O H,Pv n O H->D.nx O H) :
  ∃W:Nat->Nat->St->Hp->Prop,(∃m,W 0 m O H)/\∀i m O H,W i m O H ->
   ((Itr lo n).stop i H/\D.nx O H)\/((Itr lo n).go i H/\∃N:St->Hp->Prop,(∀O' H',N O' H'->∃m',m'<m/\W (i+1) m' O' H')/\∀x H',(Itr lo n).yld i H x H'->g x O H' λO2 H2=>tb {D with nx:=N,ct:=N,bk:=D.nx} O2 H2):=by
 refine⟨λi m O H=>m=n-i/\i<=n/\Pv i O H,⟨n,by simp,zero_le _,h0⟩,?_⟩
 rintro i m O H ⟨rfl,hi,p⟩
 by_cases hlt:i<n
 ·refine .inr ⟨hlt,Pv (i+1),λO' H' p'=>⟨n-(i+1),by omega,rfl,hlt,p'⟩,λx H' y=>?_⟩
  obtain⟨e,y⟩:=y;subst e y;exact hs i O _ hlt p
 ·have e:i=n:=by omega
  subst e;exact .inl ⟨le_refl _,hd O H p⟩
abbrev R2:=V->V->Hp->VK->Prop
def OpR(X:Cx)(f:Value->Value->Sem Value)(r:R2):Prop :=
 ∀(pins:List (Addr×Obj)) (s:Shared) (O:St) (H:Hp) (x y:V) (v u:Value) (Q:VK),Inv X pins O H s->yK x v->yK y u->r x y H Q ->
  wpAny (model X.prog X.w) X.A (f v u) (EP X pins O Q) X.xe s
def UnR(X:Cx)(f:Value->Sem Value)(r:V->Hp->VK->Prop):Prop :=
 ∀(pins:List (Addr×Obj)) (s:Shared) (O:St) (H:Hp) (x:V) (v:Value) (Q:VK),Inv X pins O H s->yK x v->r x H Q ->
  wpAny (model X.prog X.w) X.A (f v) (EP X pins O Q) X.xe s
def Je(X:Cx)(f:Value)(r:List V->Hp->VK->Prop):Prop :=
 ∀(pins:List (Addr×Obj)) (s:Shared) (O:St) (H:Hp) (xs:List V) (us:List Value) (Q:VK),Inv X pins O H s->ya xs us->r xs H Q ->
  wpAny (model X.prog X.w) X.A (call f us) (EP X pins O Q) X.xe s
def tOp(r:R2)(ta tb:TE):TE:=λO H Q=>ta O H λx H1=>tb O H1 λy H2=>r x y H2 Q
def tUn(r:V->Hp->VK->Prop)(ta:TE):TE:=λO H Q=>ta O H λx H1=>r x H1 Q
def rI(C:Int->Int->Prop)(g:Int->Int->V):R2:=λx y H Q=>∃i j,x=.int i/\y=.int j/\C i j/\Q (g i j) H
def rI0(g:Int->Int->V):R2:=λx y H Q=>∃i j,x=.int i/\y=.int j/\Q (g i j) H
def rU(g:Int->V):V->Hp->VK->Prop:=λx H Q=>∃i,x=.int i/\Q (g i) H
section
variable{X:Cx}{a b c:Expr}{ta tb tc:TE}{pos:Pos}
def binT(ha:PE X a ta)(hb:PE X b tb){pins:List (Addr×Obj)}{s:Shared}{O:St}{H:Hp}{R:V->V->Hp->Prop}(I:Inv X pins O H s)
  (h:ta O H λx H1=>tb O H1 λy H2=>R x y H2) {Q:Value->Shared->Prop} {f:Value->Value->Sem Value}
  (hf:∀v u s2 x y H2,Inv X pins O H2 s2->yK x v->yK y u->R x y H2->wpAny (model X.prog X.w) X.A (f v u) Q X.xe s2) :
  wpAny (model X.prog X.w) X.A (eval a X.env) (λv s₁=>wpAny (model X.prog X.w) X.A (eval b X.env) (λu s₂=>wpAny (model X.prog X.w) X.A (f v u) Q X.xe s₂) X.xe s₁) X.xe s:=by
 refine thn (ha pins s O H _ I h) λv s1 ⟨x,H1,I1,r1,q1⟩=>?_
 refine thn (hb pins s1 O H1 _ I1 q1) λu s2 ⟨y,H2,I2,r2,q2⟩=>?_
 exact hf v u s2 x y H2 I2 r1 r2 q2
def pe_op{op:Operator}{r:R2}(ho:OpR X (binaryOp op) r)(ha:PE X a ta)(hb:PE X b tb):PE X (.BinOp a op b pos) (tOp r ta tb):=by
 intro pins s O H Q I h;exact wpAny_BinOp (binT ha hb I h λv u s2 x y H2 I2 rx ry q=>ho pins s2 O H2 x y v u Q I2 rx ry q)
def pe_un{op:UnaryOp}{r:V->Hp->VK->Prop}(ho:UnR X (unaryOp op) r)(ha:PE X a ta):PE X (.UnaryOp op a pos) (tUn r ta):=by
 intro pins s O H Q I h;exact UnaryOp_ (thn (ha pins s O H _ I h) λv s1 ⟨x,H1,I1,r1,q1⟩=>ho pins s1 O H1 x v Q I1 r1 q1)
def opI{f:Value->Value->Sem Value}{C:Int->Int->Prop}{g:Int->Int->Int}
  (rule:∀(i j:Int) (t u:Tok) (s:Shared) (Q:Value->Shared->Prop) (E:Value->Shared->Prop),C i j->Q (.int (g i j) s.toks) {s with toks:=s.toks+1}->wpAny (model X.prog X.w) X.A (f (.int i t) (.int j u)) Q E s) :
  OpR X f (rI C λi j=>.int (g i j)):=by
 intro pins s O H x y v u Q I rx ry h;obtain⟨i,j,rfl,rfl,hc,q⟩:=h;obtain⟨t,rfl⟩:=rx;obtain⟨t',rfl⟩:=ry;exact rule i j t t' s _ _ hc ⟨.int (g i j),H,I.tok _,⟨_,rfl⟩,q⟩
def opI0{f:Value->Value->Sem Value}{g:Int->Int->Int}
  (rule:∀(i j:Int) (t u:Tok) (s:Shared) (Q:Value->Shared->Prop) (E:Value->Shared->Prop),Q (.int (g i j) s.toks) {s with toks:=s.toks+1}->wpAny (model X.prog X.w) X.A (f (.int i t) (.int j u)) Q E s) :
  OpR X f (rI0 λi j=>.int (g i j)):=by
 intro pins s O H x y v u Q I rx ry h;obtain⟨i,j,rfl,rfl,q⟩:=h;obtain⟨t,rfl⟩:=rx;obtain⟨t',rfl⟩:=ry;exact rule i j t t' s _ _ ⟨.int (g i j),H,I.tok _,⟨_,rfl⟩,q⟩
def opB0{f:Value->Value->Sem Value}{g:Int->Int->Bool}
  (rule:∀(i j:Int) (t u:Tok) (s:Shared) (Q:Value->Shared->Prop) (E:Value->Shared->Prop),Q (.bool (g i j)) s->wpAny (model X.prog X.w) X.A (f (.int i t) (.int j u)) Q E s) :
  OpR X f (rI0 λi j=>.bl (g i j)):=by
 intro pins s O H x y v u Q I rx ry h;obtain⟨i,j,rfl,rfl,q⟩:=h;obtain⟨t,rfl⟩:=rx;obtain⟨t',rfl⟩:=ry;exact rule i j t t' s _ _ ⟨.bl (g i j),H,I,rfl,q⟩
def CPow(i j:Int):Prop:=0<=j/\j<=1000000/\i.natAbs<2^64
def CMul(i j:Int):Prop:=(-(2^64)<i/\i<2^64)\/(-(2^64)<j/\j<2^64)
def CMul.ok{i j:Int}(h:CMul i j):IntMulOk i j:=by
 rcases h with⟨h1,h2⟩|⟨h1,h2⟩
 ·exact .of_left (intBits_le_64 h1 h2)
 ·exact .of_right (intBits_le_64 h1 h2)
def op_add:OpR X (binaryOp .Add) (rI0 λi j=>.int (i+j)):=opI0 λ_ _ _ _ _ _ _ q=>add_int q
def op_sub:OpR X (binaryOp .Sub) (rI0 λi j=>.int (i-j)):=opI0 λ_ _ _ _ _ _ _ q=>sub_int q
def op_mod:OpR X (binaryOp .Mod) (rI (λ_ j=>0<j) λi j=>.int (i%j)):=opI λi j _ _ _ _ _ hc q=>by
 have h1:(0:Int)<j:=hc;exact mod_int' (by omega) (by rw[Int.fmod_eq_emod_of_nonneg i (by omega)];exact q)
def op_pow:OpR X (binaryOp .Pow) (rI CPow λi j=>.int (i^j.toNat)):=opI λ_ _ _ _ _ _ _ hc q=>pow_int_small hc.1 hc.2.1 hc.2.2 q
def unI{f:Value->Sem Value}{g:Int->Int}
  (rule:∀(i:Int) (t:Tok) (s:Shared) (Q:Value->Shared->Prop) (E:Value->Shared->Prop),Q (.int (g i) s.toks) {s with toks:=s.toks+1}->wpAny (model X.prog X.w) X.A (f (.int i t)) Q E s) :
  UnR X f (rU λi=>.int (g i)):=by
 intro pins s O H x v Q I rx h;obtain⟨i,rfl,q⟩:=h;obtain⟨t,rfl⟩:=rx;exact rule i t s _ _ ⟨.int (g i),H,I.tok _,⟨_,rfl⟩,q⟩
def un_neg:UnR X (unaryOp .USub) (rU λi=>.int (-i)):=unI λ_ _ _ _ _ q=>neg_int q
end
def scal:V->V->Bool
 | .non,.non=>true | .non,.int _=>true | .int _,.non=>true | .non,.bl _=>true | .bl _,.non=>true | .non,.str _=>true | .str _,.non=>true
 | .int _,.int _=>true | .bl _,.bl _=>true | .str _,.str _=>true | .byt _,.byt _=>true
 | .int _,.str _=>true | .str _,.int _=>true | .bl _,.str _=>true | .str _,.bl _=>true
 |_,_=>false
def rEq:R2:=λx y H Q=>scal x y=true/\Q (.bl (decide (x=y))) H
def rNe:R2:=λx y H Q=>scal x y=true/\Q (.bl (!decide (x=y))) H
def zBy{i j:Int}:decide (V.int i=V.int j)=(i==j):=by
 rw[Bool.eq_iff_iff];simp
def zFX{i j:Bool}:decide (V.bl i=V.bl j)=(i==j):=by
 rw[Bool.eq_iff_iff];simp
def zBz{i j:Str}:decide (V.str i=V.str j)=(i==j):=by
 rw[Bool.eq_iff_iff];simp
def zB0{i j:Array UInt8}:decide (V.byt i=V.byt j)=(i.toList==j.toList):=by
 rw[Bool.eq_iff_iff];cases i;cases j;simp
section
variable{X:Cx}{a b c:Expr}{ta tb tc:TE}{pos:Pos}
def yA{pins:List (Addr×Obj)}{O:St}{H:Hp}{s:Shared}{Q:VK}{k k':Bool}(I:Inv X pins O H s)(q:Q (.bl k) H)(e:k=k'):EP X pins O Q (.bool k') s:=by
 subst e;exact⟨.bl k,H,I,rfl,q⟩
def op_eq:OpR X (compareOp .Eq) rEq:=by
 intro pins s O H x y v u Q I rx ry h;obtain⟨hs,q⟩:=h;cases x with
 |non =>
  cases rx;cases y with
  |non=>cases ry;exact PySem.EqNone.eq_none_none (yA I q (by simp))|bl j=>cases ry;exact PySem.EqNone.eq_none_bool (yA I q (by simp))|int j=>obtain⟨t',rfl⟩:=ry;exact PySem.EqNone.eq_none_int (yA I q (by simp))|str j=>obtain⟨t',rfl⟩:=ry;exact PySem.EqNone.eq_none_str (yA I q (by simp))|_=>exact absurd (show false=true from hs) qF
 |bl i =>
  cases rx;cases y with
  |non=>cases ry;exact PySem.EqNone.eq_bool_none (yA I q (by simp))|bl j=>cases ry;exact eq_bool (yA I q zFX)|str j=>obtain⟨t',rfl⟩:=ry;exact PySem.EqMixed.eq_bool_str (yA I q (by simp))|_=>exact absurd (show false=true from hs) qF
 |int i =>
  obtain⟨t,rfl⟩:=rx;cases y with
  |non=>cases ry;exact PySem.EqNone.eq_int_none (yA I q (by simp))|int j=>obtain⟨t',rfl⟩:=ry;exact eq_int (yA I q zBy)|str j=>obtain⟨t',rfl⟩:=ry;exact PySem.EqMixed.eq_int_str (yA I q (by simp))|_=>exact absurd (show false=true from hs) qF
 |str i =>
  obtain⟨t,rfl⟩:=rx;cases y with
  |non=>cases ry;exact PySem.EqNone.eq_str_none (yA I q (by simp))|bl j=>cases ry;exact PySem.EqMixed.eq_str_bool (yA I q (by simp))|int j=>obtain⟨t',rfl⟩:=ry;exact PySem.EqMixed.eq_str_int (yA I q (by simp))|str j=>obtain⟨t',rfl⟩:=ry;exact eq_str (yA I q zBz)|_=>exact absurd (show false=true from hs) qF
 |byt i =>
  obtain⟨t,rfl⟩:=rx;cases y with
  |byt j=>obtain⟨t',rfl⟩:=ry;exact PySem.W.eq_bytes (yA I q zB0)|_=>exact absurd (show false=true from hs) qF
 |_=>cases y<;>exact absurd (show false=true from hs) qF
def op_ne:OpR X (compareOp .NotEq) rNe:=by
 intro pins s O H x y v u Q I rx ry h;obtain⟨hs,q⟩:=h;cases x with
 |non =>
  cases rx;cases y with
  |non=>cases ry;exact PySem.EqNone.ne_none_none (yA I q (by simp))|bl j=>cases ry;exact PySem.EqNone.ne_none_bool (yA I q (by simp))|int j=>obtain⟨t',rfl⟩:=ry;exact PySem.EqNone.ne_none_int (yA I q (by simp))|str j=>obtain⟨t',rfl⟩:=ry;exact PySem.EqNone.ne_none_str (yA I q (by simp))|_=>exact absurd (show false=true from hs) qF
 |bl i =>
  cases rx;cases y with
  |non=>cases ry;exact PySem.EqNone.ne_bool_none (yA I q (by simp))|bl j=>cases ry;exact ne_bool (yA I q (congrArg not zFX))|str j=>obtain⟨t',rfl⟩:=ry;exact PySem.EqMixed.ne_bool_str (yA I q (by simp))|_=>exact absurd (show false=true from hs) qF
 |int i =>
  obtain⟨t,rfl⟩:=rx;cases y with
  |non=>cases ry;exact PySem.EqNone.ne_int_none (yA I q (by simp))|int j=>obtain⟨t',rfl⟩:=ry;exact ne_int (yA I q (congrArg not zBy))|str j=>obtain⟨t',rfl⟩:=ry;exact PySem.EqMixed.ne_int_str (yA I q (by simp))|_=>exact absurd (show false=true from hs) qF
 |str i =>
  obtain⟨t,rfl⟩:=rx;cases y with
  |non=>cases ry;exact PySem.EqNone.ne_str_none (yA I q (by simp))|bl j=>cases ry;exact PySem.EqMixed.ne_str_bool (yA I q (by simp))|int j=>obtain⟨t',rfl⟩:=ry;exact PySem.EqMixed.ne_str_int (yA I q (by simp))|str j=>obtain⟨t',rfl⟩:=ry;exact ne_str (yA I q (congrArg not zBz))|_=>exact absurd (show false=true from hs) qF
 |byt i =>
  obtain⟨t,rfl⟩:=rx;cases y with
  |byt j=>obtain⟨t',rfl⟩:=ry;exact PySem.W.ne_bytes (yA I q (congrArg not zB0))|_=>exact absurd (show false=true from hs) qF
 |_=>cases y<;>exact absurd (show false=true from hs) qF
def op_lt:OpR X (compareOp .Lt) (rI0 λi j=>.bl (decide (i<j))):=opB0 λ_ _ _ _ _ _ _ q=>lt_int q
def op_le:OpR X (compareOp .LtE) (rI0 λi j=>.bl (decide (i<=j))):=opB0 λ_ _ _ _ _ _ _ q=>le_int q
def op_gt:OpR X (compareOp .Gt) (rI0 λi j=>.bl (decide (j<i))):=opB0 λ_ _ _ _ _ _ _ q=>gt_int q
def op_ge:OpR X (compareOp .GtE) (rI0 λi j=>.bl (decide (j<=i))):=opB0 λ_ _ _ _ _ _ _ q=>ge_int q
def OpR.or{f:Value->Value->Sem Value}{r r':R2}(h:OpR X f r)(h':OpR X f r'):OpR X f (λx y H Q=>r x y H Q\/r' x y H Q):=by
 intro pins s O H x y v u Q I rx ry q;rcases q with q|q
 ·exact h pins s O H x y v u Q I rx ry q
 ·exact h' pins s O H x y v u Q I rx ry q
def pe_cmpR{op:CmpOp}{r:R2}(ho:OpR X (compareOp op) r)(ha:PE X a ta)(hb:PE X b tb)(hm:behindInMarks op b=false):PE X (.Compare a [op] [b] pos) (tOp r ta tb):=by
 intro pins s O H Q I h;exact wpAny_Compare1 (binT ha hb I h λv u s2 x y H2 I2 rx ry q=>ho pins s2 O H2 x y v u Q I2 rx ry q) hm
def tTest(t:TE):TT:=λO H Q=>t O H λx H'=>∃k,x=.bl k/\Q k H'
def pt_cmpR{op:CmpOp}{r:R2}(ho:OpR X (compareOp op) r)(ha:PE X a ta)(hb:PE X b tb)(hm:behindInMarks op b=false):PT X (.Compare a [op] [b] pos) (tTest (tOp r ta tb)):=by
 intro pins s O H Q I h;refine wpAny_isTrue_Compare1 (thn (ha pins s O H _ I h) λv s1 ⟨x,H1,I1,r1,q1⟩=>thn (hb pins s1 O H1 _ I1 q1) λu s2 ⟨y,H2,I2,r2,q2⟩ =>
  thn (ho pins s2 O H2 x y v u _ I2 r1 r2 q2) λc s3 ⟨z,H3,I3,r3,k,e,q3⟩=>?_) hm
 subst e;cases r3;exact wpAny_truthy_bool ⟨H3,I3,q3⟩
def zB1(r r':R2)(ta tb tc:TE):TE:=λO H Q=>ta O H λx H1=>tb O H1 λy H2=>r x y H2 λz H3=>∃k,z=.bl k /\
 (if k=true then tc O H3 λw' H4=>r' y w' H4 Q else Q (.bl false) H3)
def zDw{op op':CmpOp}{r r':R2}(ho:OpR X (compareOp op) r)(ho':OpR X (compareOp op') r')(ha:PE X a ta)(hb:PE X b tb)(hc:PE X c tc)
  (hm:lastMarks [op,op'] [b,c]=false:=by with_unfolding_all rfl):PE X (.Compare a [op,op'] [b,c] pos) (zB1 r r' ta tb tc):=by
 intro pins s O H Q I h;refine Compare_chain (thn (ha pins s O H _ I h) λv s1 ⟨x,H1,I1,r1,q1⟩=>chain_link (thn (hb pins s1 O H1 _ I1 q1) λu s2 ⟨y,H2,I2,r2,q2⟩ =>
  thn (ho pins s2 O H2 x y v u _ I2 r1 r2 q2) λd s3 ⟨z,H3,I3,r3,k,e,q3⟩=>?_)) hm
 subst e;cases r3;refine wpAny_truthy_bool ?_;cases k with
 |false=>exact ite_ff ⟨.bl false,H3,I3,rfl,q3⟩|true=>exact ite_tt (chain_last (thn (hc pins s3 O H3 _ I3 q3) λw' s4 ⟨z',H4,I4,r4,q4⟩=>ho' pins s4 O H4 y z' u w' Q I4 r2 r4 q4))
def zDx{op op':CmpOp}{r r':R2}(ho:OpR X (compareOp op) r)(ho':OpR X (compareOp op') r')(ha:PE X a ta)(hb:PE X b tb)(hc:PE X c tc)
  (hm:lastMarks [op,op'] [b,c]=false:=by with_unfolding_all rfl):PT X (.Compare a [op,op'] [b,c] pos) (tTest (zB1 r r' ta tb tc)):=by
 intro pins s O H Q I h;refine isTrue_chain (thn (ha pins s O H _ I h) λv s1 ⟨x,H1,I1,r1,q1⟩=>test_link (thn (hb pins s1 O H1 _ I1 q1) λu s2 ⟨y,H2,I2,r2,q2⟩ =>
  thn (ho pins s2 O H2 x y v u _ I2 r1 r2 q2) λd s3 ⟨z,H3,I3,r3,k,e,q3⟩=>?_)) hm
 subst e;cases r3;refine wpAny_truthy_bool ?_;cases k with
 |false =>
  obtain⟨k',e',q'⟩:=q3;cases e';exact ite_ff ⟨H3,I3,q'⟩
 |true =>
  refine ite_tt (test_last (thn (hc pins s3 O H3 _ I3 q3) λw' s4 ⟨z',H4,I4,r4,q4⟩=>thn (ho' pins s4 O H4 y z' u w' _ I4 r2 r4 q4) λd' s5 ⟨z2,H5,I5,r5,k2,e2,q5⟩=>?_));subst e2;cases r5;exact wpAny_truthy_bool ⟨H5,I5,q5⟩
def zAO:(sizeLine:Nat)<2^63:=by rw[sizeLine_eq];decide
def GW{x:V}{us:List Value}(r:ya [x] us):∃u,us=[u]/\yK x u:=by
 cases r with
 |cons r1 r2=>cases r2;exact⟨_,rfl,r1⟩
def vals2{x y:V}{us:List Value}(r:ya [x,y] us):∃u w',us=[u,w']/\yK x u/\yK y w':=by
 cases r with
 |cons r1 r2 =>
  cases r2 with
  |cons r3 r4=>cases r4;exact⟨_,_,rfl,r1,r3⟩
def zDy:Je X (.builtin "abs") (λxs H Q=>∃i,xs=[.int i]/\Q (.int (if i<0 then -i else i)) H):=by
 intro pins s O H xs us Q I r h;obtain⟨i,rfl,q⟩:=h;obtain⟨u,rfl,t,rfl⟩:=GW r;exact call_abs_int λu tk=>⟨.int (if i<0 then -i else i),H,I.tok _,⟨_,rfl⟩,q⟩
def zB2(hc:X.calm=true):Je X (.builtin "max") (λxs H Q=>∃i j,xs=[.int i,.int j]/\Q (.int (if j > i then j else i)) H):=by
 intro pins s O H xs us Q I r h;obtain⟨i,j,rfl,q⟩:=h;obtain⟨u,w',rfl,⟨t,rfl⟩,⟨t',rfl⟩⟩:=vals2 r;refine max_two_ints (I.ok.hd hc) λh' tk k=>⟨_,H,I.kept k,?_,q⟩
 by_cases hj:j > i
 ·rw[if_pos hj,if_pos hj];exact⟨_,rfl⟩
 ·rw[if_neg hj,if_neg hj];exact⟨_,rfl⟩
def zB3:Je X (.type "int") (λxs H Q=>(∃i,xs=[.int i]/\Q (.int i) H)\/∃k,xs=[.bl k]/\Q (.int (if k then 1 else 0)) H):=by
 intro pins s O H xs us Q I r h;rcases h with⟨i,rfl,q⟩|⟨k,rfl,q⟩
 ·obtain⟨u,rfl,t,rfl⟩:=GW r
  exact call_int_int ⟨.int i,H,I,⟨_,rfl⟩,q⟩
 ·obtain⟨u,rfl,r1⟩:=GW r
  cases r1;exact call_int_bool ⟨.int (if k then 1 else 0),H,I.tok _,⟨_,rfl⟩,q⟩
end
structure Room(k:Nat)(A:Around):Prop where
 hd:A.handled=none
 gd:A.guards=some []
 dp:A.depth+3*k+5<recursionLimit
 un:A.units+16*k+200<cLine
def Room.mono{j k:Nat}{A:Around}(r:Room k A)(h:j<=k):Room j A:=⟨r.hd,r.gd,by have:=r.dp;omega,by have:=r.un;omega⟩
def tNil:TA:=λ_ H Q=>Q [] H
def tCons(ta:TE)(tr:TA):TA:=λO H Q=>ta O H λx H1=>tr O H1 λxs H2=>Q (x::xs) H2
section
variable{X:Cx}{e:Expr}{es:List Expr}{te:TE}{t:TA}{pos:Pos}
def zB4:PA X [] tNil:=λ_ _ _ _ H Q I h=>Calls.spliced_nil ⟨[],H,I,.nil,h⟩
def WV(ha:PE X e te)(hr:PA X es t)(hs:starEach (e::es) X.env=(false,eval e X.env)::starEach es X.env:=by rfl):PA X (e::es) (tCons te t):=by
 intro pos pins s O H Q I h;rw[hs];show wpAny _ _ (spliced ((false,eval e X.env)::backTo pos (starEach es X.env))) _ _ s;refine Calls.spliced_cons (thn (ha pins s O H _ I h) λu s1 ⟨x,H1,I1,r1,q1⟩=>?_);exact thn (hr pos pins s1 O H1 _ I1 q1) λus s2 ⟨xs,H2,I2,r2,q2⟩=>⟨x::xs,H2,I2,.cons r1 r2,q2⟩
def tTup(t:TA):TE:=λO H Q=>t O H λxs H1=>xs.length<=sizeLine/\∀p,H1 p=none->Q (.ref p) (upd H1 p (.t xs))
def tLst(t:TA):TE:=λO H Q=>t O H λxs H1=>xs.length<=sizeLine/\∀p,H1 p=none->Q (.ref p) (upd H1 p (.l xs))
def pe_tup{x1}(h:PA X es t):PE X (.Tuple es x1 pos) (tTup t):=by
 intro pins s O H Q I hq;refine wpAny_Tuple_spliced (thn (h pos pins s O H _ I hq) λus s1 ⟨xs,H1,I1,r,z,q⟩=>⟨by rw[<- r.length];exact z,?_⟩);have hf:H1 s1.heap.objs.size=none:=I1.hok.fresh (le_refl _);refine⟨.ref s1.heap.objs.size,upd H1 s1.heap.objs.size (.t xs),I1.laid (t':=s1.toks) (λb u e=>qA _ e) (le_refl _) ?_,rfl,q _ hf⟩;exact⟨z,us,r,⟨_,get?_push_size _ rfl,rfl,_,rfl⟩⟩
def pe_lst(h:PA X es t):PE X (.List es pos) (tLst t):=by
 intro pins s O H Q I hq;refine wpAny_List_spliced (thn (h pos pins s O H _ I hq) λus s1 ⟨xs,H1,I1,r,z,q⟩=>⟨by rw[<- r.length];exact z,?_⟩);have hf:H1 s1.heap.objs.size=none:=I1.hok.fresh (le_refl _);refine⟨.ref s1.heap.objs.size,upd H1 s1.heap.objs.size (.l xs),I1.laid (t':=s1.toks) (λb u e=>qA _ e) (le_refl _) ?_,rfl,q _ hf⟩;exact⟨z,us,0,r,get?_push_size _ rfl⟩
end
abbrev Sp:=List V->Hp->VK->XK->Prop
abbrev CXT:=List Env->Hp->Shared->XK->Value->Shared->Prop
structure Env0(P:Program)(w:World)(K:qH)(mg:Str->Option Value)(base:Heap)(A:Around)(outer:List Env)(s:Shared)(H:Hp):Prop where
 frames:A.frames=some outer
 mod:Mod K mg base
 bs:∀b o,base.get? b=some o->s.heap.get? b=some o/\H b=none
 bsz:base.objs.size<=s.heap.objs.size
 funs:s.heap.FunFrames base outer
 frf:∀b∈frs outer,H b=none
 hok:HOk P w H s.heap
 bare:AllBare s.gens
def CE(outer:List Env)(P:Program)(w:World)(H:Hp)(s:Shared)(Q:VK)(u:Value)(s':Shared):Prop :=
 ∃v H',s'.os=s.os/\AllBare s'.gens/\Un (frs outer) [] H H' s.heap s'.heap/\HOk P w H' s'.heap/\yK v u/\Q v H'
def CR(CX:CXT)(outer:List Env)(P:Program)(w:World)(H:Hp)(s:Shared)(Q:VK)(E:XK)(r:Result)(s':Shared):Prop :=
 match r with
 | .ok (.ret u)=>CE outer P w H s Q u s'| .ok _=>False| .error e=>CX outer H s E e s'
structure FnOk(P:Program)(w:World)(K:qH)(mg:Str->Option Value)(base:Heap)(CX:CXT)(k:Nat)(f:Addr)(fd:FuncData)(ps:List Str)(sp:Sp):Prop where
 len:∀vs H Q E,sp vs H Q E->vs.length=ps.length
 run:∀(A:Around) (outer:List Env) (s:Shared) (H:Hp) (args:Args) (us:List Value) (vs:List V) (Q:VK) (E:XK),Room k A->Env0 P w K mg base A outer s H->BindsTo s fd args (ps.zip us)->ya vs us->sp vs H Q E ->
  codeAny (model P w) A (.call (.ref f) args) (CR CX outer P w H s Q E) s
theorem FnOk.mono{P:Program}{w:World}{K:qH}{mg:Str->Option Value}{base:Heap}{CX:CXT}{j k:Nat}{f:Addr}{fd:FuncData}{ps:List Str}{sp:Sp}(F:FnOk P w K mg base CX j f fd ps sp)(h:j<=k) :
  FnOk P w K mg base CX k f fd ps sp:=⟨F.len,λA outer s H args us vs Q E hr=>F.run A outer s H args us vs Q E (hr.mono h)⟩
def FnOk.imp{P:Program}{w:World}{K:qH}{mg:Str->Option Value}{base:Heap}{CX:CXT}{k:Nat}{f:Addr}{fd:FuncData}{ps:List Str}{sp sp':Sp}(F:FnOk P w K mg base CX k f fd ps sp)
  (h:∀vs H Q E,sp' vs H Q E->sp vs H Q E):FnOk P w K mg base CX k f fd ps sp' :=
 ⟨λvs H Q E q=>F.len vs H Q E (h _ _ _ _ q),λA outer s H args us vs Q E hr he hb hv hs=>F.run A outer s H args us vs Q E hr he hb hv (h _ _ _ _ hs)⟩
section
variable{X:Cx}{pins:List (Addr×Obj)}{O:St}{H:Hp}{s s':Shared}
def Inv.env0(I:Inv X pins O H s):Env0 X.prog X.w X.K X.mg X.base X.A X.stack s H :=
 ⟨I.ok.frames,I.ok.mod,I.bs,le_trans I.ok.bsz I.sz,I.stack,I.stkFree,I.hok,I.bare⟩
def Inv.after{Q:VK}{u:Value}(I:Inv X pins O H s)(h:CE X.stack X.prog X.w H s Q u s'):EP X pins O Q u s':=by
 obtain⟨v,H',os,bare,un,hok,r,q⟩:=h;obtain⟨hh,g,d,t,os'⟩:=s';obtain rfl:os'=s.os:=os;exact⟨v,H',I.call (h':=hh) (g':=g) (d':=d) (t':=t) (ch:=[]) un hok bare (λb z=>absurd z (by simp)),r,q⟩
end
def Z3(K:qH)(fd:FuncData)(ps:List Str)(ds:List Value):Prop :=
 ∀(s:Shared) (us:List Value),K.In s.heap->(us++ds).length=ps.length->BindsTo s fd ⟨us,[]⟩ (ps.zip (us++ds))
def Z3.all{K:qH}{fd:FuncData}{ps:List Str}(h:∀us:List Value,us.length=ps.length->bindArgs fd ⟨us,[]⟩=pure (ps.zip us)):Z3 K fd ps []:=λs us _ hl=>by
 rw[append_nil]at hl ⊢;exact .of_eq (h us hl)
structure FnScope(N P:List Str)(sc:Scope):Prop where
 kind:sc.kind=.function
 co:sc.isCoroutine=false
 gen:sc.isGenerator=false
 nd:N.Nodup
 pre:N.take P.length=P
 par:∀x∈P,sc.names.lookup x=some .local\/sc.names.lookup x=some .cell
 nofree:∀y∈sc.names,y.2≠.free
theorem GX{kindOf:Str->Option NameKind}{x:Str}:∀{binds:List (Str×Value)} {m:Str->Option Value},(∀v,(x,v)∉binds)->bindL kindOf binds m x=m x
 | [],_,_=>rfl
 | (n,v)::r,m,h=>by
  unfold bindL;rw[GX λw hw=>h w (qD _ hw)];split
  ·have:x≠n:=by rintro rfl;exact h v qE
   simp[this]
  ·rfl
theorem GY{kindOf:Str->Option NameKind}{x:Str}:∀{binds:List (Str×Value)} {m:Str->Option Value},(∀v,(x,v)∉binds)->bindC kindOf binds m x=m x
 | [],_,_=>rfl
 | (n,v)::r,m,h=>by
  unfold bindC;rw[GY λw hw=>h w (qD _ hw)];split
  ·rfl
  ·have:x≠n:=by rintro rfl;exact h v qE
   simp[this]
theorem GZ{kindOf:Str->Option NameKind}{x:Str}{v:Value}:∀{P:List Str} {vs:List Value} {i:Nat} {m:Str->Option Value},P.Nodup->P[i]?=some x->vs[i]?=some v->kindOf x=some .local ->
  bindL kindOf (P.zip vs) m x=some v
 | [],_,_,_,_,h,_,_=>by simp at h|_::_,[],_,_,_,_,h,_=>by simp at h
 |p::P,w::vs,0,m,nd,h1,h2,hk=>by
  simp at h1 h2;subst h1;subst h2
  show bindL kindOf ((p,w)::P.zip vs) m p=_
  unfold bindL;rw[GX λv hv=>(nodup_cons.mp nd).1 (of_mem_zip hv).1,if_pos hk];simp
 |p::P,w::vs,i+1,m,nd,h1,h2,hk=>by
  show bindL kindOf ((p,w)::P.zip vs) m x=_
  unfold bindL;exact GZ (i:=i) (nodup_cons.mp nd).2 (by simpa using h1) (by simpa using h2) hk
theorem Ga{kindOf:Str->Option NameKind}{x:Str}{v:Value}:∀{P:List Str} {vs:List Value} {i:Nat} {m:Str->Option Value},P.Nodup->P[i]?=some x->vs[i]?=some v->kindOf x≠some .local ->
  bindC kindOf (P.zip vs) m x=some v
 | [],_,_,_,_,h,_,_=>by simp at h|_::_,[],_,_,_,_,h,_=>by simp at h
 |p::P,w::vs,0,m,nd,h1,h2,hk=>by
  simp at h1 h2;subst h1;subst h2
  show bindC kindOf ((p,w)::P.zip vs) m p=_
  unfold bindC;rw[GY λv hv=>(nodup_cons.mp nd).1 (of_mem_zip hv).1,if_neg hk];simp
 |p::P,w::vs,i+1,m,nd,h1,h2,hk=>by
  show bindC kindOf ((p,w)::P.zip vs) m x=_
  unfold bindC;exact Ga (i:=i) (nodup_cons.mp nd).2 (by simpa using h1) (by simpa using h2) hk
def w8(N:List Str)(vs:List V):St:=vs.map some++replicate (N.length-vs.length) none
def cxOf(CX:CXT)(P:Program)(w:World)(K:qH)(mg:Str->Option Value)(base:Heap)(N:List Str)(qual:Str)(scope:Scope)(f:Addr)(cd:Value)(A:Around)(outer:List Env)(s:Shared)(H:Hp)(E:XK):Cx where
 prog:=P
 w:=w
 K:=K
 mg:=mg
 base:=base
 A:=A.deeper (envOfC qual scope s.heap.objs.size f cd)
 N:=N
 s₀:=s
 H₀:=H
 env:=envOfC qual scope s.heap.objs.size f cd
 outer:=outer
 stack:=envOfC qual scope s.heap.objs.size f cd::outer
 ex:=[]
 calm:=true
 fn:=λ_=>true
 pn:=[]
 xe:=λe s'=>wpAny (model P w) (A.deeper (envOfC qual scope s.heap.objs.size f cd)) (leaving (envOfC qual scope s.heap.objs.size f cd) e) (λ_ s''=>CX outer H s E e s'') (λe' s''=>CX outer H s E e' s'') s'
def zAP{sc:Scope}{n:Nat}{x:Str}(h:sc.names.lookup x=some .cell):∃c,(cellsFrom n sc.names []).lookup x=some c:=by
 have q:=cellsFrom_some sc.names n [] (.inl h);exact Option.isSome_iff_exists.mp q
def zB5{CX:CXT}{P:Program}{w:World}{K:qH}{mg:Str->Option Value}{base:Heap}{N ps:List Str}{qual:Str}{scope:Scope}{f:Addr}{cd:Value}{A:Around}{outer:List Env}{s s1:Shared}{H:Hp}{E:XK}{us:List Value}{vs:List V}
  (S:FnScope N ps scope) (hd:A.handled=none) (e0:Env0 P w K mg base A outer s H) (hl:vs.length=ps.length) (r:ya vs us)
  (x:InCallC s s.heap.objs.size (bindL (envOfC qual scope s.heap.objs.size f cd).kindOf (ps.zip us) λ_=>none) (cellsFrom (s.heap.objs.size+1) scope.names []) (bindC (envOfC qual scope s.heap.objs.size f cd).kindOf (ps.zip us) λ_=>none) s1) :
  Inv (cxOf CX P w K mg base N qual scope f cd A outer s H E) [] (w8 N vs) H s1:=by
 have hpl:ps.length<=N.length:=by have:=congrArg length S.pre;rw[List.length_take]at this;omega
 obtain⟨h1,tk,rfl,hk⟩:=x.done;have noA:∀b:Addr,b∉(cxOf CX P w K mg base N qual scope f cd A outer s H E).ex:=λb z=>absurd (show b∈([]:List Addr)from z) (by simp)
 refine⟨⟨e0.mod,S.kind,rfl,rfl,le_refl _,λy z c h1 h2=>?_,λy hy=>?_,λy c _ h=>?_,λ_=>hd,Around.frames_deeper e0.frames,.inr ⟨rfl,rfl⟩,λb z=>absurd z (noA b),e0.bs,e0.bsz,λb _ _=>noA b,λb z=>absurd z (noA b),e0.funs,e0.frf⟩,
  rfl,e0.bare,Un.kept hk,⟨_,x.toInCall.ns,λi y v h1 h2 h3=>?_⟩,λy c h=>⟨_,x.cell y c h⟩,e0.hok.fresh (le_refl _),λy c h=>?_,λp hp=>absurd (show p∈([]:List (Addr×Obj))from hp) (by simp),e0.hok.kept hk,?_⟩
 ·exact name_of_addr x.apart (PySem.mem_of_lookup h1) (PySem.mem_of_lookup h2)
 ·have hy:scope.names.lookup y=some .cell\/scope.names.lookup y=some .free:=hy
  rcases hy with hy|hy
  ·exact zAP hy
  ·exact absurd rfl (S.nofree _ (PySem.mem_of_lookup hy))
 ·exact le_of_lt (x.above y c (PySem.mem_of_lookup h))
 ·have hi:i<vs.length:=by
   unfold w8 at h2;by_cases hi:i<vs.length
   ·exact hi
   ·rw[getElem?_append_right (by simpa using hi)]at h2
    rw[List.getElem?_replicate]at h2;split at h2<;>cases h2
  have ha:vs[i]?=some v:=by
   unfold w8 at h2;rw[getElem?_append_left (by simpa using hi),getElem?_map]at h2;cases e:vs[i]? with
   |none=>rw[e]at h2;cases h2|some a=>rw[e]at h2;cases h2;rfl
  obtain⟨u,hu,rv⟩:=r.get ha;have hp:ps[i]?=some y:=by
   rw[<- S.pre,List.getElem?_take_of_lt (by omega)];exact h1
  have ndP:ps.Nodup:=by rw[<- S.pre];exact S.nd.sublist (List.take_sublist _ _)
  refine⟨u,rv,?_⟩;rcases S.par y (mem_of_getElem? hp)with k|k
  ·exact .inl ⟨k,GZ ndP hp hu k⟩
  ·obtain⟨c,e⟩:=zAP (n:=s.heap.objs.size+1) k
   refine .inr ⟨.inl k,c,e,?_⟩;have q:=x.cell y c e;rw[Ga ndP hp hu (by show scope.names.lookup y≠_;rw[k];decide)]at q;exact q
 ·exact e0.hok.fresh (le_of_lt (x.above y c (PySem.mem_of_lookup h)))
 ·unfold w8
  show _=N.length
  rw[length_append,length_map,List.length_replicate];omega
section
variable{X:Cx}{x:Str}{p pos:Pos}{e:Expr}{es:List Expr}{t:TA}{id T:String}{r:List V->Hp->VK->Prop}
def tCB(r:List V->Hp->VK->Prop)(t:TA):TE:=λO H Q=>t O H λvs H1=>r vs H1 Q
def zAQ(hc:Je X (.builtin id) r)(hg:Gl X x)(hm:X.mg x=none)(hv:bootBuiltins x=some (.builtin id))(ha:PA X (e::es) t)(hn:x≠"__name__":=by decide)(hdb:(x==("__debug__":Str))=false:=by decide)
  (he:starEach (e::es) X.env=(false,eval e X.env)::starEach es X.env:=by rfl) (hpl:(backTo pos (starEach es X.env)).any (·.1)=false:=by rfl):PE X (.Call (.Name x p) (e::es) [] pos) (tCB r t):=by
 intro pins s O H Q I h;refine wpAny_Call_Name_kw (YZ I hg hm hv ?_ hn hdb);exact PyProof.Rows.callWith_builtin1 (thn (ha pos pins s O H _ I h) λus s1 ⟨vs,H1,I1,r1,q1⟩=>hc pins s1 O H1 vs us Q I1 r1 q1) he hpl
def zB6(hc:Je X (.type T) r)(hg:Gl X x)(hm:X.mg x=none)(hv:bootBuiltins x=some (.type T))(ha:PA X (e::es) t)(hn:x≠"__name__":=by decide)(hdb:(x==("__debug__":Str))=false:=by decide)
  (he:starEach (e::es) X.env=(false,eval e X.env)::starEach es X.env:=by rfl) (hpl:(backTo pos (starEach es X.env)).any (·.1)=false:=by rfl):PE X (.Call (.Name x p) (e::es) [] pos) (tCB r t):=by
 intro pins s O H Q I h;refine wpAny_Call_Name_kw (YZ I hg hm hv ?_ hn hdb);exact PyProof.Rows.callWith_type1 (thn (ha pos pins s O H _ I h) λus s1 ⟨vs,H1,I1,r1,q1⟩=>hc pins s1 O H1 vs us Q I1 r1 q1) he hpl
end
end L2
namespace HT
open PySem PyProof.Rows
section
variable{prog:Program}{w:World}{A:Around}{E:Value->Shared->Prop}{s:Shared}
def cat_tup{t b:Addr}{vs ws:List Value}{Q:Value->Shared->Prop}(ht:IsTup s.heap t vs.toArray)(hb:IsTup s.heap b ws.toArray)(hv:vs≠[])
  (h1:ws=[]->Q (.ref t) s) (h2:ws≠[]->Q (.ref s.heap.objs.size) {s with heap:=s.heap.push {cls:=.type "tuple",data:=.seq (vs++ws).toArray}})
  (hsz:vs.length+ws.length<=sizeLine):wpAny (model prog w) A (binaryOp .Add (.ref t) (.ref b)) Q E s:=by
 obtain⟨⟨cls,dd,data,sl⟩,ho,hc,n,hd⟩:=id ht;obtain⟨⟨cls2,dd2,data2,sl2⟩,ho2,hc2,n2,hd2⟩:=id hb;simp only at hc hd hc2 hd2;subst hc hd hc2 hd2;have e:vs.toArray++ws.toArray=(vs++ws).toArray:=by simp
 by_cases hw:ws=[]
 ·exact concat_meets ⟨_,ho,rfl⟩ ⟨_,ho2,rfl⟩ noFill_tuple_add seq_tuple_add PySem.F.slot_tuple_add PySem.F.entry_tuple_add (PySem.F.args_tuple_add_2 _ _)
   (tuple_addW1 t b vs.toArray ws.toArray n n2 dd dd2 sl sl2 (by simpa using hv) (by simp[hw])) ⟨ho,ho2,h1 hw⟩
 ·refine concat_meets ⟨_,ho,rfl⟩ ⟨_,ho2,rfl⟩ noFill_tuple_add seq_tuple_add PySem.F.slot_tuple_add PySem.F.entry_tuple_add (PySem.F.args_tuple_add_2 _ _)
   (tuple_addW2 t b vs.toArray ws.toArray n n2 dd dd2 sl sl2 (by simpa using hv) (by simpa using hw) (by rw[size_toArray,size_toArray];exact hsz)) ⟨ho,ho2,?_⟩
  rw[e];exact h2 hw
def sIx(n d:Nat):Option Int->Nat
 |none=>d|some v=>if v<0 then(v+(n:Int)).toNat else min v.toNat n
def sIx_nat(n d k:Nat):sIx n d (some (k:Int))=min k n:=by
 show(if(k:Int)<0 then((k:Int)+(n:Int)).toNat else min (k:Int).toNat n)=min k n
 rw[if_neg (by omega),Int.toNat_natCast]
def sIx_le(n d:Nat)(hd:d<=n)(o:Option Int):sIx n d o<=n:=by
 cases o with
 |none=>exact hd
 |some v =>
  show(if v<0 then(v+(n:Int)).toNat else min v.toNat n)<=n
  by_cases hv:v<0
  ·rw[if_pos hv];omega
  ·rw[if_neg hv];exact Nat.min_le_right _ _
def zB7(v:Int)(n d:Nat):(if v<0 then max (v+(n:Int)) 0 else min v (n:Int))=((sIx n d (some v):Nat):Int):=by
 show(if v<0 then max (v+(n:Int)) 0 else min v (n:Int))=(((if v<0 then(v+(n:Int)).toNat else min v.toNat n):Nat):Int)
 by_cases hv:v<0
 ·simp only[if_pos hv];omega
 ·simp only[if_neg hv];omega
def zBG(lo hi:Option Int)(n:Nat):Builtin.Slice.sliceAdjust lo hi 1 (n:Int)=(((sIx n 0 lo:Nat):Int),((sIx n n hi:Nat):Int)):=by
 have h1:¬((1:Int)<0):=by omega
 unfold Builtin.Slice.sliceAdjust;simp only[h1,if_false];refine Prod.ext ?_ ?_
 ·cases lo with
  |none=>rfl|some v=>exact zB7 v n 0
 ·cases hi with
  |none=>rfl|some v=>exact zB7 v n n
def zBH(i j:Nat):Builtin.Slice.slicePlaces (i:Int) (j:Int) 1=j-i:=by
 unfold Builtin.Slice.slicePlaces;have h1:(1:Int) > 0:=by omega
 simp only[h1,if_true,Int.ediv_one];split<;>omega
def vd{v:Value}{o:Option Int}{Q:Option Int->Shared->Prop}(p:IsPart v o)(h:Q o s):wpAny (model prog w) A (Builtin.Slice.slicePartIndex v) Q E s:=by
 cases p with
 |none=>exact slicePart_none h|int i t=>exact slicePart_int h
def sliceApplied_gen{sl:Addr}{vl vu:Value}{lo hi:Option Int}{n:Nat}{Q:Int×Int×Nat->Shared->Prop}(hs:s.heap.IsSliceOf sl vl vu .none)(pl:IsPart vl lo)(pu:IsPart vu hi)
  (h:Q (((sIx n 0 lo:Nat):Int),1,sIx n n hi-sIx n 0 lo) s):wpAny (model prog w) A (Builtin.Slice.sliceApplied (.ref sl) (pure (n:Int))) Q E s:=by
 obtain⟨os,hos,hcs,hds⟩:=id hs;unfold Builtin.Slice.sliceApplied Builtin.Slice.sliceFields;refine qB (qB (wpAny_field hos hds (x:=vl) rfl (qB (wpAny_field hos hds (x:=vu) rfl (qB (wpAny_field hos hds (x:=.none) rfl (qC ?_)))))));refine qB (slicePart_none ?_);show wpAny _ _ (if((1:Int)==0)=true then _ else _) _ _ s;rw[if_neg (by decide)];refine qB (vd pl (qB (vd pu (qB (qC ?_)))));show wpAny _ _ (match Builtin.Slice.sliceAdjust lo hi 1 (n:Int)with|(lo,hi)=>pure (lo,(1:Int),Builtin.Slice.slicePlaces lo hi 1)) _ _ s
 rw[zBG lo hi n];show wpAny _ _ (pure (((sIx n 0 lo:Nat):Int),(1:Int),Builtin.Slice.slicePlaces ((sIx n 0 lo:Nat):Int) ((sIx n n hi:Nat):Int) 1)) _ _ s;rw[zBH];exact qC h
def zDz(xs:Array Value)(i k:Nat):((List.range k).filterMap λ(m:Nat)=>xs[((i:Int)+(m:Int)*1).toNat]?).toArray=((xs.toList.drop i).take k).toArray:=by
 have e:(λ(m:Nat)=>xs[((i:Int)+(m:Int)*1).toNat]?)=λm=>xs[i+m]?:=by
  funext m
  have:((i:Int)+(m:Int)*1).toNat=i+m:=by omega
  rw[this]
 rw[e];have:=pick_run xs i k;rw[List.filterMap_map]at this;have e2:((λx=>xs[x]?) ∘ λx=>i+x)=λm=>xs[i+m]?:=rfl
 rw[e2]at this;rw[this]
def getItem_tuple_cut{t sl:Addr}{items:Array Value}{vl vu:Value}{lo hi:Option Int}{Q:Value->Shared->Prop}(ht:IsTup s.heap t items)(hs:s.heap.IsSliceOf sl vl vu .none)(pl:IsPart vl lo)(pu:IsPart vu hi)
  (hw:¬(sIx items.size 0 lo=0/\sIx items.size items.size hi=items.size))
  (h:Q (.ref s.heap.objs.size) {s with heap:=s.heap.push {cls:=.type "tuple",data:=.seq ((items.toList.drop (sIx items.size 0 lo)).take (sIx items.size items.size hi-sIx items.size 0 lo)).toArray}})
  (hsz:items.size<=sizeLine):wpAny (model prog w) A (getItem (.ref t) (.ref sl)) Q E s:=by
 have htake:sizeOk (.seq ((items.toList.drop (sIx items.size 0 lo)).take (sIx items.size items.size hi-sIx items.size 0 lo)).toArray):=by
  show((items.toList.drop (sIx items.size 0 lo)).take (sIx items.size items.size hi-sIx items.size 0 lo)).toArray.size<=sizeLine
  rw[size_toArray,List.length_take,List.length_drop,Array.length_toList];omega
 have hj:sIx items.size items.size hi<=items.size:=sIx_le _ _ (le_refl _) hi;obtain⟨os,hos,hcs,hds⟩:=id hs;have hTs:s.TypeIs (.ref sl) "slice":=⟨os,hos,hcs⟩;unfold getItem
 try with_reducible refine wpAny_holding ?_
 first|refine qB (qC ?_)|skip
 refine qB (wpAny_sequenceKey ht.typeIs (by decide) ?_);refine qB (wpAny_callSpecial?_slot (name:=Str.ofString "__getitem__") ht.typeIs PyProof.Rows.slot_tuple_getitem
  (wpAny_call_entry PyProof.Rows.slot_tuple_getitem ht.typeIs entry_tuple_getitem ?_ (args_tuple_getitem _ _)))
 show wpAny _ _ (Builtin.Tuple.tupleItemsOf (.ref t) >>= _) _ _ s
 refine qB (tupleItemsOf_ ht ?_);refine qB (wpAny_typeOf hTs ?_);rw[if_pos (by decide)];refine qB (sliceApplied_gen hs pl pu ?_);have hno:¬((((sIx items.size 0 lo:Nat):Int)==0&&(1:Int)==1&&(sIx items.size items.size hi-sIx items.size 0 lo)==items.size)=true):=by
  intro q;rw[Bool.and_eq_true,Bool.and_eq_true]at q;have q1:((sIx items.size 0 lo:Nat):Int)=0:=eq_of_beq q.1.1;have q2:sIx items.size items.size hi-sIx items.size 0 lo=items.size:=eq_of_beq q.2;exact hw ⟨by omega,by omega⟩
 show wpAny _ _ (if(((sIx items.size 0 lo:Nat):Int)==0&&(1:Int)==1&&(sIx items.size items.size hi-sIx items.size 0 lo)==items.size)=true then _ else _) _ _ s
 rw[if_neg hno,zDz]
 first
  |exact qB (m:=Builtin.Tuple.tupleExact _) (wpAny_newObj_type (qC ⟨_,rfl,qC h⟩) htake)
  |exact qB (m:=Builtin.Tuple.tupleExact _) (wpAny_newObj_type (qB (qC (qC ⟨_,rfl,qC h⟩))) htake)
  |exact qB (qB (m:=Builtin.Tuple.tupleExact _) (wpAny_newObj_type (qC (qC ⟨_,rfl,qC h⟩)) htake))
  |exact qB (qB (m:=Builtin.Tuple.tupleExact _) (wpAny_newObj_type (qC ⟨_,rfl,qC h⟩) htake))
end
end HT
namespace L2
open PySem PySem.Spec PyProof.Rows
abbrev TO:=St->Hp->(Option Int->Hp->Prop)->Prop
def PO(X:Cx)(e:Option Expr)(t:TO):Prop :=
 ∀(pins:List (Addr×Obj)) (s:Shared) (O:St) (H:Hp) (Q:Option Int->Hp->Prop),Inv X pins O H s->t O H Q ->
  wpAny (model X.prog X.w) X.A (evalPart e X.env) (λu s'=>∃o H',Inv X pins O H' s'/\IsPart u o/\Q o H') X.xe s
def tNoPart:TO:=λ_ H Q=>Q none H
def tPart(t:TE):TO:=λO H Q=>t O H λx H1=>∃i,x=.int i/\Q (some i) H1
section
variable{X:Cx}{e:Expr}{te:TE}{lo hi:Option Expr}{tl th:TO}{pos p2:Pos}
def po_none:PO X none tNoPart:=by
 intro pins s O H Q I h;rw[evalPart_none];exact qC ⟨none,H,I,.none,h⟩
def po_some(h:PE X e te):PO X (some e) (tPart te):=by
 intro pins s O H Q I hw;rw[evalPart_some];refine thn (h pins s O H _ I hw) λu s1 ⟨x,H1,I1,r1,q1⟩=>?_
 obtain⟨i,rfl,q⟩:=q1;obtain⟨t,rfl⟩:=r1;exact⟨some i,H1,I1,.int i t,q⟩
def SlR(X:Cx)(r:V->Option Int->Option Int->Hp->VK->Prop):Prop :=
 ∀(pins:List (Addr×Obj)) (s:Shared) (O:St) (H:Hp) (x:V) (v vl vu:Value) (lo hi:Option Int) (sl:Addr) (Q:VK),Inv X pins O H s->yK x v->s.heap.IsSliceOf sl vl vu .none->IsPart vl lo->IsPart vu hi->r x lo hi H Q ->
  ∃T id,typeLookup (.type T) "__getitem__"=pure (some (.builtin id))/\s.TypeIs v T/\wpAny (model X.prog X.w) X.A (getItem v (.ref sl)) (EP X pins O Q) X.xe s
def SlR.or{r r':V->Option Int->Option Int->Hp->VK->Prop}(h:SlR X r)(h':SlR X r'):SlR X (λx lo hi H Q=>r x lo hi H Q\/r' x lo hi H Q):=by
 intro pins s O H x v vl vu lo hi sl Q I rx hs pl pu q;rcases q with q|q
 ·exact h pins s O H x v vl vu lo hi sl Q I rx hs pl pu q
 ·exact h' pins s O H x v vl vu lo hi sl Q I rx hs pl pu q
def tSl(r:V->Option Int->Option Int->Hp->VK->Prop)(te:TE)(tl th:TO):TE:=λO H Q=>te O H λx H1=>tl O H1 λl H2=>th O H2 λu H3=>r x l u H3 Q
def zD0{r:V->Option Int->Option Int->Hp->VK->Prop}(hr:SlR X r)(he:PE X e te)(hl:PO X lo tl)(hu:PO X hi th):PE X (.Subscript e (.Slice lo hi none p2) pos) (tSl r te tl th):=by
 intro pins s O H Q I h;refine Subscript_ (thn (he pins s O H _ I h) λv s1 ⟨x,H1,I1,r1,q1⟩=>?_);refine wpAny_Slice (thn (hl pins s1 O H1 _ I1 q1) λvl s2 ⟨l,H2,I2,pl,q2⟩=>thn (hu pins s2 O H2 _ I2 q2) λvu s3 ⟨u,H3,I3,pu,q3⟩=>?_);rw[evalPart_none];refine qC ?_;have I4:Inv X pins O H3 {s3 with heap:=s3.heap.push {cls:=.type "slice",data:=.fields #[vl,vu,.none]}}:=I3.kept (t':=s3.toks) λb ob q=>qA _ q
 obtain⟨T,id,hT,ht,hg⟩:=hr pins {s3 with heap:=s3.heap.push {cls:=.type "slice",data:=.fields #[vl,vu,.none]}} O H3 x v vl vu l u s3.heap.objs.size Q I4 r1 (Heap.IsSliceOf.new ..) pl pu q3
 show wpAny (model X.prog X.w) X.A (subscriptTail e (.Slice lo hi none p2) v (.ref s3.heap.objs.size)) (EP X pins O Q) X.xe {s3 with heap:=s3.heap.push {cls:=.type "slice",data:=.fields #[vl,vu,.none]}}
 exact tail_any (ops:=[.ref s3.heap.objs.size,v]) ht hT hg (by with_unfolding_all rfl)
def zD1(xs:List V)(lo hi:Option Int):List V:=(xs.drop (HT.sIx xs.length 0 lo)).take (HT.sIx xs.length xs.length hi-HT.sIx xs.length 0 lo)
def WW(xs:List V)(lo hi:Option Int):(zD1 xs lo hi).length<=xs.length:=by
 unfold zD1;rw[List.length_take,List.length_drop];omega
def rSlT(K:qH):V->Option Int->Option Int->Hp->VK->Prop:=λx lo hi H Q=>∃a xs,x=.ref a/\SqT K H a xs /\
 ¬(HT.sIx xs.length 0 lo=0/\HT.sIx xs.length xs.length hi=xs.length)/\∀p,H p=none->Q (.ref p) (upd H p (.t (zD1 xs lo hi)))
def sl_tup:SlR X (rSlT X.K):=by
 intro pins s O H x v vl vu lo hi sl Q I rx hs pl pu h;obtain⟨a,xs,rfl,hx,hw,q⟩:=h;cases rx;obtain⟨its,r,ht,hz⟩:=I.tuple hx;have hlen:its.toArray.size=xs.length:=by rw[size_toArray];exact r.length.symm
 refine⟨"tuple",_,PyProof.Rows.slot_tuple_getitem.lookup,ht.typeIs,?_⟩;refine HT.getItem_tuple_cut ht hs pl pu (by rw[hlen];exact hw) ?_ (by rw[hlen];exact hz);rw[hlen];refine⟨.ref s.heap.objs.size,_,I.laid (t':=s.toks) (o:=.t (zD1 xs lo hi)) (λb ob q=>qA _ q) (le_refl _) ?_,rfl,q _ (I.hok.fresh (le_refl _))⟩;exact⟨le_trans (WW xs lo hi) hz,_,(r.drop (HT.sIx xs.length 0 lo)).take (HT.sIx xs.length xs.length hi-HT.sIx xs.length 0 lo),IsTup.new _ _⟩
def rCatT(K:qH):R2:=λx y H Q=>∃a b xs ys,x=.ref a/\y=.ref b/\SqT K H a xs/\SqT K H b ys/\xs≠[]/\xs.length+ys.length<=sizeLine /\
 (ys=[]->Q (.ref a) H)/\(ys≠[]->∀p,H p=none->Q (.ref p) (upd H p (.t (xs++ys))))
def ya.nil_iff{xs:List V}{us:List Value}(r:ya xs us):us=[]↔xs=[]:=by
 cases r with
 |nil=>simp|cons _ _=>simp
def op_catT:OpR X (binaryOp .Add) (rCatT X.K):=by
 intro pins s O H x y v u Q I rx ry h;obtain⟨a,b,xs,ys,rfl,rfl,ha,hb,hx,hz,q1,q2⟩:=h;cases rx;cases ry;obtain⟨its,r1,p1,_⟩:=I.tuple ha;obtain⟨its2,r2,p2,_⟩:=I.tuple hb;refine HT.cat_tup p1 p2 (λz=>hx (r1.nil_iff.mp z)) (λz=>⟨.ref a,H,I,rfl,q1 (r2.nil_iff.mp z)⟩) (λz=>?_) (by rw[<- r1.length,<- r2.length];exact hz);refine⟨.ref s.heap.objs.size,_,I.laid (t':=s.toks) (o:=.t (xs++ys)) (λb ob q=>qA _ q) (le_refl _) ?_,rfl,q2 (λw=>z (r2.nil_iff.mpr w)) _ (I.hok.fresh (le_refl _))⟩;exact⟨by rw[length_append];exact hz,_,r1.append r2,IsTup.new _ _⟩
end
def ixN(n:Nat)(i:Int):Option Nat:=if 0<=i then(if i<n then some i.toNat else none)else if -(n:Int)<=i then some (i+n).toNat else none
def atI{α:Type}(xs:List α)(i:Int):Option α:=(ixN xs.length i).bind λj=>xs[j]?
def zB8{n:Nat}{i:Int}{j:Nat}(h:ixN n i=some j):seqIndex? i n=some j/\j<n/\-(n:Int)<=i/\i<n:=by
 unfold ixN at h;by_cases h0:0<=i
 ·rw[if_pos h0]at h
  by_cases h1:i<n
  ·rw[if_pos h1]at h
   have e:i.toNat=j:=qJ h;exact⟨by rw[seqIndex_of h0 h1,e],by omega,by omega,h1⟩
  ·rw[if_neg h1]at h;cases h
 ·rw[if_neg h0]at h
  by_cases h1:-(n:Int)<=i
  ·rw[if_pos h1]at h
   have e:(i+n).toNat=j:=qJ h;exact⟨by rw[seqIndex_neg (by omega) h1,e],by omega,h1,by omega⟩
  ·rw[if_neg h1]at h;cases h
def zB9{α:Type}{xs:List α}{i:Int}{v:α}(h:atI xs i=some v):∃j,seqIndex? i xs.length=some j/\xs[j]?=some v/\j<xs.length/\-(xs.length:Int)<=i/\i<xs.length:=by
 unfold atI at h;cases e:ixN xs.length i with
 |none=>rw[e]at h;cases h
 |some j =>
  rw[e]at h;obtain⟨h1,h2,h3,h4⟩:=zB8 e;exact⟨j,h1,h,h2,h3,h4⟩
def WX(b:Expr):Prop:=∀o i,subscripted b false o i=operate [o,i] (getItem o i)
def IxR(X:Cx)(r:R2):Prop :=
 ∀(value slice:Expr) (pins:List (Addr×Obj)) (s:Shared) (O:St) (H:Hp) (x y:V) (v u:Value) (Q:VK),Inv X pins O H s->yK x v->yK y u->r x y H Q ->
  subscripted slice false v u=operate [v,u] (getItem v u)->wpAny (model X.prog X.w) X.A (subscriptTail value slice v u) (EP X pins O Q) X.xe s
section
variable{X:Cx}{a b:Expr}{ta tb:TE}{pos:Pos}
def IxR.or{r r':R2}(h:IxR X r)(h':IxR X r'):IxR X (λx y H Q=>r x y H Q\/r' x y H Q):=by
 intro value slice pins s O H x y v u Q I rx ry q hs;rcases q with q|q
 ·exact h value slice pins s O H x y v u Q I rx ry q hs
 ·exact h' value slice pins s O H x y v u Q I rx ry q hs
def pe_ix{r:R2}(hr:IxR X r)(ha:PE X a ta)(hb:PE X b tb)(hs:WX b):PE X (.Subscript a b pos) (tOp r ta tb):=by
 intro pins s O H Q I h;exact Subscript_ (binT ha hb I h λv u s2 x y H2 I2 rx ry q=>hr a b pins s2 O H2 x y v u Q I2 rx ry q (hs _ _))
def rIxL(K:qH):R2:=λx y H Q=>∃p xs i v,x=.ref p/\y=.int i/\SqL K H p xs/\atI xs i=some v/\Q v H
def rIxT(K:qH):R2:=λx y H Q=>∃p xs i v,x=.ref p/\y=.int i/\SqT K H p xs/\atI xs i=some v/\Q v H
def zCA:IxR X (rIxL X.K):=by
 intro value slice pins s O H x y v u Q I rx ry h hs;obtain⟨p,xs,i,z,rfl,rfl,hq,he,q⟩:=h;cases rx;obtain⟨t,rfl⟩:=ry;obtain⟨its,r,pl,hz⟩:=I.list hq;obtain⟨j,h1,h2,h3,h4,h5⟩:=zB9 he;obtain⟨w,ew,rw'⟩:=r.get h2;have hl:=r.length;have hn:=zAO;have fin:EP X pins O Q w s:=⟨z,H,I,rw',q⟩;by_cases h0:0<=i
 ·have hj:i.toNat=j:=by
   rw[seqIndex_of h0 h5]at h1;exact qJ h1
  exact item_listR pl.isList h0 (by omega) (by rw[hj];simpa using ew) fin hs
 ·have hj:(i+(its.toArray.size:Int)).toNat=j:=by
   rw[seqIndex_neg (by omega) h4]at h1;rw[size_toArray,<- hl];exact qJ h1
  exact subscriptTail_builtinR (x:=w) pl.isList.typeIs slot_list_getitem.lookup
   (wpAny_getItem_list_neg (Q:=λr s'=>r=w/\EP X pins O Q r s') pl.isList (by omega) (by rw[size_toArray]<;>omega) (by omega) (by rw[hj];simpa using ew) ⟨rfl,fin⟩) hs
def ix_tup:IxR X (rIxT X.K):=by
 intro value slice pins s O H x y v u Q I rx ry h hs;obtain⟨p,xs,i,z,rfl,rfl,hq,he,q⟩:=h;cases rx;obtain⟨t,rfl⟩:=ry;obtain⟨its,r,pl,hz⟩:=I.tuple hq;obtain⟨j,h1,h2,h3,h4,h5⟩:=zB9 he;obtain⟨w,ew,rw'⟩:=r.get h2;have hl:=r.length;have hn:=zAO;have fin:EP X pins O Q w s:=⟨z,H,I,rw',q⟩;exact subscriptTail_builtinR (x:=w) pl.typeIs slot_tuple_getitem.lookup
  (getItem_tuple (j:=j) (Q:=λr s'=>r=w/\EP X pins O Q r s') pl (by omega) (by omega) (by rw[size_toArray,<- hl];exact h1) (by simpa using ew) ⟨rfl,fin⟩) hs
def zBI(its:List Value)(n j:Nat)(u:Value):Obj.mapSeq (·.setIfInBounds j u) {cls:=.type "list",data:=.seq its.toArray n}={cls:=.type "list",data:=.seq (its.set j u).toArray n}:=by
 simp[Obj.mapSeq]
theorem Inv.lst{pins:List (Addr×Obj)}{O:St}{H:Hp}{s:Shared}{p:Addr}{xs:List V}(I:Inv X pins O H s)(h:H p=some (.l xs)) :
  ∃(its:List Value) (n:Nat),ya xs its/\s.heap.get? p=some {cls:=.type "list",data:=.seq its.toArray n}/\xs.length<=sizeLine:=by
 obtain⟨z,its,n,r,e⟩:=I.hok p _ h;exact⟨its,n,r,e,z⟩
def Inv.lstUpd{pins:List (Addr×Obj)}{O:St}{H:Hp}{s:Shared}{p:Addr}{xs ys:List V}{its its':List Value}{n n':Nat}{f:Obj->Obj}(I:Inv X pins O H s)(h:H p=some (.l xs))
  (ho:s.heap.get? p=some {cls:=.type "list",data:=.seq its.toArray n}) (hf:f {cls:=.type "list",data:=.seq its.toArray n}={cls:=.type "list",data:=.seq its'.toArray n'}) (r:ya ys its') (hz:ys.length<=sizeLine) (t:Nat) :
  Inv X pins O (upd H p (.l ys)) {s with heap:=s.heap.update p f,toks:=t}:=by
 have e:(s.heap.update p f).get? p=some {cls:=.type "list",data:=.seq its'.toArray n'}:=by
  rw[Heap.get?_update_self f ho (by rw[hf]<;>rfl),hf]
 refine I.write (x:=p) (e:=p) (by rw[h];trivial) (.inl rfl) (λb u hb q=>(Heap.get?_update_other _ _ (Ne.symm hb)).trans q) ⟨_,e⟩ ?_;exact⟨hz,its',n',r,e⟩
def rSetL:V->V->V->Hp->(Hp->Prop)->Prop:=λo i v H Q=>∃p xs k j,o=.ref p/\i=.int k/\H p=some (.l xs)/\ixN xs.length k=some j/\Q (upd H p (.l (xs.set j v)))
def zD2:PSet X rSetL:=by
 intro pins s O H o i v ov iv u Q I ro ri rv h;obtain⟨p,xs,k,j,rfl,rfl,hp,hj,q⟩:=h;cases ro;obtain⟨t,rfl⟩:=ri;obtain⟨its,n,r,ho,hz⟩:=I.lst hp;obtain⟨h1,h2,h3,h4⟩:=zB8 hj;have hl:=r.length;have hn:=zAO;have I':Inv X pins O (upd H p (.l (xs.set j v))) {s with heap:=s.heap.update p (Obj.mapSeq (·.setIfInBounds j u))} :=
  I.lstUpd hp ho (zBI its n j u) (r.set rv j) (by rw[List.length_set];exact hz) s.toks
 by_cases h0:0<=k
 ·have hk:k.toNat=j:=by
   rw[seqIndex_of h0 h4]at h1;exact qJ h1
  exact PySem.W.ki_setAt ho h0 (by omega) (by rw[size_toArray,<- hl];exact h4) (by rw[hk];exact⟨_,I',q⟩)
 ·have hk:(k+(its.toArray.size:Int)).toNat=j:=by
   rw[seqIndex_neg (by omega) h3]at h1;rw[size_toArray,<- hl];exact qJ h1
  exact PySem.W.ki_setBack ho (by omega) (by rw[size_toArray,<- hl];exact h3) (by omega) (by rw[hk];exact⟨_,I',q⟩)
def Gb(lo hi:Option Int)(n:Nat):(sliceBounds lo hi none n).1=((HT.sIx n 0 lo:Nat):Int)/\(sliceBounds lo hi none n).2.1=((HT.sIx n n hi:Nat):Int)/\(sliceBounds lo hi none n).2.2=1:=by
 refine⟨?_,?_,rfl⟩
 ·cases lo with
  |none=>simp[sliceBounds,HT.sIx]
  |some i =>
   simp only[sliceBounds,HT.sIx,Option.getD_none,show(1:Int) > 0 by decide,if_true];by_cases h:i<0
   ·simp only[h,if_true]<;>omega
   ·simp only[h,if_false]<;>omega
 ·cases hi with
  |none=>simp[sliceBounds,HT.sIx]
  |some i =>
   simp only[sliceBounds,HT.sIx,Option.getD_none,show(1:Int) > 0 by decide,if_true];by_cases h:i<0
   ·simp only[h,if_true]<;>omega
   ·simp only[h,if_false]<;>omega
def uE(its:List Value)(lo hi:Option Int):slicePick its.toArray lo hi none=((its.drop (HT.sIx its.length 0 lo)).take (HT.sIx its.length its.length hi-HT.sIx its.length 0 lo)).toArray:=by
 obtain⟨h1,h2,h3⟩:=Gb lo hi its.toArray.size;unfold slicePick;rw[h1,h2,h3];simp only[sliceRange_one,pick_run,size_toArray]<;>rfl
def rSlL(K:qH):V->Option Int->Option Int->Hp->VK->Prop:=λx lo hi H Q=>∃a xs,x=.ref a/\SqL K H a xs/\∀p,H p=none->Q (.ref p) (upd H p (.l (zD1 xs lo hi)))
def sl_list:SlR X (rSlL X.K):=by
 intro pins s O H x v vl vu lo hi sl Q I rx hs pl pu h;obtain⟨a,xs,rfl,hx,q⟩:=h;cases rx;obtain⟨its,r,ht,hz⟩:=I.list hx;have hlen:=r.length;refine⟨"list",_,slot_list_getitem.lookup,ht.isList.typeIs,?_⟩;refine wpAny_getItem_list_slice ht.isList hs pl pu .none (by simp) ?_ (by rw[size_toArray]<;>omega);rw[uE,<- hlen];refine⟨.ref s.heap.objs.size,_,I.laid (t':=s.toks) (o:=.l (zD1 xs lo hi)) (λb ob q=>qA _ q) (le_refl _) ?_,rfl,q _ (I.hok.fresh (le_refl _))⟩;exact⟨le_trans (WW xs lo hi) hz,_,0,(r.drop (HT.sIx xs.length 0 lo)).take (HT.sIx xs.length xs.length hi-HT.sIx xs.length 0 lo),get?_push_size _ rfl⟩
def Jf:V->Bool
 | .non=>true| .bl _=>true| .int _=>true| .str _=>true|_=>false
def eqV:V->V->Bool
 | .non,.non=>true| .bl a,.bl b=>a==b| .bl a,.int b=>(if a then 1 else 0)==b| .int a,.bl b=>a==(if b then 1 else 0)| .int a,.int b=>a==b| .str a,.str b=>a==b|_,_=>false
def vf{A:Around}{s:Shared}{y x:V}{u v:Value}(ry:yK y u)(rx:yK x v)(fy:Jf y=true)(fx:Jf x=true):SeqAt.EqAt A s u v (eqV y x):=by
 cases y with
 |non =>
  cases ry;cases x with
  |non=>cases rx;exact SeqAt.EqAt.same _|bl b=>cases rx;exact SeqAt.EqAt.none_bool b|int b=>obtain⟨t,rfl⟩:=rx;exact SeqAt.EqAt.none_int b t|str b=>obtain⟨t,rfl⟩:=rx;exact SeqAt.EqAt.none_str b t|_=>exact absurd (show false=true from fx) qF
 |bl a =>
  cases ry;cases x with
  |non=>cases rx;exact SeqAt.EqAt.bool_none a|bl b=>cases rx;exact SeqAt.EqAt.bool_bool a b|int b=>obtain⟨t,rfl⟩:=rx;exact SeqAt.EqAt.bool_int a b t|str b=>obtain⟨t,rfl⟩:=rx;exact SeqAt.EqAt.bool_str a b t|_=>exact absurd (show false=true from fx) qF
 |int a =>
  obtain⟨t',rfl⟩:=ry;cases x with
  |non=>cases rx;exact SeqAt.EqAt.int_none a t'|bl b=>cases rx;exact SeqAt.EqAt.int_bool a t' b|int b=>obtain⟨t,rfl⟩:=rx;exact SeqAt.EqAt.int_int a t' b t|str b=>obtain⟨t,rfl⟩:=rx;exact SeqAt.EqAt.int_str a t' b t|_=>exact absurd (show false=true from fx) qF
 |str a =>
  obtain⟨t',rfl⟩:=ry;cases x with
  |non=>cases rx;exact SeqAt.EqAt.str_none a t'|bl b=>cases rx;exact SeqAt.EqAt.str_bool a t' b|int b=>obtain⟨t,rfl⟩:=rx;exact SeqAt.EqAt.str_int a t' b t|str b=>obtain⟨t,rfl⟩:=rx;exact SeqAt.EqAt.str_str a t' b t|_=>exact absurd (show false=true from fx) qF
 |_=>exact absurd (show false=true from fy) qF
def eqU(x:V)(u:Value):Bool:=match u with
 | .none=>eqV .non x| .bool b=>eqV (.bl b) x| .int i _=>eqV (.int i) x| .str z _=>eqV (.str z) x|_=>false
def zFY{x y:V}{u:Value}(r:yK y u)(f:Jf y=true):eqU x u=eqV y x:=by
 cases y with
 |non=>cases r;rfl|bl b=>cases r;rfl|int i=>obtain⟨t,rfl⟩:=r;rfl|str z=>obtain⟨t,rfl⟩:=r;rfl|_=>exact absurd (show false=true from f) qF
theorem Qf{x:V}:∀{xs:List V} {us:List Value},ya xs us->xs.all Jf=true->us.any (eqU x)=xs.any λy=>eqV y x
 |_,_,.nil,_=>rfl
 |y::xs,u::us,.cons r t,f=>by
  rw[all_cons,Bool.and_eq_true]at f;rw[any_cons,any_cons,zFY r f.1,Qf t f.2]
theorem uF{A:Around}{s:Shared}{x:V}{v:Value}(rx:yK x v)(fx:Jf x=true):∀{xs:List V} {us:List Value},ya xs us->xs.all Jf=true->∀u∈us,SeqAt.EqAt A s u v (eqU x u)
 |_,_,.nil,_=>λu hu=>by cases hu
 |y::xs,u::us,.cons r t,f=>λu' hu=>by
  rw[all_cons,Bool.and_eq_true]at f;rcases mem_cons.mp hu with rfl|hu
  ·rw[zFY r f.1];exact vf r rx f.1 fx
  ·exact uF rx fx t f.2 u' hu
def inV(x:V)(xs:List V):Bool:=xs.any λy=>eqV y x
def rIn(K:qH)(neg:Bool):R2:=λx y H Q=>∃p xs,y=.ref p/\(SqL K H p xs\/SqT K H p xs)/\Jf x=true/\xs.all Jf=true/\Q (.bl (if neg then !inV x xs else inV x xs)) H
def Zh:OpR X (compareOp .NotIn) (rIn X.K true):=by
 intro pins s O H x y v u Q I rx ry h;obtain⟨p,xs,rfl,hq,fx,fs,q⟩:=h;cases ry;rcases hq with hq|hq
 ·obtain⟨its,r,pl,hz⟩:=I.list hq
  refine SeqAt.notIn_listAt (eqU x) pl.isList (λw hw=>uF rx fx r fs w (by simpa using hw)) ⟨.bl _,H,I,rfl,?_⟩;rw[show its.toArray.any (eqU x)=its.any (eqU x)by simp,Qf r fs];exact q
 ·obtain⟨its,r,pl,hz⟩:=I.tuple hq
  refine SeqAt.notIn_tupleAt (eqU x) pl (λw hw=>uF rx fx r fs w (by simpa using hw)) ⟨.bl _,H,I,rfl,?_⟩;rw[show its.toArray.any (eqU x)=its.any (eqU x)by simp,Qf r fs];exact q
def Gc:Je X (.builtin "len") (λxs H Q=>∃p ys,xs=[.ref p]/\(SqL X.K H p ys\/SqT X.K H p ys)/\Q (.int ys.length) H):=by
 intro pins s O H xs us Q I r h;obtain⟨p,ys,rfl,hq,q⟩:=h;obtain⟨u,rfl,rx⟩:=GW r;cases rx;have hn:=zAO;rcases hq with hq|hq
 ·obtain⟨its,r',pl,hz⟩:=I.list hq
  have hlen:=r'.length;exact Calls.call_len_list pl.isList (by simp only[size_toArray]<;>omega) ⟨.int ys.length,H,I.tok _,⟨s.toks+1,by rw[size_toArray,hlen]⟩,q⟩
 ·obtain⟨its,r',pl,hz⟩:=I.tuple hq
  have hlen:=r'.length;exact len_tuple pl (by simp only[size_toArray]<;>omega) ⟨.int ys.length,H,I.tok _,⟨s.toks+1,by rw[size_toArray,hlen]⟩,q⟩
def uG:Je X (.type "tuple") (λxs H Q=>∃p ys,xs=[.ref p]/\((SqL X.K H p ys/\∀l,H l=none->Q (.ref l) (upd H l (.t ys)))\/(SqT X.K H p ys/\Q (.ref p) H))):=by
 intro pins s O H xs us Q I r h;obtain⟨p,ys,rfl,h⟩:=h;obtain⟨u,rfl,rx⟩:=GW r;cases rx;rcases h with⟨hq,q⟩|⟨hq,q⟩
 ·obtain⟨its,r',pl,hz⟩:=I.list hq
  have hlen:=r'.length;refine call_tuple_list pl.isList (λh' kp=>?_) (by simp only[size_toArray]<;>omega);have I1:Inv X pins O H {s with heap:=h'}:=I.kept (t':=s.toks) kp
  have I2:Inv X pins O (upd H h'.objs.size (.t ys)) {s with heap:=h'.push {cls:=.type "tuple",data:=.seq its.toArray}} :=
   I1.laid (t':=s.toks) (λb o e=>qA _ e) (le_refl _) (show j9 X.prog X.w _ _ _ (.t ys)from⟨hz,its,r',IsTup.new _ _⟩)
  exact⟨.ref h'.objs.size,_,I2,rfl,q _ (I1.hok.fresh (le_refl _))⟩
 ·obtain⟨its,r',pl,hz⟩:=I.tuple hq
  exact call_tuple_same pl ⟨.ref p,H,I,rfl,q⟩
variable{o e:Expr}{es:List Expr}{to:TE}{t:TA}{name:Str}{apos cpos:Pos}{T id:String}{r:V->List V->Hp->VK->Prop}
end
def MtM(X:Cx)(id:String)(r:V->List V->Hp->VK->Prop):Prop :=
 ∀(pins:List (Addr×Obj)) (s:Shared) (O:St) (H:Hp) (x:V) (xs:List V) (v:Value) (us:List Value) (Q:VK),Inv X pins O H s->yK x v->ya xs us->r x xs H Q ->
  wpAny (model X.prog X.w) X.A (call (.builtin id) (v::us)) (EP X pins O Q) X.xe s
def ya.one:∀{x:V} {us:List Value},ya [x] us->∃u,us=[u]/\yK x u
 |_,_,.cons r .nil=>⟨_,rfl,r⟩
theorem ya.rep{xs:List V}{us:List Value}(h:ya xs us):∀k:Nat,ya (replicate k xs).flatten (replicate k us).flatten
 |0=>.nil
 |k+1=>by
  rw[replicate_succ,replicate_succ,flatten_cons,flatten_cons];exact ya.append h (ya.rep h k)
theorem WY(its:List Value):∀(k:Nat) (acc:List Value),
  foldl (λx1 x2=>x1++x2) acc.toArray (replicate k its.toArray)=(acc++(replicate k its).flatten).toArray
 |0,acc=>by simp
 |k+1,acc=>by
  have e:acc.toArray++its.toArray=(acc++its).toArray:=by simp
  have e2:(acc++its)++(replicate k its).flatten=acc++(replicate (k+1) its).flatten:=by
   rw[replicate_succ,flatten_cons,append_assoc]
  rw[<- e2,<- WY its k (acc++its),<- e,replicate_succ,foldl_cons]
section
variable{X:Cx}{pins:List (Addr×Obj)}{O:St}{H:Hp}{s:Shared}{l b:Addr}{xs ys zs:List V}
def Inv.lset{its its':List Value}{n:Nat}{f:Array Value->Array Value}{t':Nat}(I:Inv X pins O H s)(hH:H l=some (.l xs))
  (e:s.heap.get? l=some {cls:=.type "list",data:=.seq its.toArray n}) (hf:f its.toArray=its'.toArray) (hv:ya ys its') (hz:ys.length<=sizeLine) :
  Inv X pins O (upd H l (.l ys)) {s with heap:=s.heap.update l (Obj.mapSeq f),toks:=t'}:=by
 have q:=PySem.IsL.update e f;rw[hf]at q;refine I.write (x:=l) (e:=l) (by rw[hH];exact trivial) (.inl rfl) (λb' u hb hu=>(Heap.get?_update_other s.heap (Obj.mapSeq f) (Ne.symm hb)).trans hu) ⟨_,q⟩ ?_;exact⟨hz,its',_,hv,q⟩
def Inv.lnew{its:List Value}{t':Nat}(I:Inv X pins O H s)(hv:ya ys its)(hz:ys.length<=sizeLine) :
  Inv X pins O (upd H s.heap.objs.size (.l ys)) {s with heap:=s.heap.push {cls:=.type "list",data:=.seq its.toArray},toks:=t'} :=
 I.laid (λ_ _ q=>qA _ q) (le_refl _) ⟨hz,its,0,hv,get?_push_size _ rfl⟩
theorem Inv.fresh(I:Inv X pins O H s):H s.heap.objs.size=none:=I.hok.fresh (le_refl _)
def Inv.lstM(I:Inv X pins O H s)(hH:H l=some (.l xs)):xs.length<=sizeLine/\∃(its:List Value) (n:Nat),ya xs its/\xs.length=its.length/\s.heap.get? l=some {cls:=.type "list",data:=.seq its.toArray n}:=by
 obtain⟨z,its,n,r,e⟩:=I.hok l _ hH;exact⟨z,its,n,r,r.length,e⟩
def zD3{n:Nat}(h:n<=sizeLine):Builtin.List.listTooLong n=false:=by
 unfold Builtin.List.listTooLong;exact decide_eq_false (by omega)
end
section
variable{X:Cx}
def rAppend:V->List V->Hp->VK->Prop:=λx vs H Q=>∃l xs y,x=.ref l/\vs=[y]/\H l=some (.l xs)/\xs.length<sizeLine/\Q .non (upd H l (.l (xs++[y])))
def zCB:MtM X "list.append" rAppend:=by
 intro pins s O H x vs v us Q I rx rv h;obtain⟨l,xs,y,rfl,rfl,hH,hz,q⟩:=h;cases rx;obtain⟨u,rfl,ru⟩:=rv.one;obtain⟨z,its,n,r,hl,e⟩:=I.lstM hH;refine call_meets F.slot_list_append ⟨_,e,rfl⟩ F.entry_list_append (F.args_list_append_2 _ _) (PySem.list_append l its.toArray n u (by rw[size_toArray];omega)) ⟨e,?_⟩;refine⟨.non,_,I.lset (its':=its++[u]) hH e (by simp) (r.append (.cons ru .nil)) ?_,rfl,q⟩;rw[length_append,List.length_singleton];omega
def Qg{α:Type}(xs:List α)(k:Nat):(replicate k xs).flatten.length=k*xs.length:=by
 induction k with
 |zero=>simp|succ k ih=>rw[replicate_succ,flatten_cons,length_append,ih,Nat.succ_mul,add_comm]
end
end L2
namespace Att
open PySem PySem.W PySem.Calls PyProof.Rows
def WZ{P:Params}{h:Heap}:∀(ns:List Int) (vs:List Value),WellAll P h vs (ns.map WData.int)->IntsAre vs ns:=by
 intro ns
 induction ns with
 |nil =>
  intro vs w;rw[map_nil]at w;cases w;exact .nil
 |cons n ns ih =>
  intro vs w;rw[map_cons]at w;cases w with
  |cons a b =>
   cases a;exact .cons _ _ (ih _ b)
def zCC{l:OpenLaw}{n:Nat}(hn:l.most=some n){P:Params}{h:Heap}{args:List WData}{vals:List Value}
  (hpre:l.row.toRowW.claim.pre args=true) (hwl:WellAll P h vals args) :
  ∃a vs ns,vals=[Value.ref a]/\args=[WData.list (ns.map WData.int)]/\h.get? a=some {cls:=.type "list",data:=.seq vs.toArray}/\IntsAre vs ns/\ns.length<=n:=by
 have hsh:WShape.hasAll [] args [.list .int]=true:=(pre_splitW hpre).1;have hc:l.pre.holds [] {args:=args}=true:=(pre_splitW hpre).2;obtain⟨d,r,rfl,h1,h2⟩:=hasAllW_cons hsh;obtain rfl:=hasAllW_nil h2;obtain⟨xs,rfl,h3⟩:=hasW_list h1;obtain⟨ns,rfl⟩:=items_int h3;have hlen:ns.length<=n:=by
  unfold OpenLaw.pre at hc;have h4:(WTm.not (.lt (.lit (.int (n:Int))) (.len (.arg 0)))).holds [] {args:=[.list (ns.map .int)]}=true:=by
   have h4:=(holds_andW hc).1;rw[hn]at h4;exact h4
  have h5:=condW_of h4 (w_not (w_lt w_lit (w_len_list (w_arg rfl))));rw[length_map]at h5;refine Nat.le_of_not_lt λq=>?_
  have q':(n:Int)<((ns.length:Nat):Int):=by omega
  first
   | (rw[decide_eq_true q']at h5;exact absurd h5 (by decide))
   | (simp at h5;omega)
 cases hwl with
 |cons w1 w2 =>
  cases w2;cases w1 with
  |list ho hall=>exact⟨_,_,ns,rfl,rfl,ho,WZ ns _ hall,hlen⟩
def zCD(l:OpenLaw)(args:List WData):l.row.toRowW.claim.post args (.bool true) args=true :=
 postW_of (r:=l.row.toRowW) (X:=(true==true))
  (show WShape.has [] (.bool true) .bool=true by first|rfl|decide|simp[WShape.has,WShape.arms,WShape.armsAll])
  (show(WTm.eq .res (.lit (.bool true))).value [] {args:=args,res:=some (.bool true),after:=args}=some (.bool (true==true))from w_eq_bool (w_res rfl) w_lit) rfl
def attach_call{l:OpenLaw}{n:Nat}{q:Program}{loose:List Str}{XP:(Str->Option Value)->Heap->Prop}{YP:World->Heap->Prop}{d:DefRec}
  (hn:l.most=some n) (hdf:d.params.defaults=[])
  (call:∀(w:World) (s₀ s₁:Shared) (mg mb:Str->Option Value) (fa:Addr) (o:Obj) (pm cd doc:Value) (a:Addr) (vs:List Value) (ns:List Int),
   Ground q loose [] XP w s₀ mg mb s₁.heap->YP w s₁.heap ->
   s₁.heap.get? fa=some o->o.data=.func (docDef d.name d.params d.body d.scope pm cd doc)->s₁.heap.CodeRec cd d.name->mg d.name=some (.ref fa) ->
   s₁.heap.get? a=some {cls:=.type "list",data:=.seq vs.toArray}->IntsAre vs ns->ns.length<=n->s₁.gens=#[] ->
   codeAny (model l.prog w) callerA (.call (.ref fa) ⟨[.ref a],[]⟩) (λr s'=>r=.ok (.ret (.bool true))/\OldK s₁.heap s'.heap/\s'.os=s₁.os/\AllBare s'.gens) s₁) :
  WalkO q loose XP YP l.row.toRowW d [] (λf vs=>PySem.call f vs):=by
 intro w s₀ s₁ mg mb G Y fa o pm cd doc dV kV ho hd hcd hD hmg hg args vals as hpre hlay hrd hwl hlo;obtain rfl:dV=.none:=Dflts.none hD hdf;obtain rfl:kV=.none:=Dflts.noKw hD;obtain⟨a,vs,ns,rfl,rfl,hobj,hints,hlen⟩:=zCC hn hpre hwl;refine enter_call (codeAny_mono (call w s₀ s₁ mg mb fa o pm cd doc a vs ns G Y ho (fd_plain hd) hcd hmg hobj hints hlen hg) λr s' hq=>?_);obtain⟨rfl,h2,h3,h4⟩:=hq;exact⟨.inl ⟨.bool true,.bool true,[],rfl,λ_=>rfl,.bool true,zCD l _,λ_=>⟨List.Pairwise.nil,λ_ hm=>(nomatch hm)⟩⟩,h2,h3,h4⟩
end Att
namespace L2
open PySem PySem.Spec PyProof.Rows
theorem Gd:∀{vs:List Value} {ns:List Int},IntsAre vs ns->ya (ns.map V.int) vs
 |_,_,.nil=>.nil|_,_,.cons n t h=>.cons ⟨t,rfl⟩ (Gd h)
def Only(H:Hp):Prop:=∀b,H b=none\/∃o xs,H b=some (.frz o (.l xs))
def zD4{P:Program}{w:World}{K:qH}{mg mb:Str->Option Value}{CX:CXT}{k:Nat}{fa a:Addr}{fd:FuncData}{x:Str}{sp:Sp}{s₁:Shared}{vs:List Value}{ns:List Int}
  (KX:K.In s₁.heap) (hns:s₁.heap.Ns mainGlobals mg) (hb:s₁.heap.Ns builtinsNs mb) (hbb:∀x:Str,x≠"__name__"->mb x=bootBuiltins x) (hlim:s₁.heap.NoLimit) (hg:s₁.gens=#[])
  (ha:s₁.heap.get? a=some {cls:=.type "list",data:=.seq vs.toArray}) (hi:IntsAre vs ns) (hl:ns.length<=sizeLine) (hr:Room k callerA)
  (F:∀base:Heap,K.In base->base.Ns mainGlobals mg->FnOk P w K mg base CX k fa fd [x] sp) (hbind:∀(s:Shared) (u:Value),BindsTo s fd ⟨[u],[]⟩ [(x,u)])
  (hsp:∀H:Hp,Only H->SqL K H a (ns.map V.int)->sp [.ref a] H (λv _=>v=.bl true) λ_ _ _=>False)
  (hCX:∀H e s',CX [] H s₁ (λ_ _ _=>False) e s'->False) :
  codeAny (model P w) callerA (.call (.ref fa) ⟨[.ref a],[]⟩) (λr s'=>r=.ok (.ret (.bool true))/\OldK s₁.heap s'.heap/\s'.os=s₁.os/\AllBare s'.gens) s₁:=by
 have rv:=Gd hi;have lenV:=hi.length
 -- from an abstract heap in which nothing but the script may be tracked
 have core:∀H:Hp,Only H->SqL K H a (ns.map V.int)->HOk P w H s₁.heap->(∀b,H b≠none->b=a)->(H a≠none->K.lookup a=none) ->
   codeAny (model P w) callerA (.call (.ref fa) ⟨[.ref a],[]⟩) (λr s'=>r=.ok (.ret (.bool true))/\OldK s₁.heap s'.heap/\s'.os=s₁.os/\AllBare s'.gens) s₁:=by
  intro H hO hS hok hA hK;have base_of:∀{b:Addr} {o:Obj},s₁.heap.get? b=some o->H b=none->(zDo s₁.heap H).get? b=some o:=λe n=>zDp e n
  have noA:∀{b:Addr} {o:Obj} {es:Array DictEntry} {ep:Nat},s₁.heap.get? b=some o->o.data=.dict es ep->H b=none:=λ{b o es ep} e d=>by
   cases q:H b with
   |none=>rfl
   |some u =>
    have e':b=a:=hA b (by rw[q];simp);subst e';rw[ha]at e;cases e;have d':Data.seq vs.toArray _=Data.dict es ep:=d;cases d'
  have nsK:∀{b:Addr} {m:Str->Option Value},s₁.heap.Ns b m->(zDo s₁.heap H).Ns b m:=λ{b m} ⟨o,es,ep,e,d,r⟩=>⟨o,es,ep,base_of e (noA e d),d,r⟩
  have hKb:K.In (zDo s₁.heap H):=λb o e=>base_of (KX b o e) (by
   cases q:H b with
   |none=>rfl
   |some u =>
    have e':b=a:=hA b (by rw[q];simp);subst e';rw[hK (by rw[q];simp)]at e;cases e)
  have hM:Mod K mg (zDo s₁.heap H):=⟨hKb,nsK hns,⟨mb,nsK hb,hbb⟩,let ⟨mc,h1,h2⟩:=hlim;⟨mc,nsK h1,h2⟩⟩;have e0:Env0 P w K mg (zDo s₁.heap H) callerA [] s₁ H:=⟨rfl,hM,λb o e=>of_hidT e,Nat.le_of_eq (zBn _ _),trivial,λb hb=>absurd (show b∈([]:List Addr)from hb) (by simp),hok,.of_eq hg⟩;refine codeAny_mono ((F _ hKb (nsK hns)).run callerA [] s₁ H ⟨[.ref a],[]⟩ [.ref a] [.ref a] _ _ hr e0 (hbind s₁ (.ref a)) (.cons rfl .nil) (hsp H hO hS)) λr s' h=>?_
  cases r with
  |error e=>exact(hCX H e s' h).elim
  |ok fl =>
   cases fl with
   |next=>exact False.elim h|brk=>exact False.elim h|cont=>exact False.elim h
   |ret u =>
    obtain⟨v,H',os,bare,un,hok',r',q⟩:=h;have q':v=.bl true:=q;subst q';obtain rfl:u=Value.bool true:=r';refine⟨rfl,OldK.of_keep λb o e=>?_,os,bare⟩;cases q:H b with
    |none=>exact un.keep b o e q (by intro z;exact absurd (show b∈([]:List Addr)from z) (by simp)) (by simp)
    |some u =>
     rcases hO b with z|⟨ob,xs,z⟩
     ·rw[q]at z;cases z
     ·have z2:=un.frzs b ob _ z
      obtain⟨e1,_⟩:=hok b _ z;obtain⟨e2,_⟩:=hok' b _ z2;rw[e]at e1;cases e1;exact e2
 cases hk:K.lookup a with
 |some o =>
  -- the script is one of the module's own objects
  have e:=KX a o hk;rw[ha]at e;cases e;refine core (λ_=>none) (λ_=>.inl rfl) (.inr ⟨_,vs.toArray,_,hk,rfl,rfl,rfl,by rw[size_toArray,lenV];exact hl,by simpa using rv⟩) (λb u z=>by have z':(none:Option HO)=some u:=z;cases z') (λb z=>absurd rfl z) λz=>absurd rfl z
 |none =>
  refine core (λb=>if b=a then some (.frz {cls:=.type "list",data:=.seq vs.toArray} (.l (ns.map V.int)))else none) (λb=>?_) (.inl (.inr ⟨{cls:=.type "list",data:=.seq vs.toArray},if_pos rfl⟩)) (λb u z=>?_) (λb z=>?_) λ_=>hk
  ·by_cases hb:b=a
   ·exact .inr ⟨_,_,if_pos hb⟩
   ·exact .inl (if_neg hb)
  ·by_cases hb:b=a
   ·have z':=(if_pos hb).symm.trans z
    cases z';subst hb;exact⟨ha,by rw[length_map];exact hl,vs,_,rv,ha⟩
   ·have z':=(if_neg hb).symm.trans z
    cases z'
  ·by_cases hb:b=a
   ·exact hb
   ·exact absurd (if_neg hb) z
abbrev E0:XK:=λ_ _ _=>False
structure Fun(K:qH)(x qual:Str)(st:Stmt)(f:Addr)(fd:FuncData):Prop where
 ex:∃(oc:Value) (od:Option Addr) (kV doc pm:Value) (an:Option Addr) (cdv ct:Value) (osl:Array (Option Value)),
  fd=fnOf x qual (J3 st) (jO st) (zn st) .none kV doc pm an cdv ct/\K.lookup f=some ⟨oc,od,.func fd,osl⟩/\codeIn K cdv qual=true
 kp:keepIn K (.ref f)=true
section
variable{P:Program}{w:World}{K:qH}{mg:Str->Option Value}{base:Heap}
def Fun.binds{x qual:Str}{st:Stmt}{f:Addr}{fd:FuncData}{ps:List Str}(F:Fun K x qual st f fd)
  (h:∀(kV doc pm:Value) (an:Option Addr) (cdv ct:Value) (us:List Value),us.length=ps.length->bindArgs (fnOf x qual (J3 st) (jO st) (zn st) .none kV doc pm an cdv ct) ⟨us,[]⟩=pure (ps.zip us)):Z3 K fd ps []:=by
 obtain⟨oc,od,kV,doc,pm,an,cdv,ct,osl,rfl,lk,hcd⟩:=F.ex;exact .all (h kV doc pm an cdv ct)
def zFZ{x qual:Str}{st:Stmt}{f:Addr}{oc:Value}{od an:Option Addr}{osl:Array (Option Value)}{kV doc pm cdv ct:Value}(l:K.lookup f=some ⟨oc,od,.func (fnOf x qual (J3 st) (jO st) (zn st) .none kV doc pm an cdv ct),osl⟩)
  (c:codeIn K cdv qual=true) (k:keepIn K (.ref f)=true):Fun K x qual st f (fnOf x qual (J3 st) (jO st) (zn st) .none kV doc pm an cdv ct):=⟨⟨oc,od,kV,doc,pm,an,cdv,ct,osl,rfl,l,c⟩,k⟩
end
def zD5{A B:Prop}(h:B):if false=true then A else B:=by
 rw[if_neg qF];exact h
def zD6{A B:Prop}(h:A):if true=true then A else B:=by
 rw[if_pos rfl];exact h
def ZA(H H':Hp):Prop:=∀b o,H b=some o->H' b=some o
def ZA.refl(H:Hp):ZA H H:=λ_ _ h=>h
def ZA.trans{H H1 H2:Hp}(a:ZA H H1)(b:ZA H1 H2):ZA H H2:=λc o h=>b c o (a c o h)
def ZA.seq{K:qH}{H H':Hp}{a:Addr}{xs:List V}(e:ZA H H')(h:SqL K H a xs):SqL K H' a xs:=by
 rcases h with(h|⟨o,h⟩)|h
 ·exact .inl (.inl (e _ _ h))
 ·exact .inl (.inr ⟨o,e _ _ h⟩)
 ·exact .inr h
end L2
namespace DV
open PySem L2
abbrev KN:=Option Int
def oV:KN->V
 |none=>.non|some i=>.int i
def knIs:KN->Value->Bool
 |none,.none=>true|some i,v=>Value.isInt i v|_,_=>false
def jU{k:KN}{v:Value}(h:knIs k v=true):(k=none/\v=.none)\/∃i t,k=some i/\v=.int i t:=by
 cases k with
 |none=>cases v<;>first|exact .inl ⟨rfl,rfl⟩|(cases h)
 |some i=>obtain⟨t,e⟩:=Value.isInt_shape (k:=i) (v:=v) h;exact .inr ⟨i,t,rfl,e⟩
def kn_of{k:KN}{u:Value}(r:yK (oV k) u):knIs k u=true:=by
 cases k with
 |none=>cases r;rfl|some i=>obtain⟨t,rfl⟩:=r;simp[knIs,Value.isInt]
def hN:KN->Int
 |none=>0xFCA86420|some i=>hashInt i
section
variable{prog:Program}{w:World}{A:Around}{E:Value->Shared->Prop}{s:Shared}
def ZC{Q:Int->Shared->Prop}(h:Q 0xFCA86420 {s with toks:=s.toks+1}):wpAny (model prog w) A (pyHash .none) Q E s:=by
 have hT:s.TypeIs .none "NoneType":=rfl;unfold pyHash
 first|unfold pyHashByItsType|skip
 have hv:[Value.none].any Value.onHeap=false:=rfl;refine qB ?_;rw[cRoomFor,if_neg (by rw[hv];exact qF)];refine qC ?_;refine qB (wpAny_specialOf hT F.slot_NoneType_hash.lookup ?_);show wpAny _ _ (if(some (Value.builtin "NoneType.__hash__")==some Value.none)=true then _ else _) Q E s;rw[if_neg (by rw[beq_builtin_none];exact qF)];refine qB (wpAny_specialOf hT F.slot_NoneType_hash.lookup ?_);show wpAny _ _ (callSpecialIfBoundUnlessNone? .none "__hash__" _ >>= _) Q E s;refine qB (wpAny_callSpecialIfBoundUnlessNone?_slot hT F.slot_NoneType_hash
  (wpAny_call_entry F.slot_NoneType_hash hT F.entry_NoneType_hash
   (show wpAny _ _ (do ret (<- mkInt 0xFCA86420)) _ _ s from wpAny_ret_mkInt ?_) (F.args_NoneType_hash_1 _)))
 exact qC h
end
def wy(prog:Program)(w:World):KeyKind prog w KN where
 is:=knIs
 hash:=hN
 inj:=λv a b ha hb=>by
  rcases jU ha with⟨rfl,rfl⟩|⟨i,t,rfl,rfl⟩
  ·rcases jU hb with⟨rfl,e⟩|⟨j,u,rfl,e⟩
   ·rfl
   ·cases e
  ·rcases jU hb with⟨rfl,e⟩|⟨j,u,rfl,e⟩
   ·cases e
   ·injection e with e1 _;rw[e1]
 byValue:=λk v h=>by
  rcases jU h with⟨rfl,rfl⟩|⟨i,t,rfl,rfl⟩<;>rfl
 pyHash:=λhv h=>by
  rcases jU hv with⟨rfl,rfl⟩|⟨i,t,rfl,rfl⟩
  ·exact ZC h
  ·exact wpAny_pyHash_int h
 eqBool:=λ{A E s a b u v Q} hu hv h=>by
  have e:(if eqV (oV a) (oV b)=true then True else True):=by split<;>trivial
  rcases jU hu with⟨rfl,rfl⟩|⟨i,t,rfl,rfl⟩
  ·rcases jU hv with⟨rfl,rfl⟩|⟨j,u,rfl,rfl⟩
   ·exact vf (y:=.non) (x:=.non) rfl rfl rfl rfl _ _ _ _ h
   ·exact vf (y:=.non) (x:=.int j) rfl ⟨u,rfl⟩ rfl rfl _ _ _ _ h
  ·rcases jU hv with⟨rfl,rfl⟩|⟨j,u,rfl,rfl⟩
   ·exact vf (y:=.int i) (x:=.non) ⟨t,rfl⟩ rfl rfl rfl _ _ _ _ h
   ·refine wpAny_eqBool_int ?_
    have:(i==j)=decide (some i=some j):=by
     by_cases q:i=j
     ·subst q;simp
     ·simp[q]
    rw[this];exact h
 «strs»:=λk x t v h=>by
  rcases jU h with⟨_,e⟩|⟨_,_,_,e⟩<;>cases e
def hT(ks:List KN):Int:=reduceHash (Builtin.Tuple.tupleHashOf (ks.map hN))
abbrev DE:=List KN×Addr×V
abbrev DX:=List KN×Addr×Value
def entN(x:DX):DictEntry:=⟨hT x.1,.ref x.2.1,x.2.2⟩
abbrev wJ:List DE->List DX->Prop:=Paired λe x=>x.1=e.1/\x.2.1=e.2.1/\yK e.2.2 x.2.2
def zFa(a:Addr)(es:List DE)(h:Heap):Prop:=(a==sysModules)=false/\es.length<=sizeLine/\(es.map (·.1)).Nodup/\∃(o:Obj) (esA:Array DictEntry) (ep:Nat) (xs:List DX),h.get? a=some o/\o.ExactDict/\o.data=.dict esA ep/\wJ es xs/\esA.toList=xs.map entN
def Zi(a:Addr)(es:List DE):HO:=.dN (zFa a es)
def OwnK(o:HO):Prop:=(∃xs,o=.l xs)\/∃φ,o=.dN φ
def zCE{a:Addr}{es:List DE}{h1 h2:Heap}(x:zFa a es h1)(k:∀o,h1.get? a=some o->h2.get? a=some o):zFa a es h2:=by
 obtain⟨x1,x2,x3,o,esA,ep,xs,e,r⟩:=x;exact⟨x1,x2,x3,o,esA,ep,xs,k o e,r⟩
def zAR{P:Program}{w:World}{H:Hp}{h:Heap}{a:Addr}{es:List DE}(x:zFa a es h):j9 P w H h a (Zi a es):=by
 obtain⟨_,_,_,o,_,_,_,e,_⟩:=id x;exact⟨x,⟨o,e⟩,λh1 h2 y k=>zCE y k⟩
section
variable{P:Program}{w:World}{h:Heap}{a:Addr}{es:List DE}{xs:List DX}
theorem wJ.keys:∀{es:List DE} {xs:List DX},wJ es xs->xs.map (·.1)=es.map (·.1)
 |_,_,.nil=>rfl|_,_,.cons r t=>by simp only[map_cons];rw[r.1,wJ.keys t]
theorem wJ.mem:∀{es:List DE} {xs:List DX} {x:DX},wJ es xs->x∈xs->∃e∈es,x.1=e.1/\x.2.1=e.2.1/\yK e.2.2 x.2.2
 |_,_,_,.nil,h=>by cases h
 |_,_,_,.cons r t,h=>by
  rcases mem_cons.mp h with rfl|h
  ·exact⟨_,qE,r⟩
  ·obtain⟨e,he,q⟩:=wJ.mem t h
   exact⟨e,qD _ he,q⟩
def atE(es:List DE)(k:List KN):Option V:=(es.find? λe=>decide (e.1=k)).map (·.2.2)
theorem wJ.at:∀{es:List DE} {xs:List DX} {k:List KN} {v:V},wJ es xs->atE es k=some v->∃p,atKey xs k=some p/\yK v p.2
 |_,_,_,_,.nil,h=>by cases h
 |e::es,x::xs,k,v,.cons r t,h=>by
  unfold atE atKey at *;rw[find?_cons]at h ⊢;by_cases q:e.1=k
  ·rw[decide_eq_true q]at h
   rw[decide_eq_true (r.1.trans q)];simp only[Option.map_some,Option.some.injEq]at h;subst h;exact⟨x.2,rfl,r.2.2⟩
  ·rw[decide_eq_false q]at h
   rw[decide_eq_false (λz=>q (r.1.symm.trans z))];exact wJ.at t h
theorem wJ.none:∀{es:List DE} {xs:List DX} {k:List KN},wJ es xs->atE es k=none->atKey xs k=none
 |_,_,_,.nil,_=>rfl
 |e::es,x::xs,k,.cons r t,h=>by
  unfold atE atKey at *;rw[find?_cons]at h ⊢;by_cases q:e.1=k
  ·rw[decide_eq_true q]at h;cases h
  ·rw[decide_eq_false q]at h
   rw[decide_eq_false (λz=>q (r.1.symm.trans z))];exact wJ.none t h
def Z7(es:List DE)(k:List KN)(ka:Addr)(v:V):List DE:=if(atE es k).isSome then es.map (λe=>if e.1=k then(e.1,e.2.1,v)else e)else es++[(k,ka,v)]
theorem wJ.mapP:∀{es:List DE} {xs:List DX} {k:List KN} {v:V} {u:Value},wJ es xs->yK v u->wJ (es.map λe=>if e.1=k then(e.1,e.2.1,v)else e) (xs.map (putAt k u))
 |_,_,_,_,_,.nil,_=>.nil
 |e::es,x::xs,k,v,u,.cons r t,rv=>by
  simp only[map_cons];refine .cons ?_ (wJ.mapP t rv);unfold putAt;by_cases q:e.1=k
  ·rw[if_pos q,if_pos (r.1.trans q)];exact⟨r.1,r.2.1,rv⟩
  ·rw[if_neg q,if_neg (λz=>q (r.1.symm.trans z))];exact r
theorem wJ.app:∀{es fs:List DE} {xs ys:List DX},wJ es xs->wJ fs ys->wJ (es++fs) (xs++ys)
 |_,_,_,_,.nil,g=>g|_,_,_,_,.cons r t,g=>.cons r (wJ.app t g)
def wJ.put{k:List KN}{ka:Addr}{v:V}{u:Value}(h:wJ es xs)(rv:yK v u):wJ (Z7 es k ka v) (storedH xs k ka u):=by
 unfold Z7 storedH;cases q:atE es k with
 |none=>rw[wJ.none h q];exact h.app (.cons ⟨rfl,rfl,rv⟩ .nil)
 |some y =>
  obtain⟨p,e,_⟩:=wJ.at h q;rw[e];exact h.mapP rv
def Ge{k:List KN}{ka:Addr}{v:V}(hn:(es.map (·.1)).Nodup):((Z7 es k ka v).map (·.1)).Nodup/\(Z7 es k ka v).length<=es.length+1:=by
 unfold Z7;cases q:atE es k with
 |none =>
  simp only[Option.isSome_none,Bool.false_eq_true,if_false];refine⟨?_,by simp⟩;rw[map_append];refine nodup_append.mpr ⟨hn,by simp,λa ha b hb=>?_⟩;simp only[map_cons,map_nil,mem_singleton]at hb;subst hb;intro z;subst z;obtain⟨e,he,rfl⟩:=mem_map.mp ha;unfold atE at q;simp only[Option.map_eq_none_iff,List.find?_eq_none]at q;exact q e he (decide_eq_true rfl)
 |some y =>
  simp only[Option.isSome_some,if_true];refine⟨?_,by simp⟩;have:(es.map λe=>if e.1=k then(e.1,e.2.1,v)else e).map (·.1)=es.map (·.1):=by
   rw[map_map];refine map_congr_left λe _=>?_
   simp only[Function.comp];split<;>rfl
  rw[this];exact hn
end
section
variable{X:Cx}{pins:List (Addr×Obj)}{O:L2.St}{H:Hp}{s:Shared}{a:Addr}{es:List DE}
def vg{ks:List KN}{ka:Addr}(I:Inv X pins O H s)(h:SqT X.K H ka (ks.map oV)):IsTupleKey (wy X.prog X.w) s.heap ks ka:=by
 obtain⟨its,r,p,_⟩:=I.tuple h;obtain⟨o,ho,hc,n,hd⟩:=p;refine⟨o,its.toArray,n,ho,hc,hd,?_⟩;have gen:∀{ks:List KN} {us:List Value},ya (ks.map oV) us->ItemsAre (wy X.prog X.w) ks us:=λ{ks}=>by
  induction ks with
  |nil=>intro us h;cases h;exact .nil
  |cons k ks ih=>intro us h;cases h with|cons r t=>exact .cons (kn_of r) (ih t)
 exact gen r
def zAS(I:Inv X pins O H s)(e:H a=some (Zi a es))(hk:∀x∈es,SqT X.K H x.2.1 (x.1.map oV)):∃xs:List DX,wJ es xs/\s.heap.DictOfH (tupleKind (wy X.prog X.w)) a xs/\(a==sysModules)=false/\es.length<=sizeLine/\(es.map (·.1)).Nodup:=by
 obtain⟨⟨x1,x2,x3,o,esA,ep,xs,h1,h2,h3,h4,h5⟩,_⟩:=(show j9 X.prog X.w H s.heap a (Zi a es)from I.hok a _ e);refine⟨xs,h4,⟨o,esA,ep,h1,h2,h3,h5,λx hx=>?_,by rw[wJ.keys h4];exact x3⟩,x1,x2,x3⟩;obtain⟨y,hy,q1,q2,_⟩:=wJ.mem h4 hx;rw[q1,q2];exact vg I (hk y hy)
end
def wV(h h':Heap):Prop:=∀b o,h.get? b=some o->∃o',h'.get? b=some o'/\o'.dict=o.dict
def wV.refl(h:Heap):wV h h:=λ_ o e=>⟨o,e,rfl⟩
theorem wV.trans{h1 h2 h3:Heap}(a:wV h1 h2)(b:wV h2 h3):wV h1 h3:=λc o e=>by
 obtain⟨o1,e1,d1⟩:=a c o e;obtain⟨o2,e2,d2⟩:=b c o1 e1;exact⟨o2,e2,d2.trans d1⟩
def wV.of_keeps{h h':Heap}(k:∀b o,h.get? b=some o->h'.get? b=some o):wV h h':=λb o e=>⟨o,k b o e,rfl⟩
def wV.upd{h:Heap}{a:Addr}{f:Obj->Obj}(hf:∀o,(f o).dict=o.dict/\(o.isFreed=false->(f o).isFreed=false)):wV h (h.update a f):=λb o e=>by
 by_cases hb:a=b
 ·subst hb
  exact⟨f o,Heap.get?_update_self _ e ((hf o).2 (Heap.get?_some_iff.mp e).2),(hf o).1⟩
 ·exact⟨o,(Heap.get?_update_other _ _ hb).trans e,rfl⟩
def jV{α:Type}:Sem α->Prop
 | .pure _=>True| .raise _=>True| .unsupported _=>True| .finish _=>True| .rule _ k=>jV (k ())| .at _ k=>jV (k ())| .load _ _ k=>∀o,jV (k o)| .update _ _ f k=>(∀o,(f o).dict=o.dict/\(o.isFreed=false->(f o).isFreed=false))/\jV (k ())| .alloc _ k=>∀a,jV (k a)| .stack k=>∀l,jV (k l)|_=>False
theorem jV.bind{α β:Type}{f:α->Sem β}(hf:∀a,jV (f a)){t:Sem α}(ht:jV t):jV (t >>= f):=by
 show jV (t.bind f)
 induction t with
 |pure a=>exact hf a|raise _=>trivial|unsupported _=>trivial|finish _=>trivial|rule _ k ih=>exact ih () ht| «at» _ k ih=>exact ih () ht|load _ _ k ih=>exact λo=>ih o (ht o)|update _ _ _ k ih=>exact⟨ht.1,ih () ht.2⟩|alloc _ k ih=>exact λa=>ih a (ht a)|stack k ih=>exact λl=>ih l (ht l)|_=>exact False.elim ht
def tame_wp{α:Type}(M:Model)(Γ:Ctx)(h0:Heap)(Q:α->Pos->Shared->Prop)(E:Value->Pos->Shared->Prop)(t:Sem α):∀(p:Pos) (s:Shared),jV t->wV h0 s.heap->Sem.wp M Γ t Q E p s ->
  Sem.wp M Γ t (λa p' s'=>Q a p' s'/\wV h0 s'.heap) (λe p' s'=>E e p' s'/\wV h0 s'.heap) p s:=by
 induction t with
 |pure a=>intro p s _ k h;rw[Sem.wp]at h ⊢;exact⟨h,k⟩|raise a=>intro p s _ k h;rw[Sem.wp]at h ⊢;exact⟨h,k⟩|unsupported _=>intro p s _ k h;rw[Sem.wp]at h;exact h.elim|finish _=>intro p s _ k h;rw[Sem.wp]at h;exact h.elim|rule _ f ih=>intro p s t k h;rw[Sem.wp]at h ⊢;exact ih () p s t k h| «at» _ f ih=>intro p s t k h;rw[Sem.wp]at h ⊢;exact ih () _ s t k h
 |load a _ f ih =>
  intro p s t k h;rw[Sem.wp]at h ⊢;obtain⟨o,e,h⟩:=h;exact⟨o,e,ih o p s (t o) k h⟩
 |update a _ g f ih =>
  intro p s t k h;rw[Sem.wp]at h ⊢;exact⟨h.1,ih () p _ t.2 (k.trans (wV.upd t.1)) h.2⟩
 |alloc o f ih =>
  intro p s t k h;rw[Sem.wp]at h ⊢;exact ih _ p _ (t _) (k.trans (wV.of_keeps λb o e=>qA _ e)) h
 |stack f ih=>intro p s t k h;rw[Sem.wp]at h ⊢;exact ih _ p s (t _) k h|_=>intro p s t;exact False.elim t
def vh{α:Type}{M:Model}{A:Around}{t:Sem α}{Q:α->Shared->Prop}{E:Value->Shared->Prop}{s:Shared}(ht:jV t)(h:wpAny M A t Q E s) :
  wpAny M A t (λa s'=>Q a s'/\wV s.heap s'.heap) (λe s'=>E e s'/\wV s.heap s'.heap) s:=λΓ p hΓ =>
 tame_wp M Γ s.heap _ _ t p s ht (wV.refl _) (h Γ p hΓ)
def jW{α:Type}{c:Prop}[Decidable c]{a b:Sem α}(ha:jV a)(hb:jV b):jV (if c then a else b):=by split<;>assumption
def mapF_ok(f:Array Value->Array Value)(o:Obj):(Obj.mapFields f o).dict=o.dict/\(o.isFreed=false->(Obj.mapFields f o).isFreed=false):=by
 obtain⟨c,d,dt,sl⟩:=o;cases dt<;>exact⟨rfl,λh=>h⟩
def Wa(a:Addr):jV (load a):=λ_=>trivial
def zAT{a:Addr}{f:Obj->Obj}(h:∀o,(f o).dict=o.dict/\(o.isFreed=false->(f o).isFreed=false)):jV (update a f):=⟨h,trivial⟩
def JX(v:Value)(i:Nat):jV (field v i):=by
 unfold field fieldsOf;refine jV.bind (λa=>?_) ?_
 ·cases a[i]?<;>trivial
 ·cases v<;>first|trivial|skip
  refine jV.bind (λo=>?_) (Wa _);cases o.data<;>trivial
def wW(v:Value)(i:Nat)(x:Value):jV (setField v i x):=by
 unfold setField updateField;cases v with
 |ref a =>
  refine jV.bind (λo=>?_) (Wa _);cases o.data<;>first|trivial|skip;exact jW (zAT (mapF_ok _)) trivial
 |_=>trivial
def ZD:jV stack:=λ_=>trivial
def vH(v:Value)(f:Option Addr):jV (setFlight v f):=by
 unfold setFlight;refine jV.bind (λtb=>jW (wW _ _ _) ?_) (JX v 1);exact trivial
theorem vi:∀l:List Env,jV (readyFrames l)
 | []=>trivial
 |env::outer=>by
  unfold readyFrames;cases env.frame with
  |none=>trivial
  |some f =>
   refine jV.bind (λo=>jW ?_ ?_) (Wa f)
   ·exact trivial
   refine jV.bind (λim=>?_) ?_
   ·refine jV.bind (λbk=>?_) ?_
    ·refine jV.bind (λ_=>vi outer) (zAT λo=>⟨rfl,?_⟩)
     obtain⟨c,d,dt,sl⟩:=o;cases dt<;>exact λh=>h
    ·cases outer with
     |nil =>
      refine jW ?_ (jV.bind (λb=>?_) (jV.bind (λ_=>?_) ZD))
      all_goals exact trivial
     |cons c r=>exact trivial
   ·unfold behindIsImport
    refine jW ?_ (jW ?_ (jV.bind (λ_=>?_) (JX _ _)))
    all_goals exact trivial
def zCF(v:Value)(env:Env):jV (noteFrame v env):=by
 unfold noteFrame;cases env.frame with
 |none=>trivial
 |some f =>
  have hN:∀head:Value,jV (do setField v 1 (<- EntryCells.newEntry head (<- frameOf env) .none (rawInt f) .none (<- entryPlaceOf f (head != .none)))):=λhead=>by
   refine jV.bind (λfr=>?_) ?_
   ·refine jV.bind (λpl=>?_) ?_
    ·refine jV.bind (λx=>wW _ _ _) ?_
     unfold EntryCells.newEntry newFields newObj;refine jW ?_ ?_
     ·exact trivial
     ·exact λa=>trivial
    ·unfold entryPlaceOf
     refine jV.bind (λacts=>?_) ZD;split<;>exact trivial
   ·unfold frameOf frameObject
    refine jV.bind (λe=>?_) (jV.bind (λ_=>?_) ZD)
    ·refine jV.bind (λo=>?_) ?_
     ·cases o<;>exact trivial
     ·split
      ·exact trivial
      ·refine jV.bind (λ_=>?_) (vi _)
       exact trivial
    ·exact trivial
  refine jV.bind (λhead=>jW ?_ (hN head)) (JX v 1);refine jV.bind (λx=>jW ?_ ?_) (JX _ _)
  ·exact trivial
  ·exact jV.bind (λ_=>hN head) (wW _ _ _)
def Zj(env:Env)(v:Value):jV (leaving env v):=jV.bind (λ_=>vH v none) (zCF v env)
end DV
namespace DV
open PySem L2 PyProof.Rows
def ExO(C a:Addr):HO:=.ext λh=>∃o,h.get? a=some o/\o.cls=.ref C
def ExA(C d a:Addr):HO:=.ext λh=>∃o,h.get? a=some o/\o.cls=.ref C/\o.dict=some d/\∃vs,o.data=.fields vs
def XD(d:Addr)(fs:List (Str×V)):HO:=.ext λh=>∃mA,h.Ns1 d mA/\∀f,RelO (fs.lookup f) (mA f)
def Qh(a:Addr)(od:Option Addr)(h:Heap):Prop:=∀d,od=some d->∃o,h.get? a=some o/\o.dict=some d
def Qh.on{a:Addr}{od:Option Addr}{h h':Heap}(l:Qh a od h)(k:wV h h'):Qh a od h':=λd e=>by
 obtain⟨o,e1,d1⟩:=l d e;obtain⟨o',e2,d2⟩:=k a o e1;exact⟨o',e2,d2.trans d1⟩
structure MadeD(h h':Heap)(a:Addr)(C:Value)(od:Option Addr):Prop where
 keeps:∀b o,h.get? b=some o->h'.get? b=some o
 new:h.get? a=none
 there:∃oe vs t,h'.get? a=some oe/\oe.cls=C/\(∀d,od=some d->oe.dict=some d)/\oe.data=.fields vs/\vs[1]?=some .none/\vs[0]?=some (.ref t)
def MadeD.link{h h':Heap}{a:Addr}{C:Value}{od:Option Addr}(x:MadeD h h' a C od):Qh a od h':=λd e=>by
 obtain⟨oe,_,_,h1,_,h2,_⟩:=x.there;exact⟨oe,h1,h2 d e⟩
def zD7{P:Program}{w:World}{H:Hp}{h:Heap}{a:Addr}{o:HO}(x:j9 P w H h a o):∃u,h.get? a=some u:=by
 cases o with
 |l xs=>obtain⟨_,_,_,_,e⟩:=x;exact⟨_,e⟩|t xs=>obtain⟨_,_,_,o,e,_⟩:=x;exact⟨_,e⟩|dK kvs=>obtain⟨_,_,_,_,o,_,_,e,_⟩:=x;exact⟨_,e⟩|dT kvs=>obtain⟨_,_,_,_,o,_,_,e,_⟩:=x;exact⟨_,e⟩|set S n=>obtain⟨o,_,_,_,e,_⟩:=x;exact⟨_,e⟩|ins C dx fs=>obtain⟨_,_,_,e,_⟩:=x;exact⟨_,e⟩|own y=>exact x|xd fs=>obtain⟨_,⟨_,_,_,e,_⟩,_⟩:=x;exact⟨_,e⟩|rng lo hi=>obtain⟨_,_,_,e⟩:=x;exact⟨_,e⟩|frz ob u=>obtain⟨e,_⟩:=x;exact⟨_,e⟩|tbl ps=>exact⟨_,(show h.get? a=some _ from x)⟩|met f y=>exact⟨_,(show h.get? a=some _ from x)⟩|ext φ=>obtain⟨_,e,_⟩:=x;exact e|dN φ=>obtain⟨_,e,_⟩:=x;exact e
def zFb(B:Heap)(H:Hp)(g:Heap)(fs:List Addr)(h:Heap):Prop:=∀b o,h.get? b=some o->((∃o',g.get? b=some o')\/H b≠none)->b∉fs->B.get? b=some o
def Flies(l:List Env)(H:Hp)(g:Heap)(a C:Addr)(h:Heap):Prop:=∃B t,Heap.FlyingW B l a (.ref C) (.ref t) h/\zFb B H g (frs l) h
def CXx(P:Program)(w:World):CXT:=λouter H s E e s'=>∃a C od H',e=.ref a/\s'.os=s.os/\AllBare s'.gens/\Un (frs outer) [] H H' s.heap s'.heap/\HOk P w H' s'.heap/\H' a=none/\Flies outer H' s.heap a C s'.heap/\Qh a od s'.heap/\E (.ref C) od H'
section
variable{P:Program}{w:World}{fs:List Addr}{H H':Hp}{g h h' B:Heap}{L:Addr}
def un_on(u:Un fs [] H H' g h)(ok:HOk P w H' h)(kb:zFb B H' g (L::fs) h)(st:B.StaysIn h')(hL:g.get? L=none)(hf:∀b∈fs,∀o,h.get? b=some o->∃sl,h'.get? b=some {o with slots:=sl}):Un fs [] H H' g h' where
 keep:=λb o e n hb hx=>st b o (kb b o (u.keep b o e n hb hx) (.inl ⟨o,e⟩) λz=>by
  rcases mem_cons.mp z with rfl|z
  ·rw[hL]at e;cases e
  ·exact hb z)
 slot:=λb o e n hb hx=>by
  obtain⟨sl,q⟩:=u.slot b o e n hb hx;obtain⟨sl',q'⟩:=hf b hb _ q;exact⟨sl',q'⟩
 free:=u.free
 there:=λb o e hx=>by
  obtain⟨o',q⟩:=u.there b o e hx;by_cases hb:b∈fs
  ·obtain⟨sl,q'⟩:=hf b hb _ q;exact⟨_,q'⟩
  ·exact⟨o',st b o' (kb b o' q (.inl ⟨o,e⟩) λz=>by
    rcases mem_cons.mp z with rfl|z
    ·rw[hL]at e;cases e
    ·exact hb z)⟩
 tups:=u.tups
 frzs:=u.frzs
 tbls:=u.tbls
def zFc(ok:HOk P w H' h)(kb:zFb B H' g (L::fs) h)(st:B.StaysIn h')(hn:∀b∈L::fs,H' b=none):HOk P w H' h':=λa o e=>by
 refine(ok a o e).stay (λb u hb q=>?_) (λ_ q=>q) λ_ _ q=>q
 have ht:H' b≠none:=by
  rcases hb with rfl|hb
  ·rw[e];exact λz=>by cases z
  ·rw[hb];exact λz=>by cases z
 exact st b u (kb b u q (.inr ht) λz=>ht (hn b z))
def zCG(u:Un fs [] H H' g h)(ok:HOk P w H' h)(kb:zFb B H' g (L::fs) h)(st:B.StaysIn h')(hL:g.get? L=none)(hn:∀b∈L::fs,H' b=none):zFb B H' g fs h':=λb o e hb nf=>by
 have nL:b∉L::fs:=λz=>by
  rcases mem_cons.mp z with rfl|z
  ·rcases hb with⟨o',q⟩|q
   ·rw[hL]at q;cases q
   ·exact q (hn _ (qE))
  ·exact nf z
 have:∃o1,h.get? b=some o1:=by
  rcases hb with⟨o',q⟩|q
  ·exact u.there b o' q (by simp)
  ·obtain⟨x,hx⟩:=Option.ne_none_iff_exists'.mp q
   exact zD7 (ok b x hx)
 obtain⟨o1,q1⟩:=this;have q2:=kb b o1 q1 hb nL;have q3:=st b o1 q2;rw[e]at q3;cases q3;exact q2
end
section
variable{P:Program}{w:World}{K:qH}{mg:Str->Option Value}{base:Heap}{N:List Str}{qual:Str}{scope:Scope}{f:Addr}{cd:Value}{A:Around}{outer:List Env}{s:Shared}{H:Hp}{E:XK}
abbrev cxC(c:Bool)(P:Program)(w:World)(K:qH)(mg:Str->Option Value)(base:Heap)(N:List Str)(qual:Str)(scope:Scope)(f:Addr)(cd:Value)(A:Around)(outer:List Env)(s:Shared)(H:Hp)(E:XK):Cx :=
 {cxOf (CXx P w) P w K mg base N qual scope f cd A outer s H E with calm:=c}
variable{c:Bool}
abbrev cxX(P:Program)(w:World)(K:qH)(mg:Str->Option Value)(base:Heap)(N:List Str)(qual:Str)(scope:Scope)(f:Addr)(cd:Value)(A:Around)(outer:List Env)(s:Shared)(H:Hp)(E:XK):Cx :=
 cxOf (CXx P w) P w K mg base N qual scope f cd A outer s H E
variable{pins:List (Addr×Obj)}{O:L2.St}{H':Hp}{s' s1:Shared}{a C:Addr}
def Qi:frs (envOfC qual scope s.heap.objs.size f cd::outer)=s.heap.objs.size::frs outer:=rfl
def zBJ(I:Inv (cxC c P w K mg base N qual scope f cd A outer s H E) pins O H' s')(u:Un (frs outer) [] H H' s.heap s'.heap)(hn:H' a=none)
  (hf:∃B t,Heap.FlyingW B (cxC c P w K mg base N qual scope f cd A outer s H E).stack a (.ref C) (.ref t) s'.heap/\zFb B H' s.heap (frs (cxC c P w K mg base N qual scope f cd A outer s H E).stack) s'.heap) {od:Option Addr} (dl:Qh a od s'.heap) (hE:E (.ref C) od H') :
  (cxC c P w K mg base N qual scope f cd A outer s H E).xe (.ref a) s':=by
 obtain⟨B,t,fl,kb⟩:=hf;have hL:s.heap.get? s.heap.objs.size=none:=Heap.get?_none_of_le (le_refl _);have hN:∀b∈s.heap.objs.size::frs outer,H' b=none:=λb hb=>I.stkFree b (by show b∈frs (envOfC qual scope s.heap.objs.size f cd::outer);rw[Qi];exact hb)
 have kb':zFb B H' s.heap (s.heap.objs.size::frs outer) s'.heap:=kb;refine wpAny_mono (vh (Zj _ _) (wpAny_leaves_onW (base:=B) (E:=λ_ _=>False) (Q:=λ_ z=>∃h',z={s' with heap:=h'}/\Heap.FlyingW B outer a (.ref C) (.ref t) h'/\s'.heap.UpToSlots h') I.ok.frames rfl fl λh' fl' sl=>⟨h',rfl,fl',sl⟩)) (λ_ z ⟨⟨h',ez,fl',sl⟩,kd⟩=>?_) λ_ _ z=>z.1.elim
 subst ez;have st:B.StaysIn h':=fl'.1;have hfs:∀b∈frs outer,∀o,s'.heap.get? b=some o->∃sl,h'.get? b=some {o with slots:=sl}:=λb hb o e=>by
  obtain⟨_,o',q,nd⟩:=I.funs.mem hb;rw[e]at q;cases q;exact sl b o e nd
 exact⟨a,C,od,H',rfl,I.os,I.bare,un_on u I.hok kb' st hL hfs,zFc I.hok kb' st hN,hn,⟨B,t,fl',zCG u I.hok kb' st hL hN⟩,dl.on kd,hE⟩
def Qj(I:Inv (cxC c P w K mg base N qual scope f cd A outer s H E) pins O H' s1){od:Option Addr}(hx:MadeD s1.heap s'.heap a (.ref C) od)(hs:s'={s1 with heap:=s'.heap})(hn:H' a=none)(hE:E (.ref C) od H') :
  (cxC c P w K mg base N qual scope f cd A outer s H E).xe (.ref a) s':=by
 have u:Un (frs outer) [] H H' s.heap s1.heap:=I.base;have hL:s.heap.get? s.heap.objs.size=none:=Heap.get?_none_of_le (le_refl _);have hN:∀b∈s.heap.objs.size::frs outer,H' b=none:=λb hb=>I.stkFree b (by show b∈frs (envOfC qual scope s.heap.objs.size f cd::outer);rw[Qi];exact hb)
 have kb:zFb (hideAll s1.heap (s.heap.objs.size::frs outer)) H' s.heap (s.heap.objs.size::frs outer) s1.heap:=λb o e _ nf=>hideAll_get _ e nf
 have hin:∀env∈(envOfC qual scope s.heap.objs.size f cd::outer),∀b,env.frame=some b->b∈s.heap.objs.size::frs outer:=λenv he b hb=>by
  rw[<- Qi (qual:=qual) (scope:=scope) (f:=f) (cd:=cd)];exact mem_filterMap.mpr ⟨env,he,hb⟩
 have hstk:s1.heap.FunFrames base (envOfC qual scope s.heap.objs.size f cd::outer):=I.stack;obtain⟨oe,vs,t,e1,e2,e3,e4,e5,e6⟩:=hx.there;have fresh:(hideAll s1.heap (s.heap.objs.size::frs outer)).get? a=none:=by
  cases q:(hideAll s1.heap (s.heap.objs.size::frs outer)).get? a with
  |none=>rfl|some o'=>have:=of_hideAll _ q;rw[hx.new]at this;cases this
 have hfun:s'.heap.FunFrames (hideAll s1.heap (s.heap.objs.size::frs outer)) (envOfC qual scope s.heap.objs.size f cd::outer):=(PySem.W.funFrames_hide hstk hin).of_keeps λb o hb _=>⟨o,hx.keeps b o hb,rfl⟩
 refine wpAny_mono (vh (Zj _ _) (wpAny_leaving_firstW (base:=hideAll s1.heap (s.heap.objs.size::frs outer)) (a0:=.ref t) (E:=λ_ _=>False) (Q:=λ_ z=>∃h',z={s' with heap:=h'}/\Heap.LeftW (hideAll s1.heap (s.heap.objs.size::frs outer)) (envOfC qual scope s.heap.objs.size f cd::outer) a oe.cls (.ref t) s'.heap h') I.ok.frames hfun rfl e1 (λb o q=>hx.keeps b o (of_hideAll _ q)) fresh e4 e5 e6 λh' hL=>⟨h',rfl,hL⟩)) (λ_ z ⟨⟨h',ez,k1,⟨_,_,k2⟩,k3,x4⟩,kd⟩=>?_) λ_ _ z=>z.1.elim
 subst ez;rw[e2]at k3;have x1:Heap.FlyingW (hideAll s1.heap (s.heap.objs.size::frs outer)) outer a (.ref C) (.ref t) h':=⟨k1,fresh,k2,k3⟩;have st:=x1.1;have hfs:∀b∈frs outer,∀o,s1.heap.get? b=some o->∃sl,h'.get? b=some {o with slots:=sl}:=λb hb o e=>by
  obtain⟨_,o',q,nd⟩:=I.funs.mem hb;rw[e]at q;cases q;exact x4 b o (hx.keeps b o e) nd
 have os:s'.os=s1.os:=by rw[hs]
 have ge:s'.gens=s1.gens:=by rw[hs]
 refine⟨a,C,od,H',rfl,os.trans I.os,?_,un_on u I.hok kb st hL hfs,zFc I.hok kb st hN,hn,⟨_,t,x1,zCG u I.hok kb st hL hN⟩,hx.link.on kd,hE⟩;show AllBare s'.gens;rw[ge];exact I.bare
end
structure RoomN(k:Nat)(A:Around):Prop where
 gd:A.guards=some []
 dp:A.depth+3*k+5<recursionLimit
 un:A.units+16*k+200<cLine
def RoomN.mono{j k:Nat}{A:Around}(r:RoomN k A)(h:j<=k):RoomN j A:=⟨r.gd,by have:=r.dp;omega,by have:=r.un;omega⟩
theorem RoomN.deeper{k:Nat}{A:Around}(r:RoomN (k+1) A)(env:Env):RoomN k (A.deeper env) :=
 ⟨r.gd,by have:=r.dp;show A.depth+1+3*k+5<_;omega,by have:=r.un;show A.units+3+16*k+200<_;omega⟩
theorem RoomN.depth{k:Nat}{A:Around}(r:RoomN k A):A.depth<recursionLimit:=by have:=r.dp;omega
def zD8{k:Nat}{A:Around}(r:Room k A):RoomN k A:=⟨r.gd,r.dp,r.un⟩
section
variable{X:Cx}{pins:List (Addr×Obj)}{O:L2.St}{H:Hp}{s:Shared}
def vj(I:Inv X pins O H s)(A':Around)(c:Bool)(E:Value->Shared->Prop)(hd:c=true->A'.handled=none)(fr:A'.frames=some X.stack):Inv {X with A:=A',calm:=c,xe:=E} pins O H s :=
 ⟨⟨I.ok.mod,I.ok.kind,I.ok.glob,I.ok.blt,I.ok.above,I.ok.inj,I.ok.has,I.ok.cab,hd,fr,I.ok.stk,I.ok.exf,I.ok.bs,I.ok.bsz,I.ok.noex,I.ok.exfs,I.ok.funs,I.ok.frf⟩,I.os,I.bare,I.base,I.loc,I.cell,I.free,I.freeC,I.pin,I.hok,I.len⟩
end
abbrev cxN(c:Bool)(P:Program)(w:World)(K:qH)(mg:Str->Option Value)(base:Heap)(N:List Str)(qual:Str)(scope:Scope)(f:Addr)(cd:Value)(A:Around)(outer:List Env)(s:Shared)(H:Hp)(E:XK):Cx :=
 cxC c P w K mg base N qual scope f cd A outer s H E
structure FnOkN(c:Bool)(P:Program)(w:World)(K:qH)(mg:Str->Option Value)(base:Heap)(k:Nat)(f:Addr)(fd:FuncData)(ps:List Str)(sp:Sp):Prop where
 len:∀vs H Q E,sp vs H Q E->vs.length=ps.length
 run:∀(A:Around) (outer:List Env) (s:Shared) (H:Hp) (args:Args) (us:List Value) (vs:List V) (Q:VK) (E:XK),(c=true->A.handled=none)->RoomN k A->Env0 P w K mg base A outer s H->BindsTo s fd args (ps.zip us)->ya vs us->sp vs H Q E ->
  codeAny (model P w) A (.call (.ref f) args) (CR (CXx P w) outer P w H s Q E) s
section
variable{c:Bool}{P:Program}{w:World}{K:qH}{mg:Str->Option Value}{base:Heap}
def FnOkN.fn{k:Nat}{f:Addr}{fd:FuncData}{ps:List Str}{sp:Sp}(F:FnOkN c P w K mg base k f fd ps sp):FnOk P w K mg base (CXx P w) k f fd ps sp :=
 ⟨F.len,λA outer s H args us vs Q E hr=>F.run A outer s H args us vs Q E (λ_=>hr.hd) (zD8 hr)⟩
def fn_ofN{k:Nat}{f:Addr}{name qual:Str}{params:Arguments}{body:List Stmt}{scope:Scope}{dV kV doc pm cdv ct oc:Value}{an od:Option Addr}
  {osl:Array (Option Value)} {N ps:List Str} {sp:Sp} (lk:K.lookup f=some ⟨oc,od,.func (fnOf name qual params body scope dV kV doc pm an cdv ct),osl⟩) (hcd:codeIn K cdv qual=true) (S:FnScope N ps scope)
  (len:∀vs H Q E,sp vs H Q E->vs.length=ps.length)
  (hbody:∀(A:Around) (outer:List Env) (s:Shared) (H:Hp) (vs:List V) (Q:VK) (E:XK),(c=true->A.handled=none)->RoomN k (A.deeper (envOfC qual scope s.heap.objs.size f cdv))->sp vs H Q E ->
   ∃t,PSs (cxN c P w K mg base N qual scope f cdv A outer s H E) body t/\t {nx:=λ_ H'=>Q .non H',rt:=Q} (w8 N vs) H) :
  FnOkN c P w K mg base (k+1) f (fnOf name qual params body scope dV kV doc pm an cdv ct) ps sp:=by
 refine⟨len,λA outer s H args us vs Q E hd hr e0 hb r hsp=>?_⟩;have hl:=len _ _ _ _ hsp;have KX:K.In s.heap:=e0.mod.kin.keeps λb o e=>(e0.bs b o e).1
 have lim:s.heap.NoLimit:=e0.mod.nolimit.keeps λb o e=>(e0.bs b o e).1
 have hkind:∀y∈ps.zip us,scope.names.lookup y.1=some .local\/(scope.names.lookup y.1=some .cell/\((cellsFrom (s.heap.objs.size+1) scope.names []).lookup y.1).isSome=true):=λ⟨n,v⟩ hy=>by
  rcases S.par n (of_mem_zip hy).1 with q|q
  ·exact .inl q
  ·exact .inr ⟨q,cellsFrom_some _ _ _ (.inl q)⟩
 refine codeAny_call_function hr.depth (KX _ _ lk) rfl S.co S.gen rfl (PySem.W.codeRec_of KX hcd) (hb _ _ _ _ ?_);refine wpAny_newFunctionEnv_cells S.kind hkind λenv he s1 x=>?_
 subst he;refine⟨lim.keeps x.toInCall.keep,codeAny_func ?_⟩;obtain⟨t,ht,hq⟩:=hbody A outer s H vs Q E hd (hr.deeper _) hsp;have e1:Env0 P w K mg base {A with handled:=none} outer s H:=⟨e0.frames,e0.mod,e0.bs,e0.bsz,e0.funs,e0.frf,e0.hok,e0.bare⟩
 have I0:Inv (cxOf (CXx P w) P w K mg base N qual scope f cdv {A with handled:=none} outer s H E) [] (w8 N vs) H s1:=zB5 S rfl e1 hl r x
 have I:Inv (cxN c P w K mg base N qual scope f cdv A outer s H E) [] (w8 N vs) H s1:=vj I0 (A.deeper (envOfC qual scope s.heap.objs.size f cdv)) c _ hd (Around.frames_deeper e0.frames);refine wpAny_mono (ht [] s1 (w8 N vs) H _ I hq) (λfl s' hs=>?_) λe s' hs=>hs
 have fin:∀{O':L2.St} {H':Hp} {v:V} {u:Value},Inv (cxN c P w K mg base N qual scope f cdv A outer s H E) [] O' H' s'->yK v u->Q v H'->CE outer P w H s Q u s' :=
  λ{O' H' v u} J rv q=>⟨v,H',J.os,J.bare,J.base,J.hok,rv,q⟩
 cases fl with
 |ret u =>
  obtain⟨v,O',H',J,rv,q⟩:=hs;exact fin J rv q
 |next =>
  obtain⟨O',H',J,q⟩:=hs;exact fin (v:=V.non) (u:=Value.none) J rfl q
 |brk =>
  obtain⟨_,_,_,q⟩:=hs;exact False.elim q
 |cont =>
  obtain⟨_,_,_,q⟩:=hs;exact False.elim q
end
structure Exn where
 cls:Str
 made:Bool
 vs:List Int
 deriving Inhabited
def zCH(c:Str):List Str:=if c == "TooGreat" then ["many","most"]else if c == "NoText" then ["row"]else []
def fsV(c:Str)(vs:List Int):List (Str×V):=(zCH c).zip (vs.map V.int)
def Fs(od:Option Addr)(H:Hp)(c:Str)(vs:List Int):Prop:=vs=[]\/∃d,od=some d/\H d=some (XD d (fsV c vs))
def RelX(X:Cx)(pins:List (Addr×Obj))(O:L2.St)(x:Exn)(H:Hp)(e:Value)(s:Shared):Prop:=∃a C od,e=.ref a/\X.mg x.cls=some (.ref C)/\H a=none/\Fs od H x.cls x.vs /\
 ((x.made=true/\∃s1,Inv X pins O H s1/\s={s1 with heap:=s.heap}/\MadeD s1.heap s.heap a (.ref C) od) \/
  (x.made=false/\∃sc Hc,Inv X pins O Hc sc/\Un (frs X.stack) [] Hc H sc.heap s.heap/\Flies X.stack H sc.heap a C s.heap/\Qh a od s.heap))
def XE(X:Cx)(O:L2.St)(H:Hp)(x:Exn):Prop:=∀(pins:List (Addr×Obj)) (s:Shared) (e:Value),Inv X pins O H s->RelX X pins O x H e s->X.xe e s
def EX(X:Cx)(O:L2.St):XK:=λc od H'=>∃x C,c=.ref C/\X.mg x.cls=some (.ref C)/\x.made=false/\Fs od H' x.cls x.vs/\XE X O H' x
section
variable{X:Cx}{pins:List (Addr×Obj)}{O:L2.St}{H:Hp}{s s':Shared}{e:Value}
def pass_x(I:Inv X pins O H s)(h:CXx X.prog X.w X.stack H s (EX X O) e s'):X.xe e s':=by
 obtain⟨a,C,od,H',rfl,os,bare,un,hok,hn,fl,dl,x,C',ec,hm,hmd,hf,k⟩:=h;cases ec;have I':Inv X pins O H' s':=I.call' (ch:=[]) os un hok bare (λb z=>absurd z (by simp));exact k pins s' _ I' ⟨a,C,od,rfl,hm,hn,hf,.inr ⟨hmd,s,H,I,un,fl,dl⟩⟩
def run_fnN{c:Bool}{k:Nat}{f:Addr}{fd:FuncData}{ps:List Str}{sp:Sp}{Q:VK}{us:List Value}{vs:List V}(F:FnOkN c X.prog X.w X.K X.mg X.base k f fd ps sp)(hd:c=true->X.A.handled=none)(hr:RoomN k X.A)(hb:Z3 X.K fd ps [])
  (I:Inv X pins O H s) (r:ya vs us) (h:sp vs H Q (EX X O)):wpAny (model X.prog X.w) X.A (call (.ref f) us) (EP X pins O Q) X.xe s:=by
 have hl:us.length=ps.length:=by rw[<- r.length];exact F.len _ _ _ _ h
 have hbd:=hb s us I.kIn (by rw[append_nil];exact hl);rw[append_nil]at hbd;refine wpAny_call (codeAny_mono (F.run X.A X.stack s H ⟨us,[]⟩ us vs Q (EX X O) hd hr I.env0 hbd r h) λr s' hq=>?_);cases r with
 |error e=>exact pass_x I hq
 |ok fl =>
  cases fl with
  |ret u=>exact I.after hq|next=>exact False.elim hq|brk=>exact False.elim hq|cont=>exact False.elim hq
end
section
variable{X:Cx}{c:Bool}{k:Nat}{f:Addr}{fd:FuncData}{ps:List Str}{sp:Sp}{x:Str}{p pos:Pos}{e:Expr}{es:List Expr}{t:TA}
def zD9(F:FnOkN c X.prog X.w X.K X.mg X.base k f fd ps sp)(hdl:c=true->X.A.handled=none)(hr:RoomN k X.A)(hg:Gl X x)(hm:X.mg x=some (.ref f))(hk:keepIn X.K (.ref f)=true)(hb:Z3 X.K fd ps [])
  (ha:PA X (e::es) t) (hdb:(x==("__debug__":Str))=false:=by decide) (he:starEach (e::es) X.env=(false,eval e X.env)::starEach es X.env:=by rfl) (hpl:(backTo pos (starEach es X.env)).any (·.1)=false:=by rfl) :
  PE X (.Call (.Name x p) (e::es) [] pos) (λO H Q=>t O H λvs H1=>sp vs H1 Q (EX X O)):=by
 intro pins s O H Q I h;refine wpAny_Call_Name_kw (zBo I hg hm ?_ hdb);refine PySem.W.callWith_K (h₀:=X.base) I.ok.mod.kin hk (thn (ha pos pins s O H _ I h) λus s1 ⟨vs,H1,I1,r,q⟩=>⟨I1.kIn,?_⟩) he hpl;exact run_fnN F hdl hr hb I1 r q
end
def zEA{c:Bool}{P:Program}{w:World}{K:qH}{mg:Str->Option Value}{base:Heap}{N:List Str}{qual:Str}{scope:Scope}{f:Addr}{cd:Value}{A:Around}{outer:List Env}{s:Shared}{H H':Hp}{E:XK}{O:L2.St}{x:Exn}
  (hE:∀C od,mg x.cls=some (.ref C)->Fs od H' x.cls x.vs->E (.ref C) od H'):XE (cxN c P w K mg base N qual scope f cd A outer s H E) O H' x:=by
 intro pins s' e I ⟨a,C,od,he,hm,hn,hf,h⟩;subst he;have sw:∀{H1:Hp} {s1:Shared},Inv (cxN c P w K mg base N qual scope f cd A outer s H E) pins O H1 s1->Inv (cxX P w K mg base N qual scope f cd {A with handled:=none} outer s H E) pins O H1 s1:=λJ=>vj J _ true _ (λ_=>rfl) J.ok.frames
 rcases h with⟨_,s1,I1,hs,hx⟩|⟨_,sc,Hc,Ic,un,fl,dl⟩
 ·exact Qj I1 hx hs hn (hE C od hm hf)
 ·obtain⟨B,t,f1,f2⟩:=fl
  refine zBJ I I.base hn ⟨B,t,f1,λb o q z nf=>f2 b o q ?_ nf⟩ dl (hE C od hm hf);rcases z with⟨o',z⟩|z
  ·exact .inl (Ic.base.there b o' z (by show b∉([]:List Addr);simp))
  ·exact .inr z
end DV
namespace DV
open PySem L2 PyProof.Rows PySem.Spec
open PySem.W (Frag Looks)
structure XCls(K:Frag)(c:Str)(C T:Addr):Prop where
 cd:∃cd,clsIn K C=some cd/\cd.name=c/\cd.mro=[.ref C,.ref T,.type "ValueError",.type "Exception",.type "BaseException",.type "object"]
 ty:typeIn K (.ref C)=some (.type "type")
 ga:findIn K (.ref C) "__getattribute__"=some (some (.builtin "BaseException.__getattribute__"))
 gn:findIn K (.ref C) "__getattr__"=some none
 gc:findIn K (.ref C) "__class__"=some (some (.builtin "object.__class__"))
 sp:specialIn K (.builtin "object.__class__") "__get__"=some (some (.builtin "getset_descriptor.__get__"))
 tk:takesIn K (.builtin "object.__class__")=some true
structure TCls(K:Frag)(T:Addr):Prop where
 cd:∃cd,clsIn K T=some cd/\cd.mro=.ref T::VB
 ty:typeIn K (.ref T)=some (.type "type")
end DV
namespace DV
open PySem L2 PyProof.Rows PySem.Spec
open PySem.W (Looks)
structure XSet(K:qH)(C T:Addr):Prop where
 cd:∃cd,clsIn K C=some cd/\cd.mro=.ref C::.ref T::VB/\cd.hasDict=true
 sa:findIn K (.ref C) "__setattr__"=some (some (.builtin "object.__setattr__"))
end DV
namespace DV
open PySem L2
set_option genInjectivity true in
inductive D where
 |non
 |bl (b:Bool)
 |int (i:Int)
 |str (x:Str)
 |t (ds:List D)
 |l (ds:List D)
 |fn (x:Str)
 |dic
 |exn (c:Str) (vs:List Int)
 |dct (ks:List (List KN)) (vs:List D)
 deriving Inhabited
mutual
def Rep(K:qH)(mg:Str->Option Value)(H:Hp):D->V->Prop
 | .non,v=>v=.non| .bl b,v=>v=.bl b| .int i,v=>v=.int i| .str x,v=>v=.str x| .t ds,v=>∃a xs,v=.ref a/\SqT K H a xs/\Reps K mg H ds xs| .l ds,v=>∃a xs,v=.ref a/\SqL K H a xs/\Reps K mg H ds xs| .fn x,v=>∃f,v=.ref f/\mg x=some (.ref f)| .dic,v=>∃a,v=.ref a/\H a=some (.dK [])| .exn c vs,v=>∃a C,v=.ref a/\mg c=some (.ref C)/\((vs=[]/\H a=some (ExO C a))\/∃d,H a=some (ExA C d a)/\H d=some (XD d (fsV c vs)))| .dct ks vs,v=>∃a es,v=.ref a/\H a=some (Zi a es)/\ks=es.map (·.1)/\(∀e∈es,SqT K H e.2.1 (e.1.map oV))/\Reps K mg H vs (es.map (·.2.2))
def Reps(K:qH)(mg:Str->Option Value)(H:Hp):List D->List V->Prop
 | [],vs=>vs=[]|d::ds,vs=>∃v r,vs=v::r/\Rep K mg H d v/\Reps K mg H ds r
end
section
variable{K:qH}{mg:Str->Option Value}{H H':Hp}
def zO{a:Addr}{xs:List V}(e:ZA H H')(h:SqT K H a xs):SqT K H' a xs:=by
 rcases h with(h|⟨o,h⟩)|h
 ·exact .inl (.inl (e _ _ h))
 ·exact .inl (.inr ⟨o,e _ _ h⟩)
 ·exact .inr h
mutual
theorem Rep.mono(e:ZA H H'):∀{d:D} {v:V},Rep K mg H d v->Rep K mg H' d v
 | .non,_,h=>by simpa only[Rep]using h| .bl _,_,h=>by simpa only[Rep]using h| .int _,_,h=>by simpa only[Rep]using h| .str _,_,h=>by simpa only[Rep]using h
 | .t ds,_,h=>by
  simp only[Rep]at h ⊢;obtain⟨a,xs,h1,h2,h3⟩:=h;exact⟨a,xs,h1,zO e h2,Reps.mono e h3⟩
 | .l ds,_,h=>by
  simp only[Rep]at h ⊢;obtain⟨a,xs,h1,h2,h3⟩:=h;exact⟨a,xs,h1,e.seq h2,Reps.mono e h3⟩
 | .fn _,_,h=>by simpa only[Rep]using h
 | .dic,_,h=>by
  simp only[Rep]at h ⊢;obtain⟨a,h1,h2⟩:=h;exact⟨a,h1,e _ _ h2⟩
 | .exn _ _,_,h=>by
  simp only[Rep]at h ⊢;obtain⟨a,C,h1,h2,h3⟩:=h;refine⟨a,C,h1,h2,?_⟩;rcases h3 with⟨hv,h3⟩|⟨d,h3,h4⟩
  ·exact .inl ⟨hv,e _ _ h3⟩
  ·exact .inr ⟨d,e _ _ h3,e _ _ h4⟩
 | .dct ks vs,_,h=>by
  simp only[Rep]at h ⊢;obtain⟨a,es,h1,h2,h3,h4,h5⟩:=h;exact⟨a,es,h1,e _ _ h2,h3,λx hx=>zO e (h4 x hx),Reps.mono e h5⟩
theorem Reps.mono(e:ZA H H'):∀{ds:List D} {vs:List V},Reps K mg H ds vs->Reps K mg H' ds vs
 | [],_,h=>by simpa only[Reps]using h
 |d::ds,_,h=>by
  simp only[Reps]at h ⊢;obtain⟨v,r,h1,h2,h3⟩:=h;exact⟨v,r,h1,Rep.mono e h2,Reps.mono e h3⟩
end
theorem Reps.length:∀{ds:List D} {vs:List V},Reps K mg H ds vs->vs.length=ds.length
 | [],_,h=>by simp only[Reps]at h;subst h;rfl
 |d::ds,_,h=>by
  simp only[Reps]at h;obtain⟨v,r,rfl,h2,h3⟩:=h;simp[Reps.length h3]
def Reps.nil:Reps K mg H [] []:=by simp only[Reps]
def Reps.cons{d:D}{v:V}{ds:List D}{vs:List V}(h:Rep K mg H d v)(t:Reps K mg H ds vs):Reps K mg H (d::ds) (v::vs):=by
 simp only[Reps];exact⟨v,vs,rfl,h,t⟩
theorem Reps.get:∀{ds:List D} {vs:List V} {i:Nat} {v:V},Reps K mg H ds vs->vs[i]?=some v->∃d,ds[i]?=some d/\Rep K mg H d v
 | [],_,_,_,h,e=>by simp only[Reps]at h;subst h;simp at e
 |d::ds,_,i,v,h,e=>by
  simp only[Reps]at h;obtain⟨v',r,rfl,h2,h3⟩:=h;cases i with
  |zero=>simp at e;subst e;exact⟨d,rfl,h2⟩|succ i=>simp at e;obtain⟨d',q1,q2⟩:=Reps.get h3 e;exact⟨d',by simpa using q1,q2⟩
theorem Reps.get':∀{ds:List D} {vs:List V} {i:Nat} {d:D},Reps K mg H ds vs->ds[i]?=some d->∃v,vs[i]?=some v/\Rep K mg H d v
 | [],_,_,_,h,e=>by simp at e
 |d::ds,_,i,d',h,e=>by
  simp only[Reps]at h;obtain⟨v',r,rfl,h2,h3⟩:=h;cases i with
  |zero=>simp at e;subst e;exact⟨v',rfl,h2⟩|succ i=>simp at e;obtain⟨v,q1,q2⟩:=Reps.get' h3 e;exact⟨v,by simpa using q1,q2⟩
theorem Reps.append:∀{ds es:List D} {vs ws:List V},Reps K mg H ds vs->Reps K mg H es ws->Reps K mg H (ds++es) (vs++ws)
 | [],_,_,_,h,g=>by simp only[Reps]at h;subst h;exact g
 |d::ds,_,_,_,h,g=>by
  simp only[Reps]at h;obtain⟨v',r,rfl,h2,h3⟩:=h;exact Reps.cons h2 (Reps.append h3 g)
theorem Reps.set:∀{ds:List D} {vs:List V} (i:Nat) {d:D} {v:V},Reps K mg H ds vs->Rep K mg H d v->Reps K mg H (ds.set i d) (vs.set i v)
 | [],_,_,_,_,h,g=>by simp only[Reps]at h;subst h;exact Reps.nil
 |d::ds,_,i,_,_,h,g=>by
  simp only[Reps]at h;obtain⟨v',r,rfl,h2,h3⟩:=h;cases i with
  |zero=>exact Reps.cons g h3|succ i=>exact Reps.cons h2 (Reps.set i h3 g)
theorem Reps.take:∀{ds:List D} {vs:List V} (n:Nat),Reps K mg H ds vs->Reps K mg H (ds.take n) (vs.take n)
 | [],_,_,h=>by simp only[Reps]at h;subst h;simp[Reps.nil]
 |d::ds,_,n,h=>by
  simp only[Reps]at h;obtain⟨v',r,rfl,h2,h3⟩:=h;cases n with
  |zero=>exact Reps.nil|succ n=>exact Reps.cons h2 (Reps.take n h3)
theorem Reps.drop:∀{ds:List D} {vs:List V} (n:Nat),Reps K mg H ds vs->Reps K mg H (ds.drop n) (vs.drop n)
 | [],_,_,h=>by simp only[Reps]at h;subst h;simp[Reps.nil]
 |d::ds,_,n,h=>by
  simp only[Reps]at h;obtain⟨v',r,rfl,h2,h3⟩:=h;cases n with
  |zero=>exact Reps.cons h2 h3|succ n=>exact Reps.drop n h3
theorem Reps.flatten{ds:List D}{vs:List V}(h:Reps K mg H ds vs):∀n:Nat,Reps K mg H (replicate n ds).flatten (replicate n vs).flatten
 |0=>Reps.nil|n+1=>by simp only[replicate_succ,flatten_cons];exact h.append (Reps.flatten h n)
end
open Classical in
def Hm(M:Addr->Prop)(H:Hp):Hp:=λb=>if M b then none else H b
section
variable{M M':Addr->Prop}{H H':Hp}{b:Addr}{o:HO}
def zu:Hm M H b=some o↔¬M b/\H b=some o:=by
 unfold Hm;by_cases h:M b
 ·simp[h]
 ·simp[h]
def zF:ZA (Hm M H) H:=λb o h=>(zu.mp h).2
def jP(h:∀b,M' b->M b):ZA (Hm M H) (Hm M' H):=λb o e=>zu.mpr ⟨λx=>(zu.mp e).1 (h b x),(zu.mp e).2⟩
end
inductive Slot where
 |e
 |v (d:D)
 |own (ds:List D)
 |par (ds:List D)
 |dct (ks:List (List KN)) (vs:List D)
 deriving Inhabited
abbrev zM:=List Slot
set_option genInjectivity true in
inductive R where
 |v (d:D)
 |own (ds:List D)
 |dct (ks:List (List KN)) (vs:List D)
 deriving Inhabited
def R.slot:R->Slot
 | .v d=>.v d| .own ds=>.own ds| .dct ks vs=>.dct ks vs
def R.d:R->D
 | .v d=>d| .own ds=>.l ds| .dct ks vs=>.dct ks vs
inductive Ct where
 |l (ds:List D)
 |d (ks:List (List KN)) (vs:List D)
def Slot.ct?:Slot->Option Ct
 | .own ds=>some (.l ds)| .par ds=>some (.l ds)| .dct ks vs=>some (.d ks vs)|_=>none
def CRep(K:qH)(mg:Str->Option Value)(H:Hp)(a:Addr):Ct->HO->Prop
 | .l ds,o=>∃xs,o=.l xs/\Reps K mg H ds xs| .d ks vs,o=>∃es,o=Zi a es/\ks=es.map (·.1)/\(∀e∈es,SqT K H e.2.1 (e.1.map oV))/\Reps K mg H vs (es.map (·.2.2))
theorem CRep.mono{K:qH}{mg:Str->Option Value}{H H':Hp}(e:ZA H H'){a:Addr}{o:HO}:∀{c:Ct},CRep K mg H a c o->CRep K mg H' a c o
 | .l ds,⟨xs,h1,h2⟩=>⟨xs,h1,h2.mono e⟩| .d ks vs,⟨es,h1,h2,h3,h4⟩=>⟨es,h1,h2,λx hx=>zO e (h3 x hx),h4.mono e⟩
def Slot.list?:Slot->Option (List D)
 | .own ds=>some ds| .par ds=>some ds|_=>none
abbrev Fz:=List (Option V×Slot)
def uH:Option V×Slot->Option Addr
 | (some (.ref a),.own _)=>some a| (some (.ref a),.par _)=>some a| (some (.ref a),.dct _ _)=>some a|_=>none
def yI(Z:Fz):List Addr:=Z.filterMap uH
def Mo(M:Addr->Prop)(Z:Fz):Addr->Prop:=λb=>M b\/b∈yI Z
def zT(Z T:Fz):yI (Z++T)=yI Z++yI T:=List.filterMap_append
def zb(o:Option V)(d:D)(Z:Fz):yI ((o,.v d)::Z)=yI Z:=by
 unfold yI;rw[List.filterMap_cons_none];cases o with
 |none=>rfl
 |some v=>cases v<;>rfl
def Yb(a:Addr)(ds:List D)(Z:Fz):yI ((some (.ref a),.own ds)::Z)=a::yI Z:=rfl
def Yc(a:Addr)(ks:List (List KN))(vs:List D)(Z:Fz):yI ((some (.ref a),.dct ks vs)::Z)=a::yI Z:=rfl
def zw(o:Option V)(Z:Fz):yI ((o,.e)::Z)=yI Z:=by
 unfold yI;rw[List.filterMap_cons_none];cases o with
 |none=>rfl
 |some v=>cases v<;>rfl
def jK(M:Addr->Prop)(T Z:Fz):Mo M (T++Z)=Mo (Mo M T) Z:=by
 funext b
 apply propext;simp only[Mo,zT,mem_append];constructor
 ·rintro (h|h|h)
  ·exact .inl (.inl h)
  ·exact .inl (.inr h)
  ·exact .inr h
 ·rintro ((h|h)|h)
  ·exact .inl h
  ·exact .inr (.inl h)
  ·exact .inr (.inr h)
def uI{M:Addr->Prop}{T Z:Fz}(p:T.Perm Z):Mo M T=Mo M Z:=by
 funext b
 apply propext;simp only[Mo,yI];rw[(p.filterMap uH).mem_iff]
def JA(M:Addr->Prop)(o:Option V)(d:D)(Z:Fz):Mo M ((o,.v d)::Z)=Mo M Z:=by unfold Mo;rw[zb]
def Gf(M:Addr->Prop)(o:Option V)(Z:Fz):Mo M ((o,.e)::Z)=Mo M Z:=by unfold Mo;rw[zw]
structure FR(K:qH)(mg:Str->Option Value)(M:Addr->Prop)(H:Hp)(Z:Fz):Prop where
 val:∀o d,(o,Slot.v d)∈Z->∃v,o=some v/\Rep K mg (Hm (Mo M Z) H) d v
 own:∀o s c,(o,s)∈Z->s.ct?=some c->∃a ho,o=some (.ref a)/\H a=some ho/\¬M a/\CRep K mg (Hm (Mo M Z) H) a c ho
 nd:(yI Z).Nodup
 mal:∀b,M b->∃o,H b=some o/\OwnK o
structure Step(M:Addr->Prop)(H:Hp)(Z:Fz)(H':Hp)(Z':Fz):Prop where
 same:ZA (Hm (Mo M Z) H) (Hm (Mo M Z') H')
 keep:∀b o,M b->H b=some o->H' b=some o
section
variable{K:qH}{mg:Str->Option Value}{M:Addr->Prop}{H H' H1 H2:Hp}{Z Z' T Z1 Z2:Fz}
theorem Step.refl:Step M H Z H Z:=⟨ZA.refl _,λ_ _ _ h=>h⟩
theorem Step.trans(a:Step M H Z H1 Z1)(b:Step M H1 Z1 H2 Z2):Step M H Z H2 Z2 :=
 ⟨a.same.trans b.same,λx o m h=>b.keep x o m (a.keep x o m h)⟩
def Jn(h:∀b,b∈yI Z->b∈yI Z'):∀b,Mo M Z b->Mo M Z' b:=λb q=>q.elim .inl λq=>.inr (h b q)
def Step.weak(a:Step M H Z H' Z')(h:∀b,b∈yI T->b∈yI Z'):Step M H Z H' T :=
 ⟨a.same.trans (jP (Jn h)),a.keep⟩
def Step.left(a:Step M H Z H' Z')(h:∀b,b∈yI Z->b∈yI T):Step M H T H' Z' :=
 ⟨(jP (Jn h)).trans a.same,a.keep⟩
def zC(h:T.Sublist Z):∀b,b∈yI T->b∈yI Z:=λb q=>(h.filterMap uH).subset q
def zD(h:T.Perm Z):∀b,b∈yI T->b∈yI Z:=λb q=>(h.filterMap uH).subset q
def FR.perm(h:FR K mg M H Z)(p:Z.Perm T):FR K mg M H T where
 val:=λo d q=>by rw[<- uI p];exact h.val o d (p.mem_iff.mpr q)
 own:=λo s ds q e=>by rw[<- uI p];exact h.own o s ds (p.mem_iff.mpr q) e
 nd:=(p.filterMap uH).nodup_iff.mp h.nd
 mal:=h.mal
def FR.sub(h:FR K mg M H Z)(p:T.Sublist Z):FR K mg M H T where
 val:=λo d q=>by
  obtain⟨v,e,r⟩:=h.val o d (p.subset q);exact⟨v,e,r.mono (jP (Jn (zC p)))⟩
 own:=λo s ds q e=>by
  obtain⟨a,xs,e1,e2,e3,r⟩:=h.own o s ds (p.subset q) e;exact⟨a,xs,e1,e2,e3,r.mono (jP (Jn (zC p)))⟩
 nd:=h.nd.sublist (p.filterMap uH)
 mal:=h.mal
def FR.tail{x:Option V×Slot}(h:FR K mg M H (x::Z)):FR K mg M H Z:=h.sub (sublist_cons_self _ _)
def zCI{s:Slot}{ds:List D}(e:s.list?=some ds):s.ct?=some (.l ds):=by
 cases s<;>first|(cases e;rfl)|(cases e)
def FR.ownL(h:FR K mg M H Z)(o:Option V)(s:Slot)(ds:List D)(m:(o,s)∈Z)(e:s.list?=some ds):∃a xs,o=some (.ref a)/\H a=some (.l xs)/\¬M a/\Reps K mg (Hm (Mo M Z) H) ds xs:=by
 obtain⟨a,ho,e1,e2,e3,xs,rfl,r⟩:=h.own o s _ m (zCI e);exact⟨a,xs,e1,e2,e3,r⟩
def jB{o:Option V}{s:Slot}{c:Ct}{a:Addr}(h:(o,s)∈Z)(e:s.ct?=some c)(ho:o=some (.ref a)):a∈yI Z:=by
 subst ho;refine mem_filterMap.mpr ⟨_,h,?_⟩;cases s<;>simp[Slot.ct?]at e<;>rfl
def Ql{o:Option V}{s:Slot}{ds:List D}{a:Addr}(h:(o,s)∈Z)(e:s.list?=some ds)(ho:o=some (.ref a)):a∈yI Z:=jB h (zCI e) ho
def Qm{a:Addr}(h:a∈yI Z):∃s c,(some (V.ref a),s)∈Z/\Slot.ct? s=some c:=by
 obtain⟨⟨o,s⟩,h1,h2⟩:=mem_filterMap.mp h;unfold uH at h2;split at h2
 ·rename_i e;cases e;cases h2;exact⟨_,_,h1,rfl⟩
 ·rename_i e;cases e;cases h2;exact⟨_,_,h1,rfl⟩
 ·rename_i e;cases e;cases h2;exact⟨_,_,h1,rfl⟩
 ·cases h2
def CRep.own{K:qH}{mg:Str->Option Value}{H:Hp}{a:Addr}{o:HO}:∀{c:Ct},CRep K mg H a c o->OwnK o
 | .l _,⟨xs,h,_⟩=>.inl ⟨xs,h⟩| .d _ _,⟨es,h,_⟩=>.inr ⟨_,h⟩
def FR.ownAt(h:FR K mg M H Z){a:Addr}(e:a∈yI Z):∃o,H a=some o/\¬M a/\OwnK o:=by
 obtain⟨s,c,h1,h2⟩:=Qm e;obtain⟨a',o,e1,e2,e3,r⟩:=h.own _ s c h1 h2;cases e1;exact⟨o,e2,e3,r.own⟩
def FR.moAl(h:FR K mg M H Z)(b:Addr)(e:Mo M Z b):∃o,H b=some o/\OwnK o:=by
 rcases e with e|e
 ·exact h.mal b e
 ·obtain⟨xs,q,_,z⟩:=h.ownAt e
  exact⟨_,q,z⟩
def FR.inner(h:FR K mg M H (T++Z)):FR K mg (Mo M T) H Z where
 val:=λo d q=>by rw[<- jK];exact h.val o d (qK _ q)
 own:=λo s ds q e=>by
  obtain⟨a,xs,e1,e2,e3,r⟩:=h.own o s ds (qK _ q) e;refine⟨a,xs,e1,e2,λm=>?_,by rw[<- jK];exact r⟩;rcases m with m|m
  ·exact e3 m
  ·have nd:=h.nd
   rw[zT]at nd;exact(nodup_append.mp nd).2.2 a m a (jB q e e1) rfl
 nd:=by
  have nd:=h.nd;rw[zT]at nd;exact(nodup_append.mp nd).2.1
 mal:=λb q=>by
  rcases q with q|q
  ·exact h.mal b q
  ·obtain⟨xs,q,_,z⟩:=h.ownAt (a:=b) (by rw[zT];exact mem_append_left _ q)
   exact⟨_,q,z⟩
def FR.outer(h:FR K mg M H (T++Z))(g:FR K mg (Mo M T) H' Z')(st:Step (Mo M T) H Z H' Z'):FR K mg M H' (T++Z') where
 val:=λo d q=>by
  rw[jK];rcases mem_append.mp q with q|q
  ·obtain⟨v,e,r⟩:=h.val o d (mem_append_left _ q)
   rw[jK]at r;exact⟨v,e,r.mono st.same⟩
  ·exact g.val o d q
 own:=λo s ds q e=>by
  rw[jK];rcases mem_append.mp q with q|q
  ·obtain⟨a,xs,e1,e2,e3,r⟩:=h.own o s ds (mem_append_left _ q) e
   rw[jK]at r;exact⟨a,xs,e1,st.keep a _ (.inr (jB q e e1)) e2,e3,r.mono st.same⟩
  ·obtain⟨a,xs,e1,e2,e3,r⟩:=g.own o s ds q e
   exact⟨a,xs,e1,e2,λm=>e3 (.inl m),r⟩
 nd:=by
  rw[zT];have nd:=h.nd;rw[zT]at nd;refine nodup_append.mpr ⟨(nodup_append.mp nd).1,g.nd,λa ha b hb e=>?_⟩;subst e;obtain⟨xs,_,q,_⟩:=g.ownAt hb;exact q (.inr ha)
 mal:=λb q=>g.mal b (.inl q)
def Step.outer(st:Step (Mo M T) H Z H' Z'):Step M H (T++Z) H' (T++Z') :=
 ⟨by rw[jK,jK];exact st.same,λb o m h=>st.keep b o (.inl m) h⟩
def yS{p:Addr}{o:HO}(hp:H p=none):ZA H (upd H p o):=λb u e=>by
 rw[zp (λq=>by subst q;rw[hp]at e;cases e)];exact e
def FR.grow(h:FR K mg M H Z){p:Addr}{o:HO}(hp:H p=none):FR K mg M (upd H p o) Z where
 val:=λo' d q=>by
  obtain⟨v,e,r⟩:=h.val o' d q;exact⟨v,e,r.mono λb u x=>zu.mpr ⟨(zu.mp x).1,yS hp b u (zu.mp x).2⟩⟩
 own:=λo' s ds q e=>by
  obtain⟨a,xs,e1,e2,e3,r⟩:=h.own o' s ds q e;exact⟨a,xs,e1,yS hp _ _ e2,e3,r.mono λb u x=>zu.mpr ⟨(zu.mp x).1,yS hp b u (zu.mp x).2⟩⟩
 nd:=h.nd
 mal:=λb q=>by obtain⟨u,e,z⟩:=h.mal b q;exact⟨u,yS hp _ _ e,z⟩
def Step.grow{p:Addr}{o:HO}(hp:H p=none):Step M H Z (upd H p o) Z :=
 ⟨λb u x=>zu.mpr ⟨(zu.mp x).1,yS hp b u (zu.mp x).2⟩,λb u _ e=>yS hp b u e⟩
def FR.add(h:FR K mg M H Z){v:V}{d:D}(r:Rep K mg (Hm (Mo M Z) H) d v):FR K mg M H ((some v,.v d)::Z) where
 val:=λo d' q=>by
  rw[JA];rcases mem_cons.mp q with q|q
  ·cases q;exact⟨v,rfl,r⟩
  ·exact h.val o d' q
 own:=λo s ds q e=>by
  rw[JA];rcases mem_cons.mp q with q|q
  ·cases q;cases e
  ·exact h.own o s ds q e
 nd:=by rw[zb];exact h.nd
 mal:=h.mal
def Step.add{v:Option V}{d:D}(st:Step M H Z H' Z'):Step M H Z H' ((v,.v d)::Z'):=by
 refine⟨?_,st.keep⟩;rw[JA];exact st.same
def Yd(h:FR K mg M H Z){p:Addr}(hp:H p=none):¬Mo M Z p:=λq=>by
 obtain⟨o,e,_⟩:=h.moAl p q;rw[hp]at e;cases e
def wX(h:FR K mg M H Z){p:Addr}{ds:List D}{xs:List V}(hp:H p=none):ZA (Hm (Mo M Z) H) (Hm (Mo M ((some (.ref p),.own ds)::Z)) (upd H p (.l xs))):=λb u x=>by
 obtain⟨h1,h2⟩:=zu.mp x;refine zu.mpr ⟨λq=>?_,yS hp _ _ h2⟩;rcases q with q|q
 ·exact h1 (.inl q)
 ·rw[Yb]at q
  rcases mem_cons.mp q with q|q
  ·subst q;rw[hp]at h2;cases h2
  ·exact h1 (.inr q)
def FR.newOwn(h:FR K mg M H Z){p:Addr}{ds:List D}{xs:List V}(hp:H p=none)(r:Reps K mg (Hm (Mo M Z) H) ds xs):FR K mg M (upd H p (.l xs)) ((some (.ref p),.own ds)::Z) where
 val:=λo d q=>by
  rcases mem_cons.mp q with q|q
  ·cases q
  ·obtain⟨v,e,r⟩:=h.val o d q
   exact⟨v,e,r.mono (wX h hp)⟩
 own:=λo s ds' q e=>by
  rcases mem_cons.mp q with q|q
  ·cases q;cases e
   exact⟨p,_,rfl,jF,λm=>Yd h hp (.inl m),xs,rfl,r.mono (wX h hp)⟩
  ·obtain⟨a,ys,e1,e2,e3,r⟩:=h.own o s ds' q e
   exact⟨a,ys,e1,yS hp _ _ e2,e3,r.mono (wX h hp)⟩
 nd:=by
  rw[Yb];exact nodup_cons.mpr ⟨λq=>Yd h hp (.inr q),h.nd⟩
 mal:=λb q=>by obtain⟨u,e,z⟩:=h.mal b q;exact⟨u,yS hp _ _ e,z⟩
def Step.newOwn(h:FR K mg M H Z){p:Addr}{ds:List D}{xs:List V}(hp:H p=none):Step M H Z (upd H p (.l xs)) ((some (.ref p),.own ds)::Z) :=
 ⟨wX h hp,λb u _ e=>yS hp b u e⟩
def jm(h:FR K mg M H Z){p:Addr}{ks:List (List KN)}{vs:List D}{o:HO}(hp:H p=none):ZA (Hm (Mo M Z) H) (Hm (Mo M ((some (.ref p),.dct ks vs)::Z)) (upd H p o)):=λb u x=>by
 obtain⟨h1,h2⟩:=zu.mp x;refine zu.mpr ⟨λq=>?_,yS hp _ _ h2⟩;rcases q with q|q
 ·exact h1 (.inl q)
 ·rw[Yc]at q
  rcases mem_cons.mp q with q|q
  ·subst q;rw[hp]at h2;cases h2
  ·exact h1 (.inr q)
def FR.newDct(h:FR K mg M H Z){p:Addr}{vs:List D}{es:List DE}(hp:H p=none)(hk:∀e∈es,SqT K (Hm (Mo M Z) H) e.2.1 (e.1.map oV))(r:Reps K mg (Hm (Mo M Z) H) vs (es.map (·.2.2))):FR K mg M (upd H p (Zi p es)) ((some (.ref p),.dct (es.map (·.1)) vs)::Z) where
 val:=λo d q=>by
  rcases mem_cons.mp q with q|q
  ·cases q
  ·obtain⟨v,e,r⟩:=h.val o d q
   exact⟨v,e,r.mono (jm h hp)⟩
 own:=λo s c q e=>by
  rcases mem_cons.mp q with q|q
  ·cases q;cases e
   exact⟨p,_,rfl,jF,λm=>Yd h hp (.inl m),es,rfl,rfl,λx hx=>zO (jm h hp) (hk x hx),r.mono (jm h hp)⟩
  ·obtain⟨a,ys,e1,e2,e3,r⟩:=h.own o s c q e
   exact⟨a,ys,e1,yS hp _ _ e2,e3,r.mono (jm h hp)⟩
 nd:=by
  rw[Yc];exact nodup_cons.mpr ⟨λq=>Yd h hp (.inr q),h.nd⟩
 mal:=λb q=>by obtain⟨u,e,z⟩:=h.mal b q;exact⟨u,yS hp _ _ e,z⟩
def Step.newDct(h:FR K mg M H Z){p:Addr}{ks:List (List KN)}{vs:List D}{o:HO}(hp:H p=none):Step M H Z (upd H p o) ((some (.ref p),.dct ks vs)::Z) :=
 ⟨jm h hp,λb u _ e=>yS hp b u e⟩
def FR.newTup(h:FR K mg M H Z){p:Addr}{ds:List D}{xs:List V}(hp:H p=none)(r:Reps K mg (Hm (Mo M Z) H) ds xs):FR K mg M (upd H p (.t xs)) ((some (.ref p),.v (.t ds))::Z):=by
 refine(h.grow hp).add ?_;simp only[Rep];refine⟨p,xs,rfl,SqT.of (zu.mpr ⟨Yd h hp,jF⟩),r.mono λb u x=>zu.mpr ⟨(zu.mp x).1,yS hp b u (zu.mp x).2⟩⟩
def Step.newVal{p:Addr}{o:HO}{v:Option V}{d:D}(hp:H p=none):Step M H Z (upd H p o) ((v,.v d)::Z):=(Step.grow hp).add
def FR.frz{o:Option V}{r:R}(h:FR K mg M H ((o,r.slot)::Z)):FR K mg M H ((o,.v r.d)::Z):=by
 cases r with
 |v d=>exact h
 |own ds =>
  obtain⟨a,xs,e1,e2,e3,rr⟩:=h.ownL o (.own ds) ds qE rfl;subst e1;have hn:¬Mo M Z a:=λq=>by
   rcases q with q|q
   ·exact e3 q
   ·exact(nodup_cons.mp h.nd).1 q
  refine h.tail.add ?_;simp only[R.d,Rep];exact⟨a,xs,rfl,SqL.of (zu.mpr ⟨hn,e2⟩),rr.mono (jP (Jn (zC (sublist_cons_self _ _))))⟩
 |dct ks vs =>
  obtain⟨a,ho,e1,e2,e3,es,rfl,r1,r2,r3⟩:=h.own o (.dct ks vs) (.d ks vs) qE rfl;subst e1;have hn:¬Mo M Z a:=λq=>by
   rcases q with q|q
   ·exact e3 q
   ·exact(nodup_cons.mp h.nd).1 q
  refine h.tail.add ?_;have sm:=jP (H:=H) (Jn (M:=M) (zC (sublist_cons_self ((some (V.ref a),Slot.dct ks vs)) Z)));simp only[R.d,Rep];exact⟨a,es,rfl,zu.mpr ⟨hn,e2⟩,r1,λx hx=>zO sm (r2 x hx),r3.mono sm⟩
def Step.frz{o:Option V}{r:R}(h:Step M H Z H' ((o,r.slot)::Z')):Step M H Z H' ((o,.v r.d)::Z'):=by
 cases r with
 |v d=>exact h
 |own ds =>
  refine h.weak λb q=>?_
  rw[zb]at q;exact(zC (sublist_cons_self _ _)) b q
 |dct ks vs =>
  refine h.weak λb q=>?_
  rw[zb]at q;exact(zC (sublist_cons_self _ _)) b q
theorem uJ:∀(O:St) (E:zM) (i:Nat) (o:Option V) (s:Slot),(O.set i o).zip (E.set i s)=(O.zip E).set i (o,s)
 | [],_,_,_,_=>by simp|_::_,[],_,_,_=>by simp|x::O,y::E,0,o,s=>by simp|x::O,y::E,i+1,o,s=>by simp[uJ O E i o s]
theorem zQ{α:Type}(x:α):∀(l:List α) (i:Nat),i<l.length->(l.set i x).Perm (x::l.eraseIdx i)
 | [],_,h=>by simp at h|y::l,0,_=>List.Perm.refl _
 |y::l,i+1,h=>by
  have ih:=zQ x l i (by simpa using h);simp only[List.set_cons_succ,List.eraseIdx_cons_succ];exact(ih.cons y).trans (List.Perm.swap x y _)
def FR.put(h:FR K mg M H (((o:Option V),s)::Z)){i:Nat}(hi:i<Z.length):FR K mg M H (Z.set i (o,s)) :=
 (h.sub ((eraseIdx_sublist Z i).cons_cons (o,s))).perm (zQ _ _ _ hi).symm
def Step.put{o:Option V}{s:Slot}(h:Step M H Z H' ((o,s)::Z')){i:Nat}(hi:i<Z'.length):Step M H Z H' (Z'.set i (o,s)):=by
 refine h.weak λb q=>?_
 exact zC ((eraseIdx_sublist Z' i).cons_cons (o,s)) b (zD (zQ _ _ _ hi) b q)
end
inductive Out(α:Type) where
 |z
 |ok (a:α)
 |exc (x:Exn) (E:zM)
 deriving Inhabited
abbrev ME:=zM->Out (R×zM)
abbrev MA:=zM->Out (List R×zM)
abbrev MT:=zM->Out (Bool×zM)
def PKp(O:St)(E:zM)(O':St)(E':zM):Prop:=∀(i:Nat) ds,E[i]?=some (.par ds)->(∃ds',E'[i]?=some (.par ds'))/\O'[i]?=O[i]?
def PKp.refl{O:St}{E:zM}:PKp O E O E:=λi ds h=>⟨⟨ds,h⟩,rfl⟩
theorem PKp.trans{O O1 O2:St}{E E1 E2:zM}(a:PKp O E O1 E1)(b:PKp O1 E1 O2 E2):PKp O E O2 E2:=λi ds h=>by
 obtain⟨⟨ds1,h1⟩,e1⟩:=a i ds h;obtain⟨h2,e2⟩:=b i ds1 h1;exact⟨h2,e2.trans e1⟩
structure Got(K:qH)(mg:Str->Option Value)(M:Addr->Prop)(O:St)(E:zM)(H:Hp)(T0:Fz)(O':St)(E':zM)(H':Hp)(T:Fz):Prop where
 len:E'.length=O'.length
 fr:FR K mg M H' (T++(T0++O'.zip E'))
 st:Step M H (T0++O.zip E) H' (T++(T0++O'.zip E'))
 pk:PKp O E O' E'
def zCJ(vs:List V)(rs:List R):Fz:=(vs.zip rs).map λp=>(some p.1,p.2.slot)
def KM(X:Cx)(M:Addr->Prop)(O:St)(E:zM)(H:Hp)(T0:Fz)(Q:VK):Out (R×zM)->Prop
 | .z=>False| .ok (r,E')=>∀v H',Got X.K X.mg M O E H T0 O E' H' [(some v,r.slot)]->Q v H'| .exc x E'=>∀H',Got X.K X.mg M O E H T0 O E' H' []->XE X O H' x
def KT(X:Cx)(M:Addr->Prop)(O:St)(E:zM)(H:Hp)(T0:Fz)(Q:Bool->Hp->Prop):Out (Bool×zM)->Prop
 | .z=>False| .ok (b,E')=>∀H',Got X.K X.mg M O E H T0 O E' H' []->Q b H'| .exc x E'=>∀H',Got X.K X.mg M O E H T0 O E' H' []->XE X O H' x
def KA(X:Cx)(M:Addr->Prop)(O:St)(E:zM)(H:Hp)(T0:Fz)(Q:List V->Hp->Prop):Out (List R×zM)->Prop
 | .z=>False| .ok (rs,E')=>∀vs H',vs.length=rs.length->Got X.K X.mg M O E H T0 O E' H' (zCJ vs rs)->Q vs H'| .exc x E'=>∀H',Got X.K X.mg M O E H T0 O E' H' []->XE X O H' x
def tM(X:Cx)(m:ME):TE:=λO H Q=>∃M E,E.length=O.length/\FR X.K X.mg M H (O.zip E)/\KM X M O E H [] Q (m E)
def tMT(X:Cx)(m:MT):TT:=λO H Q=>∃M E,E.length=O.length/\FR X.K X.mg M H (O.zip E)/\KT X M O E H [] Q (m E)
def tMA(X:Cx)(m:MA):TA:=λO H Q=>∃M E,E.length=O.length/\FR X.K X.mg M H (O.zip E)/\KA X M O E H [] Q (m E)
abbrev EOk(X:Cx)(e:Expr)(m:ME):Prop:=PE X e (tM X m)
abbrev TOk(X:Cx)(e:Expr)(m:MT):Prop:=PT X e (tMT X m)
abbrev AOk(X:Cx)(es:List Expr)(m:MA):Prop:=PA X es (tMA X m)
def zr{X:Cx}{e:Expr}{t t':TE}(h:PE X e t)(i:∀O H Q,t' O H Q->t O H Q):PE X e t':=λpins s O H Q I q=>h pins s O H Q I (i O H Q q)
def zAU{X:Cx}{e:Expr}{t t':TT}(h:PT X e t)(i:∀O H Q,t' O H Q->t O H Q):PT X e t':=λpins s O H Q I q=>h pins s O H Q I (i O H Q q)
def zFd{X:Cx}{e:Expr}{t t':TT}(h:PW X e t)(i:∀O H Q,t' O H Q->t O H Q):PW X e t':=λwh pins s O H Q I q=>h wh pins s O H Q I (i O H Q q)
def Gg{X:Cx}{e:List Expr}{t t':TA}(h:PA X e t)(i:∀O H Q,t' O H Q->t O H Q):PA X e t':=λp pins s O H Q I q=>h p pins s O H Q I (i O H Q q)
def yy{X:Cx}{e:Stmt}{t t':TS}(h:PS X e t)(i:∀D O H,t' D O H->t D O H):PS X e t':=λpins s O H D I q=>h pins s O H D I (i D O H q)
def zCK{X:Cx}{e:List Stmt}{t t':TS}(h:PSs X e t)(i:∀D O H,t' D O H->t D O H):PSs X e t':=λpins s O H D I q=>h pins s O H D I (i D O H q)
section
variable{X:Cx}{K:qH}{mg:Str->Option Value}{M:Addr->Prop}{O O' O1 O2:St}{E E' E1 E2:zM}{H H' H1 H2:Hp}{T0 T T1 T2:Fz}{Q:VK}
def swapP{α:Type}(A B C:List α):(A++(B++([]++C))).Perm (B++(A++C)):=by
 rw[nil_append,<- append_assoc,<- append_assoc];exact(perm_append_comm).append_right _
def jx{α:Type}{l:List α}{i:Nat}{x:α}(h:l[i]?=some x):l.set i x=l:=by
 obtain⟨hi,rfl⟩:=qG.mp h;exact List.set_getElem_self hi
theorem Got.outer(h:FR K mg M H (T0++O.zip E))(g:Got K mg (Mo M T0) O E H [] O' E' H' T):Got K mg M O E H T0 O' E' H' T where
 len:=g.len
 fr:=by
  have q:=FR.outer h g.fr g.st;exact q.perm (swapP _ _ _)
 st:=by
  have q:=Step.outer g.st;refine q.weak λb hb=>?_
  exact zD (swapP _ _ _).symm b hb
 pk:=g.pk
theorem Got.trans(a:Got K mg M O E H T0 O1 E1 H1 T1)(b:Got K mg M O1 E1 H1 (T1++T0) O2 E2 H2 T2):Got K mg M O E H T0 O2 E2 H2 (T2++T1) where
 len:=b.len
 fr:=by
  have q:=b.fr;rw[append_assoc]at q;rw[append_assoc];exact q
 st:=by
  have q:=b.st;rw[append_assoc,append_assoc]at q;rw[append_assoc];exact a.st.trans q
 pk:=a.pk.trans b.pk
def Got.dropAll(a:Got K mg M O E H T0 O1 E1 H1 T1):Got K mg M O E H T0 O1 E1 H1 [] where
 len:=a.len
 fr:=a.fr.sub (sublist_append_right _ _)
 st:=a.st.weak (zC (sublist_append_right _ _))
 pk:=a.pk
def Got.trans'(a:Got K mg M O E H [] O1 E1 H1 T1)(b:Got K mg M O1 E1 H1 T1 O2 E2 H2 T2):Got K mg M O E H [] O2 E2 H2 (T2++T1):=a.trans (by rw[append_nil];exact b)
theorem Got.refl(hl:E.length=O.length)(h:FR K mg M H (T0++O.zip E)):Got K mg M O E H T0 O E H []:=⟨hl,h,Step.refl,PKp.refl⟩
def Got.more(a:Got K mg M O E H [] O1 E1 H1 T1)(f:FR K mg M H2 (T++O1.zip E1))(s:Step M H1 (O1.zip E1) H2 (T++O1.zip E1)):Got K mg M O E H [] O1 E1 H2 T where
 len:=a.len
 fr:=f
 st:=(a.st.weak (zC (sublist_append_right _ _))).trans s
 pk:=a.pk
def Got.frame(a:Got K mg M O E H [] O1 E1 H1 T1):FR K mg M H1 (O1.zip E1):=a.fr.sub (sublist_append_right _ _)
def vk(v:V)(r:R)(vs:List V)(rs:List R):zCJ (v::vs) (r::rs)=(some v,r.slot)::zCJ vs rs:=rfl
theorem zCL:∀{vs:List V} {rs:List R} {Z:Fz},vs.length=rs.length->FR K mg M H (zCJ vs rs++Z)->Reps K mg (Hm (Mo M Z) H) (rs.map R.d) vs
 | [],[],Z,_,h=>Reps.nil
 |v::vs,r::rs,Z,hl,h=>by
  rw[vk,List.cons_append]at h;refine Reps.cons ?_ (zCL (by simpa using hl) h.tail);obtain⟨v',e,q⟩:=h.frz.val (some v) r.d qE;cases e;refine q.mono (jP (Jn λb hb=>?_));rw[zb,zT];exact qK _ hb
def Got.reps{vs:List V}{rs:List R}(hl:vs.length=rs.length)(a:Got K mg M O E H [] O1 E1 H1 (zCJ vs rs)):Reps K mg (Hm (Mo M (O1.zip E1)) H1) (rs.map R.d) vs:=zCL hl a.fr
def Got.rep{v:V}{r:R}(a:Got K mg M O E H [] O1 E1 H1 [(some v,r.slot)]):Rep K mg (Hm (Mo M (O1.zip E1)) H1) r.d v:=by
 have q:=Got.reps (vs:=[v]) (rs:=[r]) rfl a;simp only[List.map,Reps]at q;obtain⟨v',r',e,h,_⟩:=q;cases e;exact h
def zx{m:ME}(hl:E.length=O.length)(h:FR X.K X.mg M H (T0++O.zip E))
  (k:KM X M O E H T0 Q (m E)):tM X m O H Q:=by
 refine⟨Mo M T0,E,hl,h.inner,?_⟩;cases e:m E with
 |z=>rw[e]at k;exact k|ok a=>rw[e]at k;exact λv H' g=>k v H' (g.outer h)|exc x E'=>rw[e]at k;exact λH' g=>k H' (g.outer h)
def JB{m:MT}{Q:Bool->Hp->Prop}(hl:E.length=O.length)(h:FR X.K X.mg M H (T0++O.zip E))
  (k:KT X M O E H T0 Q (m E)):tMT X m O H Q:=by
 refine⟨Mo M T0,E,hl,h.inner,?_⟩;cases e:m E with
 |z=>rw[e]at k;exact k|ok a=>rw[e]at k;exact λH' g=>k H' (g.outer h)|exc x E'=>rw[e]at k;exact λH' g=>k H' (g.outer h)
def JC{m:MA}{Q:List V->Hp->Prop}(hl:E.length=O.length)(h:FR X.K X.mg M H (T0++O.zip E))
  (k:KA X M O E H T0 Q (m E)):tMA X m O H Q:=by
 refine⟨Mo M T0,E,hl,h.inner,?_⟩;cases e:m E with
 |z=>rw[e]at k;exact k|ok a=>rw[e]at k;exact λvs H' hv g=>k vs H' hv (g.outer h)|exc x E'=>rw[e]at k;exact λH' g=>k H' (g.outer h)
def eC(d:D):ME:=λE=>.ok (.v d,E)
def flat:D->Bool
 | .non | .bl _ | .int _ | .str _=>true
 |_=>false
def flV:D->V
 | .bl b=>.bl b| .int i=>.int i| .str x=>.str x|_=>.non
def zAV{d:D}(h:flat d=true):Rep K mg H d (flV d):=by
 cases d<;>simp[flat]at h<;>simp[Rep,flV]
theorem Got.flat(a:Got K mg M O E H [] O1 E1 H1 T1){d:D}(h:flat d=true):Got K mg M O E H [] O1 E1 H1 [(some (flV d),.v d)] :=
 a.more (a.frame.add (zAV h)) Step.refl.add
def ok_c{e:Expr}{d:D}(h:PE X e (tC (flV d)))(hf:flat d=true:=by rfl):EOk X e (eC d):=zr h λO H Q ⟨M,E,hl,f,k⟩ =>
 k (flV d) H ((Got.refl (T0:=[]) hl f).flat hf)
def ok_int{i j pos}:EOk X (.Constant (.int i) j pos) (eC (.int i)):=ok_c pe_int
def ok_bl{b j pos}:EOk X (.Constant (.bool b) j pos) (eC (.bl b)):=ok_c pe_bl
def ok_non{j pos}:EOk X (.Constant .none j pos) (eC .non):=ok_c pe_non
def ok_str{x j pos}:EOk X (.Constant (.str x) j pos) (eC (.str x)):=ok_c pe_str
def zBK(i:Nat):ME:=λE=>match E[i]? with
 |some (.v d)=>.ok (.v d,E)|some (.own ds)=>.ok (.v (.l ds),E.set i (.v (.l ds)))|some (.dct ks vs)=>.ok (.v (.dct ks vs),E.set i (.v (.dct ks vs)))|_=>.z
def jn{i:Nat}{s:Slot}(hl:E.length=O.length)(h:E[i]?=some s):∃o,O[i]?=some o/\(O.zip E)[i]?=some (o,s):=by
 have hi:i<E.length:=(qG.mp h).1;have:i<O.length:=hl▸hi;refine⟨O[i],by simp[this],?_⟩;rw[List.getElem?_zip_eq_some];exact⟨by simp[this],h⟩
def JD{i:Nat}{s:Slot}(hl:E.length=O.length)(h:E[i]?=some s):∃o,O[i]?=some o/\(o,s)∈O.zip E:=by
 obtain⟨o,h1,h2⟩:=jn hl h;exact⟨o,h1,mem_of_getElem? h2⟩
def zU{i:Nat}{o:Option V}(s:Slot)(h:O[i]?=some o):O.zip (E.set i s)=(O.zip E).set i (o,s):=by
 rw[<- uJ];congr 1;have hi:i<O.length:=(qG.mp h).1;apply List.ext_getElem?;intro j;by_cases e:i=j
 ·subst e;rw[getElem?_set_self hi,h]
 ·rw[getElem?_set_ne e]
def Wb{i:Nat}{s:Slot}{ds0:List D}(h:E[i]?=some s)(hs:∀ds,s≠.par ds)(o:Slot):PKp O E O (E.set i o):=λj ds e=>by
 have ne:i≠j:=λq=>by subst q;rw[h]at e;exact hs ds (qJ e)
 exact⟨⟨ds,by rw[getElem?_set_ne ne];exact e⟩,rfl⟩
def ok_var(i:Nat){x:Str}{pos:Pos}(h:PE X (.Name x pos) (Qd i)):EOk X (.Name x pos) (zBK i):=zr h λO H Q ⟨M,E,hl,f,k⟩=>by
 unfold zBK at k;cases e:E[i]? with
 |none=>rw[e]at k;exact k.elim
 |some sl =>
 rw[e]at k;cases sl with
 |e=>exact k.elim|par ds=>exact k.elim
 |v d =>
  obtain⟨o,h1,h2⟩:=JD hl e;obtain⟨v,rfl,r⟩:=f.val o d h2;exact⟨v,h1,k v H ⟨hl,f.add r,Step.refl.add,PKp.refl⟩⟩
 |own ds =>
  obtain⟨o,h1,h2⟩:=jn hl e;obtain⟨a,xs,rfl,q1,q2,q3⟩:=f.ownL o (.own ds) ds (mem_of_getElem? h2) rfl;refine⟨.ref a,h1,k _ H ?_⟩;have hlt:i<(O.zip E).length:=(qG.mp h2).1;have p:(O.zip E).Perm ((some (.ref a),R.slot (.own ds))::(O.zip E).eraseIdx i):=by
   have:=zQ (some (V.ref a),Slot.own ds) (O.zip E) i hlt;rw[jx h2]at this;exact this
  have f1:=(f.perm p).frz;have f2:FR X.K X.mg M H ((O.zip E).set i (some (.ref a),.v (.l ds))):=f1.perm (zQ _ _ _ hlt).symm;rw[<- zU (.v (.l ds)) h1]at f2;have r:=f1.val _ _ qE;obtain⟨v,ev,rr⟩:=r;cases ev;have em:Mo M ((some (V.ref a),Slot.v (R.own ds).d)::(O.zip E).eraseIdx i)=Mo M (O.zip (E.set i (.v (.l ds)))):=by
   rw[zU (.v (.l ds)) h1];exact(uI (zQ _ _ _ hlt)).symm
  rw[em]at rr;refine⟨by simp[hl],f2.add rr,?_,?_⟩
  ·refine Step.add ?_
   refine Step.weak Step.refl λb hb=>?_
   refine zD p.symm b ?_;rw[nil_append,zU (.v (.l ds)) h1]at hb;have hb':=zD (zQ _ _ _ hlt) b hb;rw[zb]at hb';exact zC (sublist_cons_self _ _) b hb'
  ·exact Wb (ds0:=[]) e (λds' q=>by cases q) _
 |dct ks vs =>
  obtain⟨o,h1,h2⟩:=jn hl e;obtain⟨a,ho,rfl,q1,q2,q3⟩:=f.own o (.dct ks vs) (.d ks vs) (mem_of_getElem? h2) rfl;refine⟨.ref a,h1,k _ H ?_⟩;have hlt:i<(O.zip E).length:=(qG.mp h2).1;have p:(O.zip E).Perm ((some (.ref a),R.slot (.dct ks vs))::(O.zip E).eraseIdx i):=by
   have:=zQ (some (V.ref a),Slot.dct ks vs) (O.zip E) i hlt;rw[jx h2]at this;exact this
  have f1:=(f.perm p).frz;have f2:FR X.K X.mg M H ((O.zip E).set i (some (.ref a),.v (.dct ks vs))):=f1.perm (zQ _ _ _ hlt).symm;rw[<- zU (.v (.dct ks vs)) h1]at f2;have r:=f1.val _ _ qE;obtain⟨v,ev,rr⟩:=r;cases ev;have em:Mo M ((some (V.ref a),Slot.v (R.dct ks vs).d)::(O.zip E).eraseIdx i)=Mo M (O.zip (E.set i (.v (.dct ks vs)))):=by
   rw[zU (.v (.dct ks vs)) h1];exact(uI (zQ _ _ _ hlt)).symm
  rw[em]at rr;refine⟨by simp[hl],f2.add rr,?_,?_⟩
  ·refine Step.add ?_
   refine Step.weak Step.refl λb hb=>?_
   refine zD p.symm b ?_;rw[nil_append,zU (.v (.dct ks vs)) h1]at hb;have hb':=zD (zQ _ _ _ hlt) b hb;rw[zb]at hb';exact zC (sublist_cons_self _ _) b hb'
  ·exact Wb (ds0:=[]) e (λds' q=>by cases q) _
end
def zc:Expr->Bool
 | .Starred _ _=>true|_=>false
def jo:List Expr->Bool
 | []=>true|e::es=>!zc e&&jo es
def yC{e:Expr}{es:List Expr}{env:Env}(h:zc e=false):starEach (e::es) env=(false,eval e env)::starEach es env:=by
 cases e<;>first|rfl|(cases h)
def star2{a b:Expr}{env:Env}(ha:zc a=false)(hb:zc b=false):starEach [a,b] env=[(false,eval a env),(false,eval b env)]:=by
 rw[yC ha,yC hb];rfl
def zBL{a:Expr}{env:Env}(ha:zc a=false):starEach [a] env=[(false,eval a env)]:=by
 rw[yC ha];rfl
def jp:Expr->Bool
 | .Set _ _ _=>false|_=>true
def jL{e:Expr}{env:Env}(h:jp e=true):∀x,foldedSetIterable e env x=pure x:=by
 intro x;cases e<;>first|rfl|(cases h)
def J4:Expr->Bool
 | .ListComp _ _ _ _=>false| .SetComp _ _ _ _=>false| .DictComp _ _ _ _ _=>false|_=>true
def uK{e:Expr}{t:Option Expr}{l:Nat}{env:Env}(h:J4 e=true):swapsWith e t l env=pure false:=by
 cases e<;>first|rfl|(cases h)
def zFe:Expr->Bool
 | .UnaryOp .Not _ _=>false| .BoolOp _ _ _=>false| .IfExp _ _ _ _=>false| .Compare _ _ _ _=>false|_=>true
def test_of{e:Expr}{env:Env}(h:zFe e=true):∀whole,isTrue e env whole=(do let v <- whole;standAt e.pos;holding [v] (truthy v)):=by
 intro x;cases e<;>first|rfl|(cases h)|skip;rename_i op _ _;cases op<;>first|rfl|(cases h)
def uL:Expr->Bool
 | .Slice _ _ _ _=>false|_=>true
theorem Gh{env:Env}:∀{es:List Expr},jo es=true->(starEach es env).any (·.1)=false
 | [],_=>rfl
 |e::es,h=>by
  simp only[jo,Bool.and_eq_true,Bool.not_eq_true']at h;rw[yC h.1];simp[Gh h.2]
def zEB(pos:Pos)(l:List (Bool×Sem Value)):(backTo pos l).any (·.1)=l.any (·.1):=by
 unfold backTo;rw[List.any_map];rfl
def Ye{env:Env}{es:List Expr}{pos:Pos}(h:jo es=true):(backTo pos (starEach es env)).any (·.1)=false:=by
 rw[zEB,Gh h]
end DV
namespace L2
open PySem PySem.Spec PyProof.Rows
section
variable{X:Cx}
def zFf(K:qH):R2:=λx y H Q=>∃a b xs ys,x=.ref a/\y=.ref b/\SqT K H a xs/\SqT K H b ys/\xs.length+ys.length<=sizeLine /\
 (xs=[]->Q (.ref b) H)/\(xs≠[]->ys=[]->Q (.ref a) H)/\(xs≠[]->ys≠[]->∀p,H p=none->Q (.ref p) (upd H p (.t (xs++ys))))
def zEC:OpR X (binaryOp .Add) (zFf X.K):=by
 intro pins s O H x y v u Q I rx ry h;obtain⟨a,b,xs,ys,rfl,rfl,ha,hb,hz,q0,q1,q2⟩:=h;cases rx;cases ry;obtain⟨its,r1,p1,_⟩:=I.tuple ha;obtain⟨its2,r2,p2,_⟩:=I.tuple hb;by_cases hx:xs=[]
 ·have hi:its=[]:=r1.nil_iff.mpr hx
  obtain⟨⟨cls,dd,data,sl⟩,ho,hc,n,hd⟩:=id p1;obtain⟨⟨cls2,dd2,data2,sl2⟩,ho2,hc2,n2,hd2⟩:=id p2;simp only at hc hd hc2 hd2;subst hc hd hc2 hd2;exact concat_meets ⟨_,ho,rfl⟩ ⟨_,ho2,rfl⟩ noFill_tuple_add seq_tuple_add PySem.F.slot_tuple_add PySem.F.entry_tuple_add (PySem.F.args_tuple_add_2 _ _)
   (tuple_addW0 a b its.toArray its2.toArray n n2 dd dd2 sl sl2 (by simp[hi])) ⟨ho,ho2,⟨.ref b,H,I,rfl,q0 hx⟩⟩
 ·exact op_catT pins s O H (.ref a) (.ref b) (.ref a) (.ref b) Q I rfl rfl ⟨a,b,xs,ys,rfl,rfl,ha,hb,hx,hz,q1 hx,q2 hx⟩
def rCatL(K:qH):R2:=λx y H Q=>∃l b xs zs,x=.ref l/\y=.ref b/\SqL K H l xs/\SqL K H b zs/\xs.length+zs.length<=sizeLine/\∀p,H p=none->Q (.ref p) (upd H p (.l (xs++zs)))
def op_catL:OpR X (binaryOp .Add) (rCatL X.K):=by
 intro pins s O H x y v u Q I rx ry h;obtain⟨l,b,xs,zs,rfl,rfl,hH,hB,hz,q⟩:=h;cases rx;cases ry;obtain⟨its,r,pl,_⟩:=I.list hH;obtain⟨its2,r2,pl2,_⟩:=I.list hB;have hl:=r.length;have hl2:=r2.length;obtain⟨⟨cls,dd,data,sl⟩,n,ho,hc,hdd,hd⟩:=pl;obtain⟨⟨cls2,dd2,data2,sl2⟩,n2,ho2,hc2,hdd2,hd2⟩:=pl2;simp only at hc hd hc2 hd2;subst hc hd hc2 hd2;refine concat_meets ⟨_,ho,rfl⟩ ⟨_,ho2,rfl⟩ noFill_list_add seq_list_add PySem.F.slot_list_add PySem.F.entry_list_add (PySem.F.args_list_add_2 _ _) (list_addW l b its.toArray its2.toArray n n2 dd dd2 sl sl2 (by rw[size_toArray,size_toArray];omega)) ⟨ho,ho2,?_⟩;have ea:its.toArray++its2.toArray=(its++its2).toArray:=by simp
 rw[ea];exact⟨.ref _,_,I.lnew (t':=s.toks) (r.append r2) (by rw[length_append];omega),rfl,q _ I.fresh⟩
def J5{prog:Program}{w:World}{A:Around}{E:Value->Shared->Prop}{s:Shared}{t sl:Addr}{items:Array Value}{vl vu:Value}{lo hi:Option Int}{Q:Value->Shared->Prop}(ht:IsTup s.heap t items)(hs:s.heap.IsSliceOf sl vl vu .none)(pl:IsPart vl lo)(pu:IsPart vu hi)
  (h1:HT.sIx items.size 0 lo=0) (h2:HT.sIx items.size items.size hi=items.size)
  (h:Q (.ref t) s):wpAny (model prog w) A (getItem (.ref t) (.ref sl)) Q E s:=by
 obtain⟨os,hos,hcs,hds⟩:=id hs;have hTs:s.TypeIs (.ref sl) "slice":=⟨os,hos,hcs⟩;unfold getItem
 try with_reducible refine wpAny_holding ?_
 first|refine qB (qC ?_)|skip
 refine qB (wpAny_sequenceKey ht.typeIs (by decide) ?_);refine qB (wpAny_callSpecial?_slot (name:=Str.ofString "__getitem__") ht.typeIs PyProof.Rows.slot_tuple_getitem
  (wpAny_call_entry PyProof.Rows.slot_tuple_getitem ht.typeIs entry_tuple_getitem ?_ (args_tuple_getitem _ _)))
 show wpAny _ _ (Builtin.Tuple.tupleItemsOf (.ref t) >>= _) _ _ s
 refine qB (tupleItemsOf_ ht ?_);refine qB (wpAny_typeOf hTs ?_);rw[if_pos (by decide)];refine qB (HT.sliceApplied_gen hs pl pu ?_);have hyes:(((HT.sIx items.size 0 lo:Nat):Int)==0&&(1:Int)==1&&(HT.sIx items.size items.size hi-HT.sIx items.size 0 lo)==items.size)=true:=by
  rw[h1,h2];simp
 show wpAny _ _ (if(((HT.sIx items.size 0 lo:Nat):Int)==0&&(1:Int)==1&&(HT.sIx items.size items.size hi-HT.sIx items.size 0 lo)==items.size)=true then _ else _) _ _ s
 rw[if_pos hyes];unfold Builtin.Tuple.tupleIsExact;refine qB (qB (wpAny_typeOf ht.typeIs (qC ?_)));rw[if_pos (by decide)];exact qB (wpAny_rule (qC ⟨_,rfl,qC h⟩))
def rSlTT(K:qH):V->Option Int->Option Int->Hp->VK->Prop:=λx lo hi H Q=>∃a xs,x=.ref a/\SqT K H a xs /\
 ((HT.sIx xs.length 0 lo=0/\HT.sIx xs.length xs.length hi=xs.length)->Q (.ref a) H) /\
 (¬(HT.sIx xs.length 0 lo=0/\HT.sIx xs.length xs.length hi=xs.length)->∀p,H p=none->Q (.ref p) (upd H p (.t (zD1 xs lo hi))))
def sl_tupT:SlR X (rSlTT X.K):=by
 intro pins s O H x v vl vu lo hi sl Q I rx hs pl pu h;obtain⟨a,xs,rfl,hx,q1,q2⟩:=h;by_cases hw:HT.sIx xs.length 0 lo=0/\HT.sIx xs.length xs.length hi=xs.length
 ·cases rx
  obtain⟨its,r,ht,hz⟩:=I.tuple hx;have hlen:its.toArray.size=xs.length:=by rw[size_toArray];exact r.length.symm
  refine⟨"tuple",_,PyProof.Rows.slot_tuple_getitem.lookup,ht.typeIs,?_⟩;exact J5 ht hs pl pu (by rw[hlen];exact hw.1) (by rw[hlen];exact hw.2) ⟨.ref a,H,I,rfl,q1 hw⟩
 ·exact sl_tup pins s O H (.ref a) v vl vu lo hi sl Q I rx hs pl pu ⟨a,xs,rfl,hx,hw,q2 hw⟩
theorem Gi:∀bs:List Bool,(List.range bs.length).all (λi=>bs.getD i false)=bs.all id
 | []=>rfl
 |b::bs=>by
  rw[length_cons,List.range_succ_eq_map,all_cons,all_cons,List.all_map,<- Gi bs];rfl
def zED(hc:X.calm=true):Je X (.builtin "all") (λxs H Q=>∃(p:Addr) (bs:List Bool),xs=[.ref p]/\SqL X.K H p (bs.map V.bl)/\Q (.bl (bs.all id)) H):=by
 intro pins s O H xs us Q I r h;obtain⟨p,bs,rfl,hq,q⟩:=h;obtain⟨u,rfl,rx⟩:=GW r;cases rx;obtain⟨its,rv,pl,hz⟩:=I.list hq;have hlen:=rv.length;refine call_all_walk (wpAny_pyIter_list pl.isList ?_);have hp:p<s.heap.objs.size:=by obtain⟨o,n,e,_⟩:=pl;exact lt_size e
 have hk:∀b o,s.heap.get? b=some o->(s.heap.push {cls:=.type "list_iterator",data:=.fields #[.ref p,.int 0 0]}).get? b=some o:=λb o e=>qA _ e
 have htr:∀(i:Nat) (v:Value),its.toArray[i]?=some v->v=Value.bool (bs.getD i false):=λi v hv=>by
  have hv':its[i]?=some v:=by simpa using hv
  have hi:i<its.length:=(qG.mp hv').1;have hx:i<(bs.map V.bl).length:=by rw[hlen];exact hi
  obtain⟨u',e1,e2⟩:=rv.get (i:=i) (x:=(bs.map V.bl)[i]) (by simp[hx]);rw[hv']at e1;cases e1;rw[length_map]at hx;rw[List.getElem_map]at e2;have:v=.bool (bs[i]):=e2;rw[this];simp[hx]
 refine⟨s.heap.objs.size,[s.heap.objs.size,p],[s.heap.objs.size],its.toArray.size,_,_,λi=>bs.getD i false,rfl,
  Walks.list (by show X.A.handled=none;exact I.ok.hd hc) _ p (ne_of_lt hp) its.toArray,⟨⟨_,get?_push_size _ rfl,rfl,rfl⟩,?_⟩,?_,?_⟩
 ·obtain⟨o,e,c⟩:=pl.isList
  exact⟨o,hk _ _ e,c⟩
 ·intro i v s' Q' E' hv hQ
  rw[htr i v hv];exact wpAny_truthy_bool hQ
 ·intro h' tk kp
  have e:(List.range its.toArray.size).all (λi=>bs.getD i false)=bs.all id:=by
   rw[size_toArray,<- hlen,length_map,Gi]
  rw[e];exact⟨.bl (bs.all id),H,I.kept (t':=tk) λb o eb=>kp b o (λm=>by
   have:b=s.heap.objs.size:=by simpa using m
   subst this;exact absurd (lt_size eb) (lt_irrefl _)) (hk b o eb),rfl,q⟩
def Z4:fillsNumberSlot (.type "tuple") "mul"=pure false :=
 PySem.fillsNumberSlot_seq (id:="tuple.__mul__") (r:=some (.builtin "tuple.__rmul__")) F.slot_tuple_mul.lookup (by decide +kernel) F.slot_tuple_rmul.lookup (by decide +kernel)
def Gj:seqRepeat? (.type "tuple")=pure (some (.builtin "tuple.__mul__")):=by
 unfold seqRepeat?;rw[PySem.seqSlot_of (T:="tuple") (name:="__mul__") (id:="tuple.__mul__") F.slot_tuple_mul.lookup (by decide +kernel),PySem.seqSlot_of (T:="tuple") (name:="__rmul__") (id:="tuple.__rmul__") F.slot_tuple_rmul.lookup (by decide +kernel)];rfl
def vI(a:Int)(t:Tok)(l:Addr)(items:Array Value)(n:Nat)(dd:Option Addr)(sl:Array (Option Value)) :
  Meets (Builtin.«int.__rmul__» ⟨[.int a t,.ref l],[]⟩) (λ_ R s=>s.heap.get? l=some {cls:=.type "tuple",dict:=dd,data:=.seq items n,slots:=sl}/\R (.ok (.ret Value.notImplemented)) s) :=
 .of_wp λprog w A R s h=>by obtain⟨hp,g,d,tk,os⟩:=s;obtain⟨hl,h⟩:=h;wp_walk;exact⟨_,rfl,h⟩
def vJ{prog:Program}{w:World}{A:Around}{E:Value->Shared->Prop}{s:Shared}{l:Addr}{items:Array Value}{k:Int}{t:Tok}{Q:Value->Shared->Prop}(hl:IsTup s.heap l items)(h1:-(2^63)<=k)(h2:k<2^63)
  (hz:(items.size:Int)*k<=sizeLine) (q0:items.isEmpty=true\/k=1->Q (.ref l) s)
  (q1:k<=0->Q (.ref s.heap.objs.size) {s with heap:=s.heap.push {cls:=.type "tuple",data:=.seq #[]}})
  (q2:Q (.ref s.heap.objs.size) {s with heap:=s.heap.push {cls:=.type "tuple",data:=.seq ((replicate k.toNat items).foldl (·++·) #[])}})
  (hfit:sizeOk (.seq ((replicate k.toNat items).foldl (·++·) #[]))) :
  wpAny (model prog w) A (call (.builtin "tuple.__mul__") [.ref l,.int k t]) Q E s:=by
 refine wpAny_call_entry F.slot_tuple_mul hl.typeIs F.entry_tuple_mul ?_ (F.args_tuple_mul_2 _ _);show wpAny _ _ (asIndex (.int k t) >>= _) _ _ s;refine qB (wpAny_of_eq (a:=k) rfl ?_);dsimp only;rw[if_neg (by simp only[Bool.or_eq_true,decide_eq_true_eq];omega)];refine qB (tupleItemsOf_ hl ?_);by_cases e1:(items.isEmpty||k==1)=true
 ·rw[if_pos e1]
  unfold Builtin.Tuple.tupleIsExact;refine qB (qB (wpAny_typeOf hl.typeIs (qC ?_)));rw[if_pos (by decide)];refine qB (wpAny_rule (qC ⟨_,rfl,q0 ?_⟩));rw[Bool.or_eq_true,beq_iff_eq]at e1;exact e1
 ·rw[if_neg e1]
  by_cases e2:(decide (k<=0)||items.isEmpty)=true
  ·rw[if_pos e2]
   have hk:k<=0:=by
    simp only[Bool.or_eq_true,decide_eq_true_eq,beq_iff_eq,not_or]at e1 e2;rcases e2 with e2|e2
    ·exact e2
    ·exact absurd e2 e1.1
   exact qB (m:=Builtin.Tuple.tupleExact _) (wpAny_newObj_type (qC ⟨_,rfl,q1 hk⟩) (by show(#[]:Array Value).size<=sizeLine;simp))
  ·rw[if_neg e2]
   have hs:sizeLine=16777216:=sizeLine_eq;rw[if_neg (by rw[hs]at hz;omega),if_neg (by unfold Builtin.Tuple.tupleTooMany;simp only[decide_eq_true_eq];omega)];exact qB (m:=Builtin.Tuple.tupleExact _) (wpAny_newObj_type (qC ⟨_,rfl,q2⟩) hfit)
def rRepT(K:qH):R2:=λx y H Q=>∃l k xs,x=.ref l/\y=.int k/\SqT K H l xs/\-(2^63)<=k/\k<2^63/\xs.length*k.toNat<=sizeLine /\
 (xs=[]\/k=1->Q (.ref l) H)/\(∀p,H p=none->Q (.ref p) (upd H p (.t (replicate k.toNat xs).flatten)))
def op_repT:OpR X (binaryOp .Mult) (rRepT X.K):=by
 intro pins s O H x y v u Q I rx ry h;obtain⟨l,k,xs,rfl,rfl,hH,h1,h2,hz,q0,q⟩:=h;cases rx;obtain⟨t,rfl⟩:=ry;obtain⟨its,r,pt,_⟩:=I.tuple hH;have hl:=r.length;obtain⟨⟨cls,dd,data,sl⟩,ho,hc,n,hd⟩:=id pt;simp only at hc hd;subst hc hd;have hnew:foldl (λx1 x2=>x1++x2) #[] (replicate k.toNat its.toArray)=(replicate k.toNat its).flatten.toArray:=by
  have:=WY its k.toNat [];rw[nil_append]at this;exact this
 have hlen:(replicate k.toNat its).flatten.length<=sizeLine:=by rw[Qg,mul_comm,<- hl];exact hz
 have hzz:((its.toArray.size:Nat):Int)*k<=(sizeLine:Nat):=by
  rw[size_toArray,<- hl];by_cases hk:0<=k
  ·obtain⟨m,rfl⟩:=Int.eq_ofNat_of_zero_le hk
   have:xs.length*m<=sizeLine:=by simpa using hz
   exact_mod_cast this
  ·have:(xs.length:Int)*k<=0:=Int.mul_nonpos_of_nonneg_of_nonpos (Int.natCast_nonneg _) (by omega)
   omega
 refine wpAny_binaryOp_repeat_ref (T:="tuple") (U:="int") (by decide) ⟨_,ho,rfl⟩ (λs'=>typeIs_int s' k t) Z4 F.fills_int_mul F.slot_int_rmul Gj F.slot_int_index.lookup
  (call_meets F.slot_int_rmul (typeIs_int s k t) F.entry_int_rmul (F.args_int_rmul_2 _ _) (vI k t l its.toArray n dd sl) ⟨ho,rfl,⟨_,ho,rfl⟩,?_⟩)
 refine vJ pt h1 h2 hzz (λe=>⟨.ref l,H,I,rfl,q0 ?_⟩) (λe=>?_) ?_ ?_
 ·rcases e with e|e
  ·left
   have:its=[]:=by simpa using e
   exact r.nil_iff.mp this
  ·right;exact e
 ·have ek:k.toNat=0:=by omega
  have q':=q s.heap.objs.size I.fresh;rw[ek]at q';exact⟨.ref s.heap.objs.size,_,I.laid (t':=s.toks) (o:=.t []) (λb ob q=>qA _ q) (le_refl _) ⟨zero_le _,[],.nil,IsTup.new _ _⟩,rfl,q'⟩
 ·rw[hnew]
  exact⟨.ref s.heap.objs.size,_,I.laid (t':=s.toks) (o:=.t (replicate k.toNat xs).flatten) (λb ob q=>qA _ q) (le_refl _) ⟨by rw[Qg,mul_comm];exact hz,_,r.rep k.toNat,IsTup.new _ _⟩,rfl,q _ I.fresh⟩
 ·rw[hnew]
  show(replicate k.toNat its).flatten.toArray.size<=sizeLine
  rw[size_toArray];exact hlen
end
end L2
namespace DV
open PySem L2
def cap:Nat:=1000000
def Wc{n:Nat}(h:n<=cap):n<=sizeLine:=le_trans h (by rw[sizeLine_eq];decide)
abbrev Kt(K:qH)(mg:Str->Option Value)(M:Addr->Prop)(H:Hp)(Z:Fz)(res:R)(Q:VK):Prop :=
 ∀v H',FR K mg M H' ((some v,res.slot)::Z)->Step M H Z H' ((some v,res.slot)::Z)->Q v H'
def ROk(K:qH)(mg:Str->Option Value)(rel:R2)(f:D->D->Option R):Prop :=
 ∀(M:Addr->Prop) (H:Hp) (Z:Fz) (x y:V) (d1 d2:D) (res:R) (Q:VK),FR K mg M H Z->Rep K mg (Hm (Mo M Z) H) d1 x->Rep K mg (Hm (Mo M Z) H) d2 y->f d1 d2=some res->Kt K mg M H Z res Q->rel x y H Q
def COk(K:qH)(mg:Str->Option Value)(rel:List V->Hp->VK->Prop)(f:List D->Option R):Prop :=
 ∀(M:Addr->Prop) (H:Hp) (Z:Fz) (xs:List V) (ds:List D) (res:R) (Q:VK),FR K mg M H Z->Reps K mg (Hm (Mo M Z) H) ds xs->f ds=some res->Kt K mg M H Z res Q->rel xs H Q
section
variable{X:Cx}{K:qH}{mg:Str->Option Value}{M:Addr->Prop}{H H':Hp}{Z:Fz}{Q:VK}{O:St}
theorem Kt.flat{d:D}(k:Kt K mg M H Z (.v d) Q)(f:FR K mg M H Z)(h:flat d=true):Q (flV d) H:=k _ _ (f.add (zAV h)) Step.refl.add
def Kt.rep{d:D}{v:V}(k:Kt K mg M H Z (.v d) Q)(f:FR K mg M H Z)(h:Rep K mg (Hm (Mo M Z) H) d v):Q v H:=k _ _ (f.add h) Step.refl.add
theorem Kt.tup{ds:List D}{xs:List V}{p:Addr}(k:Kt K mg M H Z (.v (.t ds)) Q)(f:FR K mg M H Z)(hp:H p=none)(h:Reps K mg (Hm (Mo M Z) H) ds xs):Q (.ref p) (upd H p (.t xs)):=k _ _ (f.newTup hp h) (Step.newVal hp)
theorem Kt.own{ds:List D}{xs:List V}{p:Addr}(k:Kt K mg M H Z (.own ds) Q)(f:FR K mg M H Z)(hp:H p=none)(h:Reps K mg (Hm (Mo M Z) H) ds xs):Q (.ref p) (upd H p (.l xs)):=k _ _ (f.newOwn hp h) (Step.newOwn f hp)
def Z5(f:D->D->Option R)(a b:ME):ME:=λE=>match a E with
 | .z=>.z| .exc x E1=>.exc x E1
 | .ok (r1,E1)=>match b E1 with
  | .z=>.z| .exc x E2=>.exc x E2
  | .ok (r2,E2)=>match f r1.d r2.d with
   |some r=>.ok (r,E2)|none=>.z
def uM{rel:R2}{f:D->D->Option R}{a b:ME}(hr:ROk X.K X.mg rel f){H:Hp}{Q:VK}(h:tM X (Z5 f a b) O H Q):tOp rel (tM X a) (tM X b) O H Q:=by
 obtain⟨M,E,hl,fr,k⟩:=h;unfold Z5 at k;refine zx (T0:=[]) hl fr ?_;cases ea:a E with
 |z=>rw[ea]at k;exact k|exc x E1=>rw[ea]at k;exact λH' g=>k H' g
 |ok p =>
  obtain⟨r1,E1⟩:=p;rw[ea]at k;intro x H1 g1;refine zx (T0:=[(some x,r1.slot)]) g1.len g1.fr ?_;dsimp only at k;cases eb:b E1 with
  |z=>rw[eb]at k;exact k|exc x E2=>rw[eb]at k;exact λH' g=>k H' (g1.trans' g).dropAll
  |ok p =>
   obtain⟨r2,E2⟩:=p;rw[eb]at k;intro y H2 g2;have g:=g1.trans' g2;have rp:=Got.reps (vs:=[y,x]) (rs:=[r2,r1]) rfl g;simp only[List.map,Reps]at rp;obtain⟨y',_,e1,ry,x',_,e2,rx,_⟩:=rp;cases e1;cases e2;dsimp only at k;cases ef:f r1.d r2.d with
   |none=>rw[ef]at k;exact k.elim
   |some r =>
    rw[ef]at k;exact hr M H2 _ x y r1.d r2.d r Q g.frame rx ry ef λv H' f' s'=>k v H' (g.more (T:=[(some v,r.slot)]) f' s')
def zBM{op:Operator}{rel:R2}{f:D->D->Option R}{a b:Expr}{ma mb:ME}{pos:Pos}(ho:OpR X (binaryOp op) rel)(hr:ROk X.K X.mg rel f)(ha:EOk X a ma)(hb:EOk X b mb):EOk X (.BinOp a op b pos) (Z5 f ma mb) :=
 zr (pe_op ho ha hb) λO H Q h=>uM hr h
def Zk{op:CmpOp}{rel:R2}{f:D->D->Option R}{a b:Expr}{ma mb:ME}{pos:Pos}(ho:OpR X (compareOp op) rel)(hr:ROk X.K X.mg rel f)(hm:behindInMarks op b=false)(ha:EOk X a ma)(hb:EOk X b mb):EOk X (.Compare a [op] [b] pos) (Z5 f ma mb) :=
 zr (pe_cmpR ho ha hb hm) λO H Q h=>uM hr h
def ok_ix{rel:R2}{f:D->D->Option R}{a b:Expr}{ma mb:ME}{pos:Pos}(ho:IxR X rel)(hr:ROk X.K X.mg rel f)(hs:WX b)(ha:EOk X a ma)(hb:EOk X b mb):EOk X (.Subscript a b pos) (Z5 f ma mb) :=
 zr (pe_ix ho ha hb hs) λO H Q h=>uM hr h
def tT(m:ME):MT:=λE=>match m E with
 | .z=>.z| .exc x E1=>.exc x E1| .ok (.v (.bl b),E1)=>.ok (b,E1)|_=>.z
def zCM{m:ME}{H:Hp}{Q:Bool->Hp->Prop}(h:tMT X (tT m) O H Q):tM X m O H λx H'=>∃k,x=.bl k/\Q k H':=by
 obtain⟨M,E,hl,fr,k⟩:=h;refine⟨M,E,hl,fr,?_⟩;unfold tT at k;cases e:m E with
 |z=>rw[e]at k;exact k|exc x E1=>rw[e]at k;exact k
 |ok p =>
  obtain⟨r,E1⟩:=p;rw[e]at k;cases r with
  |own ds=>exact k.elim|dct _ _=>exact k.elim
  |v d =>
   cases d with
   |bl b =>
    intro v H' g;have rp:=g.rep;simp only[R.d,Rep]at rp;exact⟨b,rp,k H' g.dropAll⟩
   |_=>exact k.elim
def ok_test{e:Expr}{m:ME}(h:EOk X e m)(he:∀whole,isTrue e X.env whole=(do let v <- whole;standAt e.pos;holding [v] (truthy v)):=by intro _;rfl):TOk X e (tT m) :=
 zAU (pt_val h he) λO H Q q=>zCM q
def JE{op:CmpOp}{rel:R2}{f:D->D->Option R}{a b:Expr}{ma mb:ME}{pos:Pos}(ho:OpR X (compareOp op) rel)(hr:ROk X.K X.mg rel f)(hm:behindInMarks op b=false)(ha:EOk X a ma)(hb:EOk X b mb):TOk X (.Compare a [op] [b] pos) (tT (Z5 f ma mb)) :=
 zAU (pt_cmpR ho ha hb hm) λO H Q h=>uM hr (zCM h)
def Yg(a b:MT):MT:=λE=>match a E with
 | .ok (true,E1)=>b E1|o=>o
def zBN(a b:MT):MT:=λE=>match a E with
 | .ok (false,E1)=>b E1|o=>o
def ZE(a:MT):MT:=λE=>match a E with
 | .z=>.z| .exc x E1=>.exc x E1| .ok (b,E1)=>.ok (!b,E1)
def and_run{a b:MT}{H:Hp}{Q:Bool->Hp->Prop}(h:tMT X (Yg a b) O H Q):tAnd (tMT X a) (tMT X b) O H Q:=by
 obtain⟨M,E,hl,fr,k⟩:=h;unfold Yg at k;refine JB (T0:=[]) hl fr ?_;cases ea:a E with
 |z=>rw[ea]at k;exact k|exc x E1=>rw[ea]at k;exact k
 |ok p =>
  obtain⟨c,E1⟩:=p;rw[ea]at k;intro H1 g1;cases c with
  |false=>exact zD5 (k H1 g1)
  |true =>
   refine zD6 ?_;refine JB (T0:=[]) g1.len g1.fr ?_;dsimp only at k;cases eb:b E1 with
   |z=>rw[eb]at k;exact k|exc x E2=>rw[eb]at k;exact λH' g=>k H' (g1.trans' g)|ok p=>rw[eb]at k;exact λH' g=>k H' (g1.trans' g)
def or_run{a b:MT}{H:Hp}{Q:Bool->Hp->Prop}(h:tMT X (zBN a b) O H Q):tOr (tMT X a) (tMT X b) O H Q:=by
 obtain⟨M,E,hl,fr,k⟩:=h;unfold zBN at k;refine JB (T0:=[]) hl fr ?_;cases ea:a E with
 |z=>rw[ea]at k;exact k|exc x E1=>rw[ea]at k;exact k
 |ok p =>
  obtain⟨c,E1⟩:=p;rw[ea]at k;intro H1 g1;cases c with
  |true=>exact zD6 (k H1 g1)
  |false =>
   refine zD5 ?_;refine JB (T0:=[]) g1.len g1.fr ?_;dsimp only at k;cases eb:b E1 with
   |z=>rw[eb]at k;exact k|exc x E2=>rw[eb]at k;exact λH' g=>k H' (g1.trans' g)|ok p=>rw[eb]at k;exact λH' g=>k H' (g1.trans' g)
def not_run{a:MT}{H:Hp}{Q:Bool->Hp->Prop}(h:tMT X (ZE a) O H Q):tNot (tMT X a) O H Q:=by
 obtain⟨M,E,hl,fr,k⟩:=h;unfold ZE at k;refine JB (T0:=[]) hl fr ?_;cases ea:a E with
 |z=>rw[ea]at k;exact k|exc x E1=>rw[ea]at k;exact k|ok p=>rw[ea]at k;exact k
abbrev WOk(X:Cx)(e:Expr)(m:MT):Prop:=PW X e (tMT X m)
def wk_and1{a:Expr}{m:MT}{pos:Pos}(h:TOk X a m):WOk X (.BoolOp .And [a] pos) m:=pw_and1 h
def wk_or1{a:Expr}{m:MT}{pos:Pos}(h:TOk X a m):WOk X (.BoolOp .Or [a] pos) m:=pw_or1 h
def zFg{a b:Expr}{Y9:List Expr}{ma mb:MT}{pos:Pos}(ha:TOk X a ma)(hb:WOk X (.BoolOp .And (b::Y9) pos) mb):WOk X (.BoolOp .And (a::b::Y9) pos) (Yg ma mb):=zFd (pw_and ha hb) λO H Q=>and_run
def wk_or{a b:Expr}{Y9:List Expr}{ma mb:MT}{pos:Pos}(ha:TOk X a ma)(hb:WOk X (.BoolOp .Or (b::Y9) pos) mb):WOk X (.BoolOp .Or (a::b::Y9) pos) (zBN ma mb):=zFd (pw_or ha hb) λO H Q=>or_run
def tk_w{e:Expr}{m:MT}(h:WOk X e m):TOk X e m:=h.pt
def tk_not{a:Expr}{m:MT}{pos:Pos}(h:TOk X a m):TOk X (.UnaryOp .Not a pos) (ZE m):=zAU (pt_not h) λO H Q=>not_run
def zCN(a:ME):ME:=λE=>match a E with
 | .ok (.v (.bl b),E1)=>.ok (.v (.bl (!b)),E1)| .exc x E1=>.exc x E1|_=>.z
def zAW(a b:ME):ME:=λE=>match a E with
 | .ok (.v (.bl true),E1)=>b E1| .ok (.v (.bl false),E1)=>.ok (.v (.bl false),E1)| .exc x E1=>.exc x E1|_=>.z
def eOr(a b:ME):ME:=λE=>match a E with
 | .ok (.v (.bl false),E1)=>b E1| .ok (.v (.bl true),E1)=>.ok (.v (.bl true),E1)| .exc x E1=>.exc x E1|_=>.z
def zEE{a:ME}{H:Hp}{Q:VK}(h:tM X (zCN a) O H Q):tNotV (tM X a) O H Q:=by
 obtain⟨M,E,hl,fr,k⟩:=h;unfold zCN at k;refine zx (T0:=[]) hl fr ?_;cases ea:a E with
 |z=>rw[ea]at k;exact k|exc x E1=>rw[ea]at k;exact k
 |ok p =>
  obtain⟨r,E1⟩:=p;rw[ea]at k;cases r with
  |own ds=>exact k.elim|dct _ _=>exact k.elim
  |v d =>
   cases d with
   |bl b =>
    intro v H' g;have rp:=g.rep;simp only[R.d,Rep]at rp;exact⟨b,rp,k _ H' (g.flat (d:=.bl (!b)) rfl)⟩
   |_=>exact k.elim
def zEF{a b:ME}{H:Hp}{Q:VK}(h:tM X (zAW a b) O H Q):tAndV (tM X a) (tM X b) O H Q:=by
 obtain⟨M,E,hl,fr,k⟩:=h;unfold zAW at k;refine zx (T0:=[]) hl fr ?_;cases ea:a E with
 |z=>rw[ea]at k;exact k|exc x E1=>rw[ea]at k;exact k
 |ok p =>
  obtain⟨r,E1⟩:=p;rw[ea]at k;cases r with
  |own ds=>exact k.elim|dct _ _=>exact k.elim
  |v d =>
   cases d with
   |bl c =>
    intro v H' g;have rp:=g.rep;simp only[R.d,Rep]at rp;refine⟨c,rp,?_⟩;cases c with
    |false=>exact zD5 (k _ H' (g.flat (d:=.bl false) rfl))
    |true =>
     refine zD6 (zx (T0:=[]) g.len g.frame ?_);dsimp only at k;cases eb:b E1 with
     |z=>rw[eb]at k;exact k|exc x E2=>rw[eb]at k;exact λH'' g'=>k H'' (g.dropAll.trans' g')|ok p=>rw[eb]at k;exact λv'' H'' g'=>k v'' H'' (g.dropAll.trans' g')
   |_=>exact k.elim
def ok_not{a:Expr}{m:ME}{pos:Pos}(h:EOk X a m):EOk X (.UnaryOp .Not a pos) (zCN m):=zr (pe_not h) λO H Q=>zEE
def zFh{a b:Expr}{Y9:List Expr}{ma mb:ME}{pos:Pos}(ha:EOk X a ma)(hb:EOk X (.BoolOp .And (b::Y9) pos) mb):EOk X (.BoolOp .And (a::b::Y9) pos) (zAW ma mb):=zr (pe_and ha hb) λO H Q=>zEF
def ok_one{a:Expr}{op:BoolOp}{m:ME}{pos:Pos}(h:EOk X a m):EOk X (.BoolOp op [a] pos) m:=pe_one h
def eIf(c:MT)(a b:ME):ME:=λE=>match c E with
 | .ok (true,E1)=>a E1| .ok (false,E1)=>b E1| .exc x E1=>.exc x E1| .z=>.z
def if_run{c:MT}{a b:ME}{H:Hp}{Q:VK}(h:tM X (eIf c a b) O H Q):tIf (tMT X c) (tM X a) (tM X b) O H Q:=by
 obtain⟨M,E,hl,fr,k⟩:=h;unfold eIf at k;refine JB (T0:=[]) hl fr ?_;cases ea:c E with
 |z=>rw[ea]at k;exact k|exc x E1=>rw[ea]at k;exact k
 |ok p =>
  obtain⟨t,E1⟩:=p;rw[ea]at k;intro H1 g1;cases t with
  |true =>
   refine zD6 (zx (T0:=[]) g1.len g1.fr ?_);dsimp only at k;cases eb:a E1 with
   |z=>rw[eb]at k;exact k|exc x E2=>rw[eb]at k;exact λH' g=>k H' (g1.trans' g)|ok p=>rw[eb]at k;exact λv H' g=>k v H' (g1.trans' g)
  |false =>
   refine zD5 (zx (T0:=[]) g1.len g1.fr ?_);dsimp only at k;cases eb:b E1 with
   |z=>rw[eb]at k;exact k|exc x E2=>rw[eb]at k;exact λH' g=>k H' (g1.trans' g)|ok p=>rw[eb]at k;exact λv H' g=>k v H' (g1.trans' g)
def ok_if{c a b:Expr}{mc:MT}{ma mb:ME}{pos:Pos}(hc:TOk X c mc)(ha:EOk X a ma)(hb:EOk X b mb):EOk X (.IfExp c a b pos) (eIf mc ma mb):=zr (zDq hc ha hb) λO H Q=>if_run
def zCO:MA:=λE=>.ok ([],E)
def ZF(a:ME)(m:MA):MA:=λE=>match a E with
 | .z=>.z| .exc x E1=>.exc x E1
 | .ok (r,E1)=>match m E1 with
  | .z=>.z| .exc x E2=>.exc x E2| .ok (rs,E2)=>.ok (r::rs,E2)
def ak_nil:AOk X [] zCO:=Gg zB4 λO H Q ⟨M,E,hl,fr,k⟩=>k [] H rfl (Got.refl (T0:=[]) hl fr)
theorem Got.perm{K:qH}{mg:Str->Option Value}{M:Addr->Prop}{O O1:St}{E E1:zM}{H H1:Hp}{T0 T T':Fz}(a:Got K mg M O E H T0 O1 E1 H1 T)(p:T.Perm T'):Got K mg M O E H T0 O1 E1 H1 T' where
 len:=a.len
 fr:=a.fr.perm (p.append_right _)
 st:=a.st.weak (zD (p.append_right _).symm)
 pk:=a.pk
def zEG{a:ME}{m:MA}{H:Hp}{Q:List V->Hp->Prop}(h:tMA X (ZF a m) O H Q):tCons (tM X a) (tMA X m) O H Q:=by
 obtain⟨M,E,hl,fr,k⟩:=h;unfold ZF at k;refine zx (T0:=[]) hl fr ?_;cases ea:a E with
 |z=>rw[ea]at k;exact k|exc x E1=>rw[ea]at k;exact k
 |ok p =>
  obtain⟨r1,E1⟩:=p;rw[ea]at k;intro x H1 g1;refine JC (T0:=[(some x,r1.slot)]) g1.len g1.fr ?_;dsimp only at k;cases eb:m E1 with
  |z=>rw[eb]at k;exact k|exc x E2=>rw[eb]at k;exact λH' g=>k H' (g1.trans' g).dropAll
  |ok p =>
   obtain⟨rs,E2⟩:=p;rw[eb]at k;intro vs H2 hv g2;refine k (x::vs) H2 (by simp[hv]) ?_;rw[vk];exact(g1.trans' g2).perm (perm_append_comm)
def ak_cons{e:Expr}{es:List Expr}{a:ME}{m:MA}(ha:EOk X e a)(hm:AOk X es m)(hs:zc e=false:=by rfl):AOk X (e::es) (ZF a m):=Gg (WV ha hm (yC hs)) λO H Q=>zEG
def eCB(f:List D->Option R)(m:MA):ME:=λE=>match m E with
 | .z=>.z| .exc x E1=>.exc x E1
 | .ok (rs,E1)=>match f (rs.map R.d)with
  |some r=>.ok (r,E1)|none=>.z
def Gm{rel:List V->Hp->VK->Prop}{f:List D->Option R}{m:MA}(hr:COk X.K X.mg rel f){H:Hp}{Q:VK}(h:tM X (eCB f m) O H Q):tCB rel (tMA X m) O H Q:=by
 obtain⟨M,E,hl,fr,k⟩:=h;unfold eCB at k;refine JC (T0:=[]) hl fr ?_;cases ea:m E with
 |z=>rw[ea]at k;exact k|exc x E1=>rw[ea]at k;exact k
 |ok p =>
  obtain⟨rs,E1⟩:=p;rw[ea]at k;intro vs H1 hv g;have rp:=Got.reps hv g;dsimp only at k;cases ef:f (rs.map R.d)with
  |none=>rw[ef]at k;exact k.elim
  |some r =>
   rw[ef]at k;exact hr M H1 _ vs _ r Q g.frame rp ef λv H' f' s'=>k v H' (g.more (T:=[(some v,r.slot)]) f' s')
def zCP(m:MA):ME:=eCB (λds=>if ds.length<=cap then some (.v (.t ds))else none) m
def zCQ(m:MA):ME:=eCB (λds=>if ds.length<=cap then some (.own ds)else none) m
def ok_tup{es:List Expr}{m:MA}{x1:Nat}{pos:Pos}(h:AOk X es m):EOk X (.Tuple es x1 pos) (zCP m) :=
 zr (pe_tup h) λO H Q q=>Gm (rel:=λxs H1 Q=>xs.length<=sizeLine/\∀p,H1 p=none->Q (.ref p) (upd H1 p (.t xs))) (λM H Z xs ds res Q f r e k=>by
  split at e
  ·rename_i hc
   cases e;exact⟨by rw[r.length];exact Wc hc,λp hp=>k.tup f hp r⟩
  ·cases e) q
def ok_lst{es:List Expr}{m:MA}{pos:Pos}(h:AOk X es m):EOk X (.List es pos) (zCQ m) :=
 zr (pe_lst h) λO H Q q=>Gm (rel:=λxs H1 Q=>xs.length<=sizeLine/\∀p,H1 p=none->Q (.ref p) (upd H1 p (.l xs))) (λM H Z xs ds res Q f r e k=>by
  split at e
  ·rename_i hc
   cases e;exact⟨by rw[r.length];exact Wc hc,λp hp=>k.own f hp r⟩
  ·cases e) q
def Yh{f:List D->Option R}{m:MA}{rel:List V->Hp->VK->Prop}{id:String}{x:Str}{p pos:Pos}{e:Expr}{es:List Expr}(hc:Je X (.builtin id) rel)(hr:COk X.K X.mg rel f)(hg:Gl X x)(hm:X.mg x=none)(hv:bootBuiltins x=some (.builtin id))(ha:AOk X (e::es) m)(hn:x≠"__name__":=by decide)(hdb:(x==("__debug__":Str))=false:=by decide)
  (he:zc e=false:=by rfl) (hpl:jo es=true:=by rfl):EOk X (.Call (.Name x p) (e::es) [] pos) (eCB f m) :=
 zr (zAQ hc hg hm hv ha hn hdb (yC he) (Ye hpl)) λO H Q q=>Gm hr q
def Gn{f:List D->Option R}{m:MA}{rel:List V->Hp->VK->Prop}{T:String}{x:Str}{p pos:Pos}{e:Expr}{es:List Expr}(hc:Je X (.type T) rel)(hr:COk X.K X.mg rel f)(hg:Gl X x)(hm:X.mg x=none)(hv:bootBuiltins x=some (.type T))(ha:AOk X (e::es) m)(hn:x≠"__name__":=by decide)(hdb:(x==("__debug__":Str))=false:=by decide)
  (he:zc e=false:=by rfl) (hpl:jo es=true:=by rfl):EOk X (.Call (.Name x p) (e::es) [] pos) (eCB f m) :=
 zr (zB6 hc hg hm hv ha hn hdb (yC he) (Ye hpl)) λO H Q q=>Gm hr q
end
section
variable{X:Cx}{K:qH}{mg:Str->Option Value}
def zL{H:Hp}{i:Int}{v:V}(h:Rep K mg H (.int i) v):v=.int i:=by simpa only[Rep]using h
def jM{H:Hp}{i:Bool}{v:V}(h:Rep K mg H (.bl i) v):v=.bl i:=by simpa only[Rep]using h
def wY{H:Hp}{i:Str}{v:V}(h:Rep K mg H (.str i) v):v=.str i:=by simpa only[Rep]using h
def jQ{H:Hp}{v:V}(h:Rep K mg H .non v):v=.non:=by simpa only[Rep]using h
def za{H:Hp}{ds:List D}{v:V}(h:Rep K mg H (.t ds) v):∃a xs,v=.ref a/\SqT K H a xs/\Reps K mg H ds xs:=by simpa only[Rep]using h
def zX{H:Hp}{ds:List D}{v:V}(h:Rep K mg H (.l ds) v):∃a xs,v=.ref a/\SqL K H a xs/\Reps K mg H ds xs:=by simpa only[Rep]using h
def zV{H:Hp}{d:D}{v:V}(hf:flat d=true)(h:Rep K mg H d v):v=flV d:=by
 cases d<;>simp[flat]at hf<;>simpa only[Rep,flV]using h
def zBO:D->D->Option R
 | .int i,.int j=>some (.v (.int (i+j)))| .t a,.t b=>if a.length+b.length<=cap then some (.v (.t (a++b)))else none| .l a,.l b=>if a.length+b.length<=cap then some (.own (a++b))else none|_,_=>none
def rAddD(K:qH):R2:=λx y H Q=>rI0 (λi j=>.int (i+j)) x y H Q\/(zFf K x y H Q\/rCatL K x y H Q)
def op_addD:OpR X (binaryOp .Add) (rAddD X.K):=op_add.or (zEC.or op_catL)
def ro_add:ROk K mg (rAddD K) zBO:=by
 intro M H Z x y d1 d2 res Q f r1 r2 e k;cases d1 with
 |int i =>
  cases d2 with
  |int j =>
   cases e;exact .inl ⟨i,j,zL r1,zL r2,k.flat f rfl⟩
  |_=>cases e
 |t a =>
  cases d2 with
  |t b =>
   simp only[zBO]at e;split at e
   ·rename_i hc
    cases e;obtain⟨p,xs,rfl,h1,h2⟩:=za r1;obtain⟨q,ys,rfl,h3,h4⟩:=za r2;have l1:=h2.length;have l2:=h4.length;refine .inr (.inl ⟨p,q,xs,ys,rfl,rfl,zO zF h1,zO zF h3,by rw[l1,l2];exact Wc hc,λe=>?_,λ_ e=>?_,λ_ _ p' hp=>k.tup f hp (h2.append h4)⟩)
    ·subst e
     have:a=[]:=by simpa using l1.symm
     subst this;exact k.rep f (by simpa using r2)
    ·subst e
     have:b=[]:=by simpa using l2.symm
     subst this;exact k.rep f (by simpa using r1)
   ·cases e
  |_=>cases e
 |l a =>
  cases d2 with
  |l b =>
   simp only[zBO]at e;split at e
   ·rename_i hc
    cases e;obtain⟨p,xs,rfl,h1,h2⟩:=zX r1;obtain⟨q,ys,rfl,h3,h4⟩:=zX r2;have l1:=h2.length;have l2:=h4.length;exact .inr (.inr ⟨p,q,xs,ys,rfl,rfl,zF.seq h1,zF.seq h3,by rw[l1,l2];exact Wc hc,λp' hp=>k.own f hp (h2.append h4)⟩)
   ·cases e
  |_=>cases e
 |_=>cases e
def zBh(C:Int->Int->Bool)(g:Int->Int->D):D->D->Option R
 | .int i,.int j=>if C i j=true then some (.v (g i j))else none|_,_=>none
def zCR{C:Int->Int->Bool}{P:Int->Int->Prop}{g:Int->Int->D}{gv:Int->Int->V}(hC:∀i j,C i j=true->P i j)(hg:∀i j,flat (g i j)=true/\flV (g i j)=gv i j):ROk K mg (rI P gv) (zBh C g):=by
 intro M H Z x y d1 d2 res Q f r1 r2 e k;cases d1 with
 |int i =>
  cases d2 with
  |int j =>
   simp only[zBh]at e;split at e
   ·rename_i hc
    cases e;refine⟨i,j,zL r1,zL r2,hC i j hc,?_⟩;have:=k.flat f (hg i j).1;rw[(hg i j).2]at this;exact this
   ·cases e
  |_=>cases e
 |_=>cases e
def zBi(g:Int->Int->D):D->D->Option R
 | .int i,.int j=>some (.v (g i j))|_,_=>none
def Wd{g:Int->Int->D}{gv:Int->Int->V}(hg:∀i j,flat (g i j)=true/\flV (g i j)=gv i j):ROk K mg (rI0 gv) (zBi g):=by
 intro M H Z x y d1 d2 res Q f r1 r2 e k;cases d1 with
 |int i =>
  cases d2 with
  |int j =>
   cases e;refine⟨i,j,zL r1,zL r2,?_⟩;have:=k.flat f (hg i j).1;rw[(hg i j).2]at this;exact this
  |_=>cases e
 |_=>cases e
abbrev subD:=zBi λi j=>.int (i-j)
def ro_sub:ROk K mg (rI0 λi j=>.int (i-j)) subD:=Wd λ_ _=>⟨rfl,rfl⟩
def Big:Nat:=2^4000
def zCS{n:Nat}(h:n<Big):n.log2<4000:=by
 by_cases h0:n=0
 ·subst h0;decide +kernel
 ·exact(Nat.log2_lt h0).mpr h
def zAX{i:Int}(h:i.natAbs<Big):Builtin.Int.intBits i<=4000:=by
 unfold Builtin.Int.intBits;split
 ·exact zero_le _
 ·exact zCS h
def zCT{i j:Int}(h1:i.natAbs<Big)(h2:j.natAbs<Big):IntMulOk i j:=by
 have b1:=zAX h1;have b2:=zAX h2;unfold IntMulOk;have:Builtin.Int.intTooBig (((Builtin.Int.intBits i:Nat):Int)+(Builtin.Int.intBits j:Nat))=false:=by
  unfold Builtin.Int.intTooBig bitsLine;simp only[decide_eq_false_iff_not];have:(2^27:Nat)=134217728:=by decide
  omega
 rw[this,Bool.and_false];decide
def CDivB(i j:Int):Prop:=0<j/\(j<1073741824\/j.natAbs<Big)
def zEH:OpR X (binaryOp .FloorDiv) (rI CDivB λi j=>.int (i/j)):=opI λi j _ _ _ _ _ hc q=>by
 have h1:(0:Int)<j:=hc.1;refine PyProof.Rows.floordiv_int (by omega) (by rw[Int.fdiv_eq_ediv_of_nonneg i (by omega)];exact q) (.inl ?_);rcases hc.2 with h|h
 ·exact PyProof.noPylong_small (by omega)
 ·exact PyProof.noPylong_of_log2 (lt_of_lt_of_le (zCS h) (by decide))
def CMulB(i j:Int):Prop:=CMul i j\/(i.natAbs<Big/\j.natAbs<Big)
def op_mulB:OpR X (binaryOp .Mult) (rI CMulB λi j=>.int (i*j)):=opI λ_ _ _ _ _ _ _ hc q=>PyProof.Rows.mul_int q (by
 rcases hc with h|h
 ·exact h.ok
 ·exact zCT h.1 h.2)
abbrev Go:=zBh (λ_ j=>decide (0<j/\(j<1073741824\/j.natAbs<Big))) λi j=>.int (i/j)
def ro_fdiv:ROk K mg (rI CDivB λi j=>.int (i/j)) Go:=zCR (λi j h=>(of_decide_eq_true h:0<j/\(j<1073741824\/j.natAbs<Big))) λ_ _=>⟨rfl,rfl⟩
abbrev zFi:=zBh (λ_ j=>decide (0<j)) λi j=>.int (i%j)
def ro_mod:ROk K mg (rI (λ_ j=>0<j) λi j=>.int (i%j)) zFi:=zCR (λi j h=>of_decide_eq_true h) λ_ _=>⟨rfl,rfl⟩
abbrev powD:=zBh (λi j=>decide (0<=j/\j<=1000000/\i.natAbs<2^64)) λi j=>.int (i^j.toNat)
def ro_pow:ROk K mg (rI CPow λi j=>.int (i^j.toNat)) powD:=zCR (λi j h=>(of_decide_eq_true h:0<=j/\j<=1000000/\i.natAbs<2^64)) λ_ _=>⟨rfl,rfl⟩
def vG:D->D->Option R
 | .int i,.int j=>if((-(2^64)<i/\i<2^64)\/(-(2^64)<j/\j<2^64))\/(i.natAbs<Big/\j.natAbs<Big)then some (.v (.int (i*j)))else none| .t a,.int k=>if -(2^63)<=k/\k<2^63/\a.length*k.toNat<=cap then some (.v (.t (replicate k.toNat a).flatten))else none|_,_=>none
def rMulD(K:qH):R2:=λx y H Q=>rI CMulB (λi j=>.int (i*j)) x y H Q\/rRepT K x y H Q
def op_mulD:OpR X (binaryOp .Mult) (rMulD X.K):=op_mulB.or op_repT
def ro_mul:ROk K mg (rMulD K) vG:=by
 intro M H Z x y d1 d2 res Q f r1 r2 e k;cases d1 with
 |int i =>
  cases d2 with
  |int j =>
   simp only[vG]at e;split at e
   ·rename_i hc
    cases e;exact .inl ⟨i,j,zL r1,zL r2,hc,k.flat f rfl⟩
   ·cases e
  |_=>cases e
 |t a =>
  cases d2 with
  |int n =>
   simp only[vG]at e;split at e
   ·rename_i hc
    cases e;obtain⟨p,xs,rfl,h1,h2⟩:=za r1;have l1:=h2.length;refine .inr ⟨p,n,xs,rfl,zL r2,zO zF h1,hc.1,hc.2.1,by rw[l1];exact Wc hc.2.2,λe=>?_,λp' hp=>k.tup f hp (h2.flatten _)⟩;refine k.rep f ?_;rcases e with e|e
    ·subst e
     have:a=[]:=by simpa using l1.symm
     subst this;simpa using r1
    ·subst e
     simpa using r1
   ·cases e
  |_=>cases e
 |_=>cases e
abbrev ltD:=zBi λi j=>.bl (decide (i<j))
def ro_lt:ROk K mg (rI0 λi j=>.bl (decide (i<j))) ltD:=Wd λ_ _=>⟨rfl,rfl⟩
abbrev leD:=zBi λi j=>.bl (decide (i<=j))
def ro_le:ROk K mg (rI0 λi j=>.bl (decide (i<=j))) leD:=Wd λ_ _=>⟨rfl,rfl⟩
abbrev gtD:=zBi λi j=>.bl (decide (j<i))
def ro_gt:ROk K mg (rI0 λi j=>.bl (decide (j<i))) gtD:=Wd λ_ _=>⟨rfl,rfl⟩
abbrev geD:=zBi λi j=>.bl (decide (j<=i))
def ro_ge:ROk K mg (rI0 λi j=>.bl (decide (j<=i))) geD:=Wd λ_ _=>⟨rfl,rfl⟩
def eqF:D->D->Option R
 | .int i,.int j=>some (.v (.bl (decide (i=j))))| .bl i,.bl j=>some (.v (.bl (decide (i=j))))| .str i,.str j=>some (.v (.bl (decide (i=j))))|_,_=>none
def neF:D->D->Option R
 | .int i,.int j=>some (.v (.bl (!decide (i=j))))| .bl i,.bl j=>some (.v (.bl (!decide (i=j))))| .str i,.str j=>some (.v (.bl (!decide (i=j))))|_,_=>none
def vint{i j:Int}:decide (V.int i=V.int j)=decide (i=j):=by simp
def vbl{i j:Bool}:decide (V.bl i=V.bl j)=decide (i=j):=by simp
def vstr{i j:Str}:decide (V.str i=V.str j)=decide (i=j):=by simp
def ro_eq:ROk K mg rEq eqF:=by
 intro M H Z x y d1 d2 res Q f r1 r2 e k;cases d1<;>cases d2<;>cases e
 ·rw[jM r1,jM r2];refine⟨rfl,?_⟩;rw[vbl];exact k.flat f rfl
 ·rw[zL r1,zL r2];refine⟨rfl,?_⟩;rw[vint];exact k.flat f rfl
 ·rw[wY r1,wY r2];refine⟨rfl,?_⟩;rw[vstr];exact k.flat f rfl
def ro_ne:ROk K mg rNe neF:=by
 intro M H Z x y d1 d2 res Q f r1 r2 e k;cases d1<;>cases d2<;>cases e
 ·rw[jM r1,jM r2];refine⟨rfl,?_⟩;rw[vbl];exact k.flat f rfl
 ·rw[zL r1,zL r2];refine⟨rfl,?_⟩;rw[vint];exact k.flat f rfl
 ·rw[wY r1,wY r2];refine⟨rfl,?_⟩;rw[vstr];exact k.flat f rfl
def inF(neg:Bool)(d:D):D->Option R
 | .t ds=>if flat d=true/\ds.all flat=true then some (.v (.bl (if neg then !inV (flV d) (ds.map flV)else inV (flV d) (ds.map flV))))else none| .l ds=>if flat d=true/\ds.all flat=true then some (.v (.bl (if neg then !inV (flV d) (ds.map flV)else inV (flV d) (ds.map flV))))else none|_=>none
theorem We{H:Hp}:∀{ds:List D} {xs:List V},ds.all flat=true->Reps K mg H ds xs->xs=ds.map flV
 | [],_,_,h=>by simp only[Reps]at h;subst h;rfl
 |d::ds,_,hf,h=>by
  simp only[Reps]at h;obtain⟨v,r,rfl,h1,h2⟩:=h;simp only[all_cons,Bool.and_eq_true]at hf;rw[zV hf.1 h1,We hf.2 h2];rfl
def yN{d:D}(h:flat d=true):Jf (flV d)=true:=by cases d<;>simp[flat]at h<;>rfl
theorem Wf:∀{ds:List D},ds.all flat=true->(ds.map flV).all Jf=true
 | [],_=>rfl
 |d::ds,h=>by
  simp only[all_cons,Bool.and_eq_true]at h;simp only[map_cons,all_cons,Bool.and_eq_true];exact⟨yN h.1,Wf h.2⟩
def ro_in{neg:Bool}:ROk K mg (rIn K neg) (inF neg):=by
 intro M H Z x y d1 d2 res Q f r1 r2 e k;cases d2 with
 |t ds =>
  simp only[inF]at e;split at e
  ·rename_i hc
   cases e;obtain⟨p,xs,rfl,h1,h2⟩:=za r2;rw[zV hc.1 r1];have:=We hc.2 h2;subst this;exact⟨p,_,rfl,.inr (zO zF h1),yN hc.1,Wf hc.2,k.flat f rfl⟩
  ·cases e
 |l ds =>
  simp only[inF]at e;split at e
  ·rename_i hc
   cases e;obtain⟨p,xs,rfl,h1,h2⟩:=zX r2;rw[zV hc.1 r1];have:=We hc.2 h2;subst this;exact⟨p,_,rfl,.inl (zF.seq h1),yN hc.1,Wf hc.2,k.flat f rfl⟩
  ·cases e
 |_=>cases e
def ixD:D->D->Option R
 | .t ds,.int i=>(atI ds i).map .v| .l ds,.int i=>(atI ds i).map .v|_,_=>none
def Z8{H:Hp}{ds:List D}{xs:List V}{i:Int}{d:D}(h:Reps K mg H ds xs)(e:atI ds i=some d):∃v,atI xs i=some v/\Rep K mg H d v:=by
 unfold atI at e ⊢;have hl:=h.length;rw[hl];cases hj:ixN ds.length i with
 |none=>rw[hj]at e;cases e
 |some j =>
  rw[hj]at e;exact h.get' e
def ro_ix:ROk K mg (λx y H Q=>rIxL K x y H Q\/rIxT K x y H Q) ixD:=by
 intro M H Z x y d1 d2 res Q f r1 r2 e k;cases d1 with
 |t ds =>
  cases d2 with
  |int i =>
   simp only[ixD]at e;cases ea:atI ds i with
   |none=>rw[ea]at e;cases e
   |some d =>
    rw[ea]at e;cases e;obtain⟨p,xs,rfl,h1,h2⟩:=za r1;obtain⟨v,e1,e2⟩:=Z8 h2 ea;exact .inr ⟨p,xs,i,v,rfl,zL r2,zO zF h1,e1,k.rep f e2⟩
  |_=>cases e
 |l ds =>
  cases d2 with
  |int i =>
   simp only[ixD]at e;cases ea:atI ds i with
   |none=>rw[ea]at e;cases e
   |some d =>
    rw[ea]at e;cases e;obtain⟨p,xs,rfl,h1,h2⟩:=zX r1;obtain⟨v,e1,e2⟩:=Z8 h2 ea;exact .inl ⟨p,xs,i,v,rfl,zL r2,zF.seq h1,e1,k.rep f e2⟩
  |_=>cases e
 |_=>cases e
def ix_both:IxR X (λx y H Q=>rIxL X.K x y H Q\/rIxT X.K x y H Q):=zCA.or ix_tup
def zBP:List D->Option R
 | [.t ds]=>some (.v (.int ds.length))| [.l ds]=>some (.v (.int ds.length))|_=>none
def ZG{H:Hp}{d:D}{xs:List V}(h:Reps K mg H [d] xs):∃v,xs=[v]/\Rep K mg H d v:=by
 simp only[Reps]at h;obtain⟨v,r,rfl,h1,rfl⟩:=h;exact⟨v,rfl,h1⟩
def zEI{H:Hp}{d e:D}{xs:List V}(h:Reps K mg H [d,e] xs):∃v w,xs=[v,w]/\Rep K mg H d v/\Rep K mg H e w:=by
 simp only[Reps]at h;obtain⟨v,r,rfl,h1,w,r',rfl,h2,rfl⟩:=h;exact⟨v,w,rfl,h1,h2⟩
def co_len:COk K mg (λxs H Q=>∃p ys,xs=[.ref p]/\(SqL K H p ys\/SqT K H p ys)/\Q (.int ys.length) H) zBP:=by
 intro M H Z xs ds res Q f r e k
 match ds,e with
 | [.t ds],e =>
  cases e;obtain⟨v,rfl,h⟩:=ZG r;obtain⟨p,ys,rfl,h1,h2⟩:=za h;refine⟨p,ys,rfl,.inr (zO zF h1),?_⟩;rw[h2.length];exact k.flat f rfl
 | [.l ds],e =>
  cases e;obtain⟨v,rfl,h⟩:=ZG r;obtain⟨p,ys,rfl,h1,h2⟩:=zX h;refine⟨p,ys,rfl,.inl (zF.seq h1),?_⟩;rw[h2.length];exact k.flat f rfl
def zCU:List D->Option R
 | [.int i,.int j]=>some (.v (.int (if j > i then j else i)))|_=>none
def co_max:COk K mg (λxs H Q=>∃i j,xs=[.int i,.int j]/\Q (.int (if j > i then j else i)) H) zCU:=by
 intro M H Z xs ds res Q f r e k
 match ds,e with
 | [.int i,.int j],e =>
  cases e;obtain⟨v,w,rfl,h1,h2⟩:=zEI r;exact⟨i,j,by rw[zL h1,zL h2],k.flat f rfl⟩
def intF:List D->Option R
 | [.int i]=>some (.v (.int i))| [.bl b]=>some (.v (.int (if b then 1 else 0)))|_=>none
def co_int:COk K mg (λxs H Q=>(∃i,xs=[.int i]/\Q (.int i) H)\/∃k,xs=[.bl k]/\Q (.int (if k then 1 else 0)) H) intF:=by
 intro M H Z xs ds res Q f r e k
 match ds,e with
 | [.int i],e =>
  cases e;obtain⟨v,rfl,h1⟩:=ZG r;exact .inl ⟨i,by rw[zL h1],k.flat f rfl⟩
 | [.bl b],e =>
  cases e;obtain⟨v,rfl,h1⟩:=ZG r;exact .inr ⟨b,by rw[jM h1],k.flat f rfl⟩
def zFj:List D->Option R
 | [.l ds]=>some (.v (.t ds))| [.t ds]=>some (.v (.t ds))|_=>none
def zEJ:COk K mg (λxs H Q=>∃p ys,xs=[.ref p]/\((SqL K H p ys/\∀l,H l=none->Q (.ref l) (upd H l (.t ys)))\/(SqT K H p ys/\Q (.ref p) H))) zFj:=by
 intro M H Z xs ds res Q f r e k
 match ds,e with
 | [.l ds],e =>
  cases e;obtain⟨v,rfl,h⟩:=ZG r;obtain⟨p,ys,rfl,h1,h2⟩:=zX h;exact⟨p,ys,rfl,.inl ⟨zF.seq h1,λl hl=>k.tup f hl h2⟩⟩
 | [.t ds],e =>
  cases e;obtain⟨v,rfl,h⟩:=ZG r;have h':=h;obtain⟨p,ys,rfl,h1,h2⟩:=za h;exact⟨p,ys,rfl,.inr ⟨zO zF h1,k.rep f h'⟩⟩
def JF:List D->Option (List Bool)
 | []=>some []| .bl b::ds=>(JF ds).map (b::·)|_=>none
theorem vm{H:Hp}:∀{ds:List D} {xs:List V} {bs:List Bool},JF ds=some bs->Reps K mg H ds xs->xs=bs.map V.bl
 | [],_,_,e,h=>by cases e;simp only[Reps]at h;subst h;rfl
 |d::ds,_,bs,e,h=>by
  simp only[Reps]at h;obtain⟨v,r,rfl,h1,h2⟩:=h;cases d with
  |bl b =>
   simp only[JF]at e;cases eb:JF ds with
   |none=>rw[eb]at e;cases e
   |some cs =>
    rw[eb]at e;cases e;rw[jM h1,vm eb h2];rfl
  |_=>cases e
def allD:List D->Option R
 | [.l ds]=>(JF ds).map λbs=>.v (.bl (bs.all id))|_=>none
def co_all:COk K mg (λxs H Q=>∃(p:Addr) (bs:List Bool),xs=[.ref p]/\SqL K H p (bs.map V.bl)/\Q (.bl (bs.all id)) H) allD:=by
 intro M H Z xs ds res Q f r e k
 match ds,e with
 | [.l ds],e =>
  simp only[allD]at e;cases eb:JF ds with
  |none=>rw[eb]at e;cases e
  |some bs =>
   rw[eb]at e;cases e;obtain⟨v,rfl,h⟩:=ZG r;obtain⟨p,ys,rfl,h1,h2⟩:=zX h;have:=vm eb h2;subst this;exact⟨p,bs,rfl,zF.seq h1,k.flat f rfl⟩
end
abbrev MO:=zM->Out (Option Int×zM)
def tMO(X:Cx)(m:MO):TO:=λO H Q=>∃M E,E.length=O.length/\FR X.K X.mg M H (O.zip E)/\match m E with
 | .z=>False| .ok (b,E')=>∀H',Got X.K X.mg M O E H [] O E' H' []->Q b H'| .exc x E'=>∀H',Got X.K X.mg M O E H [] O E' H' []->XE X O H' x
section
variable{X:Cx}{K:qH}{mg:Str->Option Value}{O:St}{M:Addr->Prop}{E:zM}{H:Hp}{T0:Fz}
def zCV{m:MO}{Q:Option Int->Hp->Prop}(hl:E.length=O.length)(h:FR X.K X.mg M H (T0++O.zip E))
  (k:match m E with | .z=>False | .ok (b,E')=>∀H',Got X.K X.mg M O E H T0 O E' H' []->Q b H' | .exc x E'=>∀H',Got X.K X.mg M O E H T0 O E' H' []->XE X O H' x):tMO X m O H Q:=by
 refine⟨Mo M T0,E,hl,h.inner,?_⟩;cases e:m E with
 |z=>rw[e]at k;exact k|ok a=>rw[e]at k;exact λH' g=>k H' (g.outer h)|exc x E'=>rw[e]at k;exact λH' g=>k H' (g.outer h)
abbrev OOk(X:Cx)(e:Option Expr)(m:MO):Prop:=PO X e (tMO X m)
def zFk{e:Option Expr}{t t':TO}(h:PO X e t)(i:∀O H Q,t' O H Q->t O H Q):PO X e t':=λpins s O H Q I q=>h pins s O H Q I (i O H Q q)
def zEK:MO:=λE=>.ok (none,E)
def zCW(m:ME):MO:=λE=>match m E with
 | .ok (.v (.int i),E1)=>.ok (some i,E1)| .exc x E1=>.exc x E1|_=>.z
def oo_none:OOk X none zEK:=zFk po_none λO H Q ⟨M,E,hl,fr,k⟩=>k H (Got.refl (T0:=[]) hl fr)
def oo_some{e:Expr}{m:ME}(h:EOk X e m):OOk X (some e) (zCW m):=zFk (po_some h) λO H Q ⟨M,E,hl,fr,k⟩=>by
 unfold zCW at k;refine zx (T0:=[]) hl fr ?_;cases ea:m E with
 |z=>rw[ea]at k;exact k|exc x E1=>rw[ea]at k;exact k
 |ok p =>
  obtain⟨r,E1⟩:=p;rw[ea]at k;cases r with
  |own ds=>exact k.elim|dct _ _=>exact k.elim
  |v d =>
   cases d with
   |int i =>
    intro v H' g;exact⟨i,zL g.rep,k H' g.dropAll⟩
   |_=>exact k.elim
def eSl(f:D->Option Int->Option Int->Option R)(a:ME)(lo hi:MO):ME:=λE=>match a E with
 | .z=>.z| .exc x E1=>.exc x E1
 | .ok (r,E1)=>match lo E1 with
  | .z=>.z| .exc x E2=>.exc x E2
  | .ok (l,E2)=>match hi E2 with
   | .z=>.z| .exc x E3=>.exc x E3
   | .ok (u,E3)=>match f r.d l u with
    |some r=>.ok (r,E3)|none=>.z
def zBQ(ds:List D)(lo hi:Option Int):List D:=(ds.drop (HT.sIx ds.length 0 lo)).take (HT.sIx ds.length ds.length hi-HT.sIx ds.length 0 lo)
def slD:D->Option Int->Option Int->Option R
 | .t ds,lo,hi=>some (.v (.t (zBQ ds lo hi)))| .l ds,lo,hi=>some (.own (zBQ ds lo hi))|_,_,_=>none
def zAY{ds:List D}{xs:List V}(h:Reps K mg H ds xs)(lo hi:Option Int):Reps K mg H (zBQ ds lo hi) (zD1 xs lo hi):=by
 unfold zBQ zD1;rw[h.length];exact(h.drop _).take _
def sl_run{a:ME}{lo hi:MO}{Q:VK}(h:tM X (eSl slD a lo hi) O H Q):tSl (λx l u H Q=>rSlTT X.K x l u H Q\/rSlL X.K x l u H Q) (tM X a) (tMO X lo) (tMO X hi) O H Q:=by
 obtain⟨M,E,hl,fr,k⟩:=h;unfold eSl at k;refine zx (T0:=[]) hl fr ?_;cases ea:a E with
 |z=>rw[ea]at k;exact k|exc x E1=>rw[ea]at k;exact λH' g=>k H' g
 |ok p =>
  obtain⟨r1,E1⟩:=p;rw[ea]at k;intro x H1 g1;refine zCV (T0:=[(some x,r1.slot)]) g1.len g1.fr ?_;dsimp only at k;cases eb:lo E1 with
  |z=>rw[eb]at k;exact k|exc x E2=>rw[eb]at k;exact λH' g=>k H' (g1.trans' g).dropAll
  |ok p =>
   obtain⟨l,E2⟩:=p;rw[eb]at k;intro H2 g2;have g12:=g1.trans' g2;refine zCV (T0:=[(some x,r1.slot)]) g12.len g12.fr ?_;dsimp only at k;cases ec:hi E2 with
   |z=>rw[ec]at k;exact k|exc x E3=>rw[ec]at k;exact λH' g=>k H' (g12.trans' g).dropAll
   |ok p =>
    obtain⟨u,E3⟩:=p;rw[ec]at k;intro H3 g3;have g:=g12.trans' g3;have rx:=g.rep;dsimp only at k;have f:=g.frame;cases ed:r1.d with
    |t ds =>
     rw[ed]at k rx;have k':Kt X.K X.mg M H3 (O.zip E3) (.v (.t (zBQ ds l u))) Q:=λv H' f' s'=>k v H' (g.more (T:=[(some v,_)]) f' s')
     obtain⟨p,xs,rfl,h1,h2⟩:=za rx;refine .inl ⟨p,xs,rfl,zO zF h1,λhw=>k'.rep f ?_,λ_ p' hp=>k'.tup f hp (zAY h2 l u)⟩;have:zBQ ds l u=ds:=by
      have hl:=h2.length;rw[hl]at hw;unfold zBQ;rw[hw.1,hw.2];simp
     rw[this];exact rx
    |l ds =>
     rw[ed]at k rx;have k':Kt X.K X.mg M H3 (O.zip E3) (.own (zBQ ds l u)) Q:=λv H' f' s'=>k v H' (g.more (T:=[(some v,_)]) f' s')
     obtain⟨p,xs,rfl,h1,h2⟩:=zX rx;exact .inr ⟨p,xs,rfl,zF.seq h1,λp' hp=>k'.own f hp (zAY h2 l u)⟩
    |_=>rw[ed]at k;exact k.elim
def ok_sl{a:Expr}{lo hi:Option Expr}{ma:ME}{ml mh:MO}{p2 pos:Pos}(ha:EOk X a ma)(hl:OOk X lo ml)(hh:OOk X hi mh):EOk X (.Subscript a (.Slice lo hi none p2) pos) (eSl slD ma ml mh) :=
 zr (zD0 (sl_tupT.or sl_list) ha hl hh) λO H Q=>sl_run
def tyD:D->Option String
 | .non=>some "NoneType"| .bl _=>some "bool"| .int _=>some "int"| .str _=>some "str"| .t _=>some "tuple"| .l _=>some "list"| .dic=>some "dict"| .fn _=>none| .exn _ _=>none| .dct _ _=>none
def Gp(t T:String):Bool:=t==T||(t == "bool"&&T == "int")
def zEL{T:String}(hk:∀t∈["NoneType","bool","int","str","tuple","list","dict"],kitOne X.K (.type t) (.type T)=some (Gp t T)) :
  Je X (.builtin "isinstance") (λxs H Q=>∃x d t,xs=[x,.ty T]/\Rep X.K X.mg H d x/\tyD d=some t/\Q (.bl (Gp t T)) H):=by
 intro pins s O H xs us Q I r h;obtain⟨x,d,t,rfl,rd,et,q⟩:=h;obtain⟨u,w',rfl,rx,ry⟩:=vals2 r;cases (show w'=Value.type T from ry);have fin:∀tk,EP X pins O Q (.bool (Gp t T)) {s with toks:=tk}:=λtk=>⟨.bl _,H,I.tok tk,rfl,q⟩
 cases d with
 |non=>cases et;rw[jQ rd]at rx;cases (show u=Value.none from rx);exact kia_one PySem.W.kitx_none I.kIn True.intro (hk _ (by simp)) (λz=>nomatch z) fin|bl b=>cases et;rw[jM rd]at rx;cases (show u=Value.bool b from rx);exact kia_one PySem.W.kitx_bool I.kIn True.intro (hk _ (by simp)) (λz=>nomatch z) fin|int i=>cases et;rw[zL rd]at rx;obtain⟨t,q⟩:=(show ∃t,u=Value.int i t from rx);cases q;exact kia_one PySem.W.kitx_int I.kIn True.intro (hk _ (by simp)) (λz=>nomatch z) fin|str y=>cases et;rw[wY rd]at rx;obtain⟨t,q⟩:=(show ∃t,u=Value.str y t from rx);cases q;exact kia_one PySem.W.kitx_str I.kIn True.intro (hk _ (by simp)) (λz=>nomatch z) fin
 |t ds =>
  cases et;obtain⟨a,xs,rfl,h1,_⟩:=za rd;cases (show u=Value.ref a from rx);obtain⟨its,_,p,_⟩:=I.tuple h1;obtain⟨o,e1,e2,_⟩:=p;exact kia_one PySem.W.kitx_tuple I.kIn ⟨o,e1,e2⟩ (hk _ (by simp)) (λz=>nomatch z) fin
 |l ds =>
  cases et;obtain⟨a,xs,rfl,h1,_⟩:=zX rd;cases (show u=Value.ref a from rx);obtain⟨its,_,p,_⟩:=I.list h1;obtain⟨o,n,e1,e2,_⟩:=p;exact kia_one PySem.W.kitx_list I.kIn ⟨o,e1,e2⟩ (hk _ (by simp)) (λz=>nomatch z) fin
 |dic =>
  cases et;simp only[Rep]at rd;obtain⟨a,rfl,e⟩:=rd;cases (show u=Value.ref a from rx);obtain⟨_,_,vs,_,p⟩:=(show j9 X.prog X.w H s.heap a (.dK [])from I.hok a _ e);obtain⟨o,es,ep,h1,h2,_⟩:=p;exact kia_one PySem.W.kitx_dict I.kIn ⟨o,h1,h2.1⟩ (hk _ (by simp)) (λz=>nomatch z) fin
 |fn x=>cases et|exn x y=>cases et|dct _ _=>cases et
def eIs(T:String)(m:ME):ME:=λE=>match m E with
 | .z=>.z| .exc x E1=>.exc x E1
 | .ok (r,E1)=>match tyD r.d with
  |some t=>.ok (.v (.bl (Gp t T)),E1)|none=>.z
def ok_is{T:String}{a:Expr}{m:ME}{x:Str}{p p1 pos:Pos}(hk:∀t∈["NoneType","bool","int","str","tuple","list","dict"],kitOne X.K (.type t) (.type T)=some (Gp t T))(hg:Gl X "isinstance")(hm:X.mg "isinstance"=none)
  (hgT:Gl X x) (hmT:X.mg x=none) (hvT:bootBuiltins x=some (.type T)) (ha:EOk X a m) (hv:bootBuiltins "isinstance"=some (.builtin "isinstance")) (hn:x≠"__name__":=by decide) (hd:(x==("__debug__":Str))=false:=by decide)
  (he:zc a=false:=by rfl) :
  EOk X (.Call (.Name "isinstance" p) [a,.Name x p1] [] pos) (eIs T m):=by
 refine zr (zAQ (zEL hk) hg hm hv (WV ha (WV (pe_bltn (v:=.ty T) hgT hmT hvT rfl hn hd) zB4 (yC rfl)) (yC he)) (by decide) (by decide) (yC he) (Ye rfl)) λO H Q ⟨M,E,hl,fr,k⟩=>?_
 unfold eIs at k;refine zx (T0:=[]) hl fr ?_;cases ea:m E with
 |z=>rw[ea]at k;exact k|exc x E1=>rw[ea]at k;exact k
 |ok pr =>
  obtain⟨r,E1⟩:=pr;rw[ea]at k;intro v H' g;dsimp only at k;cases et:tyD r.d with
  |none=>rw[et]at k;exact k.elim
  |some t =>
   rw[et]at k;exact⟨v,r.d,t,rfl,g.rep.mono zF,et,k _ H' (g.flat (d:=.bl (Gp t T)) rfl)⟩
inductive Fl where
 |nx
 |ret (r:R)
 |bk
 |ct
 deriving Inhabited
abbrev MS:=zM->Out (Fl×zM)
def KS(X:Cx)(M:Addr->Prop)(O:St)(E:zM)(H:Hp)(T0:Fz)(D:Ends):Out (Fl×zM)->Prop
 | .z=>False| .ok (.nx,E')=>∀O' H',Got X.K X.mg M O E H T0 O' E' H' []->D.nx O' H'| .ok (.bk,E')=>∀O' H',Got X.K X.mg M O E H T0 O' E' H' []->D.bk O' H'| .ok (.ct,E')=>∀O' H',Got X.K X.mg M O E H T0 O' E' H' []->D.ct O' H'| .ok (.ret r,E')=>∀v O' H',Got X.K X.mg M O E H T0 O' E' H' [(some v,r.slot)]->D.rt v H'| .exc x E'=>∀O' H',Got X.K X.mg M O E H T0 O' E' H' []->XE X O' H' x
def tS(X:Cx)(m:MS):TS:=λD O H=>∃M E,E.length=O.length/\FR X.K X.mg M H (O.zip E)/\KS X M O E H [] D (m E)
abbrev SOk(X:Cx)(st:Stmt)(m:MS):Prop:=PS X st (tS X m)
abbrev zBj(X:Cx)(st:List Stmt)(m:MS):Prop:=PSs X st (tS X m)
def vn{m:MS}{D:Ends}(hl:E.length=O.length)(h:FR X.K X.mg M H (T0++O.zip E))
  (k:KS X M O E H T0 D (m E)):tS X m D O H:=by
 refine⟨Mo M T0,E,hl,h.inner,?_⟩;cases e:m E with
 |z=>rw[e]at k;exact k
 |ok a =>
  obtain⟨fl,E'⟩:=a;rw[e]at k;cases fl with
  |nx=>exact λO' H' g=>k O' H' (g.outer h)|bk=>exact λO' H' g=>k O' H' (g.outer h)|ct=>exact λO' H' g=>k O' H' (g.outer h)|ret r=>exact λv O' H' g=>k v O' H' (g.outer h)
 |exc x E'=>rw[e]at k;exact λO' H' g=>k O' H' (g.outer h)
def zCX:MS:=λE=>.ok (.nx,E)
def zAZ(a b:MS):MS:=λE=>match a E with
 | .ok (.nx,E1)=>b E1|o=>o
def sk_nil:zBj X [] zCX:=zCK pss_nil λD O H ⟨M,E,hl,fr,k⟩=>k O H (Got.refl (T0:=[]) hl fr)
def sk_one{st:Stmt}{m:MS}(h:SOk X st m):zBj X [st] m:=pss_one h
def seq_run{a b:MS}{D:Ends}(h:tS X (zAZ a b) D O H):tSeq (tS X a) (tS X b) D O H:=by
 obtain⟨M,E,hl,fr,k⟩:=h;unfold zAZ at k;refine vn (T0:=[]) hl fr ?_;cases ea:a E with
 |z=>rw[ea]at k;exact k|exc x E1=>rw[ea]at k;exact k
 |ok p =>
  obtain⟨fl,E1⟩:=p;rw[ea]at k;cases fl with
  |bk=>exact k|ct=>exact k|ret r=>exact k
  |nx =>
   intro O1 H1 g1;refine vn (T0:=[]) g1.len g1.fr ?_;dsimp only at k;cases eb:b E1 with
   |z=>rw[eb]at k;exact k|exc x E2=>rw[eb]at k;exact λO' H' g=>k O' H' (g1.trans' g)
   |ok p =>
    obtain⟨fl2,E2⟩:=p;rw[eb]at k;cases fl2 with
    |nx=>exact λO' H' g=>k O' H' (g1.trans' g)|bk=>exact λO' H' g=>k O' H' (g1.trans' g)|ct=>exact λO' H' g=>k O' H' (g1.trans' g)|ret r=>exact λv O' H' g=>k v O' H' (g1.trans' g)
def sk_cons{st:Stmt}{Y9:List Stmt}{a b:MS}(h1:SOk X st a)(h2:zBj X Y9 b):zBj X (st::Y9) (zAZ a b):=zCK (zDr h1 h2) λD O H=>seq_run
def sIf(c:MT)(a b:MS):MS:=λE=>match c E with
 | .ok (true,E1)=>a E1| .ok (false,E1)=>b E1| .exc x E1=>.exc x E1| .z=>.z
def tS_go{m:MS}{D:Ends}{O1:St}{E1:zM}{H1:Hp}(g1:Got X.K X.mg M O E H [] O1 E1 H1 [])
  (k:match m E1 with
   | .z=>False| .ok (.nx,E')=>∀O' H',Got X.K X.mg M O E H [] O' E' H' []->D.nx O' H'| .ok (.bk,E')=>∀O' H',Got X.K X.mg M O E H [] O' E' H' []->D.bk O' H'| .ok (.ct,E')=>∀O' H',Got X.K X.mg M O E H [] O' E' H' []->D.ct O' H'| .ok (.ret r,E')=>∀v O' H',Got X.K X.mg M O E H [] O' E' H' [(some v,r.slot)]->D.rt v H'
   | .exc x E'=>∀O' H',Got X.K X.mg M O E H [] O' E' H' []->XE X O' H' x):tS X m D O1 H1:=by
 refine vn (T0:=[]) g1.len g1.fr ?_;cases eb:m E1 with
 |z=>rw[eb]at k;exact k|exc x E2=>rw[eb]at k;exact λO' H' g=>k O' H' (g1.trans' g)
 |ok p =>
  obtain⟨fl2,E2⟩:=p;rw[eb]at k;cases fl2 with
  |nx=>exact λO' H' g=>k O' H' (g1.trans' g)|bk=>exact λO' H' g=>k O' H' (g1.trans' g)|ct=>exact λO' H' g=>k O' H' (g1.trans' g)|ret r=>exact λv O' H' g=>k v O' H' (g1.trans' g)
def sif_run{c:MT}{a b:MS}{D:Ends}(h:tS X (sIf c a b) D O H):tIfS (tMT X c) (tS X a) (tS X b) D O H:=by
 obtain⟨M,E,hl,fr,k⟩:=h;unfold sIf at k;refine JB (T0:=[]) hl fr ?_;cases ea:c E with
 |z=>rw[ea]at k;exact k|exc x E1=>rw[ea]at k;exact λH' g=>k O H' g
 |ok p =>
  obtain⟨t,E1⟩:=p;rw[ea]at k;intro H1 g1;cases t with
  |true=>exact zD6 (tS_go g1 k)|false=>exact zD5 (tS_go g1 k)
def sk_if{c:Expr}{a b:List Stmt}{mc:MT}{ma mb:MS}{pos:Pos}(hc:TOk X c mc)(ha:zBj X a ma)(hb:zBj X b mb):SOk X (.If c a b pos) (sIf mc ma mb):=yy (ps_if hc ha hb) λD O H=>sif_run
def Z9(i:Nat)(r:R)(E:zM):Out zM:=match E[i]? with
 |none=>.z|some (.par _)=>.z|some _=>.ok (E.set i r.slot)
def sSet(i:Nat)(m:ME):MS:=λE=>match m E with
 | .z=>.z| .exc x E1=>.exc x E1
 | .ok (r,E1)=>match Z9 i r E1 with
  | .ok E2=>.ok (.nx,E2)|_=>.z
def uN{O1:St}{E1 E2:zM}{H1:Hp}{i:Nat}{r:R}{v:V}(g:Got K mg M O E H T0 O1 E1 H1 [(some v,r.slot)])(e:Z9 i r E1=.ok E2):Got K mg M O E H T0 (O1.set i (some v)) E2 H1 []:=by
 unfold Z9 at e;cases e1:E1[i]? with
 |none=>rw[e1]at e;cases e
 |some sl =>
  rw[e1]at e;have hne:∀ds,sl≠.par ds:=λds q=>by subst q;cases e
  have e2:E2=E1.set i r.slot:=by
   cases sl with
   |par ds=>exact absurd rfl (hne ds)|_=>cases e;rfl
  subst e2;have hi:i<E1.length:=(qG.mp e1).1;have hl:=g.len;have hz:i<(O1.zip E1).length:=by rw[List.length_zip];omega
  have hT:T0++((O1.set i (some v)).zip (E1.set i r.slot))=(T0++O1.zip E1).set (T0.length+i) (some v,r.slot):=by
   rw[uJ,List.set_append_right _ _ (by omega)];congr 2;omega
  have hz2:T0.length+i<(T0++O1.zip E1).length:=by rw[length_append];omega
  refine⟨by simp[hl],?_,?_,?_⟩
  ·show FR K mg M H1 (T0++((O1.set i (some v)).zip (E1.set i r.slot)))
   rw[hT];exact FR.put g.fr hz2
  ·show Step M H _ H1 (T0++((O1.set i (some v)).zip (E1.set i r.slot)))
   rw[hT];exact Step.put g.st hz2
  ·refine g.pk.trans λj ds q=>?_
   have ne:i≠j:=λz=>by subst z;rw[e1]at q;exact hne ds (qJ q)
   exact⟨⟨ds,by rw[getElem?_set_ne ne];exact q⟩,by rw[getElem?_set_ne ne]⟩
def Qn{i:Nat}{m:ME}{D:Ends}(h:tS X (sSet i m) D O H):zFU (tM X m) (GU i) D O H:=by
 obtain⟨M,E,hl,fr,k⟩:=h;unfold sSet at k;refine zx (T0:=[]) hl fr ?_;cases ea:m E with
 |z=>rw[ea]at k;exact k|exc x E1=>rw[ea]at k;exact λH' g=>k O H' g
 |ok p =>
  obtain⟨r,E1⟩:=p;rw[ea]at k;intro v H' g;dsimp only at k;cases ep:Z9 i r E1 with
  |z=>rw[ep]at k;exact k.elim|exc _ _=>rw[ep]at k;exact k.elim
  |ok E2 =>
   rw[ep]at k;exact k _ H' (uN g ep)
def zCY{i:Nat}{x:Str}{e:Expr}{m:ME}{pos pos':Pos}(hN:X.N.Nodup)(hi:X.N[i]?=some x)(hx:Loc X.env.scope x)(he:EOk X e m)(hs:swapsWith e (some (.Name x pos')) pos.line X.env=pure false:=by rfl)
  (hf:X.fn x=true\/X.env.scope.names.lookup x=some .local:=by first|exact .inl rfl|exact .inr rfl|assumption):SOk X (.Assign [.Name x pos'] e pos) (sSet i m) :=
 yy (ps_set hN hi hx he hs hf) λD O H=>Qn
def sRet(m:ME):MS:=λE=>match m E with
 | .z=>.z| .exc x E1=>.exc x E1| .ok (r,E1)=>.ok (.ret r,E1)
def ret_run{m:ME}{D:Ends}(h:tS X (sRet m) D O H):tRet (tM X m) D O H:=by
 obtain⟨M,E,hl,fr,k⟩:=h;unfold sRet at k;refine zx (T0:=[]) hl fr ?_;cases ea:m E with
 |z=>rw[ea]at k;exact k|exc x E1=>rw[ea]at k;exact λH' g=>k O H' g|ok p=>rw[ea]at k;exact λv H' g=>k v O H' g
def sk_ret{e:Expr}{m:ME}{pos:Pos}(he:EOk X e m):SOk X (.Return (some e) pos) (sRet m):=yy (ps_ret he) λD O H=>ret_run
def zCZ(i:Nat):ME:=λE=>match E[i]? with
 |some (.own ds)=>.ok (.own ds,E.set i .e)|some (.dct ks vs)=>.ok (.dct ks vs,E.set i .e)|some (.v d)=>.ok (.v d,E)|_=>.z
def ok_move(i:Nat){x:Str}{pos:Pos}(h:PE X (.Name x pos) (Qd i)):EOk X (.Name x pos) (zCZ i):=zr h λO H Q ⟨M,E,hl,f,k⟩=>by
 unfold zCZ at k;cases e:E[i]? with
 |none=>rw[e]at k;exact k.elim
 |some sl =>
 rw[e]at k;cases sl with
 |e=>exact k.elim|par ds=>exact k.elim
 |v d =>
  obtain⟨o,h1,h2⟩:=JD hl e;obtain⟨v,rfl,r⟩:=f.val o d h2;exact⟨v,h1,k v H ⟨hl,f.add r,Step.refl.add,PKp.refl⟩⟩
 |own ds =>
  obtain⟨o,h1,h2⟩:=jn hl e;obtain⟨a,xs,rfl,q1,q2,q3⟩:=f.ownL o (.own ds) ds (mem_of_getElem? h2) rfl;refine⟨.ref a,h1,k _ H ?_⟩;have hlt:i<(O.zip E).length:=(qG.mp h2).1;have p:(O.zip E).Perm ((some (.ref a),R.slot (.own ds))::(O.zip E).eraseIdx i):=by
   have:=zQ (some (V.ref a),Slot.own ds) (O.zip E) i hlt;rw[jx h2]at this;exact this
  have ez:O.zip (E.set i .e)=(O.zip E).set i (some (.ref a),.e):=zU .e h1;have p2:((some (V.ref a),R.slot (.own ds))::O.zip (E.set i .e)).Perm ((some (V.ref a),Slot.e)::((some (V.ref a),R.slot (.own ds))::(O.zip E).eraseIdx i)):=by
   rw[ez];exact((zQ _ _ _ hlt).cons _).trans (List.Perm.swap _ _ _)
  have f1:=f.perm p;have f2:FR X.K X.mg M H ((some (V.ref a),Slot.e)::((some (V.ref a),R.slot (.own ds))::(O.zip E).eraseIdx i)):={
   val:=λo d q=>by
    rw[Gf];rcases mem_cons.mp q with q|q
    ·cases q
    ·exact f1.val o d q
   own:=λo s ds' q e'=>by
    rw[Gf];rcases mem_cons.mp q with q|q
    ·cases q;cases e'
    ·exact f1.own o s ds' q e'
   nd:=by rw[zw];exact f1.nd
   mal:=f1.mal}
  refine⟨by simp[hl],f2.perm p2.symm,?_,Wb (ds0:=[]) e (λds' q=>by cases q) _⟩;refine Step.weak Step.refl λb hb=>?_
  have hb':=zD p2 b hb;rw[zw]at hb';exact zD p.symm b hb'
 |dct ks vs =>
  obtain⟨o,h1,h2⟩:=jn hl e;obtain⟨a,ho,rfl,q1,q2,q3⟩:=f.own o (.dct ks vs) (.d ks vs) (mem_of_getElem? h2) rfl;refine⟨.ref a,h1,k _ H ?_⟩;have hlt:i<(O.zip E).length:=(qG.mp h2).1;have p:(O.zip E).Perm ((some (.ref a),R.slot (.dct ks vs))::(O.zip E).eraseIdx i):=by
   have:=zQ (some (V.ref a),Slot.dct ks vs) (O.zip E) i hlt;rw[jx h2]at this;exact this
  have ez:O.zip (E.set i .e)=(O.zip E).set i (some (.ref a),.e):=zU .e h1;have p2:((some (V.ref a),R.slot (.dct ks vs))::O.zip (E.set i .e)).Perm ((some (V.ref a),Slot.e)::((some (V.ref a),R.slot (.dct ks vs))::(O.zip E).eraseIdx i)):=by
   rw[ez];exact((zQ _ _ _ hlt).cons _).trans (List.Perm.swap _ _ _)
  have f1:=f.perm p;have f2:FR X.K X.mg M H ((some (V.ref a),Slot.e)::((some (V.ref a),R.slot (.dct ks vs))::(O.zip E).eraseIdx i)):={
   val:=λo d q=>by
    rw[Gf];rcases mem_cons.mp q with q|q
    ·cases q
    ·exact f1.val o d q
   own:=λo s ds' q e'=>by
    rw[Gf];rcases mem_cons.mp q with q|q
    ·cases q;cases e'
    ·exact f1.own o s ds' q e'
   nd:=by rw[zw];exact f1.nd
   mal:=f1.mal}
  refine⟨by simp[hl],f2.perm p2.symm,?_,Wb (ds0:=[]) e (λds' q=>by cases q) _⟩;refine Step.weak Step.refl λb hb=>?_
  have hb':=zD p2 b hb;rw[zw]at hb';exact zD p.symm b hb'
def sDrop(m:ME):MS:=λE=>match m E with
 | .z=>.z| .exc x E1=>.exc x E1| .ok (_,E1)=>.ok (.nx,E1)
def zEM{m:ME}{D:Ends}(h:tS X (sDrop m) D O H):tDrop (tM X m) D O H:=by
 obtain⟨M,E,hl,fr,k⟩:=h;unfold sDrop at k;refine zx (T0:=[]) hl fr ?_;cases ea:m E with
 |z=>rw[ea]at k;exact k|exc x E1=>rw[ea]at k;exact λH' g=>k O H' g|ok p=>rw[ea]at k;exact λv H' g=>k O H' g.dropAll
def sk_drop{e:Expr}{m:ME}{pos:Pos}(he:EOk X e m)(hs:swapsWith e none pos.line X.env=pure false:=by rfl):SOk X (.Expr e pos) (sDrop m):=yy (ps_expr he hs) λD O H=>zEM
end
theorem yz{α β:Type}{f:α->Option β}{x y:α}(h:f y=f x):∀{l:List α} {i:Nat},l[i]?=some x->(l.set i y).filterMap f=l.filterMap f
 | [],_,e=>by simp at e
 |a::l,0,e=>by
  simp at e;subst e
  simp only[List.set_cons_zero,filterMap_cons,h]
 |a::l,i+1,e=>by
  simp at e
  simp only[List.set_cons_succ,filterMap_cons,yz h e]
section
variable{X:Cx}{K:qH}{mg:Str->Option Value}{O:St}{M:Addr->Prop}{E:zM}{H:Hp}{T0 Z:Fz}
def Slot.put:Slot->List D->Slot
 | .own _,es=>.own es| .par _,es=>.par es|s,_=>s
def uO{p:Addr}{s:Slot}{ds es:List D}(hs:s.list?=some ds):uH (some (.ref p),s.put es)=uH (some (.ref p),s)/\(s.put es).list?=some es:=by
 cases s<;>simp[Slot.list?]at hs<;>exact⟨rfl,rfl⟩
def FR.mut(h:FR K mg M H Z){i:Nat}{p:Addr}{s:Slot}{ds es:List D}{ys:List V}(hi:Z[i]?=some (some (.ref p),s))(hs:s.list?=some ds)(r:Reps K mg (Hm (Mo M Z) H) es ys) :
  FR K mg M (upd H p (.l ys)) (Z.set i (some (.ref p),s.put es))/\Step M H Z (upd H p (.l ys)) (Z.set i (some (.ref p),s.put es)):=by
 have eo:yI (Z.set i (some (.ref p),s.put es))=yI Z:=yz (uO hs).1 hi;have em:Mo M (Z.set i (some (.ref p),s.put es))=Mo M Z:=by unfold Mo;rw[eo]
 have hp:p∈yI Z:=Ql (mem_of_getElem? hi) hs rfl;obtain⟨xs0,hH,hM,_⟩:=h.ownAt hp;have ehm:Hm (Mo M Z) (upd H p (.l ys))=Hm (Mo M Z) H:=by
  funext b
  unfold Hm;by_cases hb:Mo M Z b
  ·simp[hb]
  ·have:b≠p:=λe=>hb (by subst e;exact .inr hp)
   simp[hb,zp this]
 have mem:∀{q:Option V×Slot},q∈Z.set i (some (.ref p),s.put es)->q=(some (.ref p),s.put es)\/q∈Z:=λ{q} hq=>(List.mem_or_eq_of_mem_set hq).symm
 have hlt:i<Z.length:=(qG.mp hi).1;have nd2:(yI (Z.eraseIdx i)).Nodup/\p∉yI (Z.eraseIdx i):=by
  have pz:Z.Perm ((some (.ref p),s)::Z.eraseIdx i):=by
   have:=zQ (some (V.ref p),s) Z i hlt;rw[jx hi]at this;exact this
  have nd:=(pz.filterMap uH).nodup_iff.mp h.nd;have e:List.filterMap uH ((some (V.ref p),s)::Z.eraseIdx i)=p::yI (Z.eraseIdx i):=by
   cases s<;>simp[Slot.list?]at hs<;>rfl
  rw[e]at nd;exact⟨(nodup_cons.mp nd).2,(nodup_cons.mp nd).1⟩
 have pz2:(Z.set i (some (.ref p),s.put es)).Perm ((some (.ref p),s.put es)::Z.eraseIdx i):=zQ _ _ _ hlt;refine⟨⟨λo d q=>?_,λo s' ds' q e=>?_,by rw[eo];exact h.nd,λb q=>?_⟩,⟨by rw[em,ehm];exact ZA.refl _,λb o m e=>?_⟩⟩
 ·rw[em,ehm]
  rcases mem q with q|q
  ·exfalso
   cases s<;>simp[Slot.list?]at hs<;>cases q
  ·exact h.val o d q
 ·rw[em,ehm]
  rcases mem_cons.mp (pz2.mem_iff.mp q)with q'|q'
  ·cases q'
   rw[zCI (uO (p:=p) hs).2]at e;cases e;exact⟨p,_,rfl,jF,hM,ys,rfl,r⟩
  ·have q'':(o,s')∈Z:=(eraseIdx_sublist Z i).subset q'
   obtain⟨a,xs,e1,e2,e3,rr⟩:=h.own o s' ds' q'' e;have ne:a≠p:=λz=>by
    subst z;exact nd2.2 (jB q' e e1)
   exact⟨a,xs,e1,by rw[zp ne];exact e2,e3,rr⟩
 ·obtain⟨o,e,ko⟩:=h.mal b q
  by_cases z:b=p
  ·subst z;exact⟨_,jF,.inl ⟨_,rfl⟩⟩
  ·exact⟨o,by rw[zp z];exact e,ko⟩
 ·have ne:b≠p:=λz=>hM (by subst z;exact m)
  rw[zp ne];exact e
theorem Got.mut{O1:St}{E1:zM}{H1:Hp}{T:Fz}(g:Got K mg M O E H [] O1 E1 H1 T){i:Nat}{s:Slot}{ds es:List D}{ys:List V}(hi:E1[i]?=some s)(hs:s.list?=some ds)(r:Reps K mg (Hm (Mo M (O1.zip E1)) H1) es ys) :
  ∃p,O1[i]?=some (some (.ref p))/\Got K mg M O E H [] O1 (E1.set i (s.put es)) (upd H1 p (.l ys)) []:=by
 obtain⟨o,h1,h2⟩:=jn g.len hi;obtain⟨p,xs,rfl,_⟩:=g.frame.ownL o s ds (mem_of_getElem? h2) hs;refine⟨p,h1,?_⟩;obtain⟨f,st⟩:=FR.mut g.frame h2 hs r;have e:=zU (E:=E1) (s.put es) h1;rw[<- e]at f st;refine⟨by simp[g.len],f,(g.st.weak (zC (sublist_append_right _ _))).trans st,g.pk.trans λj ds' q=>?_⟩;by_cases ej:i=j
 ·subst ej
  rw[hi]at q;cases q;have hlt:i<E1.length:=(qG.mp hi).1;exact⟨⟨es,by rw[getElem?_set_self hlt];rfl⟩,rfl⟩
 ·exact⟨⟨ds',by rw[getElem?_set_ne ej];exact q⟩,rfl⟩
def vo{i:Nat}{s:Slot}(hl:E.length=O.length)(f:FR K mg M H (O.zip E))(h:E[i]?=some s)(hs:s≠.e):∃v,O[i]?=some (some v):=by
 obtain⟨o,h1,h2⟩:=JD hl h;cases s with
 |e=>exact absurd rfl hs|v d=>obtain⟨v,rfl,_⟩:=f.val o d h2;exact⟨v,h1⟩|own ds=>obtain⟨a,_,rfl,_⟩:=f.own o _ _ h2 rfl;exact⟨_,h1⟩|par ds=>obtain⟨a,_,rfl,_⟩:=f.own o _ _ h2 rfl;exact⟨_,h1⟩|dct ks vs=>obtain⟨a,_,rfl,_⟩:=f.own o _ _ h2 rfl;exact⟨_,h1⟩
def jX:Option Slot->Bool
 |none=>true|some .e=>true|_=>false
def ZH{o:Option Slot}(h:jX o=false):∃s,o=some s/\s≠.e:=by
 cases o with
 |none=>cases h
 |some s=>cases s<;>simp[jX]at h<;>exact⟨_,rfl,by intro q;cases q⟩
def ixS:Slot->Int->Option D
 | .own ds,i=>atI ds i| .par ds,i=>atI ds i| .v (.l ds),i=>atI ds i|_,_=>none
def eIxO(i:Nat)(m:ME):ME:=λE=>if jX E[i]?=true then .z else match m E with
 | .z=>.z| .exc x E1=>.exc x E1
 | .ok (.v (.int k),E1)=>match E1[i]? with
  |some s=>match ixS s k with
   |some d=>.ok (.v d,E1)|none=>.z
  |none=>.z
 |_=>.z
def ixO_run{i:Nat}{m:ME}{Q:VK}(h:tM X (eIxO i m) O H Q):tOp (rIxL X.K) (Qd i) (tM X m) O H Q:=by
 obtain⟨M,E,hl,fr,k⟩:=h;unfold eIxO at k;cases em:jX E[i]? with
 |true=>rw[em]at k;exact k.elim
 |false =>
  rw[em]at k;obtain⟨s,hs1,hs2⟩:=ZH em;obtain⟨v,hv⟩:=vo hl fr hs1 hs2;refine⟨v,hv,?_⟩;refine zx (T0:=[]) hl fr ?_;simp only[Bool.false_eq_true,if_false]at k;cases ea:m E with
  |z=>rw[ea]at k;exact k|exc x E1=>rw[ea]at k;exact k
  |ok p =>
   obtain⟨r,E1⟩:=p;rw[ea]at k;cases r with
   |own ds=>exact k.elim|dct _ _=>exact k.elim
   |v d =>
    cases d with
    |int n =>
     intro y H' g;dsimp only at k;cases e1:E1[i]? with
     |none=>rw[e1]at k;exact k.elim
     |some s1 =>
      rw[e1]at k;dsimp only at k;cases e2:ixS s1 n with
      |none=>rw[e2]at k;exact k.elim
      |some d =>
       rw[e2]at k;have f:=g.frame;have fin:∀{w:V},Rep X.K X.mg (Hm (Mo M (O.zip E1)) H') d w->Q w H':=λ{w} rw'=>k w H' (g.more (T:=[(some w,.v d)]) (f.add rw') Step.refl.add)
       obtain⟨o,h1,h2⟩:=JD g.len e1;have ho:o=some v:=by rw[hv]at h1;exact(qJ h1).symm
       subst ho;have key:∀{ds:List D},s1.list?=some ds->atI ds n=some d->rIxL X.K v y H' Q:=λ{ds} hl1 ha=>by
        obtain⟨a,xs,ev,q1,_,q3⟩:=f.ownL _ s1 ds h2 hl1;cases ev;obtain⟨w,a1,a2⟩:=Z8 q3 ha;exact⟨a,xs,n,w,rfl,zL g.rep,SqL.of q1,a1,fin a2⟩
       cases s1 with
       |e=>cases e2|own ds=>exact key rfl e2|par ds=>exact key rfl e2|dct _ _=>cases e2
       |v dd =>
        cases dd with
        |l ds =>
         obtain⟨v',ev,rr⟩:=f.val _ _ h2;cases ev;obtain⟨a,xs,rfl,q1,q2⟩:=zX rr;obtain⟨w,a1,a2⟩:=Z8 q2 e2;exact⟨a,xs,n,w,rfl,zL g.rep,zF.seq q1,a1,fin a2⟩
        |_=>cases e2
    |_=>exact k.elim
def ok_ixO(i:Nat){x:Str}{b:Expr}{m:ME}{p pos:Pos}(hv:PE X (.Name x p) (Qd i))(hb:EOk X b m)(hs:WX b):EOk X (.Subscript (.Name x p) b pos) (eIxO i m) :=
 zr (pe_ix zCA hv hb hs) λO H Q=>ixO_run
def Wg(i:Nat)(mi mv:ME):MS:=λE=>if jX E[i]?=true then .z else match mv E with
 | .z=>.z| .exc x E1=>.exc x E1
 | .ok (r,E1)=>match mi E1 with
  | .z=>.z| .exc x E2=>.exc x E2
  | .ok (.v (.int k),E2)=>match E2[i]? with
   |none=>.z
   |some s=>match s.list? with
    |none=>.z
    |some ds=>match ixN ds.length k with
     |none=>.z|some j=>.ok (.nx,E2.set i (s.put (ds.set j r.d)))
  |_=>.z
def zCa{i:Nat}{mi mv:ME}{D:Ends}(h:tS X (Wg i mi mv) D O H):zFU (tM X mv) (gSub (Qd i) (tM X mi) rSetL) D O H:=by
 obtain⟨M,E,hl,fr,k⟩:=h;unfold Wg at k;cases em:jX E[i]? with
 |true=>rw[em]at k;exact k.elim
 |false =>
  rw[em]at k;obtain⟨s,hs1,hs2⟩:=ZH em;obtain⟨v,hv⟩:=vo hl fr hs1 hs2;refine zx (T0:=[]) hl fr ?_;simp only[Bool.false_eq_true,if_false]at k;cases ea:mv E with
  |z=>rw[ea]at k;exact k|exc x E1=>rw[ea]at k;exact λH' g=>k O H' g
  |ok p =>
   obtain⟨r,E1⟩:=p;rw[ea]at k;intro y H1 g1;refine⟨v,hv,?_⟩;refine zx (T0:=[(some y,r.slot)]) g1.len g1.fr ?_;dsimp only at k;cases eb:mi E1 with
   |z=>rw[eb]at k;exact k|exc x E2=>rw[eb]at k;exact λH' g=>k O H' (g1.trans' g).dropAll
   |ok p =>
    obtain⟨r2,E2⟩:=p;rw[eb]at k;cases r2 with
    |own ds=>exact k.elim|dct _ _=>exact k.elim
    |v d =>
     cases d with
     |int n =>
      intro z H2 g2;have g:=g1.trans' g2;dsimp only at k;cases e1:E2[i]? with
      |none=>rw[e1]at k;exact k.elim
      |some s1 =>
       rw[e1]at k;dsimp only at k;cases e2:s1.list? with
       |none=>rw[e2]at k;exact k.elim
       |some ds =>
        rw[e2]at k;dsimp only at k;cases e3:ixN ds.length n with
        |none=>rw[e3]at k;exact k.elim
        |some j =>
         rw[e3]at k;have rp:=Got.reps (vs:=[z,y]) (rs:=[.v (.int n),r]) rfl g;simp only[List.map,Reps]at rp;obtain⟨z',_,q1,rz,y',_,q2,ry,_⟩:=rp;cases q1;cases q2;obtain⟨o,h1,h2⟩:=JD g.len e1;obtain⟨a,xs,ev,w1,_,w3⟩:=g.frame.ownL _ s1 ds h2 e2;subst ev;have ev:v=.ref a:=by rw[hv]at h1;exact qJ (qJ h1)
         subst ev;obtain⟨p,hp,g'⟩:=g.mut e1 e2 (w3.set j ry);have ep:p=a:=by rw[h1]at hp;cases hp;rfl
         subst ep;exact⟨p,xs,n,j,rfl,zL rz,w1,by rw[w3.length];exact e3,k O _ g'⟩
     |_=>exact k.elim
def zEN(i:Nat){x:Str}{b e:Expr}{mi mv:ME}{p p1 pos:Pos}(hv:PE X (.Name x p) (Qd i))(hb:EOk X b mi)(he:EOk X e mv)
  (ha:∀v,assign (.Subscript (.Name x p) b p1) X.env v=(do
   let ov <- holding [v] (eval (.Name x p) X.env)
   let iv <- holding [v,ov] (eval b X.env)
   standAt p1
   holding [v,ov,iv] (setItem ov iv v)
   release [v,ov,iv] []):=by intro _;rfl) (hs:swapsWithSole [.Subscript (.Name x p) b p1] e pos.line X.env=pure false:=by rfl):SOk X (.Assign [.Subscript (.Name x p) b p1] e pos) (Wg i mi mv) :=
 yy (zBq he (zFT hv hb zD2 ha) hs) λD O H=>zCa
end
section
variable{X:Cx}{K:qH}{mg:Str->Option Value}{O:St}{M:Addr->Prop}{E:zM}{H:Hp}{T0 Z:Fz}
abbrev MG:=D->zM->Out zM
def GOk(X:Cx)(g:TG)(tg:MG):Prop:=∀(M:Addr->Prop) (O:St) (E:zM) (H:Hp) (T0:Fz) (x:V) (d:D) (E':zM) (Q:St->Hp->Prop),E.length=O.length->FR X.K X.mg M H ((some x,.v d)::(T0++O.zip E))->tg d E=.ok E' ->
 (∀O',Got X.K X.mg M O E H T0 O' E' H []->Q O' H)->g x O H Q
def gN(i:Nat):MG:=λd E=>Z9 i (.v d) E
def go_name(i:Nat):GOk X (GU i) (gN i):=λM O E H T0 x d E' Q hl f e k =>
 k _ (uN (O1:=O) (E1:=E) (H1:=H) (r:=.v d) (v:=x) ⟨hl,f,Step.refl.add,PKp.refl⟩ e)
def gNs:List Nat->List D->zM->Out zM
 | [],[],E=>.ok E
 |i::is,d::ds,E=>match Z9 i (.v d) E with
  | .ok E1=>gNs is ds E1|_=>.z
 |_,_,_=>.z
def gT(is:List Nat):MG:=λd E=>match d with
 | .t ds=>gNs is ds E|_=>.z
def J6:List Nat->TGs
 | []=>gNil|i::is=>gCons (GU i) (J6 is)
theorem Wh:∀(is:List Nat) (ds:List D) (xs:List V) {M:Addr->Prop} {O0 O:St} {E0 E E':zM} {H:Hp} {T0:Fz} {a:Addr} {ts:List D} {Q:St->Hp->Prop},
  Got X.K X.mg M O0 E0 H T0 O E H []->Reps X.K X.mg (Hm (Mo M (T0++O.zip E)) H) ds xs->gNs is ds E=.ok E'->(∀O',Got X.K X.mg M O0 E0 H T0 O' E' H []->Q O' H)->J6 is xs O H Q
 | [],[],xs,M,O0,O,E0,E,E',H,T0,a,ts,Q,g,r,e,k=>by
  cases e;simp only[Reps]at r;exact⟨r,k O g⟩
 | [],d::ds,xs,M,O0,O,E0,E,E',H,T0,a,ts,Q,g,r,e,k=>by cases e|i::is,[],xs,M,O0,O,E0,E,E',H,T0,a,ts,Q,g,r,e,k=>by cases e
 |i::is,d::ds,xs,M,O0,O,E0,E,E',H,T0,a,ts,Q,g,r,e,k=>by
  simp only[Reps]at r;obtain⟨x,Y9,rfl,rx,rr⟩:=r;simp only[gNs]at e;cases e1:Z9 i (.v d) E with
  |z=>rw[e1]at e;cases e|exc _ _=>rw[e1]at e;cases e
  |ok E1 =>
   rw[e1]at e;refine⟨x,Y9,rfl,?_⟩;have g1:Got X.K X.mg M O0 E0 H T0 O E H [(some x,R.slot (.v d))]:=⟨g.len,g.fr.add rx,g.st.add,g.pk⟩;have g2:=uN g1 e1;refine Wh is ds Y9 (a:=a) (ts:=ts) g2 (rr.mono ?_) e k;refine jP (Jn λb hb=>?_);have st:=g2.fr
   -- the stored slot is a value: it yI nothing
   unfold Z9 at e1;cases e2:E[i]? with
   |none=>rw[e2]at e1;cases e1
   |some sl =>
    rw[e2]at e1;have e3:E1=E.set i (.v d):=by cases sl<;>cases e1<;>rfl
    subst e3;have hi:i<E.length:=(qG.mp e2).1;have hz:i<(O.zip E).length:=by rw[List.length_zip];have:=g.len;omega
    rw[uJ]at hb;rw[zT]at hb ⊢;rcases mem_append.mp hb with hb|hb
    ·exact mem_append_left _ hb
    ·refine qK _ ?_
     have:=zD (zQ _ _ _ hz) b hb;rw[zb]at this;exact zC (eraseIdx_sublist _ _) b this
def zFl{n:Nat}(is:List Nat)(hn:is.length=n):GOk X (gTup X.K n (J6 is)) (gT is):=λM O E H T0 x d E' Q hl f e k=>by
 cases d with
 |t ds =>
  obtain⟨v,ev,r⟩:=f.val _ _ qE;cases ev;obtain⟨a,xs,rfl,h1,h2⟩:=za r;rw[JA]at h2;have hlen:ds.length=is.length:=by
   have:∀(is:List Nat) (ds:List D) (E E':zM),gNs is ds E=.ok E'->ds.length=is.length:=by
    intro is
    induction is with
    |nil=>intro ds E E' h;cases ds with|nil=>rfl|cons d ds=>cases h
    |cons i is ih =>
     intro ds E E' h;cases ds with
     |nil=>cases h
     |cons d ds =>
      simp only[gNs]at h;cases e1:Z9 i (.v d) E with
      |ok E1=>rw[e1]at h;simp[ih ds E1 E' h]|z=>rw[e1]at h;cases h|exc _ _=>rw[e1]at h;cases h
   exact this is ds E E' e
  refine⟨a,xs,rfl,zO zF h1,by rw[h2.length,hlen,hn],?_⟩;exact Wh is ds xs (a:=a) (ts:=[]) (Got.refl hl f.tail) h2 e k
 |_=>cases e
def vq(tg:MG)(body:MS):List D->zM->Out (Fl×zM)
 | [],E=>.ok (.nx,E)
 |d::ds,E=>match tg d E with
  | .ok E1=>match body E1 with
   | .ok (.nx,E2)=>vq tg body ds E2| .ok (.ct,E2)=>vq tg body ds E2| .ok (.bk,E2)=>.ok (.nx,E2)| .ok (.ret r,E2)=>.ok (.ret r,E2)| .exc x E2=>.exc x E2| .z=>.z
  |_=>.z
def Fin(X:Cx)(M:Addr->Prop)(O:St)(E:zM)(H:Hp)(D:Ends)(o:Out (Fl×zM)):Prop:=match o with
 | .z=>False| .ok (.nx,E')=>∀O' H',Got X.K X.mg M O E H [] O' E' H' []->D.nx O' H'| .ok (.bk,E')=>∀O' H',Got X.K X.mg M O E H [] O' E' H' []->D.bk O' H'| .ok (.ct,E')=>∀O' H',Got X.K X.mg M O E H [] O' E' H' []->D.ct O' H'| .ok (.ret r,E')=>∀v O' H',Got X.K X.mg M O E H [] O' E' H' [(some v,r.slot)]->D.rt v H'| .exc x E'=>∀O' H',Got X.K X.mg M O E H [] O' E' H' []->XE X O' H' x
def Got.dropT{K:qH}{mg:Str->Option Value}{M:Addr->Prop}{O O1:St}{E E1:zM}{H H1:Hp}{T T':Fz}(a:Got K mg M O E H [] O1 E1 H1 (T++T')):Got K mg M O E H [] O1 E1 H1 T where
 len:=a.len
 fr:=a.fr.sub (by rw[append_assoc];exact(sublist_append_right _ _).append_left _)
 st:=a.st.weak (zC (by rw[append_assoc];exact(sublist_append_right _ _).append_left _))
 pk:=a.pk
def uP{tg:MG}{body:MS}{g:TG}{D:Ends}{d:DV.D}{ds:List DV.D}{O1:St}{E1:zM}{H1:Hp}{T:Fz}{x:V}{P:St->Hp->Prop}(hg:GOk X g tg)
  (g1:Got X.K X.mg M O E H [] O1 E1 H1 T) (rx:Rep X.K X.mg (Hm (Mo M (T++O1.zip E1)) H1) d x) (fin:Fin X M O E H D (vq tg body (d::ds) E1))
  (next:∀O2 E2 H2,Got X.K X.mg M O E H [] O2 E2 H2 T->Step M H1 (T++O1.zip E1) H2 (T++O2.zip E2)->Fin X M O E H D (vq tg body ds E2)->P O2 H2) :
  g x O1 H1 λO2 H2=>tS X body {D with nx:=P,ct:=P,bk:=D.nx} O2 H2:=by
 simp only[vq]at fin;cases e1:tg d E1 with
 |z=>rw[e1]at fin;exact fin.elim|exc _ _=>rw[e1]at fin;exact fin.elim
 |ok E2 =>
  rw[e1]at fin;dsimp only at fin;refine hg M O1 E1 H1 T x d E2 _ g1.len (g1.fr.add rx) e1 λO2 g2=>?_
  have g12:=g1.trans' g2;refine vn (T0:=T) g2.len g2.fr ?_;cases e2:body E2 with
  |z=>rw[e2]at fin;exact fin|exc y E3=>rw[e2]at fin;exact λO' H' g'=>fin O' H' (g12.trans' g').dropAll
  |ok p =>
   obtain⟨fl,E3⟩:=p;rw[e2]at fin;cases fl with
   |nx=>exact λO' H' g'=>next O' E3 H' (g12.trans' g') (g2.st.trans g'.st) fin|ct=>exact λO' H' g'=>next O' E3 H' (g12.trans' g') (g2.st.trans g'.st) fin|bk=>exact λO' H' g'=>fin O' H' (g12.trans' g').dropAll|ret r=>exact λv O' H' g'=>fin v O' H' (g12.trans' g').dropT
def sForL(m:ME)(tg:MG)(body:MS):MS:=λE=>match m E with
 | .z=>.z| .exc x E1=>.exc x E1
 | .ok (r,E1)=>match r.d with
  | .l ds=>vq tg body ds E1|_=>.z
def zCb{m:MS}{D:Ends}(h:tS X m D O H):∃M E,E.length=O.length/\FR X.K X.mg M H (O.zip E)/\Fin X M O E H D (m E):=h
def zEO{m:ME}{tg:MG}{g:TG}{body:MS}{D:Ends}(hg:GOk X g tg)(h:tS X (sForL m tg body) D O H):tFor (iList X.K (tM X m)) g (tS X body) D O H:=by
 obtain⟨M,E,hl,fr,k⟩:=zCb h;unfold sForL at k;refine zx (T0:=[]) hl fr ?_;cases ea:m E with
 |z=>rw[ea]at k;exact k|exc x E1=>rw[ea]at k;exact λH' g=>k O H' g
 |ok p =>
  obtain⟨r,E1⟩:=p;rw[ea]at k;intro v H1 g0;have g1:Got X.K X.mg M O E H [] O E1 H1 [(some v,.v r.d)]:=⟨g0.len,g0.fr.frz,g0.st.frz,g0.pk⟩;dsimp only at k;cases ed:r.d with
  |l ds =>
   rw[ed]at k g1;have rl:=g0.rep;rw[ed]at rl;obtain⟨a,xs,rfl,q1,q2⟩:=zX rl;refine⟨a,rfl,⟨xs,zF.seq q1⟩,?_⟩;have em:∀(O':St) (E':zM),Mo M ([(some (V.ref a),Slot.v (.l ds))]++O'.zip E')=Mo M (O'.zip E'):=λO' E'=>JA _ _ _ _
   refine zDv (K:=X.K) (a:=a) (xs:=xs) (λi O1 H2=>∃E2,Got X.K X.mg M O E H [] O1 E2 H2 [(some (.ref a),.v (.l ds))]/\SqL X.K (Hm (Mo M (O1.zip E2)) H2) a xs/\Reps X.K X.mg (Hm (Mo M (O1.zip E2)) H2) ds xs/\Fin X M O E H D (vq tg body (ds.drop i) E2))
    ⟨E1,g1,q1,q2,k⟩ (λi O' H' _ ⟨E2,_,q,_⟩=>zF.seq q) ?_ ?_
   ·rintro i x O1 H2 hx ⟨E2,g2,s2,r2,fin⟩
    obtain⟨d,hd,rx⟩:=r2.get hx;have ed:ds.drop i=d::ds.drop (i+1):=by
     obtain⟨hi,rfl⟩:=qG.mp hd;exact List.drop_eq_getElem_cons hi
    rw[ed]at fin;refine uP hg g2 (by rw[em];exact rx) fin λO3 E3 H3 g3 st fin3=>?_
    have sm:=st.same;rw[em,em]at sm;exact⟨E3,g3,sm.seq s2,r2.mono sm,fin3⟩
   ·rintro O1 H2 ⟨E2,g2,s2,r2,fin⟩
    rw[r2.length,drop_length]at fin;exact fin O1 H2 g2.dropAll
  |_=>rw[ed]at k;exact k.elim
def zJ(lo:Int):Nat->List D
 |0=>[]|n+1=>.int lo::zJ (lo+1) n
theorem yb(lo:Int):∀n,(zJ lo n).length=n
 |0=>rfl|n+1=>by simp[zJ,yb (lo+1) n]
theorem wZ:∀(n i:Nat) (lo:Int),i<n->(zJ lo n).drop i=.int (lo+i)::(zJ lo n).drop (i+1)
 |0,_,_,h=>by omega|n+1,0,lo,_=>by simp[zJ]
 |n+1,i+1,lo,h=>by
  have:=wZ n i (lo+1) (by omega);simp only[zJ,List.drop_succ_cons];rw[this];congr 2;omega
def sForR1(m:MA)(tg:MG)(body:MS):MS:=λE=>match m E with
 | .z=>.z| .exc x E1=>.exc x E1
 | .ok ([r],E1)=>match r.d with
  | .int j=>if -(2^62)<=j/\j<2^62 then vq tg body (zJ 0 j.toNat) E1 else .z|_=>.z
 |_=>.z
def Qo{tg:MG}{g:TG}{body:MS}{D:Ends}(hg:GOk X g tg){lo:Int}{n:Nat}{E1:zM}{H1:Hp}(g1:Got X.K X.mg M O E H [] O E1 H1 [])(fin:Fin X M O E H D (vq tg body (zJ lo n) E1)) :
  ∃W:Nat->Nat->St->Hp->Prop,(∃m,W 0 m O H1)/\∀i m O H,W i m O H ->
   ((Itr lo n).stop i H/\D.nx O H)\/((Itr lo n).go i H/\∃N:St->Hp->Prop,(∀O' H',N O' H'->∃m',m'<m/\W (i+1) m' O' H')/\∀x H',(Itr lo n).yld i H x H'->g x O H' λO2 H2=>tS X body {D with nx:=N,ct:=N,bk:=D.nx} O2 H2):=by
 refine zBx (λi O1 H2=>∃E2,Got X.K X.mg M O E H [] O1 E2 H2 []/\Fin X M O E H D (vq tg body ((zJ lo n).drop i) E2)) ⟨E1,g1,fin⟩ ?_ ?_
 ·rintro i O1 H2 hi ⟨E2,g2,fin⟩
  rw[wZ n i lo hi]at fin;exact uP hg g2 (by simp only[Rep]) fin λO3 E3 H3 g3 st fin3=>⟨E3,g3,fin3⟩
 ·rintro O1 H2 ⟨E2,g2,fin⟩
  rw[List.drop_of_length_le (by rw[yb];exact le_refl _)]at fin;exact fin O1 H2 g2
def zCc{m:MA}{tg:MG}{g:TG}{body:MS}{D:Ends}(hg:GOk X g tg)(h:tS X (sForR1 m tg body) D O H):tFor (iRng1 (tMA X m)) g (tS X body) D O H:=by
 obtain⟨M,E,hl,fr,k⟩:=zCb h;unfold sForR1 at k;refine JC (T0:=[]) hl fr ?_;cases ea:m E with
 |z=>rw[ea]at k;exact k|exc x E1=>rw[ea]at k;exact λH' g=>k O H' g
 |ok p =>
  obtain⟨rs,E1⟩:=p;rw[ea]at k
  match rs,k with
  | [r],k =>
   intro vs H1 hv g1;have rp:=Got.reps hv g1;dsimp only at k;cases ed:r.d with
   |int j =>
    rw[ed]at k;simp only[List.map,ed]at rp;obtain⟨v,rfl,h1⟩:=ZG rp;dsimp only at k;by_cases hc:-(2^62)<=j/\j<2^62
    ·rw[if_pos hc]at k
     exact⟨j,by rw[zL h1],hc.1,hc.2,Qo hg g1.dropAll k⟩
    ·rw[if_neg hc]at k;exact k.elim
   |_=>rw[ed]at k;exact k.elim
  | [],k=>exact k.elim|_::_::_,k=>exact k.elim
def sk_forL{tgt iter:Expr}{body:List Stmt}{m:ME}{g:TG}{tg:MG}{mb:MS}{pos:Pos}(hp:PassesOwn (model X.prog X.w) X.A X.env X.xe)(hc:X.calm=true)(hi:EOk X iter m)(hg:PG X tgt g)(ho:GOk X g tg)(hb:zBj X body mb)
  (hs:∀x,foldedSetIterable iter X.env x=pure x:=by intro _;rfl):SOk X (.For tgt iter body [] pos) (sForL m tg mb):=yy (zBw hp hc (zBt hi) hg hb hs) λD O H=>zEO ho
def zEP{tgt a:Expr}{body:List Stmt}{m:MA}{g:TG}{tg:MG}{mb:MS}{p cpos pos:Pos}(hp:PassesOwn (model X.prog X.w) X.A X.env X.xe)(hc:X.calm=true)(hgl:Gl X "range")(hm:X.mg "range"=none)(ha:AOk X [a] m)(hg:PG X tgt g)(ho:GOk X g tg)(hb:zBj X body mb)
  (hst:zc a=false:=by rfl) (hs:∀x,foldedSetIterable (.Call (.Name "range" p) [a] [] cpos) X.env x=pure x:=by intro _;rfl):SOk X (.For tgt (.Call (.Name "range" p) [a] [] cpos) body [] pos) (sForR1 m tg mb) :=
 yy (zBw hp hc (GV hgl hm ha (zBL hst)) hg hb hs) λD O H=>zCc ho
end
section
variable{X:Cx}{K:qH}{mg:Str->Option Value}{O:St}{M:Addr->Prop}{E:zM}{H H':Hp}{T0 Z T:Fz}
def zEQ{o:Option V}{s s':Slot}{ds:List D}(h:s.list?=some ds)(h':s'.list?=some ds):uH (o,s')=uH (o,s):=by
 cases s<;>simp[Slot.list?]at h<;>cases s'<;>simp[Slot.list?]at h'<;>(cases o with|none=>rfl|some v=>cases v<;>rfl)
def WA{o:Option V}{s s':Slot}{ds:List D}(h:s.list?=some ds)(h':s'.list?=some ds):yI ((o,s')::Z)=yI ((o,s)::Z):=by
 unfold yI;rw[filterMap_cons,filterMap_cons,zEQ h h']
def FR.lab{o:Option V}{s s':Slot}{ds:List D}(f:FR K mg M H ((o,s)::Z))(h:s.list?=some ds)(h':s'.list?=some ds):FR K mg M H ((o,s')::Z):=by
 have em:Mo M ((o,s')::Z)=Mo M ((o,s)::Z):=by unfold Mo;rw[WA h h']
 refine⟨λo' d q=>?_,λo' t es q e=>?_,by rw[WA h h'];exact f.nd,f.mal⟩
 ·rw[em]
  rcases mem_cons.mp q with q|q
  ·cases q;cases h'
  ·exact f.val o' d (qD _ q)
 ·rw[em]
  rcases mem_cons.mp q with q|q
  ·cases q
   rw[zCI h']at e;cases e;exact f.own o s _ qE (zCI h)
  ·exact f.own o' t es (qD _ q) e
def Gq{o:Option V}{s1 s2:Slot}{i:Nat}(hi:Z[i]?=some (o,s2)):((o,s1)::(T++Z)).Perm ((o,s2)::(T++Z.set i (o,s1))):=by
 have hlt:i<Z.length:=(qG.mp hi).1;have p1:Z.Perm ((o,s2)::Z.eraseIdx i):=by
  have:=zQ (o,s2) Z i hlt;rw[jx hi]at this;exact this
 have p2:(Z.set i (o,s1)).Perm ((o,s1)::Z.eraseIdx i):=zQ _ _ _ hlt;refine((p1.append_left T).cons _).trans ?_;refine List.Perm.trans ?_ ((p2.append_left T).cons _).symm;have a:(T++(o,s2)::Z.eraseIdx i).Perm ((o,s2)::(T++Z.eraseIdx i)):=perm_middle;have b:(T++(o,s1)::Z.eraseIdx i).Perm ((o,s1)::(T++Z.eraseIdx i)):=perm_middle;exact((a.cons _).trans (List.Perm.swap _ _ _)).trans (b.cons _).symm
inductive AR where
 |tmp (d:D)
 |ln (i:Nat)
 deriving Inhabited
def AR.slot:AR->Slot
 | .tmp d=>.v d| .ln _=>.e
def zz(vs:List V)(as:List AR):Fz:=(vs.map some).zip (as.map AR.slot)
def AV(O:St):List AR->List V->Prop
 | [],vs=>vs=[]| .tmp _::as,vs=>∃v r,vs=v::r/\AV O as r| .ln i::as,vs=>∃v r,vs=v::r/\O[i]?=some (some v)/\AV O as r
theorem AV.length:∀{as:List AR} {vs:List V},AV O as vs->vs.length=as.length
 | [],_,h=>by simp only[AV]at h;subst h;rfl| .tmp _::as,_,h=>by simp only[AV]at h;obtain⟨v,r,rfl,h⟩:=h;simp[AV.length h]| .ln i::as,_,h=>by simp only[AV]at h;obtain⟨v,r,rfl,_,h⟩:=h;simp[AV.length h]
def zK:List AR->zM->Out (List Slot×zM)
 | [],E=>.ok ([],E)
 | .tmp d::as,E=>match zK as E with
  | .ok (ss,E')=>.ok (.v d::ss,E')|_=>.z
 | .ln i::as,E=>match E[i]? with
  |none=>.z
  |some s=>match s.list? with
   |none=>.z
   |some ds=>match zK as (E.set i .e)with
    | .ok (ss,E')=>.ok (.par ds::ss,E')|_=>.z
def zH:List AR->List Slot->zM->zM->Out zM
 | [],[],_,E=>.ok E| .tmp _::as,_::ss,E0,E=>zH as ss E0 E
 | .ln i::as,s'::ss,E0,E=>match E0[i]? with
  |none=>.z
  |some s=>match s.list?,s'.list?,E[i]? with
   |some _,some ds,some .e=>zH as ss E0 (E.set i (s.put ds))|_,_,_=>.z
 |_,_,_,_=>.z
theorem ZI:∀(as:List AR) {vs:List V} {E E':zM} {ss:List Slot} {T:Fz},E.length=O.length->AV O as vs->zK as E=.ok (ss,E')->FR K mg M H (T++(zz vs as++O.zip E)) ->
  FR K mg M H (T++((vs.map some).zip ss++O.zip E'))/\(∀b,b∈yI (T++(zz vs as++O.zip E))↔b∈yI (T++((vs.map some).zip ss++O.zip E')))/\ss.length=as.length/\E'.length=O.length
 | [],vs,E,E',ss,T,hl,av,e,f=>by
  cases e;simp only[AV]at av;subst av;exact⟨f,λb=>Iff.rfl,rfl,hl⟩
 | .tmp d::as,vs,E,E',ss,T,hl,av,e,f=>by
  simp only[AV]at av;obtain⟨v,r,rfl,av⟩:=av;simp only[zK]at e;cases e1:zK as E with
  |z=>rw[e1]at e;cases e|exc _ _=>rw[e1]at e;cases e
  |ok p =>
   obtain⟨ss1,E1⟩:=p;rw[e1]at e;cases e;have f1:FR K mg M H ((T++[(some v,.v d)])++(zz r as++O.zip E)):=by
    rw[append_assoc];exact f
   obtain⟨g1,g2,g3,g4⟩:=ZI as hl av e1 f1;refine⟨by rw[append_assoc]at g1;exact g1,λb=>?_,by simp[g3],g4⟩;have:=g2 b;rw[append_assoc,append_assoc]at this;exact this
 | .ln i::as,vs,E,E',ss,T,hl,av,e,f=>by
  simp only[AV]at av;obtain⟨v,r,rfl,hv,av⟩:=av;simp only[zK]at e;cases e0:E[i]? with
  |none=>rw[e0]at e;cases e
  |some s =>
   rw[e0]at e;dsimp only at e;cases e2:s.list? with
   |none=>rw[e2]at e;cases e
   |some ds =>
    rw[e2]at e;dsimp only at e;cases e1:zK as (E.set i .e)with
    |z=>rw[e1]at e;cases e|exc _ _=>rw[e1]at e;cases e
    |ok p =>
     obtain⟨ss1,E1⟩:=p;rw[e1]at e;cases e;obtain⟨o,h1,h2⟩:=jn hl e0;have ho:o=some v:=by rw[hv]at h1;exact(qJ h1).symm
     subst ho;have ez:O.zip (E.set i .e)=(O.zip E).set i (some v,.e):=zU .e hv;have pA:(T++(((some v,Slot.e)::zz r as)++O.zip E)).Perm ((some v,s)::(T++(zz r as++O.zip (E.set i .e)))):=by
      rw[ez];have a:(T++(((some v,Slot.e)::zz r as)++O.zip E)).Perm ((some v,Slot.e)::((T++zz r as)++O.zip E)):=by
       rw[append_assoc];exact perm_middle
      refine a.trans ((Gq h2).trans ?_);rw[append_assoc]
     have f1:=(f.perm pA).lab e2 (s':=.par ds) rfl;have f2:FR K mg M H ((((some v,Slot.par ds))::T)++(zz r as++O.zip (E.set i .e))):=f1;obtain⟨g1,g2,g3,g4⟩:=ZI as (by simp[hl]) av e1 f2;have pB:(((some v,Slot.par ds)::T)++((r.map some).zip ss1++O.zip E')).Perm (T++(((some v,Slot.par ds)::(r.map some).zip ss1)++O.zip E')):=perm_middle.symm;refine⟨g1.perm pB,λb=>?_,by simp[g3],g4⟩;have x1:b∈yI (T++(((some v,Slot.e)::zz r as)++O.zip E))↔b∈yI ((some v,s)::(T++(zz r as++O.zip (E.set i .e)))):=(pA.filterMap uH).mem_iff;have x2:yI ((some v,Slot.par ds)::(T++(zz r as++O.zip (E.set i .e))))=yI ((some v,s)::(T++(zz r as++O.zip (E.set i .e)))):=WA e2 rfl;have x3:=g2 b;have x4:b∈yI (((some v,Slot.par ds)::T)++((r.map some).zip ss1++O.zip E'))↔b∈yI (T++(((some v,Slot.par ds)::(r.map some).zip ss1)++O.zip E')):=(pB.filterMap uH).mem_iff;refine x1.trans ?_;rw[<- x2];exact x3.trans x4
theorem uQ:∀(as:List AR) {vs:List V} {E0 E E':zM} {ss:List Slot} {T:Fz},E.length=O.length->AV O as vs->zH as ss E0 E=.ok E'->FR K mg M H (T++((vs.map some).zip ss++O.zip E)) ->
  FR K mg M H (T++O.zip E')/\(∀b,b∈yI (T++O.zip E')->b∈yI (T++((vs.map some).zip ss++O.zip E)))/\E'.length=O.length
 | [],vs,E0,E,E',ss,T,hl,av,e,f=>by
  cases ss with
  |cons _ _=>cases e
  |nil =>
   cases e;simp only[AV]at av;subst av;exact⟨f,λb q=>q,hl⟩
 | .tmp d::as,vs,E0,E,E',ss,T,hl,av,e,f=>by
  simp only[AV]at av;obtain⟨v,r,rfl,av⟩:=av;cases ss with
  |nil=>cases e
  |cons s ss =>
   simp only[zH]at e;have sub:(T++((r.map some).zip ss++O.zip E)).Sublist (T++(((some v,s)::(r.map some).zip ss)++O.zip E)):=(sublist_cons_self _ _).append_left _;obtain⟨g1,g2,g3⟩:=uQ as hl av e (f.sub sub);exact⟨g1,λb q=>zC sub b (g2 b q),g3⟩
 | .ln i::as,vs,E0,E,E',ss,T,hl,av,e,f=>by
  simp only[AV]at av;obtain⟨v,r,rfl,hv,av⟩:=av;cases ss with
  |nil=>cases e
  |cons s' ss =>
   simp only[zH]at e;cases e0:E0[i]? with
   |none=>rw[e0]at e;cases e
   |some s =>
    rw[e0]at e;dsimp only at e;cases e1:s.list? with
    |none=>rw[e1]at e;cases e
    |some ds0 =>
     cases e2:s'.list? with
     |none=>rw[e1,e2]at e;cases e
     |some ds =>
      cases e3:E[i]? with
      |none=>rw[e1,e2,e3]at e;cases e
      |some se =>
       rw[e1,e2,e3]at e;cases se with
       |e =>
        dsimp only at e;obtain⟨o,h1,h2⟩:=jn hl e3;have ho:o=some v:=by rw[hv]at h1;exact(qJ h1).symm
        subst ho;have ez:O.zip (E.set i (s.put ds))=(O.zip E).set i (some v,s.put ds):=zU _ hv;have hp:(s.put ds).list?=some ds:=(uO (p:=0) e1).2;have pA:(T++(((some v,s')::(r.map some).zip ss)++O.zip E)).Perm ((some v,s')::((T++(r.map some).zip ss)++O.zip E)):=by
         rw[append_assoc];exact perm_middle
        have f1:=(f.perm pA).lab e2 hp;have pB:((some v,s.put ds)::((T++(r.map some).zip ss)++O.zip E)).Perm ((some v,Slot.e)::((T++(r.map some).zip ss)++O.zip (E.set i (s.put ds)))):=by
         rw[ez];exact Gq h2
        have f2:=(f1.perm pB).tail;rw[append_assoc]at f2;obtain⟨g1,g2,g3⟩:=uQ as (by simp[hl]) av e f2;refine⟨g1,λb q=>?_,g3⟩;have q1:=g2 b q;rw[<- append_assoc]at q1;have q2:b∈yI ((some v,Slot.e)::((T++(r.map some).zip ss)++O.zip (E.set i (s.put ds)))):=zC (sublist_cons_self _ _) b q1;have q3:=zD pB.symm b q2;rw[WA e2 hp]at q3;exact zD pA.symm b q3
       |_=>cases e
def Qp:List AR->List Nat
 | []=>[]| .tmp _::as=>Qp as| .ln i::as=>i::Qp as
theorem uR:∀(as:List AR) {E E':zM} {ss:List Slot},zK as E=.ok (ss,E')->∀(k:Nat),k∉Qp as->E'[k]?=E[k]?
 | [],E,E',ss,e,k,h=>by cases e;rfl
 | .tmp d::as,E,E',ss,e,k,h=>by
  simp only[zK]at e;cases e1:zK as E with
  |z=>rw[e1]at e;cases e|exc _ _=>rw[e1]at e;cases e
  |ok p =>
   obtain⟨ss1,E1⟩:=p;rw[e1]at e;cases e;exact uR as e1 k h
 | .ln i::as,E,E',ss,e,k,h=>by
  simp only[zK]at e;cases e0:E[i]? with
  |none=>rw[e0]at e;cases e
  |some s =>
   rw[e0]at e;dsimp only at e;cases e2:s.list? with
   |none=>rw[e2]at e;cases e
   |some ds =>
    rw[e2]at e;dsimp only at e;cases e1:zK as (E.set i .e)with
    |z=>rw[e1]at e;cases e|exc _ _=>rw[e1]at e;cases e
    |ok p =>
     obtain⟨ss1,E1⟩:=p;rw[e1]at e;cases e;simp only[Qp,mem_cons,not_or]at h;rw[uR as e1 k h.2,getElem?_set_ne (λq=>h.1 q.symm)]
theorem WB:∀(as:List AR) {E0 E E':zM} {ss:List Slot},zH as ss E0 E=.ok E'->∀(k:Nat),E'[k]?=E[k]?\/∃(s:Slot) (ds:List D),E0[k]?=some s/\E'[k]?=some (s.put ds)
 | [],E0,E,E',ss,e,k=>by
  cases ss with
  |cons _ _=>cases e|nil=>cases e;exact .inl rfl
 | .tmp d::as,E0,E,E',ss,e,k=>by
  cases ss with
  |nil=>cases e|cons s ss=>exact WB as e k
 | .ln i::as,E0,E,E',ss,e,k=>by
  cases ss with
  |nil=>cases e
  |cons s' ss =>
   simp only[zH]at e;cases e0:E0[i]? with
   |none=>rw[e0]at e;cases e
   |some s =>
    rw[e0]at e;dsimp only at e;cases e1:s.list? with
    |none=>rw[e1]at e;cases e
    |some ds0 =>
     cases e2:s'.list? with
     |none=>rw[e1,e2]at e;cases e
     |some ds =>
      cases e3:E[i]? with
      |none=>rw[e1,e2,e3]at e;cases e
      |some se =>
       rw[e1,e2,e3]at e;cases se with
       |e =>
        dsimp only at e;rcases WB as e k with q|q
        ·by_cases ek:i=k
         ·subst ek
          have hlt:i<E.length:=(qG.mp e3).1;rw[getElem?_set_self hlt]at q;exact .inr ⟨s,ds,e0,q⟩
         ·rw[getElem?_set_ne ek]at q
          exact .inl q
        ·exact .inr q
       |_=>cases e
theorem Wi:∀(as:List AR) {E0 E E':zM} {ss:List Slot},zH as ss E0 E=.ok E'->∀(k:Nat),k∈Qp as->∃(s:Slot) (ds:List D),E0[k]?=some s/\E'[k]?=some (s.put ds)
 | [],E0,E,E',ss,e,k,h=>by cases h
 | .tmp d::as,E0,E,E',ss,e,k,h=>by
  cases ss with
  |nil=>cases e|cons s ss=>exact Wi as e k h
 | .ln i::as,E0,E,E',ss,e,k,h=>by
  cases ss with
  |nil=>cases e
  |cons s' ss =>
   simp only[zH]at e;cases e0:E0[i]? with
   |none=>rw[e0]at e;cases e
   |some s =>
    rw[e0]at e;dsimp only at e;cases e1:s.list? with
    |none=>rw[e1]at e;cases e
    |some ds0 =>
     cases e2:s'.list? with
     |none=>rw[e1,e2]at e;cases e
     |some ds =>
      cases e3:E[i]? with
      |none=>rw[e1,e2,e3]at e;cases e
      |some se =>
       rw[e1,e2,e3]at e;cases se with
       |e =>
        dsimp only at e;by_cases ek:i=k
        ·subst ek
         rcases WB as e i with q|q
         ·have hlt:i<E.length:=(qG.mp e3).1
          rw[getElem?_set_self hlt]at q;exact⟨s,ds,e0,q⟩
         ·exact q
        ·simp only[Qp,mem_cons]at h
         rcases h with h|h
         ·exact absurd h.symm ek
         ·exact Wi as e k h
       |_=>cases e
def zCd{as:List AR}{E1 E2 E3:zM}{ss outs:List Slot}(h1:zK as E1=.ok (ss,E2))(h2:zH as outs E1 E2=.ok E3):PKp O E1 O E3:=λk ds e=>by
 refine⟨?_,rfl⟩;by_cases hk:k∈Qp as
 ·obtain⟨s,es,q1,q2⟩:=Wi as h2 k hk
  rw[e]at q1;cases q1;exact⟨es,q2⟩
 ·rcases WB as h2 k with q|⟨s,es,q1,q2⟩
  ·rw[q,uR as h1 k hk];exact⟨ds,e⟩
  ·rw[e]at q1;cases q1
   exact⟨es,q2⟩
abbrev MF:=List Slot->Out (R×List Slot)
def spM(K:qH)(mg:Str->Option Value)(n:Nat)(F:MF):Sp:=λvs H Q XQ=>vs.length=n/\∃(M:Addr->Prop) (ss:List Slot),ss.length=vs.length/\FR K mg M H ((vs.map some).zip ss)/\match F ss with
 | .z=>False| .ok (r,outs)=>∀v H',outs.length=vs.length->FR K mg M H' ((some v,r.slot)::(vs.map some).zip outs)->Step M H ((vs.map some).zip ss) H' ((some v,r.slot)::(vs.map some).zip outs)->Q v H'| .exc x _=>∀C od H',mg x.cls=some (.ref C)->Fs od H' x.cls x.vs->FR K mg M H' []->Step M H ((vs.map some).zip ss) H' []->XQ (.ref C) od H'
inductive Arg where
 |ev (m:ME)
 |lend (i:Nat)
def yB:List Arg->zM->Out (List AR×zM)
 | [],E=>.ok ([],E)
 | .ev m::as,E=>match m E with
  | .z=>.z| .exc x E1=>.exc x E1
  | .ok (r,E1)=>match yB as E1 with
   | .ok (ars,E2)=>.ok (.tmp r.d::ars,E2)| .exc x E2=>.exc x E2| .z=>.z
 | .lend i::as,E=>if jX E[i]?=true then .z else match yB as E with
  | .ok (ars,E2)=>.ok (.ln i::ars,E2)| .exc x E2=>.exc x E2| .z=>.z
def tArgs(X:Cx)(as:List Arg):TA:=λO H Q=>∃M E,E.length=O.length/\FR X.K X.mg M H (O.zip E)/\match yB as E with
 | .z=>False| .ok (ars,E')=>∀vs H',AV O ars vs->Got X.K X.mg M O E H [] O E' H' (zz vs ars)->Q vs H'| .exc x E'=>∀H',Got X.K X.mg M O E H [] O E' H' []->XE X O H' x
abbrev zFm(X:Cx)(es:List Expr)(as:List Arg):Prop:=PA X es (tArgs X as)
def Wj{as:List Arg}{Q:List V->Hp->Prop}(hl:E.length=O.length)(h:FR X.K X.mg M H (T0++O.zip E))
  (k:match yB as E with | .z=>False | .ok (ars,E')=>∀vs H',AV O ars vs->Got X.K X.mg M O E H T0 O E' H' (zz vs ars)->Q vs H' | .exc x E'=>∀H',Got X.K X.mg M O E H T0 O E' H' []->XE X O H' x):tArgs X as O H Q:=by
 refine⟨Mo M T0,E,hl,h.inner,?_⟩;cases e:yB as E with
 |z=>rw[e]at k;exact k|ok a=>rw[e]at k;exact λvs H' av g=>k vs H' av (g.outer h)|exc x E'=>rw[e]at k;exact λH' g=>k H' (g.outer h)
def ga_nil:zFm X [] []:=Gg zB4 λO H Q ⟨M,E,hl,fr,k⟩=>k [] H (by simp only[AV]) (Got.refl (T0:=[]) hl fr)
def ga_ev{e:Expr}{es:List Expr}{m:ME}{as:List Arg}(he:EOk X e m)(hr:zFm X es as)(hs:zc e=false:=by rfl):zFm X (e::es) (.ev m::as):=Gg (WV he hr (yC hs)) λO H Q ⟨M,E,hl,fr,k⟩=>by
 simp only[yB]at k;refine zx (T0:=[]) hl fr ?_;cases ea:m E with
 |z=>rw[ea]at k;exact k|exc x E1=>rw[ea]at k;exact k
 |ok p =>
  obtain⟨r1,E1⟩:=p;rw[ea]at k;intro x H1 g0;have g1:Got X.K X.mg M O E H [] O E1 H1 [(some x,.v r1.d)]:=⟨g0.len,g0.fr.frz,g0.st.frz,g0.pk⟩;refine Wj (T0:=[(some x,.v r1.d)]) g1.len g1.fr ?_;dsimp only at k;cases eb:yB as E1 with
  |z=>rw[eb]at k;exact k|exc x E2=>rw[eb]at k;exact λH' g=>k H' (g1.trans' g).dropAll
  |ok p =>
   obtain⟨ars,E2⟩:=p;rw[eb]at k;intro vs H2 av g2;refine k (x::vs) H2 (by simp only[AV];exact⟨x,vs,rfl,av⟩) ?_;exact(g1.trans' g2).perm (perm_append_comm)
def ga_lend{x:Str}{p:Pos}{es:List Expr}{i:Nat}{as:List Arg}(hv:PE X (.Name x p) (Qd i))(hr:zFm X es as)  : zFm X (.Name x p::es) (.lend i::as):=Gg (WV hv hr (yC rfl)) λO H Q ⟨M,E,hl,fr,k⟩=>by
 simp only[yB]at k;cases em:jX E[i]? with
 |true=>rw[em]at k;exact k.elim
 |false =>
  rw[em]at k;simp only[Bool.false_eq_true,if_false]at k;obtain⟨s,hs1,hs2⟩:=ZH em;obtain⟨v,hv⟩:=vo hl fr hs1 hs2;refine⟨v,hv,?_⟩;refine Wj (T0:=[]) hl fr ?_;cases eb:yB as E with
  |z=>rw[eb]at k;exact k|exc x E2=>rw[eb]at k;exact k
  |ok p =>
   obtain⟨ars,E2⟩:=p;rw[eb]at k;intro vs H2 av g2;refine k (v::vs) H2 (by simp only[AV];exact⟨v,vs,rfl,hv,av⟩) ?_;have em2:Mo M ((some v,Slot.e)::(zz vs ars++([]++O.zip E2)))=Mo M (zz vs ars++([]++O.zip E2)):=Gf _ _ _;refine⟨g2.len,⟨λo d q=>?_,λo t ds q e=>?_,?_,g2.fr.mal⟩,⟨?_,g2.st.keep⟩,g2.pk⟩
   ·show ∃v',_/\Rep X.K X.mg (Hm (Mo M ((some v,Slot.e)::(zz vs ars++([]++O.zip E2)))) H2) d v'
    rw[em2];rcases mem_cons.mp q with q|q
    ·cases q
    ·exact g2.fr.val o d q
   ·show ∃a ho,_/\_/\_/\CRep X.K X.mg (Hm (Mo M ((some v,Slot.e)::(zz vs ars++([]++O.zip E2)))) H2) a ds ho
    rw[em2];rcases mem_cons.mp q with q|q
    ·cases q;cases e
    ·exact g2.fr.own o t ds q e
   ·show(yI ((some v,Slot.e)::(zz vs ars++([]++O.zip E2)))).Nodup
    rw[zw];exact g2.fr.nd
   ·show ZA _ (Hm (Mo M ((some v,Slot.e)::(zz vs ars++([]++O.zip E2)))) H2)
    rw[em2];exact g2.st.same
def Gr:List AR->Bool
 | []=>true| .tmp _::as=>Gr as| .ln _::_=>false
theorem vt:∀{as:List AR} {E E':zM} {ss:List Slot},Gr as=true->zK as E=.ok (ss,E')->E'=E
 | [],E,E',ss,_,e=>by cases e;rfl
 | .tmp d::as,E,E',ss,h,e=>by
  simp only[zK]at e;cases q:zK as E with
  |z=>rw[q]at e;cases e|exc _ _=>rw[q]at e;cases e|ok p=>obtain⟨s1,E1⟩:=p;rw[q]at e;cases e;exact vt (as:=as) h q
 | .ln i::as,E,E',ss,h,e=>by cases h
def wO(F:MF)(as:List Arg):ME:=λE=>match yB as E with
 | .z=>.z| .exc x E1=>.exc x E1
 | .ok (ars,E1)=>match zK ars E1 with
  | .ok (ss,E2)=>match F ss with
   | .ok (r,outs)=>match zH ars outs E1 E2 with
    | .ok E3=>.ok (r,E3)|_=>.z
   | .exc x _=>if Gr ars=true then .exc ⟨x.cls,false,x.vs⟩ E1 else .z| .z=>.z
  |_=>.z
def zER{F:MF}{n:Nat}{ars:List AR}{E1 E2 E3:zM}{ss outs:List Slot}{r:R}{vs:List V}{H1:Hp}{Q:VK}{XQ:XK}(hn:ars.length=n)(e1:zK ars E1=.ok (ss,E2))(e2:F ss=.ok (r,outs))(e3:zH ars outs E1 E2=.ok E3)
  (av:AV O ars vs) (g:Got K mg M O E H [] O E1 H1 (zz vs ars)) (k:∀v H',Got K mg M O E H [] O E3 H' [(some v,r.slot)]->Q v H'):spM K mg n F vs H1 Q XQ:=by
 obtain⟨f1,o1,l1,l2⟩:=ZI (T:=[]) ars g.len av e1 g.fr;have f1':FR K mg M H1 (O.zip E2++(vs.map some).zip ss):=FR.perm (T:=O.zip E2++(vs.map some).zip ss) (Z:=(vs.map some).zip ss++O.zip E2) f1 perm_append_comm;have hlen:=av.length;refine⟨hlen.trans hn,Mo M (O.zip E2),ss,l1.trans hlen.symm,f1'.inner,?_⟩;rw[e2];intro v H' ol f2 s2;have f3:=FR.outer f1' f2 s2;have s3:=Step.outer s2;have p:(O.zip E2++((some v,r.slot)::(vs.map some).zip outs)).Perm ([(some v,r.slot)]++((vs.map some).zip outs++O.zip E2)):=by
  refine perm_append_comm.trans ?_;exact List.Perm.refl _
 obtain⟨f4,o4,l4⟩:=uQ ars l2 av e3 (f3.perm p);refine k v H' ⟨l4,f4,?_,g.pk.trans (zCd e1 e3)⟩;have st1:Step M H (O.zip E) H1 (O.zip E2++(vs.map some).zip ss):=g.st.weak λb hb=>(o1 b).mpr (zD (T:=O.zip E2++(vs.map some).zip ss) (Z:=(vs.map some).zip ss++O.zip E2) perm_append_comm b hb)
 have st2:=st1.trans s3;exact st2.weak λb hb=>zD p.symm b (o4 b hb)
def zES{F:MF}{n:Nat}{ars:List AR}{E1 E2:zM}{ss outs:List Slot}{x:Exn}{vs:List V}{H1:Hp}{Q:VK}{XQ:XK}(hn:ars.length=n)(hl:Gr ars=true)(e1:zK ars E1=.ok (ss,E2))(e2:F ss=.exc x outs)
  (av:AV O ars vs) (g:Got K mg M O E H [] O E1 H1 (zz vs ars)) (k:∀C od H',mg x.cls=some (.ref C)->Fs od H' x.cls x.vs->Got K mg M O E H [] O E1 H' []->XQ (.ref C) od H'):spM K mg n F vs H1 Q XQ:=by
 obtain⟨f1,o1,l1,l2⟩:=ZI (T:=[]) ars g.len av e1 g.fr;have f1':FR K mg M H1 (O.zip E2++(vs.map some).zip ss):=FR.perm (T:=O.zip E2++(vs.map some).zip ss) (Z:=(vs.map some).zip ss++O.zip E2) f1 perm_append_comm;have hlen:=av.length;refine⟨hlen.trans hn,Mo M (O.zip E2),ss,l1.trans hlen.symm,f1'.inner,?_⟩;rw[e2];intro C od H' hm hf f2 s2;have f3:=FR.outer f1' f2 s2;have s3:=Step.outer s2;rw[append_nil]at f3 s3;have st1:Step M H (O.zip E) H1 (O.zip E2++(vs.map some).zip ss):=g.st.weak λb hb=>(o1 b).mpr (zD (T:=O.zip E2++(vs.map some).zip ss) (Z:=(vs.map some).zip ss++O.zip E2) perm_append_comm b hb)
 obtain rfl:=vt hl e1;exact k C od H' hm hf ⟨g.len,f3,st1.trans s3,g.pk⟩
theorem jY:∀(as:List Arg) {E E':zM} {ars:List AR},yB as E=.ok (ars,E')->ars.length=as.length
 | [],E,E',ars,e=>by cases e;rfl
 | .ev m::as,E,E',ars,e=>by
  simp only[yB]at e;cases ea:m E with
  |z=>rw[ea]at e;cases e|exc _ _=>rw[ea]at e;cases e
  |ok p =>
   obtain⟨r,E1⟩:=p;rw[ea]at e;dsimp only at e;cases eb:yB as E1 with
   |z=>rw[eb]at e;cases e|exc _ _=>rw[eb]at e;cases e|ok p=>obtain⟨a,b⟩:=p;rw[eb]at e;cases e;simp[jY as eb]
 | .lend i::as,E,E',ars,e=>by
  simp only[yB]at e;split at e
  ·cases e
  ·cases eb:yB as E with
   |z=>rw[eb]at e;cases e|exc _ _=>rw[eb]at e;cases e|ok p=>obtain⟨a,b⟩:=p;rw[eb]at e;cases e;simp[jY as eb]
def zET{F:MF}{n:Nat}{as:List Arg}{Q:VK}(hn:as.length=n)(h:tM X (wO F as) O H Q):tArgs X as O H λvs H1=>spM X.K X.mg n F vs H1 Q (EX X O):=by
 obtain⟨M,E,hl,fr,k⟩:=h;unfold wO at k;refine Wj (T0:=[]) hl fr ?_;cases ea:yB as E with
 |z=>rw[ea]at k;exact k|exc x E1=>rw[ea]at k;exact k
 |ok p =>
  obtain⟨ars,E1⟩:=p;rw[ea]at k;intro vs H1 av g;dsimp only at k;cases e1:zK ars E1 with
  |z=>rw[e1]at k;exact k.elim|exc _ _=>rw[e1]at k;exact k.elim
  |ok p =>
   obtain⟨ss,E2⟩:=p;rw[e1]at k;dsimp only at k;cases e2:F ss with
   |z=>rw[e2]at k;exact k.elim
   |exc x o =>
    rw[e2]at k;dsimp only at k;cases hl:Gr ars with
    |false=>rw[hl]at k;exact k.elim
    |true =>
     rw[hl]at k;exact zES ((jY as ea).trans hn) hl e1 e2 av g λC od H' hm hf g'=>⟨⟨x.cls,false,x.vs⟩,C,rfl,hm,rfl,hf,k H' g'⟩
   |ok p =>
    obtain⟨r,outs⟩:=p;rw[e2]at k;dsimp only at k;cases e3:zH ars outs E1 E2 with
    |z=>rw[e3]at k;exact k.elim|exc _ _=>rw[e3]at k;exact k.elim
    |ok E3 =>
     rw[e3]at k;exact zER ((jY as ea).trans hn) e1 e2 e3 av g k
inductive Mask:Fz->Fz->Prop
 |nil (Z:Fz):Mask Z []
 |keep {z:Option V×Slot} {Z W:Fz}:Mask Z W->Mask (z::Z) (z::W)
 |skip {z:Option V×Slot} {Z W:Fz}:Mask Z W->Mask (z::Z) W
 |extra {o:Option V} {Z W:Fz}:Mask Z W->Mask Z ((o,.e)::W)
def Mask.emq{z:Option V×Slot}{o:Option V}{Z W:Fz}(h:Mask Z W):Mask (z::Z) ((o,.e)::W):=.skip (.extra h)
theorem Mask.sub:∀{Z W:Fz},Mask Z W->(yI W).Sublist (yI Z)
 |_,_,.nil Z=>by simp[yI]
 |_,_,.keep (z:=z) (Z:=Z) (W:=W) h=>by
  have e:∀W:Fz,yI (z::W)=yI [z]++yI W:=λW=>zT [z] W
  rw[e Z,e W];exact h.sub.append_left _
 |_,_,.skip (z:=z) (Z:=Z) (W:=W) h=>by
  have e:∀W:Fz,yI (z::W)=yI [z]++yI W:=λW=>zT [z] W
  rw[e Z];exact h.sub.trans (sublist_append_right _ _)
 |_,_,.extra (Z:=Z) (W:=W) h=>by
  rw[zw];exact h.sub
theorem Mask.mem:∀{Z W:Fz},Mask Z W->∀o s,s≠Slot.e->(o,s)∈W->(o,s)∈Z
 |_,_,.nil Z,o,s,hs,h=>by cases h
 |_,_,.keep h,o,s,hs,q=>by
  rcases mem_cons.mp q with q|q
  ·subst q;exact qE
  ·exact qD _ (h.mem o s hs q)
 |_,_,.skip h,o,s,hs,q=>qD _ (h.mem o s hs q)
 |_,_,.extra h,o,s,hs,q=>by
  rcases mem_cons.mp q with q|q
  ·cases q;exact absurd rfl hs
  ·exact h.mem o s hs q
def FR.mask{Z W:Fz}(f:FR K mg M H Z)(h:Mask Z W):FR K mg M H W where
 val:=λo d q=>by
  obtain⟨v,e,r⟩:=f.val o d (h.mem o _ (by intro z;cases z) q);exact⟨v,e,r.mono (jP (Jn λb hb=>h.sub.subset hb))⟩
 own:=λo s ds q e=>by
  obtain⟨a,xs,e1,e2,e3,r⟩:=f.own o s ds (h.mem o s (by intro z;subst z;cases e) q) e;exact⟨a,xs,e1,e2,e3,r.mono (jP (Jn λb hb=>h.sub.subset hb))⟩
 nd:=f.nd.sublist h.sub
 mal:=f.mal
def zk:List Slot->zM->List Slot
 | [],_=>[]| .par _::ss,s::E=>s::zk ss E|_::ss,_::E=>.e::zk ss E|_::ss,[]=>.e::zk ss []
def fnM(N:Nat)(body:MS):MF:=λss=>match body (ss++replicate (N-ss.length) .e)with
 | .ok (.ret r,E')=>.ok (r,zk ss E')| .ok (.nx,E')=>.ok (.v .non,zk ss E')| .exc x E'=>.exc x (zk ss E')|_=>.z
theorem zj:∀(ss:List Slot) (E:zM),(zk ss E).length=ss.length
 | [],_=>rfl| .par _::ss,s::E=>by simp[zk,zj ss E]| .e::ss,s::E=>by simp[zk,zj ss E]| .v _::ss,s::E=>by simp[zk,zj ss E]| .own _::ss,s::E=>by simp[zk,zj ss E]| .dct _ _::ss,s::E=>by simp[zk,zj ss E]| .par _::ss,[]=>by simp[zk,zj ss []]| .e::ss,[]=>by simp[zk,zj ss []]| .v _::ss,[]=>by simp[zk,zj ss []]| .own _::ss,[]=>by simp[zk,zj ss []]| .dct _ _::ss,[]=>by simp[zk,zj ss []]
theorem Yi:∀(ss:List Slot) (vs:List (Option V)) (O:St) (E:zM),E.length=O.length->vs.length=ss.length->(∀(i:Nat) ds,ss[i]?=some (.par ds)->O[i]?=vs[i]?)->Mask (O.zip E) (vs.zip (zk ss E))
 | [],vs,O,E,_,_,_=>by
  simp only[zk,List.zip_nil_right];exact .nil _
 |s::ss,[],O,E,_,h,_=>by simp at h|s::ss,v::vs,[],y::E,h,_,_=>by simp at h|s::ss,v::vs,x::O,[],h,_,_=>by simp at h
 |s::ss,v::vs,[],[],h1,h2,h4=>by
  have ih:=Yi ss vs [] [] rfl (by simpa using h2) λi ds e=>by
   have:=h4 (i+1) ds (by simpa using e);simpa using this
  cases s<;>exact .extra ih
 |s::ss,v::vs,x::O,y::E,h1,h2,h4=>by
  have ih:=Yi ss vs O E (by simpa using h1) (by simpa using h2) λi ds e=>by
   have:=h4 (i+1) ds (by simpa using e);simpa using this
  cases s with
  |par ds =>
   have e:=h4 0 ds rfl;simp at e;subst e;simp only[zk,zip_cons_cons];exact .keep ih
  |e=>simp only[zk,zip_cons_cons];exact .emq ih|v d=>simp only[zk,zip_cons_cons];exact .emq ih|own ds=>simp only[zk,zip_cons_cons];exact .emq ih|dct ks vs=>simp only[zk,zip_cons_cons];exact .emq ih
theorem uS:∀n:Nat,(replicate n (none:Option V)).zip (replicate n Slot.e)=replicate n (none,Slot.e)
 |0=>rfl|n+1=>by simp[replicate_succ,uS n]
def uT(n:Nat):yI (replicate n ((none:Option V),Slot.e))=[]:=by
 induction n with
 |zero=>rfl|succ n ih=>rw[replicate_succ,zw,ih]
def FR.emps(f:FR K mg M H Z)(n:Nat):FR K mg M H (Z++replicate n (none,.e)):=by
 have eo:yI (Z++replicate n (none,Slot.e))=yI Z:=by rw[zT,uT,append_nil]
 have em:Mo M (Z++replicate n (none,Slot.e))=Mo M Z:=by unfold Mo;rw[eo]
 refine⟨λo d q=>?_,λo s ds q e=>?_,by rw[eo];exact f.nd,f.mal⟩
 ·rw[em]
  rcases mem_append.mp q with q|q
  ·exact f.val o d q
  ·have:=List.eq_of_mem_replicate q;cases this
 ·rw[em]
  rcases mem_append.mp q with q|q
  ·exact f.own o s ds q e
  ·have:=List.eq_of_mem_replicate q;cases this;cases e
def body_ok{N:List Str}{n:Nat}{body:MS}{vs:List V}{Q:VK}{XQ:XK}(hx:∀x O' H',(∀C od,X.mg x.cls=some (.ref C)->Fs od H' x.cls x.vs->XQ (.ref C) od H')->XE X O' H' x)(h:spM X.K X.mg n (fnM N.length body) vs H Q XQ):tS X body {nx:=λ_ H'=>Q .non H',rt:=Q} (L2.w8 N vs) H:=by
 obtain⟨hv,M,ss,hl,f,k⟩:=h;have e0:(L2.w8 N vs).zip (ss++replicate (N.length-ss.length) Slot.e)=(vs.map some).zip ss++replicate (N.length-ss.length) (none,.e):=by
  unfold L2.w8;rw[zip_append (by simp[hl]),hl,uS]
 have hE:(ss++replicate (N.length-ss.length) Slot.e).length=(L2.w8 N vs).length:=by
  unfold L2.w8;simp[hl]
 have f0:FR X.K X.mg M H ((L2.w8 N vs).zip (ss++replicate (N.length-ss.length) Slot.e)):=by rw[e0];exact f.emps _
 have eo:∀b,b∈yI ((L2.w8 N vs).zip (ss++replicate (N.length-ss.length) Slot.e))->b∈yI ((vs.map some).zip ss):=λb hb=>by
  rw[e0,zT,uT,append_nil]at hb;exact hb
 refine⟨M,ss++replicate (N.length-ss.length) Slot.e,hE,f0,?_⟩;unfold fnM at k;have fin:∀{O':St} {E':zM} {H':Hp} {v:V} {r:R},Got X.K X.mg M (L2.w8 N vs) (ss++replicate (N.length-ss.length) Slot.e) H [] O' E' H' [(some v,r.slot)] ->
   (∀v H',(zk ss E').length=vs.length->FR X.K X.mg M H' ((some v,r.slot)::(vs.map some).zip (zk ss E'))->Step M H ((vs.map some).zip ss) H' ((some v,r.slot)::(vs.map some).zip (zk ss E'))->Q v H')->Q v H':=λ{O' E' H' v r} g kk=>by
  have mk:Mask (O'.zip E') ((vs.map some).zip (zk ss E')):=Yi ss _ O' E' g.len (by simp[hl]) λi ds e=>by
   have hi:i<ss.length:=(qG.mp e).1;have e1:(ss++replicate (N.length-ss.length) Slot.e)[i]?=some (.par ds):=by rw[getElem?_append_left hi];exact e
   have:=(g.pk i ds e1).2;rw[this];unfold L2.w8;rw[getElem?_append_left (by simp;omega)]
  refine kk v H' (by rw[zj,hl]) (g.fr.mask (.keep mk)) ?_;exact(g.st.weak λb hb=>(Mask.keep mk).sub.subset hb).left eo
 cases eb:body (ss++replicate (N.length-ss.length) Slot.e)with
 |z=>rw[eb]at k;exact k
 |exc x E' =>
  rw[eb]at k;intro O' H' g;refine hx x O' H' λC od hm hf=>k C od H' hm hf (g.fr.sub (List.nil_sublist _)) ?_
  exact(g.st.weak λb hb=>by cases hb).left eo
 |ok p =>
  obtain⟨fl,E'⟩:=p;rw[eb]at k;cases fl with
  |bk=>exact k.elim|ct=>exact k.elim|ret r=>exact λv O' H' g=>fin g k|nx=>exact λO' H' g=>fin (r:=.v .non) (g.flat (d:=.non) rfl) k
end
section
variable{P:Program}{w:World}{K:qH}{mg:Str->Option Value}{base:Heap}
def fn_ok{c:Bool}{x qual:Str}{st:Stmt}{f:Addr}{fd:FuncData}{N ps:List Str}{k:Nat}{body:MS}(F:Fun K x qual st f fd)(S:FnScope N ps (zn st))
  (hb:∀(cdv:Value) (A:Around) (outer:List Env) (s:Shared) (H:Hp) (E:XK),(c=true->A.handled=none)->RoomN k (A.deeper (PyProof.Rows.envOfC qual (zn st) s.heap.objs.size f cdv)) ->
   zBj (cxN c P w K mg base N qual (zn st) f cdv A outer s H E) (jO st) body):FnOkN c P w K mg base (k+1) f fd ps (spM K mg ps.length (fnM N.length body)):=by
 obtain⟨oc,od,kV,doc,pm,an,cdv,ct,osl,rfl,lk,hcd⟩:=F.ex;exact fn_ofN lk hcd S (λvs H Q E h=>h.1) λA outer s H vs Q E hd hr h=>⟨_,hb cdv A outer s H E hd hr,body_ok (X:=cxN c P w K mg base N qual (zn st) f cdv A outer s H E) (λx O' H' hE=>zEA hE) h⟩
end
section
variable{X:Cx}{k:Nat}{f:Addr}{fd:FuncData}{ps:List Str}{F:MF}{x:Str}{p pos:Pos}{e:Expr}{es:List Expr}{as:List Arg}
def ok_call{c:Bool}(G:FnOkN c X.prog X.w X.K X.mg X.base k f fd ps (spM X.K X.mg ps.length F))(hd:c=true->X.A.handled=none)(hr:RoomN k X.A)(hg:Gl X x)(hm:X.mg x=some (.ref f))(hk:keepIn X.K (.ref f)=true)(hb:Z3 X.K fd ps [])(ha:zFm X (e::es) as)(hn:as.length=ps.length:=by rfl)
  (hdb:(x==("__debug__":Str))=false:=by decide) (he:zc e=false:=by rfl) (hpl:jo es=true:=by rfl):EOk X (.Call (.Name x p) (e::es) [] pos) (wO F as) :=
 zr (zD9 G hd hr hg hm hk hb ha hdb (yC he) (Ye hpl)) λO H Q=>zET hn
end
end DV
namespace L2
open PySem PySem.Spec PyProof.Rows
def Inv.big{X:Cx}{pins:List (Addr×Obj)}{O:St}{H:Hp}{s:Shared}(I:Inv X pins O H s):sysModules<s.heap.objs.size:=by
 have h:mainGlobals<s.heap.objs.size:=(I.mod.glob.keeps I.bk).lt;exact lt_trans (by decide) h
def cxB(X:Cx)(N:List Str)(scope:Scope)(cl:List (Str×Addr))(C:Addr)(ex:List Addr)(s:Shared)(H:Hp):Cx :=
 {X with N:=N,s₀:=s,H₀:=H,env:=compEnvC scope cl C X.env,outer:=X.stack,ex:=ex,fn:=λy=>scope.names.lookup y==some NameKind.cell,pn:=[]}
def J7{prog:Program}{w:World}{A:Around}{R:Result->Shared->Prop}{s:Shared}{elt target iter:Expr}{ifs:List Expr}{scope:Scope}{pos:Pos}{it acc:Value}{env:Env}(I:Nat->Shared->Prop)
  (turn:∀n s,I n s->wpAny (model prog w) A (pyNext it) (λr s₁=>match r with
   |none=>R (.ok .next) s₁
   |some v=>wpAny (model prog w) A (letOwnedTupleGo target it v) (λ_ s₁=>wpAny (model prog w) A (assign target env v) (λ_ s₂ =>
     wpAny (model prog w) A (forIn ifs true λc r=>if r=true then do let ok <- isTrue c env (eval c env);pure (ForInStep.yield ok)else pure (ForInStep.yield r)) (λok s₃ =>
      if ok=true then wpAny (model prog w) A (eval elt env) (λx s₄ =>
       wpAny (model prog w) A (call (.builtin "list.append") [acc,x]) (λ_ s₅=>∃m,m<n/\I m s₅) (notedBy (model prog w) A env λe s'=>R (.error e) s') s₄) (notedBy (model prog w) A env λe s'=>R (.error e) s') s₃
      else ∃m,m<n/\I m s₃) (notedBy (model prog w) A env λe s'=>R (.error e) s') s₂) (notedBy (model prog w) A env λe s'=>R (.error e) s') s₁) (notedBy (model prog w) A env λe s'=>R (.error e) s') s₁) (notedBy (model prog w) A env λe s'=>R (.error e) s') s)
  (n:Nat) (h:I n s) :
  codeAny (model prog w) A (.compLoop (.ListComp elt [⟨target,iter,ifs,0⟩] scope pos) 0 it acc env) R s:=by
 refine codeAny_loop rfl I (λn s hI=>?_) n h;show wpAny _ A ((compTurn (.ListComp elt [⟨target,iter,ifs,0⟩] scope pos) 0 it acc env).onRaise (λx=>do noteFrame x env;theTreesLotGoes x)) _ _ s;refine wpAny_noted ?_;rw[compTurn_list];refine qB (wpAny_standAt (qB (wpAny_mono (turn n s hI) (λr s₁ h₁=>?_) λ_ _ h'=>h')));cases r with
 |none=>exact qC h₁
 |some v =>
  refine qB (wpAny_mono h₁ (λ_ s₁' h₁'=>?_) λ_ _ h'=>h');refine qB (wpAny_mono h₁' (λ_ s₂ h₂=>qB (wpAny_mono h₂ (λok s₃ h₃=>?_) λ_ _ h'=>h')) λ_ _ h'=>h');cases ok with
  |false=>exact qC ⟨rfl,h₃⟩
  |true =>
   exact qB (qB (wpAny_mono h₃ (λx s₄ h₄=>qB (wpAny_mono h₄ (λ_ s₅ h₅=>qC (qC ⟨rfl,h₅⟩)) λ_ _ h'=>h')) λ_ _ h'=>h'))
def zCe(X:Cx)(ifs:List Expr)(t:TT):Prop:=∀(pins:List (Addr×Obj)) (s:Shared) (O:St) (H:Hp) (Q:Bool->Hp->Prop),Inv X pins O H s->t O H Q ->
 wpAny (model X.prog X.w) X.A (forIn ifs true λc r=>if r=true then do let ok <- isTrue c X.env (eval c X.env);pure (ForInStep.yield ok)else pure (ForInStep.yield r)) (TP X pins O Q) X.xe s
def pif_nil{X:Cx}:zCe X [] (λO H Q=>Q true H):=λpins s O H Q I h=>wpAny_tests_nil ⟨H,I,h⟩
def pif_one{X:Cx}{c:Expr}{t:TT}(h:PT X c t):zCe X [c] t:=λpins s O H Q I q=>wpAny_tests_one (h pins s O H Q I q)
def zZ(nl:Nat)(caps:List Nat)(O:St):St:=replicate nl none++caps.map λj=>(O[j]?).getD none
def zEU(nl:Nat)(caps:List Nat)(wi:TI)(g:TG)(tt:TT)(te:TE):TE:=λO H Q=>wi O H λJ H1=>∀D,H1 D=none->∃W:Nat->Nat->St->Hp->Prop,(∃m,W 0 m (zZ nl caps O) (upd H1 D (.l [])))/\∀i m O' H',W i m O' H' ->
 (J.stop i H'/\Q (.ref D) H')\/(J.go i H'/\∃Nx:St->Hp->Prop,(∀O'' H'',Nx O'' H''->∃m',m'<m/\W (i+1) m' O'' H'')/\∀x H'',J.yld i H' x H''->g x O' H'' λO2 H2 =>
  tt O2 H2 λb H3=>if b=true then te O2 H3 λy H4=>∃ys,H4 D=some (.l ys)/\ys.length<sizeLine/\Nx O2 (upd H4 D (.l (ys++[y])))else Nx O2 H3)
theorem wA{env:Env}:∀{names:List (Str×NameKind)} {x:Str} {k:NameKind},(names.map λ(n,k)=>if(k==NameKind.free&&env.scope.kind==.function&&env.kindOf n==some .cell)then(n,NameKind.cell)else(n,k)).lookup x=some k ->
  ∃k0,names.lookup x=some k0/\(k=k0\/(k0=.free/\k=.cell))
 | [],_,_,h=>by simp at h
 | (n,k1)::r,x,k,h=>by
  have ih:=@wA env r x k;rw[map_cons]at h;by_cases hc:(k1==NameKind.free&&env.scope.kind==.function&&env.kindOf n==some .cell)=true
  ·simp only[hc,if_true]at h
   cases hx:x==n with
   |true =>
    simp only[lookup_cons,hx]at h ⊢;cases h;refine⟨k1,rfl,.inr ⟨?_,rfl⟩⟩;simp only[Bool.and_eq_true,beq_iff_eq]at hc;exact hc.1.1
   |false=>simp only[lookup_cons,hx]at h ⊢;exact ih h
  ·have hc':(k1==NameKind.free&&env.scope.kind==.function&&env.kindOf n==some .cell)=false:=by simpa using hc
   simp only[hc',Bool.false_eq_true,if_false]at h;cases hx:x==n with
   |true=>simp only[lookup_cons,hx]at h ⊢;cases h;exact⟨k1,rfl,.inl rfl⟩|false=>simp only[lookup_cons,hx]at h ⊢;exact ih h
theorem JG{env:Env}:∀{names:List (Str×NameKind)} {x:Str},names.lookup x=some .free->env.scope.kind=.function->env.kindOf x=some .cell ->
  (names.map λ(n,k)=>if(k==NameKind.free&&env.scope.kind==.function&&env.kindOf n==some .cell)then(n,NameKind.cell)else(n,k)).lookup x=some .cell
 | [],_,h,_,_=>by simp at h
 | (n,k1)::r,x,h,hk,hc=>by
  have ih:=@JG env r x;rw[map_cons];cases hx:x==n with
  |true =>
   have:x=n:=by simpa using hx
   subst this;simp only[lookup_cons,hx]at h;cases h;have:(NameKind.free==NameKind.free&&env.scope.kind==.function&&env.kindOf x==some .cell)=true:=by simp[hk,hc]
   simp only[this,if_true,lookup_cons,hx]
  |false =>
   simp only[lookup_cons,hx]at h;by_cases hcc:(k1==NameKind.free&&env.scope.kind==.function&&env.kindOf n==some .cell)=true
   ·simp only[hcc,if_true,lookup_cons,hx];exact ih h hk hc
   ·have hcc':(k1==NameKind.free&&env.scope.kind==.function&&env.kindOf n==some .cell)=false:=by simpa using hcc
    simp only[hcc',Bool.false_eq_true,if_false,lookup_cons,hx];exact ih h hk hc
def Qc(env:Env):List (Str×NameKind)->List (Str×Addr)->List (Str×Addr)
 | [],cs=>cs| (n,k)::r,cs=>if k==.free then Qc env r ((n,(env.cells.lookup n).getD 0)::cs)else Qc env r cs
theorem JY{env:Env}:∀(names:List (Str×NameKind)) (cs:List (Str×Addr)),(∀y∈names,y.2=.free->∃c,env.cells.lookup y.1=some c) ->
  (forIn names cs (λx r=>if(x.snd==NameKind.free)=true then do
    let c <- cellOf env x.fst
    pure (ForInStep.yield ((x.fst,c)::r))
   else pure (ForInStep.yield r)):Sem (List (Str×Addr)))=pure (Qc env names cs)
 | [],cs,_=>by rfl
 | (n,k)::r,cs,h=>by
  rw[forIn_cons];dsimp only;by_cases hk:(k==NameKind.free)=true
  ·obtain⟨c,hc⟩:=h (n,k) qE (by simpa using hk)
   have ec:cellOf env n=pure c:=by unfold cellOf;rw[hc]
   rw[if_pos hk,ec];show(forIn r ((n,c)::cs) _:Sem (List (Str×Addr)))=_;rw[JY r _ λy hy=>h y (qD _ hy)]
   conv=>rhs;unfold Qc
   rw[if_pos hk,hc];rfl
  ·rw[if_neg hk]
   show(forIn r cs _:Sem (List (Str×Addr)))=_
   rw[JY r _ λy hy=>h y (qD _ hy)]
   conv=>rhs;unfold Qc
   rw[if_neg hk]
theorem jC{env:Env}:∀(names:List (Str×NameKind)) (cs:List (Str×Addr)) (x:Str),(∀y∈names,y.2=.free->∃c,env.cells.lookup y.1=some c)->(∀c,cs.lookup x=some c->env.cells.lookup x=some c) ->
  (∀c,(Qc env names cs).lookup x=some c->env.cells.lookup x=some c)/\(((∃c,cs.lookup x=some c)\/∃y∈names,y.1=x/\y.2=.free)->∃c,(Qc env names cs).lookup x=some c)
 | [],cs,x,_,hcs=>⟨hcs,λh=>h.elim id λ⟨y,hy,_⟩=>by cases hy⟩
 | (n,k)::r,cs,x,h,hcs=>by
  unfold Qc;by_cases hk:(k==NameKind.free)=true
  ·rw[if_pos hk]
   obtain⟨c,hc⟩:=h (n,k) qE (by simpa using hk);have ih:=jC r ((n,(env.cells.lookup n).getD 0)::cs) x (λy hy=>h y (qD _ hy)) (λc' e=>by
    rw[lookup_cons]at e;cases hx:x==n with
    |true =>
     have:x=n:=by simpa using hx
     subst this;rw[hx]at e;simp only[hc,Option.getD_some]at e;rw[hc];exact e
    |false=>rw[hx]at e;exact hcs c' e)
   refine⟨ih.1,λq=>ih.2 ?_⟩;rcases q with⟨c',q⟩|⟨y,hy,q1,q2⟩
   ·left
    rw[lookup_cons];cases hx:x==n with
    |true=>exact⟨_,rfl⟩|false=>exact⟨c',q⟩
   ·rcases mem_cons.mp hy with hy|hy
    ·subst hy
     left
     have q1:n=x:=q1;subst q1;exact⟨(env.cells.lookup n).getD 0,by rw[lookup_cons,beq_self_eq_true]⟩
    ·right;exact⟨y,hy,q1,q2⟩
  ·rw[if_neg hk]
   have ih:=jC r cs x (λy hy=>h y (qD _ hy)) hcs;refine⟨ih.1,λq=>ih.2 ?_⟩;rcases q with q|⟨y,hy,q1,q2⟩
   ·exact .inl q
   ·rcases mem_cons.mp hy with hy|hy
    ·subst hy
     exact absurd (by simpa using q2) hk
    ·exact .inr ⟨y,hy,q1,q2⟩
theorem Yj:∀(names:List (Str×NameKind)) (h:Heap) (acc:List (Str×Addr)) (x:Str) (c:Addr),(cellsFrom h.objs.size names acc).lookup x=some c ->
  acc.lookup x=some c\/((x,NameKind.cell)∈names/\h.objs.size<=c/\(pushCells h names).IsCell c none)
 | [],h,acc,x,c,e=>.inl e
 | (n,k)::r,h,acc,x,c,e=>by
  unfold cellsFrom at e;unfold pushCells;split at e
  ·rename_i hk
   rw[if_pos hk];have sz:(h.push {cls:=.type "cell",data:=.cell none}).objs.size=h.objs.size+1:=size_push ..;rw[<- sz]at e;rcases Yj r (h.push {cls:=.type "cell",data:=.cell none}) _ x c e with q|⟨q1,q2,q3⟩
   ·rw[lookup_cons]at q
    cases hx:x==n with
    |true =>
     rw[hx]at q;cases q;have hx':x=n:=by simpa using hx
     have hk':k=.cell:=by simpa using hk
     subst hx';subst hk';exact .inr ⟨qE,le_refl _,⟨_,pushCells_keeps _ _ _ _ (get?_push_size _ rfl),rfl⟩⟩
    |false=>rw[hx]at q;exact .inl q
   ·exact .inr ⟨qD _ q1,by rw[sz]at q2;omega,q3⟩
  ·rename_i hk
   rw[if_neg hk];rcases Yj r h acc x c e with q|⟨q1,q2,q3⟩
   ·exact .inl q
   ·exact .inr ⟨qD _ q1,q2,q3⟩
theorem Wk:∀(names:List (Str×NameKind)) (n:Nat) (acc:List (Str×Addr)) (x:Str),(x,NameKind.cell)∉names->(cellsFrom n names acc).lookup x=acc.lookup x
 | [],n,acc,x,_=>rfl
 | (y,k)::r,n,acc,x,h=>by
  simp only[mem_cons,not_or]at h;unfold cellsFrom;split
  ·rename_i hk
   rw[Wk r _ _ x h.2,lookup_cons];cases hx:x==y with
   |true =>
    have hx':x=y:=by simpa using hx
    have hk':k=.cell:=by simpa using hk
    subst hx';subst hk';exact absurd rfl h.1
   |false=>rfl
  ·exact Wk r _ _ x h.2
theorem zAa:∀(names:List (Str×NameKind)) (n:Nat) (acc:List (Str×Addr)) (x:Str) (c:Addr),(x,NameKind.cell)∈names->(cellsFrom n names acc).lookup x=some c->n<=c
 | [],_,_,_,_,h,_=>by cases h
 | (y,k)::r,n,acc,x,c,h,e=>by
  unfold cellsFrom at e;by_cases hr:(x,NameKind.cell)∈r
  ·split at e
   ·exact Nat.le_of_succ_le (zAa r _ _ x c hr e)
   ·exact zAa r _ _ x c hr e
  ·rcases mem_cons.mp h with q|q
   ·cases q
    rw[if_pos (by rfl),Wk r _ _ _ hr,lookup_cons,beq_self_eq_true]at e;cases e;exact le_refl _
   ·exact absurd q hr
theorem zAb:∀(names:List (Str×NameKind)) (n:Nat) (acc:List (Str×Addr)),(∀x y c,acc.lookup x=some c->acc.lookup y=some c->x=y)->(∀x c,acc.lookup x=some c->c<n) ->
  ∀x y c,(cellsFrom n names acc).lookup x=some c->(cellsFrom n names acc).lookup y=some c->x=y
 | [],n,acc,hi,_,x,y,c,e1,e2=>hi x y c e1 e2
 | (z,k)::r,n,acc,hi,hb,x,y,c,e1,e2=>by
  unfold cellsFrom at e1 e2;split at e1
  ·refine zAb r (n+1) ((z,n)::acc) (λx y c e1 e2=>?_) (λx c e=>?_) x y c e1 (by rename_i hk;rwa [if_pos hk]at e2)
   ·rw[lookup_cons]at e1 e2
    cases hx:x==z with
    |true =>
     rw[hx]at e1;cases e1;have hx':x=z:=by simpa using hx
     cases hy:y==z with
     |true =>
      have hy':y=z:=by simpa using hy
      rw[hx',hy']
     |false=>rw[hy]at e2;exact absurd (hb y _ e2) (lt_irrefl _)
    |false =>
     rw[hx]at e1;cases hy:y==z with
     |true=>rw[hy]at e2;cases e2;exact absurd (hb x _ e1) (lt_irrefl _)|false=>rw[hy]at e2;exact hi x y c e1 e2
   ·rw[lookup_cons]at e
    cases hx:x==z with
    |true=>rw[hx]at e;cases e;exact Nat.lt_succ_self _|false=>rw[hx]at e;exact lt_succ_of_lt (hb x c e)
  ·exact zAb r n acc hi hb x y c e1 (by rename_i hk;rwa [if_neg hk]at e2)
def wu{M:Model}{A:Around}{E:Value->Shared->Prop}{s:Shared}{scope:Scope}{globals:Addr}{cl:List (Str×Addr)}{qual:Str}{env:Env}{Q:Env->Shared->Prop}
  (hQ:Q (newEnv scope s.heap.objs.size globals (cellsFrom (s.heap.objs.size+1) scope.names cl) qual none .none (some env) builtinsNs) {s with heap:=pushCells (s.heap.push {cls:=.type "dict",data:=.dict #[]}) scope.names}) :
  wpAny M A (newFunctionEnv scope globals cl [] qual none .none (some env)) Q E s:=by
 simp only[newFunctionEnv,Option.isSome_some,if_true];refine qB (wpAny_alloc ?_);refine qB (wpAny_layCells _ (λname kind cells=>by cases hkc:kind==NameKind.cell<;>simp[hkc]) _ _ _ _ ?_);rw[show({s with heap:=s.heap.push {cls:=.type "dict",data:=.dict #[]}}:Shared).heap.objs.size=s.heap.objs.size+1 from size_push ..]
 rw[forIn_nil];exact qB (qC (qC hQ))
section
variable{X:Cx}{elt target iter:Expr}{ifs:List Expr}{scope:Scope}{pos:Pos}{nl:Nat}{caps:List Nat}{N':List Str}
def Gs{wi:TI}{g:TG}{tt:TT}{te:TE}{use:Option (Value->Sem Unit)}{QQ:Value->Shared->Prop}{pins:List (Addr×Obj)}{s:Shared}{O:St}{H:Hp}{Q:VK}{p0:Pos}(hx:∀e s,¬X.xe e s)(hc:X.calm=true)(hkind:scope.kind=.function)(hnames:∀y∈scope.names,y.2=.local->scope.names.lookup y.1=some .local)(hcell:∀y∈scope.names,y.2=.cell->scope.names.lookup y.1=some .cell)
  (hfree:(scope.names.all λy=>y.2 != .free||X.env.kindOf y.1==some .cell)=true)
  (hlen:N'.length=nl+caps.length) (hcap:∀(i j:Nat),caps[i]?=some j->∃x,N'[nl+i]?=some x/\X.N[j]?=some x/\scope.names.lookup x=some .free)
  (hi:PI X target iter wi) (hg:∀cl C ex s H,PG (cxB X N' scope cl C ex s H) target g) (ht:∀cl C ex s H,zCe (cxB X N' scope cl C ex s H) ifs tt) (he:∀cl C ex s H,PE (cxB X N' scope cl C ex s H) elt te)
  (hs:∀x,foldedSetIterable iter X.env x=pure x) (I:Inv X pins O H s) (h:zEU nl caps wi g tt te O H Q)
  (hfin:∀(D C:Addr) (H5:Hp) (s6:Shared) (m6:Str->Option Value),Inv X pins O H5 s6->Qe X pins H5 C->s6.heap.Ns C m6->Q (.ref D) H5->compPost (model X.prog X.w) X.A X.xe use QQ (.ref D) C (.ok .next) s6) :
  wpAny (model X.prog X.w) X.A (comprehension (.ListComp elt [⟨target,iter,ifs,0⟩] scope pos) scope X.env p0 (newList []) false (eval iter X.env) use) QQ X.xe s:=by
 have hfr:∀y∈scope.names,y.2=.free->X.env.kindOf y.1=some .cell:=λy hy e=>by
  have:=all_eq_true.mp hfree y hy;rw[e]at this;simpa using this
 have hcl:∀y∈scope.names,y.2=.free->∃c,X.env.cells.lookup y.1=some c:=λy hy e=>I.ok.has y.1 (.inl (hfr y hy e))
 have hclos:closureFor scope X.env=pure (Qc X.env scope.names []):=by
  simp only[closureFor];rw[JY scope.names [] hcl];rfl
 have cl1:∀x c,(Qc X.env scope.names []).lookup x=some c->X.env.cells.lookup x=some c:=λx c e=>(jC scope.names [] x hcl (λ_ z=>by cases z)).1 c e
 have cl2:∀x,(∃y∈scope.names,y.1=x/\y.2=.free)->∃c,(Qc X.env scope.names []).lookup x=some c:=λx q=>(jC scope.names [] x hcl (λ_ z=>by cases z)).2 (.inr q)
 generalize Qc X.env scope.names []=cl at hclos cl1 cl2;refine wpAny_comprehension_free (use:=use) rfl hs hclos hkind hnames (thn (hi pins s O H _ I h) λxv s1 h1=>thn h1 λitv s2 h2=>?_);obtain⟨it,fp,tn,J,H2,e,I2,T,st2,f2,turn⟩:=h2;subst e;refine wpAny_newObj_type (wu ?_) (by show(#[]:Array Value).size<=sizeLine;simp);dsimp only;generalize hH3:s2.heap.push {cls:=.type "list",dict:=none,data:=.seq ([]:List Value).toArray}=h3;have hC:h3.objs.size=s2.heap.objs.size+1:=by rw[<- hH3,size_push]
 have hD:H2 s2.heap.objs.size=none:=I2.hok.fresh (le_refl _);obtain⟨W,⟨m0,w0⟩,step⟩:=turn s2.heap.objs.size hD
 -- the state at the block's entry
 have I3:Inv X pins O (upd H2 s2.heap.objs.size (.l [])) {s2 with heap:=h3}:=by
  rw[<- hH3];exact I2.laid (t':=s2.toks) (λb o q=>qA _ q) (le_refl _) ⟨zero_le _,[],0,.nil,get?_push_size _ rfl⟩
 have hcfr:∀x,scope.names.lookup x=some .free->(x,NameKind.cell)∉scope.names:=λx e z=>by
  have:=hcell _ z rfl;rw[e]at this;cases this
 have szp:(h3.push {cls:=.type "dict",data:=.dict #[]}).objs.size=h3.objs.size+1:=size_push ..;have cw:∀x c,(cellsFrom (h3.objs.size+1) scope.names cl).lookup x=some c->cl.lookup x=some c\/((x,NameKind.cell)∈scope.names/\h3.objs.size+1<=c/\(pushCells (h3.push {cls:=.type "dict",data:=.dict #[]}) scope.names).IsCell c none):=λx c e=>by
  rw[<- szp]at e ⊢;exact Yj _ _ _ x c e
 have cfr:∀x,scope.names.lookup x=some .free->(cellsFrom (h3.objs.size+1) scope.names cl).lookup x=cl.lookup x:=λx e=>Wk _ _ _ x (hcfr x e)
 have chas:∀x,scope.names.lookup x=some .cell->∃c,(cellsFrom (h3.objs.size+1) scope.names cl).lookup x=some c:=λx e=>by
  have:=cellsFrom_some scope.names (h3.objs.size+1) cl (x:=x) (.inl e);exact Option.isSome_iff_exists.mp this
 have clt:∀x c,cl.lookup x=some c->c<h3.objs.size:=λx c e=>by
  obtain⟨v,q⟩:=I3.cell x c (cl1 x c e);exact q.lt
 have cinj:=zAb scope.names (h3.objs.size+1) cl (λx y c e1 e2=>I.ok.inj x y c (cl1 x c e1) (cl1 y c e2)) λx c e=>lt_succ_of_lt (clt x c e)
 have hns₁:(pushCells (h3.push {cls:=.type "dict",data:=.dict #[]}) scope.names).Ns h3.objs.size λ_=>none:=(Heap.Ns.new h3 (.type "dict")).keeps (pushCells_keeps _ _)
 have old:∀b o,h3.get? b=some o->(pushCells (h3.push {cls:=.type "dict",data:=.dict #[]}) scope.names).get? b=some o:=λb o e=>pushCells_keeps _ _ b o (qA _ e)
 generalize hh1:pushCells (h3.push {cls:=.type "dict",data:=.dict #[]}) scope.names=h₁ at hns₁ old cw ⊢;generalize hcs:cellsFrom (h3.objs.size+1) scope.names cl=cs at cw cfr chas cinj ⊢;have fpD:∀b∈fp,b≠s2.heap.objs.size:=λb hb z=>by
  obtain⟨o,e,_⟩:=T.obj 0 s2.heap st2 b hb;subst z;exact absurd (lt_size e) (lt_irrefl _)
 have fp3:∀b∈fp,upd H2 s2.heap.objs.size (.l []) b=none:=λb hb=>by rw[zp (fpD b hb)];exact(f2 b hb).1
 have fpC:∀b∈fp,b≠h3.objs.size:=λb hb z=>by
  obtain⟨o,e,_⟩:=T.obj 0 s2.heap st2 b hb;have q:b<s2.heap.objs.size:=lt_size e;rw[z,hC]at q;exact absurd q (not_lt.mpr (le_succ _))
 have hCn:upd H2 s2.heap.objs.size (.l []) h3.objs.size=none:=I3.hok.fresh (le_refl _);have fpok:∀b∈fp,(b∈X.ex\/X.s₀.heap.objs.size<=b)/\b≠X.env.locals/\(∀x c,X.env.cells.lookup x=some c->c≠b)/\∀p∈X.pn++pins,p.1≠b:=λb hb=>by
  obtain⟨_,q2,_,q4,q5,q6⟩:=f2 b hb;exact⟨q4,q2,q5,q6⟩
 have fpH:∀b∈fp,b<h3.objs.size:=λb hb=>by
  obtain⟨o,e,_⟩:=T.obj 0 s2.heap st2 b hb;have q:b<s2.heap.objs.size:=lt_size e;rw[hC];exact lt_succ_of_lt q
 have fpcs:∀b∈fp,∀x c,cs.lookup x=some c->c≠b:=λb hb x c e=>by
  rcases cw x c e with q|⟨_,q,_⟩
  ·exact(fpok b hb).2.2.1 x c (cl1 x c q)
  ·intro z;subst z
   exact absurd (lt_of_lt_of_le (fpH _ hb) (Nat.le_of_succ_le q)) (lt_irrefl _)
 let Y:Cx:=cxB X N' scope cs h3.objs.size fp {s2 with heap:=h3} (upd H2 s2.heap.objs.size (.l []))
 have kindY:∀x k,Y.env.kindOf x=some k->∃k0,scope.names.lookup x=some k0/\(k=k0\/(k0=.free/\k=.cell)):=λx k e=>wA e
 have okY:Y.Ok:={
  mod:=I.ok.mod
  kind:=hkind
  glob:=I.ok.glob
  blt:=I.ok.blt
  above:=le_refl _
  inj:=cinj
  has:=λx q=>by
   have:scope.names.lookup x=some .cell\/scope.names.lookup x=some .free:=by
    rcases q with q|q
    ·obtain⟨k0,e,z⟩:=kindY x _ q
     rcases z with z|z
     ·subst z;exact .inl e
     ·rw[z.1]at e;exact .inr e
    ·obtain⟨k0,e,z⟩:=kindY x _ q
     rcases z with z|z
     ·subst z;exact .inr e
     ·rw[z.1]at e;exact .inr e
   rcases this with q|q
   ·exact chas x q
   ·obtain⟨c,e⟩:=cl2 x ⟨(x,.free),PySem.mem_of_lookup q,rfl,rfl⟩
    exact⟨c,by show cs.lookup x=_;rw[cfr x q];exact e⟩
  cab:=λx c z e=>by
   have z:scope.names.lookup x=some .cell:=by
    have z:(scope.names.lookup x==some NameKind.cell)=true:=z;simpa using z
   have e:cs.lookup x=some c:=e;rw[<- hcs]at e;exact le_trans (le_succ _) (zAa _ _ _ x c (PySem.mem_of_lookup z) e)
  hd:=I.ok.hd
  frames:=I.ok.frames
  stk:=.inl rfl
  exf:=λb hb=>⟨fpC b hb,fpcs b hb⟩
  bs:=λb o e=>I3.bs b o e
  bsz:=le_trans I.ok.bsz I3.sz
  noex:=λb o e hb=>by
   obtain⟨q,_⟩:=fpok b hb;rcases q with q|q
   ·exact I.ok.noex b o e q
   ·exact absurd (lt_of_lt_of_le (lt_size e) I.ok.bsz) (not_lt.mpr q)
  exfs:=λb hb z=>by
   have:=I2.stkSub b z;rcases mem_cons.mp this with q|q
   ·exact(fpok b hb).2.1 q
   ·exact(f2 b hb).2.2.1 q
  funs:=I3.stack
  frf:=I3.stkFree}
 have keep1:∀b o,h3.get? b=some o->h₁.get? b=some o:=old;have lenY:(zZ nl caps O).length=N'.length:=by unfold zZ;simp[hlen]
 have IY:Inv Y [] (zZ nl caps O) (upd H2 s2.heap.objs.size (.l [])) {s2 with heap:=h₁}:={
  ok:=okY
  os:=rfl
  bare:=I3.bare
  base:=Un.kept keep1
  loc:=by
   refine⟨_,hns₁,λi x v e1 e2 e3=>?_⟩;have e1:N'[i]?=some x:=e1;have hi:nl<=i:=by
    by_cases z:nl<=i
    ·exact z
    ·unfold zZ at e2
     rw[getElem?_append_left (by simp;omega),List.getElem?_replicate]at e2;split at e2<;>cases e2
   unfold zZ at e2;rw[getElem?_append_right (by simpa using hi),List.length_replicate,getElem?_map]at e2;cases ej:caps[i-nl]? with
   |none=>rw[ej]at e2;cases e2
   |some j =>
    rw[ej]at e2;simp only[Option.map_some,Option.some.injEq]at e2;obtain⟨x',c1,c2,c3⟩:=hcap (i-nl) j ej;have ex:x'=x:=by
     rw[show nl+(i-nl)=i by omega,e1]at c1;exact(qJ c1).symm
    subst ex;have e4:O[j]?=some (some v):=by
     cases z:O[j]? with
     |none=>rw[z]at e2;cases e2|some o=>rw[z]at e2;simp at e2;rw[e2]
    have kx:X.env.kindOf x'=some .cell:=hfr (x',.free) (PySem.mem_of_lookup c3) rfl;obtain⟨mm,_,lk⟩:=I3.loc;obtain⟨u,ru,lu⟩:=lk j x' v c2 e4 (.inr (.inl kx));refine⟨u,ru,?_⟩;rcases lu with⟨z,_⟩|⟨_,c,d1,d2⟩
    ·rw[kx]at z;cases z
    ·obtain⟨c',d3⟩:=cl2 x' ⟨(x',.free),PySem.mem_of_lookup c3,rfl,rfl⟩
     have:c'=c:=by have:=cl1 x' c' d3;rw[d1]at this;exact(qJ this).symm
     subst this;exact .inr ⟨.inl (JG c3 I.ok.kind kx),c',by show cs.lookup _=_;rw[cfr x' c3];exact d3,d2.keeps old⟩
  cell:=λx c e=>by
   rcases cw x c e with e|⟨_,_,q⟩
   ·obtain⟨v,q⟩:=I3.cell x c (cl1 x c e)
    exact⟨v,q.keeps old⟩
   ·exact⟨_,q⟩
  free:=hCn
  freeC:=λx c e=>by
   rcases cw x c e with e|⟨_,q,_⟩
   ·exact I3.freeC x c (cl1 x c e)
   ·exact I3.hok.fresh (le_trans (le_succ _) q)
  pin:=λp hp=>absurd (show p∈([]:List (Addr×Obj))from hp) (by simp)
  hok:=I3.hok.kept old
  len:=lenY}
 have st1:tn 0 h₁:=T.keep 0 s2.heap h₁ st2 λb hb o e=>old b o (by rw[<- hH3];exact qA _ e)
 have fpY:∀{H':Hp},(∀b∈fp,H' b=none)->∀b∈fp,Qe Y [] H' b:=λhn b hb =>
  ⟨hn b hb,fpC b hb,okY.exfs b hb,.inl hb,fpcs b hb,λp hp=>absurd (show p∈([]:List (Addr×Obj))from hp) (by simp)⟩
 have hA:Y.A=X.A:=rfl;have noE:∀{E':Value->Shared->Prop} {e:Value} {s:Shared},X.xe e s->E' e s:=λq=>absurd q (hx _ _)
 have fin:∀s₄:Shared,s₄={s2 with heap:=h₁} ->
   codeAny (model X.prog X.w) X.A (.compLoop (.ListComp elt [⟨target,iter,ifs,0⟩] scope pos) 0 (.ref it) (.ref s2.heap.objs.size) Y.env)
    (compPost (model X.prog X.w) X.A X.xe use QQ (.ref s2.heap.objs.size) h3.objs.size) s₄:=by
  rintro s₄ rfl
  refine J7 (λn s'=>∃i O' H',Inv Y [] O' H' s'/\tn i s'.heap/\(∀b∈fp,H' b=none)/\W i n O' H') ?_ m0 ⟨0,zZ nl caps O,_,IY,st1,fp3,w0⟩
  rintro n s5 ⟨i,O5,H5,I5,st5,fr5,w5⟩
  rcases step i n O5 H5 w5 with⟨stop,q⟩|⟨go,Nx,hN,turn⟩
  ·refine wpAny_mono (T.done Y rfl rfl rfl hc i [] s5 O5 H5 (λ_ _=>False) I5 (fpY fr5) st5 stop) (λr s6 ⟨hr,I6⟩=>?_) (λ_ _ z=>z.elim)
   subst hr;obtain⟨m6,n6,_⟩:=I6.loc;have u:Un (frs X.stack) fp (upd H2 s2.heap.objs.size (.l [])) H5 h3 s6.heap:=I6.base;have I7:Inv X pins O H5 s6:=I3.call' (s':=s6) (ch:=fp) I6.os u I6.hok I6.bare fpok;exact hfin _ _ H5 s6 m6 I7 (I3.fpOk (le_refl _) I6.free) n6 q
  ·refine wpAny_mono (T.item Y rfl rfl rfl hc i [] s5 O5 H5 (λ_ _=>False) I5 (fpY fr5) st5 go) (λr s6 ⟨u,hr,h6⟩=>?_) (λ_ _ z=>z.elim)
   subst hr;refine wpAny_mono h6 (λ_ s7 ⟨x,H7,I7,r7,y7,st7,fr7⟩=>?_) (λ_ _ z=>z.elim);have I7':=I7.pinned (fpY fr7) (T.obj _ _ st7);refine wpAny_mono (hg _ _ _ _ _ _ s7 O5 H7 x u _ I7' r7 (turn x H7 y7)) (λ_ s8 ⟨O8,H8,I8,q8⟩=>?_) (λ_ _ z=>noE z);refine wpAny_mono (ht _ _ _ _ _ _ s8 O8 H8 _ I8 q8) (λb s9 ⟨H9,I9,q9⟩=>?_) (λ_ _ z=>noE z);have again:∀{O7:St} {H':Hp} {s':Shared},Inv Y ([]++vc fp s7.heap) O7 H' s'->Nx O7 H'->∃m,m<n/\∃i O' H',Inv Y [] O' H' s'/\tn i s'.heap/\(∀b∈fp,H' b=none)/\W i m O' H':=λ{O7 H' s'} I' n7=>by
    obtain⟨m',hm,w7⟩:=hN O7 H' n7;refine⟨m',hm,i+1,O7,H',I'.unpinned,T.keep _ _ _ st7 λb hb o e=>(I'.pin (b,o) (qK _ (qK _ (jj hb e)))).1,λb hb=>?_,w7⟩;obtain⟨o,e,d⟩:=T.obj _ _ st7 b hb;exact(I'.pin (b,o) (qK _ (qK _ (jj hb e)))).2.1
   cases b with
   |false =>
    rw[if_neg qF]at q9 ⊢;exact again I9 q9
   |true =>
    rw[if_pos rfl]at q9 ⊢;refine wpAny_mono (he _ _ _ _ _ _ s9 O8 H9 _ I9 q9) (λy s10 ⟨vy,H10,I10,r10,ys,hy,hz,n10⟩=>?_) (λ_ _ z=>noE z);have ap:=zCB (X:=Y) _ s10 O8 H10 (.ref s2.heap.objs.size) [vy] (.ref s2.heap.objs.size) [y] (λv H'=>Nx O8 H') I10 rfl (.cons r10 .nil) ⟨_,ys,vy,rfl,rfl,hy,hz,n10⟩;refine wpAny_mono ap (λ_ s11 ⟨v11,H11,I11,_,n11⟩=>?_) (λ_ _ z=>noE z);exact again I11 n11
 exact codeAny_compStart_list (fin _ rfl) (T.self X.A 0 _ _ _ st1 (fin _ rfl))
def pe_comp{wi:TI}{g:TG}{tt:TT}{te:TE}(hx:∀e s,¬X.xe e s)(hc:X.calm=true)(hkind:scope.kind=.function)(hnames:∀y∈scope.names,y.2=.local->scope.names.lookup y.1=some .local)(hcell:∀y∈scope.names,y.2=.cell->scope.names.lookup y.1=some .cell)
  (hfree:(scope.names.all λy=>y.2 != .free||X.env.kindOf y.1==some .cell)=true)
  (hlen:N'.length=nl+caps.length) (hcap:∀(i j:Nat),caps[i]?=some j->∃x,N'[nl+i]?=some x/\X.N[j]?=some x/\scope.names.lookup x=some .free)
  (hi:PI X target iter wi) (hg:∀cl C ex s H,PG (cxB X N' scope cl C ex s H) target g) (ht:∀cl C ex s H,zCe (cxB X N' scope cl C ex s H) ifs tt) (he:∀cl C ex s H,PE (cxB X N' scope cl C ex s H) elt te)
  (hs:∀x,foldedSetIterable iter X.env x=pure x:=by intro _;rfl):PE X (.ListComp elt [⟨target,iter,ifs,0⟩] scope pos) (zEU nl caps wi g tt te):=by
 intro pins s O H Q I h;rw[eval_ListComp];refine Gs (use:=none) hx hc hkind hnames hcell hfree hlen hcap hi hg ht he hs I h λD C H5 s6 m6 I7 f n6 q=>?_
 refine⟨m6,n6,λh' hs'=>?_⟩;obtain⟨f1,f2,f3,f4,f5,f6⟩:=f;exact⟨.ref D,H5,I7.turned (it:=C) (t':=s6.toks) (λb o hb e=>hs'.extBut b o hb e) f1 (λz=>f2 z) f4 f5 f6,rfl,q⟩
def ps_setC{i:Nat}{y:Str}{py spos:Pos}{wi:TI}{g:TG}{tt:TT}{te:TE}(hN:X.N.Nodup)(hi':X.N[i]?=some y)(hy:Loc X.env.scope y)(hf:X.fn y=true\/X.env.scope.names.lookup y=some .local)(hx:∀e s,¬X.xe e s)(hc:X.calm=true)(hkind:scope.kind=.function)(hnames:∀y∈scope.names,y.2=.local->scope.names.lookup y.1=some .local)(hcell:∀y∈scope.names,y.2=.cell->scope.names.lookup y.1=some .cell)
  (hfree:(scope.names.all λy=>y.2 != .free||X.env.kindOf y.1==some .cell)=true)
  (hlen:N'.length=nl+caps.length) (hcap:∀(i j:Nat),caps[i]?=some j->∃x,N'[nl+i]?=some x/\X.N[j]?=some x/\scope.names.lookup x=some .free)
  (hi:PI X target iter wi) (hg:∀cl C ex s H,PG (cxB X N' scope cl C ex s H) target g) (ht:∀cl C ex s H,zCe (cxB X N' scope cl C ex s H) ifs tt) (he:∀cl C ex s H,PE (cxB X N' scope cl C ex s H) elt te)
  (hs:∀x,foldedSetIterable iter X.env x=pure x) (hsw:swapsWith (.ListComp elt [⟨target,iter,ifs,0⟩] scope pos) (some (.Name y py)) spos.line X.env=pure true) :
  PS X (.Assign [.Name y py] (.ListComp elt [⟨target,iter,ifs,0⟩] scope pos) spos) (zFU (zEU nl caps wi g tt te) (GU i)):=by
 intro pins s O H D I h;rw[exec_Assign_Name_used _ _ _ _ hsw];refine qB (wpAny_standAt (qB ?_));show wpAny _ X.A (do let _ <- comprehension (.ListComp elt [⟨target,iter,ifs,0⟩] scope pos) scope X.env _ (newList []) false (eval iter X.env) (some (assign (.Name y py) X.env))) _ _ s;refine qB (wpAny_mono (Gs (use:=some (assign (.Name y py) X.env)) (QQ:=λ_ s'=>SP X pins D .next s') hx hc hkind hnames hcell hfree hlen hcap hi hg ht he hs I h λDa C H5 s6 m6 I7 f n6 q=>?_) (λ_ s' hq=>qC (qC hq)) λ_ _ e=>e);obtain⟨f1,f2,f3,f4,f5,f6⟩:=f;show wpAny _ X.A (assign (.Name y py) X.env (.ref Da)) _ _ s6;refine wpAny_assign_Name (WT I7 hN hi' hy (v:=.ref Da) rfl (λs7 I8 ⟨a,sb,ha⟩=>?_) hf);have hne:C≠a:=by
  rcases ha with ha|ha
  ·rw[ha];exact f2
  ·exact λz=>f5 y a ha z.symm
 refine⟨m6,n6.sameBut sb hne,λh' hs'=>?_⟩;exact⟨_,H5,I8.turned (it:=C) (t':=s7.toks) (λb o hb e=>hs'.extBut b o hb e) f1 (λz=>f2 z) f4 f5 f6,q⟩
end
end L2
namespace DV
open PySem L2
section
variable{X:Cx}{K:qH}{mg:Str->Option Value}{O:St}{M:Addr->Prop}{E:zM}{H:Hp}{T0 Z T:Fz}
structure ItOk(K:qH)(mg:Str->Option Value)(J:It)(ds:List D)(Iv:Hp->Prop):Prop where
 mono:∀H H',ZA H H'->Iv H->Iv H'
 go:∀i Hh H,ZA Hh H->Iv Hh->i<ds.length->J.go i H
 yld:∀i Hh H x H',ZA Hh H->Iv Hh->i<ds.length->J.yld i H x H'->∃d,ds[i]?=some d/\((H'=H/\Rep K mg Hh d x)\/∃q xs es,H q=none/\H'=upd H q (.t xs)/\x=.ref q/\d=.t es/\Reps K mg Hh es xs)
 stop:∀i Hh H,ZA Hh H->Iv Hh->ds.length<=i->J.stop i H
abbrev MI:=zM->Out (List D×zM)
def tMI(X:Cx)(m:MI):TI:=λO H R=>∃M E,E.length=O.length/\FR X.K X.mg M H (O.zip E)/\match m E with
 | .z=>False| .ok (ds,E')=>∀J Iv H',ItOk X.K X.mg J ds Iv->Iv (Hm (Mo M (O.zip E')) H')->Got X.K X.mg M O E H [] O E' H' []->R J H'| .exc x E'=>∀H',Got X.K X.mg M O E H [] O E' H' []->XE X O H' x
abbrev IOk(X:Cx)(tg e:Expr)(m:MI):Prop:=PI X tg e (tMI X m)
def vw{tg e:Expr}{t t':TI}(h:PI X tg e t)(i:∀O H R,t' O H R->t O H R):PI X tg e t':=λpins s O H R I q=>h pins s O H R I (i O H R q)
def iL(m:ME):MI:=λE=>match m E with
 | .z=>.z| .exc x E1=>.exc x E1
 | .ok (r,E1)=>match r.d with
  | .l ds=>.ok (ds,E1)|_=>.z
def iT(m:ME):MI:=λE=>match m E with
 | .z=>.z| .exc x E1=>.exc x E1
 | .ok (r,E1)=>match r.d with
  | .t ds=>.ok (ds,E1)|_=>.z
def it_list{a:Addr}{xs:List V}{ds:List D}:ItOk K mg (Itl K a) ds (λH=>SqL K H a xs/\Reps K mg H ds xs) where
 mono:=λH H' s h=>⟨s.seq h.1,h.2.mono s⟩
 go:=λi Hh H s h hi=>⟨xs,xs[i]'(by rw[h.2.length];exact hi),s.seq h.1,by simp⟩
 yld:=λi Hh H x H' s h hi y=>by
  obtain⟨e,y⟩:=y;obtain⟨d,h1,h2⟩:=h.2.get (y xs (s.seq h.1));exact⟨d,h1,.inl ⟨e,h2⟩⟩
 stop:=λi Hh H s h hi=>⟨xs,s.seq h.1,by rw[h.2.length];exact hi⟩
def it_tup{a:Addr}{xs:List V}{ds:List D}:ItOk K mg (Itt K a) ds (λH=>SqT K H a xs/\Reps K mg H ds xs) where
 mono:=λH H' s h=>⟨zO s h.1,h.2.mono s⟩
 go:=λi Hh H s h hi=>⟨xs,xs[i]'(by rw[h.2.length];exact hi),zO s h.1,by simp⟩
 yld:=λi Hh H x H' s h hi y=>by
  obtain⟨e,y⟩:=y;obtain⟨d,h1,h2⟩:=h.2.get (y xs (zO s h.1));exact⟨d,h1,.inl ⟨e,h2⟩⟩
 stop:=λi Hh H s h hi=>⟨xs,zO s h.1,by rw[h.2.length];exact hi⟩
def Gu:∀(n i:Nat) (lo:Int),i<n->(zJ lo n)[i]?=some (.int (lo+i)):=λn i lo h=>by
 have:=wZ n i lo h;have e:((zJ lo n).drop i)[0]?=some (.int (lo+i)):=by rw[this];rfl
 rw[List.getElem?_drop]at e;simpa using e
def zFn{lo:Int}{n:Nat}:ItOk K mg (Itr lo n) (zJ lo n) (λ_=>True) where
 mono:=λ_ _ _ h=>h
 go:=λi Hh H s h hi=>by rw[yb]at hi;exact hi
 yld:=λi Hh H x H' s h hi y=>by
  obtain⟨e,y⟩:=y;rw[yb]at hi;exact⟨_,Gu n i lo hi,.inl ⟨e,by rw[y];simp only[Rep]⟩⟩
 stop:=λi Hh H s h hi=>by rw[yb]at hi;exact hi
def io_list{tg e:Expr}{m:ME}(h:EOk X e m):IOk X tg e (iL m):=vw (zBt h) λO H R ⟨M,E,hl,fr,k⟩=>by
 unfold iL at k;refine zx (T0:=[]) hl fr ?_;cases ea:m E with
 |z=>rw[ea]at k;exact k|exc x E1=>rw[ea]at k;exact k
 |ok p =>
  obtain⟨r,E1⟩:=p;rw[ea]at k;intro v H1 g;dsimp only at k;cases ed:r.d with
  |l ds =>
   rw[ed]at k;have rl:=g.rep;rw[ed]at rl;obtain⟨a,xs,rfl,q1,q2⟩:=zX rl;exact⟨a,rfl,⟨xs,zF.seq q1⟩,k _ _ H1 it_list ⟨q1,q2⟩ g.dropAll⟩
  |_=>rw[ed]at k;exact k.elim
def io_tup{tg e:Expr}{m:ME}(h:EOk X e m):IOk X tg e (iT m):=vw (pi_tup h) λO H R ⟨M,E,hl,fr,k⟩=>by
 unfold iT at k;refine zx (T0:=[]) hl fr ?_;cases ea:m E with
 |z=>rw[ea]at k;exact k|exc x E1=>rw[ea]at k;exact k
 |ok p =>
  obtain⟨r,E1⟩:=p;rw[ea]at k;intro v H1 g;dsimp only at k;cases ed:r.d with
  |t ds =>
   rw[ed]at k;have rl:=g.rep;rw[ed]at rl;obtain⟨a,xs,rfl,q1,q2⟩:=za rl;exact⟨a,rfl,⟨xs,zO zF q1⟩,k _ _ H1 it_tup ⟨q1,q2⟩ g.dropAll⟩
  |_=>rw[ed]at k;exact k.elim
def iR1(m:MA):MI:=λE=>match m E with
 | .z=>.z| .exc x E1=>.exc x E1
 | .ok ([r],E1)=>match r.d with
  | .int j=>if -(2^62)<=j/\j<2^62 then .ok (zJ 0 j.toNat,E1)else .z|_=>.z
 |_=>.z
def iR2(m:MA):MI:=λE=>match m E with
 | .z=>.z| .exc x E1=>.exc x E1
 | .ok ([r,r'],E1)=>match r.d,r'.d with
  | .int i,.int j=>if -(2^62)<=i/\i<2^62/\-(2^62)<=j/\j<2^62 then .ok (zJ i (j-i).toNat,E1)else .z|_,_=>.z
 |_=>.z
def io_r1{tg a:Expr}{m:MA}{p cpos:Pos}(hgl:Gl X "range")(hm:X.mg "range"=none)(ha:AOk X [a] m)(hst:zc a=false:=by rfl):IOk X tg (.Call (.Name "range" p) [a] [] cpos) (iR1 m):=vw (GV hgl hm ha (zBL hst)) λO H R ⟨M,E,hl,fr,k⟩=>by
 unfold iR1 at k;refine JC (T0:=[]) hl fr ?_;cases ea:m E with
 |z=>rw[ea]at k;exact k|exc x E1=>rw[ea]at k;exact k
 |ok p =>
  obtain⟨rs,E1⟩:=p;rw[ea]at k
  match rs,k with
  | [r],k =>
   intro vs H1 hv g1;have rp:=Got.reps hv g1;dsimp only at k;cases ed:r.d with
   |int j =>
    rw[ed]at k;simp only[List.map,ed]at rp;obtain⟨v,rfl,h1⟩:=ZG rp;dsimp only at k;by_cases hc:-(2^62)<=j/\j<2^62
    ·rw[if_pos hc]at k
     exact⟨j,by rw[zL h1],hc.1,hc.2,k _ _ H1 zFn trivial g1.dropAll⟩
    ·rw[if_neg hc]at k;exact k.elim
   |_=>rw[ed]at k;exact k.elim
  | [],k=>exact k.elim|_::_::_,k=>exact k.elim
def io_r2{tg a b:Expr}{m:MA}{p cpos:Pos}(hgl:Gl X "range")(hm:X.mg "range"=none)(ha:AOk X [a,b] m)(hst:zc a=false:=by rfl)(hst2:zc b=false:=by rfl) :
  IOk X tg (.Call (.Name "range" p) [a,b] [] cpos) (iR2 m):=vw (zBu hgl hm ha (star2 hst hst2) (zBL hst2)) λO H R ⟨M,E,hl,fr,k⟩=>by
 unfold iR2 at k;refine JC (T0:=[]) hl fr ?_;cases ea:m E with
 |z=>rw[ea]at k;exact k|exc x E1=>rw[ea]at k;exact k
 |ok p =>
  obtain⟨rs,E1⟩:=p;rw[ea]at k
  match rs,k with
  | [r,r'],k =>
   intro vs H1 hv g1;have rp:=Got.reps hv g1;dsimp only at k;cases ed:r.d with
   |int i =>
    cases ed':r'.d with
    |int j =>
     rw[ed,ed']at k;simp only[List.map,ed,ed']at rp;obtain⟨v,w,rfl,h1,h2⟩:=zEI rp;dsimp only at k;by_cases hc:-(2^62)<=i/\i<2^62/\-(2^62)<=j/\j<2^62
     ·rw[if_pos hc]at k
      exact⟨i,j,by rw[zL h1,zL h2],hc,k _ _ H1 zFn trivial g1.dropAll⟩
     ·rw[if_neg hc]at k;exact k.elim
    |_=>rw[ed,ed']at k;exact k.elim
   |_=>rw[ed]at k;exact k.elim
  | [],k=>exact k.elim| [_],k=>exact k.elim|_::_::_::_,k=>exact k.elim
def Jg(tg:MG)(tt:MT)(el:ME):List D->zM->List D->Out (List D×zM)
 | [],E,acc=>.ok (acc,E)
 |d::ds,E,acc=>match tg d E with
  | .ok E1=>match tt E1 with
   | .ok (true,E2)=>match el E2 with
    | .ok (r,E3)=>if acc.length<cap then Jg tg tt el ds E3 (acc++[r.d])else .z|_=>.z
   | .ok (false,E2)=>Jg tg tt el ds E2 acc|_=>.z
  |_=>.z
def wz(E:zM):List Nat->Out (List AR)
 | []=>.ok []
 |j::js=>match E[j]? with
  |some (.v d)=>match wz E js with
   | .ok as=>.ok (.tmp d::as)|_=>.z
  |some s=>match s.list? with
   |some _=>match wz E js with
    | .ok as=>.ok (.ln j::as)|_=>.z
   |none=>.z
  |none=>.z
def ZJ(nl:Nat)(caps:List Nat)(mi:MI)(tg:MG)(tt:MT)(el:ME):ME:=λE=>match mi E with
 | .z=>.z| .exc x E1=>.exc x E1
 | .ok (ds,E1)=>match wz E1 caps with
  | .ok ars=>match zK ars E1 with
   | .ok (ss,E2)=>match Jg tg tt el ds (replicate nl .e++ss) []with
    | .ok (res,Eb)=>match zH ars ((zk (replicate nl .e++ss) Eb).drop nl) E1 E2 with
     | .ok E3=>.ok (.own res,E3)|_=>.z
    |_=>.z
   |_=>.z
  |_=>.z
def uU:MT:=λE=>.ok (true,E)
abbrev zFo(X:Cx)(ifs:List Expr)(m:MT):Prop:=zCe X ifs (tMT X m)
def Yk{ifs:List Expr}{t t':TT}(h:zCe X ifs t)(i:∀O H Q,t' O H Q->t O H Q):zCe X ifs t':=λpins s O H Q I q=>h pins s O H Q I (i O H Q q)
def uV:zFo X [] uU:=Yk pif_nil λO H Q ⟨M,E,hl,fr,k⟩=>k H (Got.refl (T0:=[]) hl fr)
def uW{c:Expr}{m:MT}(h:TOk X c m):zFo X [c] m:=pif_one h
theorem zAc:∀(js:List Nat) {as:List AR} {T:Fz},E.length=O.length->wz E js=.ok as->FR K mg M H (T++O.zip E) ->
  ∃vs,AV O as vs/\vs.map some=js.map (λj=>(O[j]?).getD none)/\FR K mg M H (T++(zz vs as++O.zip E))/\∀b,b∈yI (T++(zz vs as++O.zip E))->b∈yI (T++O.zip E)
 | [],as,T,hl,e,f=>by
  cases e;exact⟨[],by simp only[AV],rfl,f,λb q=>q⟩
 |j::js,as,T,hl,e,f=>by
  simp only[wz]at e;cases ej:E[j]? with
  |none=>rw[ej]at e;cases e
  |some s =>
   rw[ej]at e;obtain⟨o,h1,h2⟩:=JD hl ej;have lnk:∀{ds:List D},s.list?=some ds->(match wz E js with | .ok as=>Out.ok (AR.ln j::as)|_=>.z)=.ok as->∃vs,AV O as vs/\vs.map some=(j::js).map (λj=>(O[j]?).getD none)/\FR K mg M H (T++(zz vs as++O.zip E))/\∀b,b∈yI (T++(zz vs as++O.zip E))->b∈yI (T++O.zip E):=λ{ds} hs e=>by
    cases ec:wz E js with
    |z=>rw[ec]at e;cases e|exc _ _=>rw[ec]at e;cases e
    |ok as1 =>
     rw[ec]at e;cases e;obtain⟨a,xs,ev,_⟩:=f.ownL o s ds (qK _ h2) hs;subst ev;obtain⟨vs,q1,q2,q3,q4⟩:=zAc js hl ec f;have p:(T++(((some (V.ref a),Slot.e)::zz vs as1)++O.zip E)).Perm ((some (V.ref a),Slot.e)::(T++(zz vs as1++O.zip E))):=perm_middle;have fe:FR K mg M H ((some (V.ref a),Slot.e)::(T++(zz vs as1++O.zip E))):=q3.mask (.extra (by
      have:∀W:Fz,Mask W W:=by
       intro W
       induction W with
       |nil=>exact .nil _|cons x W ih=>exact .keep ih
      exact this _))
     refine⟨.ref a::vs,by simp only[AV];exact⟨_,vs,rfl,h1,q1⟩,by simp[h1,q2],fe.perm p.symm,λb hb=>?_⟩;have:=zD p b hb;rw[zw]at this;exact q4 b this
   cases s with
   |e=>cases e|own ds=>exact lnk rfl e|par ds=>exact lnk rfl e|dct _ _=>cases e
   |v d =>
    dsimp only at e;cases ec:wz E js with
    |z=>rw[ec]at e;cases e|exc _ _=>rw[ec]at e;cases e
    |ok as1 =>
     rw[ec]at e;cases e;obtain⟨v,ev,r⟩:=f.val o d (qK _ h2);subst ev;obtain⟨vs,q1,q2,q3,q4⟩:=zAc js hl ec f;obtain⟨v',ev',r'⟩:=q3.val (some v) d (qK _ (qK _ h2));cases ev';have p:(T++(((some v,Slot.v d)::zz vs as1)++O.zip E)).Perm ((some v,Slot.v d)::(T++(zz vs as1++O.zip E))):=perm_middle;refine⟨v::vs,by simp only[AV];exact⟨v,vs,rfl,q1⟩,by simp[h1,q2],(q3.add r').perm p.symm,λb hb=>?_⟩;have:=zD p b hb;rw[zb]at this;exact q4 b this
def Gv(n:Nat)(Z:Fz):yI (replicate n ((none:Option V),Slot.e)++Z)=yI Z:=by rw[zT,uT,nil_append]
def FR.emps0(f:FR K mg M H Z)(n:Nat):FR K mg M H (replicate n (none,.e)++Z):=(f.emps n).perm perm_append_comm
end
def tN(K:qH)(mg:Str->Option Value)(m:ME):TE:=λO H Q=>∃M E,E.length=O.length/\FR K mg M H (O.zip E)/\match m E with
 | .ok (r,E')=>∀v H',Got K mg M O E H [] O E' H' [(some v,r.slot)]->Q v H'|_=>False
def tNT(K:qH)(mg:Str->Option Value)(m:MT):TT:=λO H Q=>∃M E,E.length=O.length/\FR K mg M H (O.zip E)/\match m E with
 | .ok (b,E')=>∀H',Got K mg M O E H [] O E' H' []->Q b H'|_=>False
section
variable{X:Cx}{K:qH}{mg:Str->Option Value}{O:St}{M:Addr->Prop}{E:zM}{H:Hp}{T0 Z T:Fz}
def tN_M{m:ME}{Q:VK}(h:tN X.K X.mg m O H Q):tM X m O H Q:=by
 obtain⟨M,E,hl,fr,k⟩:=h;refine⟨M,E,hl,fr,?_⟩;cases e:m E with
 |z=>rw[e]at k;exact k|exc x E1=>rw[e]at k;exact k.elim|ok p=>rw[e]at k;exact k
def zEV{m:MT}{Q:Bool->Hp->Prop}(h:tNT X.K X.mg m O H Q):tMT X m O H Q:=by
 obtain⟨M,E,hl,fr,k⟩:=h;refine⟨M,E,hl,fr,?_⟩;cases e:m E with
 |z=>rw[e]at k;exact k|exc x E1=>rw[e]at k;exact k.elim|ok p=>rw[e]at k;exact k
def zCf{m:ME}{r:R}{E':zM}{Q:VK}(hl:E.length=O.length)(h:FR K mg M H (T0++O.zip E))(e:m E=.ok (r,E'))(k:∀v H',Got K mg M O E H T0 O E' H' [(some v,r.slot)]->Q v H'):tN K mg m O H Q:=by
 refine⟨Mo M T0,E,hl,h.inner,?_⟩;rw[e];exact λv H' g=>k v H' (g.outer h)
def zCg{m:MT}{b:Bool}{E':zM}{Q:Bool->Hp->Prop}(hl:E.length=O.length)(h:FR K mg M H (T0++O.zip E))(e:m E=.ok (b,E'))(k:∀H',Got K mg M O E H T0 O E' H' []->Q b H'):tNT K mg m O H Q:=by
 refine⟨Mo M T0,E,hl,h.inner,?_⟩;rw[e];exact λH' g=>k H' (g.outer h)
def Gw{ars:List AR}{E1 E2 E3:zM}{ss outs:List Slot}{r:R}{vs:List V}{v:V}{H1 H':Hp}(e1:zK ars E1=.ok (ss,E2))(e3:zH ars outs E1 E2=.ok E3)
  (av:AV O ars vs) (f1':FR K mg M H1 (O.zip E2++(vs.map some).zip ss)) (st1:Step M H (O.zip E) H1 (O.zip E2++(vs.map some).zip ss)) (l2:E2.length=O.length) (pk:PKp O E O E1)
  (f2:FR K mg (Mo M (O.zip E2)) H' ((some v,r.slot)::(vs.map some).zip outs)) (s2:Step (Mo M (O.zip E2)) H1 ((vs.map some).zip ss) H' ((some v,r.slot)::(vs.map some).zip outs)):Got K mg M O E H [] O E3 H' [(some v,r.slot)]:=by
 have f3:=FR.outer f1' f2 s2;have s3:=Step.outer s2;have p:(O.zip E2++((some v,r.slot)::(vs.map some).zip outs)).Perm ([(some v,r.slot)]++((vs.map some).zip outs++O.zip E2)):=by
  refine perm_append_comm.trans ?_;exact List.Perm.refl _
 obtain⟨f4,o4,l4⟩:=uQ ars l2 av e3 (f3.perm p);refine⟨l4,f4,?_,pk.trans (zCd e1 e3)⟩;have st2:=st1.trans s3;exact st2.weak λb hb=>zD p.symm b (o4 b hb)
theorem JH:∀(n:Nat) {Z W:Fz},Mask Z W->Mask Z (W.drop n)
 |0,_,_,h=>h|n+1,_,_,.nil Z=>by simp only[List.drop_nil];exact .nil _|n+1,_,_,.keep h=>.skip (JH n h)|n+1,_,_,.skip h=>.skip (JH (n+1) h)|n+1,_,_,.extra h=>JH n h
theorem Wl{α β:Type}:∀(n:Nat) (l:List α) (m:List β),(l.zip m).drop n=(l.drop n).zip (m.drop n)
 |0,_,_=>rfl|n+1,[],_=>by simp|n+1,_::_,[]=>by simp|n+1,_::l,_::m=>by simp[Wl n l m]
def yld_got{J:It}{ds:List D}{Iv:Hp->Prop}{O0 O':St}{E0 E':zM}{H1 H' H'':Hp}{Da:Addr}{acc:List D}{i:Nat}{x:V}(it:ItOk K mg J ds Iv)(hlt:i<ds.length)(gb:Got K mg M O0 E0 H1 [] O' E' H' [(some (.ref Da),.own acc)])(ivb:Iv (Hm (Mo M ((some (.ref Da),Slot.own acc)::O'.zip E')) H'))(y:J.yld i H' x H'') :
  ∃d,ds[i]?=some d/\Got K mg M O0 E0 H1 [] O' E' H'' [(some (.ref Da),.own acc)]/\Iv (Hm (Mo M ((some (.ref Da),Slot.own acc)::O'.zip E')) H'')/\Rep K mg (Hm (Mo M ((some (.ref Da),Slot.own acc)::O'.zip E')) H'') d x:=by
 obtain⟨d,hd,h⟩:=it.yld i _ _ x _ zF ivb hlt y;rcases h with⟨rfl,rx⟩|⟨q,xs,es,hq,rfl,rfl,rfl,rs⟩
 ·exact⟨d,hd,gb,ivb,rx⟩
 ·have f:FR K mg M H' ((some (.ref Da),Slot.own acc)::O'.zip E'):=gb.fr
  have f1:=f.newTup hq rs;have s1:Step M H' ((some (.ref Da),Slot.own acc)::O'.zip E') (upd H' q (.t xs)) ((some (.ref q),.v (.t es))::((some (.ref Da),Slot.own acc)::O'.zip E')):=Step.newVal hq;obtain⟨v,ev,rv⟩:=f1.val _ _ qE;cases ev;have sm:=s1.same;rw[JA]at rv sm;have s2:Step M H' ((some (.ref Da),Slot.own acc)::O'.zip E') (upd H' q (.t xs)) ((some (.ref Da),Slot.own acc)::O'.zip E'):=⟨sm,s1.keep⟩;exact⟨_,hd,⟨gb.len,f1.tail,gb.st.trans s2,gb.pk⟩,it.mono _ _ sm ivb,rv⟩
def zAd{nl:Nat}{caps:List Nat}{mi:MI}{tg:MG}{tt:MT}{el:ME}{g:TG}{Q:VK}(ho:GOk X g tg)(h:tM X (ZJ nl caps mi tg tt el) O H Q):zEU nl caps (tMI X mi) g (tNT X.K X.mg tt) (tN X.K X.mg el) O H Q:=by
 obtain⟨M,E,hl,fr,k⟩:=h;unfold ZJ at k;refine⟨M,E,hl,fr,?_⟩;cases ei:mi E with
 |z=>rw[ei]at k;exact k|exc x E1=>rw[ei]at k;exact k
 |ok p =>
  obtain⟨ds,E1⟩:=p;rw[ei]at k;intro J Iv H1 it iv g1 D hD;dsimp only at k;cases ec:wz E1 caps with
  |z=>rw[ec]at k;exact k.elim|exc _ _=>rw[ec]at k;exact k.elim
  |ok ars =>
   rw[ec]at k;dsimp only at k;cases el1:zK ars E1 with
   |z=>rw[el1]at k;exact k.elim|exc _ _=>rw[el1]at k;exact k.elim
   |ok p =>
    obtain⟨ss,E2⟩:=p;rw[el1]at k;dsimp only at k;cases em:Jg tg tt el ds (replicate nl .e++ss) []with
    |z=>rw[em]at k;exact k.elim|exc _ _=>rw[em]at k;exact k.elim
    |ok p =>
     obtain⟨res,Eb⟩:=p;rw[em]at k;dsimp only at k;cases eb:zH ars ((zk (replicate nl .e++ss) Eb).drop nl) E1 E2 with
     |z=>rw[eb]at k;exact k.elim|exc _ _=>rw[eb]at k;exact k.elim
     |ok E3 =>
      rw[eb]at k;obtain⟨vs,av,evs,f1,o1⟩:=zAc (T:=[]) caps g1.len ec g1.fr;obtain⟨f2,o2,l2,l3⟩:=ZI (T:=[]) ars g1.len av el1 f1;have hv:=av.length;have f2':FR X.K X.mg M H1 (O.zip E2++(vs.map some).zip ss):=FR.perm (T:=O.zip E2++(vs.map some).zip ss) (Z:=(vs.map some).zip ss++O.zip E2) f2 perm_append_comm;have osub:∀b,b∈yI (O.zip E2++(vs.map some).zip ss)->b∈yI (O.zip E1):=λb hb =>
       o1 b ((o2 b).mpr (zD (T:=O.zip E2++(vs.map some).zip ss) (Z:=(vs.map some).zip ss++O.zip E2) perm_append_comm b hb))
      have st1:Step M H (O.zip E) H1 (O.zip E2++(vs.map some).zip ss):=g1.st.weak osub;have eO:zZ nl caps O=replicate nl none++vs.map some:=by unfold L2.zZ;rw[evs]
      rw[eO];have ez:(replicate nl (none:Option V)++vs.map some).zip (replicate nl Slot.e++ss)=replicate nl (none,.e)++(vs.map some).zip ss:=by
       rw[zip_append (by simp),uS]
      have f4:FR X.K X.mg (Mo M (O.zip E2)) H1 ((replicate nl (none:Option V)++vs.map some).zip (replicate nl Slot.e++ss)):=by
       rw[ez];exact(FR.inner f2').emps0 nl
      have oo:yI ((replicate nl (none:Option V)++vs.map some).zip (replicate nl Slot.e++ss))=yI ((vs.map some).zip ss):=by rw[ez,Gv]
      generalize hO0:replicate nl (none:Option V)++vs.map some=O0 at f4 oo ⊢;generalize hE0:replicate nl Slot.e++ss=E0 at f4 oo em eb ⊢;have hl0:E0.length=O0.length:=by rw[<- hO0,<- hE0];simp[l2,hv]
      have f5:=f4.newOwn (ds:=[]) (xs:=[]) hD Reps.nil;have s5:=Step.newOwn (ds:=[]) (xs:=[]) f4 hD;have iv5:Iv (Hm (Mo (Mo M (O.zip E2)) ((some (.ref D),Slot.own [])::O0.zip E0)) (upd H1 D (.l []))):=by
       refine it.mono _ _ s5.same (it.mono _ _ (jP λb hb=>?_) iv);rcases hb with hb|hb
       ·rcases hb with hb|hb
        ·exact .inl hb
        ·exact .inr (osub b (by rw[zT];exact mem_append_left _ hb))
       ·rw[oo]at hb
        exact .inr (osub b (by rw[zT];exact qK _ hb))
      refine⟨λi m O' H'=>m=ds.length-i/\i<=ds.length/\∃E' acc,Got X.K X.mg (Mo M (O.zip E2)) O0 E0 H1 [] O' E' H' [(some (.ref D),.own acc)]/\Iv (Hm (Mo (Mo M (O.zip E2)) ((some (.ref D),Slot.own acc)::O'.zip E')) H')/\Jg tg tt el (ds.drop i) E' acc=.ok (res,Eb),
       ⟨ds.length,by simp,zero_le _,E0,[],⟨hl0,f5,s5,PKp.refl⟩,iv5,em⟩,?_⟩
      rintro i m O' H' ⟨rfl,hi,E',acc,gb,ivb,cm⟩
      by_cases hlt:i<ds.length
      ·refine .inr ⟨it.go i _ H' zF ivb hlt,λO'' H''=>(i+1<=ds.length/\∃E' acc,Got X.K X.mg (Mo M (O.zip E2)) O0 E0 H1 [] O'' E' H'' [(some (.ref D),.own acc)]/\Iv (Hm (Mo (Mo M (O.zip E2)) ((some (.ref D),Slot.own acc)::O''.zip E')) H'')/\Jg tg tt el (ds.drop (i+1)) E' acc=.ok (res,Eb)),
        λO'' H'' q=>⟨ds.length-(i+1),by omega,rfl,q⟩,λx H'' y=>?_⟩
       obtain⟨d,hd,gb,ivb,rx⟩:=yld_got it hlt gb ivb y;have ed:ds.drop i=d::ds.drop (i+1):=by
        obtain⟨hi',rfl⟩:=qG.mp hd;exact List.drop_eq_getElem_cons hi'
       rw[ed]at cm;simp only[Jg]at cm;cases e1:tg d E' with
       |z=>rw[e1]at cm;cases cm|exc _ _=>rw[e1]at cm;cases cm
       |ok Ea =>
        rw[e1]at cm;dsimp only at cm;refine ho _ O' E' _ [(some (.ref D),.own acc)] x d Ea _ gb.len (gb.fr.add rx) e1 λO2 ga=>?_
        have g2:=gb.trans' ga;cases e2:tt Ea with
        |z=>rw[e2]at cm;cases cm|exc _ _=>rw[e2]at cm;cases cm
        |ok p =>
         obtain⟨b,Eb2⟩:=p;rw[e2]at cm;refine zCg ga.len ga.fr e2 λH3 gt=>?_
         have g3:=g2.trans' gt;have iv3:=it.mono _ _ (ga.st.same.trans gt.st.same) ivb;cases b with
         |false =>
          refine zD5 ⟨hlt,Eb2,acc,g3,iv3,cm⟩
         |true =>
          refine zD6 ?_;dsimp only at cm;cases e3:el Eb2 with
          |z=>rw[e3]at cm;cases cm|exc _ _=>rw[e3]at cm;cases cm
          |ok p =>
           obtain⟨r,Ec⟩:=p;rw[e3]at cm;dsimp only at cm;by_cases hcap:acc.length<cap
           ·rw[if_pos hcap]at cm
            refine zCf g3.len g3.fr e3 λyv H4 ge=>?_
            have g4:=g3.trans' ge;have fz:FR X.K X.mg (Mo M (O.zip E2)) H4 ((some yv,.v r.d)::((some (.ref D),Slot.own acc)::O2.zip Ec)):=g4.fr.frz;obtain⟨yv',ey,ry⟩:=fz.val _ _ qE;cases ey;rw[JA]at ry;have fo:=fz.tail;obtain⟨a,ys,ea,ha,_,rys⟩:=fo.ownL _ _ acc qE rfl;cases ea;refine⟨ys,ha,by rw[rys.length];exact lt_of_lt_of_le hcap (Wc (le_refl _)),hlt,Ec,acc++[r.d],?_⟩;obtain⟨fm,sm⟩:=FR.mut (i:=0) (s:=.own acc) fo rfl rfl (rys.append (Reps.cons ry Reps.nil));have fm':FR X.K X.mg (Mo M (O.zip E2)) (upd H4 D (.l (ys++[yv]))) ((some (.ref D),Slot.own (acc++[r.d]))::O2.zip Ec):=fm;have sm':Step (Mo M (O.zip E2)) H4 ((some (.ref D),Slot.own acc)::O2.zip Ec) (upd H4 D (.l (ys++[yv]))) ((some (.ref D),Slot.own (acc++[r.d]))::O2.zip Ec):=sm;have sz:Step (Mo M (O.zip E2)) H3 ((some (.ref D),Slot.own acc)::O2.zip Eb2) H4 ((some (.ref D),Slot.own acc)::O2.zip Ec):=ge.st.weak (zC (sublist_cons_self _ _));have sz0:Step (Mo M (O.zip E2)) H1 (O0.zip E0) H4 ((some (.ref D),Slot.own acc)::O2.zip Ec):=g4.st.weak (zC (sublist_cons_self _ _));exact⟨⟨g4.len,fm',sz0.trans sm',g4.pk⟩,it.mono _ _ (sz.same.trans sm'.same) iv3,cm⟩
           ·rw[if_neg hcap]at cm;cases cm
      ·have ei2:i=ds.length:=by omega
       subst ei2;rw[drop_length]at cm;simp only[Jg]at cm;cases cm;refine .inl ⟨it.stop _ _ H' zF ivb (le_refl _),k _ H' ?_⟩;have mk0:Mask (O'.zip Eb) (O0.zip (zk E0 Eb)):=Yi E0 O0 O' Eb gb.len (hl0.symm) λj ds' e=>(gb.pk j ds' e).2
       have mk:Mask (O'.zip Eb) ((vs.map some).zip ((zk E0 Eb).drop nl)):=by
        have:=JH nl mk0;have e:(O0.zip (zk E0 Eb)).drop nl=(vs.map some).zip ((zk E0 Eb).drop nl):=by
         rw[Wl,<- hO0];congr 1;rw[List.drop_left' (by simp)]
        rw[e]at this;exact this
       refine Gw (r:=.own res) el1 eb av f2' st1 l3 g1.pk (gb.fr.mask (.keep mk)) ?_;refine(gb.st.weak λb hb=>(Mask.keep mk).sub.subset hb).left λb hb=>?_
       show b∈yI _
       rw[nil_append,oo]at hb;exact hb
end
section
variable{X:Cx}{elt target iter:Expr}{ifs:List Expr}{scope:Scope}{pos:Pos}
def ok_comp{mi:MI}{tg:MG}{tt:MT}{el:ME}{g:TG}(nl:Nat)(caps:List Nat)(N':List Str)(hx:∀e s,¬X.xe e s)(hc:X.calm=true)(hkind:scope.kind=.function)(hnames:∀y∈scope.names,y.2=.local->scope.names.lookup y.1=some .local)(hcell:∀y∈scope.names,y.2=.cell->scope.names.lookup y.1=some .cell)
  (hfree:(scope.names.all λy=>y.2 != .free||X.env.kindOf y.1==some .cell)=true)
  (hlen:N'.length=nl+caps.length) (hcap:∀(i j:Nat),caps[i]?=some j->∃x,N'[nl+i]?=some x/\X.N[j]?=some x/\scope.names.lookup x=some .free)
  (hi:IOk X target iter mi) (hg:∀cl C ex s H,PG (cxB X N' scope cl C ex s H) target g) (ho:GOk X g tg) (ht:∀cl C ex s H,zFo (cxB X N' scope cl C ex s H) ifs tt) (he:∀cl C ex s H,EOk (cxB X N' scope cl C ex s H) elt el)
  (hs:∀x,foldedSetIterable iter X.env x=pure x:=by intro _;rfl):EOk X (.ListComp elt [⟨target,iter,ifs,0⟩] scope pos) (ZJ nl caps mi tg tt el) :=
 zr (pe_comp (te:=tN X.K X.mg el) (tt:=tNT X.K X.mg tt) hx hc hkind hnames hcell hfree hlen hcap hi hg (λcl C ex s H=>Yk (ht cl C ex s H) λO H Q q=>zEV (X:=cxB X N' scope cl C ex s _) q) (λcl C ex s H=>zr (he cl C ex s H) λO H Q q=>tN_M (X:=cxB X N' scope cl C ex s _) q) hs) λO H Q=>zAd ho
def sk_comp{mi:MI}{tg:MG}{tt:MT}{el:ME}{g:TG}{i:Nat}{y:Str}{py spos:Pos}(nl:Nat)(caps:List Nat)(N':List Str)(hN:X.N.Nodup)(hi':X.N[i]?=some y)(hy:Loc X.env.scope y)(hf:X.fn y=true\/X.env.scope.names.lookup y=some .local)(hx:∀e s,¬X.xe e s)(hc:X.calm=true)(hkind:scope.kind=.function)(hnames:∀y∈scope.names,y.2=.local->scope.names.lookup y.1=some .local)(hcell:∀y∈scope.names,y.2=.cell->scope.names.lookup y.1=some .cell)
  (hfree:(scope.names.all λy=>y.2 != .free||X.env.kindOf y.1==some .cell)=true)
  (hlen:N'.length=nl+caps.length) (hcap:∀(i j:Nat),caps[i]?=some j->∃x,N'[nl+i]?=some x/\X.N[j]?=some x/\scope.names.lookup x=some .free)
  (hi:IOk X target iter mi) (hg:∀cl C ex s H,PG (cxB X N' scope cl C ex s H) target g) (ho:GOk X g tg) (ht:∀cl C ex s H,zFo (cxB X N' scope cl C ex s H) ifs tt) (he:∀cl C ex s H,EOk (cxB X N' scope cl C ex s H) elt el)
  (hs:∀x,foldedSetIterable iter X.env x=pure x) (hsw:swapsWith (.ListComp elt [⟨target,iter,ifs,0⟩] scope pos) (some (.Name y py)) spos.line X.env=pure true) :
  SOk X (.Assign [.Name y py] (.ListComp elt [⟨target,iter,ifs,0⟩] scope pos) spos) (sSet i (ZJ nl caps mi tg tt el)) :=
 yy (ps_setC (te:=tN X.K X.mg el) (tt:=tNT X.K X.mg tt) hN hi' hy hf hx hc hkind hnames hcell hfree hlen hcap hi hg (λcl C ex s H=>Yk (ht cl C ex s H) λO H Q q=>zEV (X:=cxB X N' scope cl C ex s _) q) (λcl C ex s H=>zr (he cl C ex s H) λO H Q q=>tN_M (X:=cxB X N' scope cl C ex s _) q) hs hsw) λD O H h=>zAd ho (Qn h)
end
def mem7{P:String->Prop}(h1:P "NoneType")(h2:P "bool")(h3:P "int")(h4:P "str")(h5:P "tuple")(h6:P "list")(h7:P "dict"):∀t∈["NoneType","bool","int","str","tuple","list","dict"],P t:=by
 intro t ht;simp only[mem_cons,mem_nil_iff,or_false]at ht;rcases ht with rfl|rfl|rfl|rfl|rfl|rfl|rfl<;>assumption
abbrev Kit(K:qH)(T:String):Prop:=∀t∈["NoneType","bool","int","str","tuple","list","dict"],kitOne K (.type t) (.type T)=some (Gp t T)
def kit_int(K:qH):Kit K "int":=mem7 rfl rfl rfl rfl rfl rfl rfl
def zEW(K:qH):Kit K "bool":=mem7 rfl rfl rfl rfl rfl rfl rfl
def zCh(K:qH):Kit K "tuple":=mem7 rfl rfl rfl rfl rfl rfl rfl
def zEX(K:qH):Kit K "list":=mem7 rfl rfl rfl rfl rfl rfl rfl
def kit_str(K:qH):Kit K "str":=mem7 rfl rfl rfl rfl rfl rfl rfl
def zEY(K:qH):Kit K "dict":=mem7 rfl rfl rfl rfl rfl rfl rfl
def uX:bootBuiltins "isinstance"=some (.builtin "isinstance"):=by decide +kernel
def bt_len:bootBuiltins "len"=some (.builtin "len"):=by decide +kernel
def bt_max:bootBuiltins "max"=some (.builtin "max"):=by decide +kernel
def bt_all:bootBuiltins "all"=some (.builtin "all"):=by decide +kernel
def zFp:bootBuiltins "int"=some (.type "int"):=by decide +kernel
def bt_bool:bootBuiltins "bool"=some (.type "bool"):=by decide +kernel
def zAe:bootBuiltins "tuple"=some (.type "tuple"):=by decide +kernel
def bt_list:bootBuiltins "list"=some (.type "list"):=by decide +kernel
def bt_str:bootBuiltins "str"=some (.type "str"):=by decide +kernel
def zCi:bootBuiltins "dict"=some (.type "dict"):=by decide +kernel
section
variable{X:Cx}{K:qH}{mg:Str->Option Value}{O:St}{H:Hp}
def eNeg(a:ME):ME:=λE=>match a E with
 | .ok (.v (.int i),E1)=>.ok (.v (.int (-i)),E1)| .exc x E1=>.exc x E1|_=>.z
def ok_neg{a:Expr}{m:ME}{pos:Pos}(h:EOk X a m):EOk X (.UnaryOp .USub a pos) (eNeg m):=zr (pe_un un_neg h) λO H Q ⟨M,E,hl,fr,k⟩=>by
 unfold eNeg at k;refine zx (T0:=[]) hl fr ?_;cases ea:m E with
 |z=>rw[ea]at k;exact k|exc x E1=>rw[ea]at k;exact k
 |ok p =>
  obtain⟨r,E1⟩:=p;rw[ea]at k;cases r with
  |own ds=>exact k.elim|dct _ _=>exact k.elim
  |v d =>
   cases d with
   |int i =>
    intro v H' g;exact⟨i,zL g.rep,k _ H' (g.flat (d:=.int (-i)) rfl)⟩
   |_=>exact k.elim
def jq(p p':Int->Int->Bool)(a b c:ME):ME:=λE=>match a E with
 | .z=>.z| .exc x E1=>.exc x E1
 | .ok (.v (.int i),E1)=>match b E1 with
  | .z=>.z| .exc x E2=>.exc x E2
  | .ok (.v (.int j),E2)=>if p i j=true then match c E2 with
    | .z=>.z| .exc x E3=>.exc x E3| .ok (.v (.int k),E3)=>.ok (.v (.bl (p' j k)),E3)|_=>.z
   else .ok (.v (.bl false),E2)
  |_=>.z
 |_=>.z
def Gy{p p':Int->Int->Bool}{a b c:ME}{Q:VK}(h:tM X (jq p p' a b c) O H Q):zB1 (rI0 λi j=>.bl (p i j)) (rI0 λi j=>.bl (p' i j)) (tM X a) (tM X b) (tM X c) O H Q:=by
 obtain⟨M,E,hl,fr,k⟩:=h;unfold jq at k;refine zx (T0:=[]) hl fr ?_;cases ea:a E with
 |z=>rw[ea]at k;exact k|exc x E1=>rw[ea]at k;exact k
 |ok q =>
  obtain⟨r,E1⟩:=q;rw[ea]at k;cases r with
  |own ds=>exact k.elim|dct _ _=>exact k.elim
  |v d =>
   cases d with
   |int i =>
    intro x H1 g1;have g1':=g1.dropAll;refine zx (T0:=[]) g1'.len g1'.fr ?_;dsimp only at k;cases eb:b E1 with
    |z=>rw[eb]at k;exact k|exc x E2=>rw[eb]at k;exact λH' g=>k H' (g1'.trans' g)
    |ok q =>
     obtain⟨r2,E2⟩:=q;rw[eb]at k;cases r2 with
     |own ds=>exact k.elim|dct _ _=>exact k.elim
     |v d2 =>
      cases d2 with
      |int j =>
       intro y H2 g2;have g12:=(g1'.trans' g2).dropAll;refine⟨i,j,zL g1.rep,zL g2.rep,p i j,rfl,?_⟩;dsimp only at k;cases ep:p i j with
       |false =>
        rw[ep]at k;exact zD5 (k _ H2 (g12.flat (d:=.bl false) rfl))
       |true =>
        rw[ep]at k;simp only[if_true]at k;refine zD6 (zx (T0:=[]) g12.len g12.fr ?_);cases ec:c E2 with
        |z=>rw[ec]at k;exact k|exc x E3=>rw[ec]at k;exact λH' g=>k H' (g12.trans' g)
        |ok q =>
         obtain⟨r3,E3⟩:=q;rw[ec]at k;cases r3 with
         |own ds=>exact k.elim|dct _ _=>exact k.elim
         |v d3 =>
          cases d3 with
          |int n =>
           intro w H3 g3;exact⟨j,n,zL g2.rep,zL g3.rep,k _ H3 ((g12.trans' g3).flat (d:=.bl (p' j n)) rfl)⟩
          |_=>exact k.elim
      |_=>exact k.elim
   |_=>exact k.elim
def zEZ{op op':CmpOp}{p p':Int->Int->Bool}{a b c:Expr}{ma mb mc:ME}{pos:Pos}(ho:OpR X (compareOp op) (rI0 λi j=>.bl (p i j)))(ho':OpR X (compareOp op') (rI0 λi j=>.bl (p' i j)))(ha:EOk X a ma)(hb:EOk X b mb)(hc:EOk X c mc)
  (hm:lastMarks [op,op'] [b,c]=false:=by with_unfolding_all rfl):EOk X (.Compare a [op,op'] [b,c] pos) (jq p p' ma mb mc):=zr (zDw ho ho' ha hb hc hm) λO H Q=>Gy
def zCj{op op':CmpOp}{p p':Int->Int->Bool}{a b c:Expr}{ma mb mc:ME}{pos:Pos}(ho:OpR X (compareOp op) (rI0 λi j=>.bl (p i j)))(ho':OpR X (compareOp op') (rI0 λi j=>.bl (p' i j)))(ha:EOk X a ma)(hb:EOk X b mb)(hc:EOk X c mc)
  (hm:lastMarks [op,op'] [b,c]=false:=by with_unfolding_all rfl):TOk X (.Compare a [op,op'] [b,c] pos) (tT (jq p p' ma mb mc)):=zAU (zDx ho ho' ha hb hc hm) λO H Q q=>Gy (zCM q)
abbrev ltB:Int->Int->Bool:=λi j=>decide (i<j)
abbrev leB:Int->Int->Bool:=λi j=>decide (i<=j)
abbrev gtB:Int->Int->Bool:=λi j=>decide (j<i)
abbrev geB:Int->Int->Bool:=λi j=>decide (j<=i)
def Qq(X:Cx)(scope:Scope):List Nat->List Str->Prop
 | [],[]=>True|j::js,x::xs=>X.N[j]?=some x/\scope.names.lookup x=some .free/\Qq X scope js xs|_,_=>False
theorem Gz{scope:Scope}{loc:List Str}:∀{caps:List Nat} {capn:List Str},Qq X scope caps capn->capn.length=caps.length/\∀(i j:Nat),caps[i]?=some j->∃x,capn[i]?=some x/\X.N[j]?=some x/\scope.names.lookup x=some .free
 | [],[],h=>⟨rfl,λi j e=>by simp at e⟩| [],_::_,h=>h.elim|_::_,[],h=>h.elim
 |j::js,x::xs,h=>by
  obtain⟨h1,h2,h3⟩:=h;obtain⟨i1,i2⟩:=Gz (loc:=loc) h3;refine⟨by simp[i1],λi k e=>?_⟩;cases i with
  |zero=>simp at e;subst e;exact⟨x,rfl,h1,h2⟩|succ i=>simp at e;obtain⟨y,q⟩:=i2 i k e;exact⟨y,by simpa using q⟩
def ok_lc{elt target iter:Expr}{ifs:List Expr}{scope:Scope}{pos:Pos}{mi:MI}{tg:MG}{tt:MT}{el:ME}{g:TG}{nl:Nat}{caps:List Nat}(loc capn:List Str)(hnl:loc.length=nl)(hx:∀e s,¬X.xe e s)(hc:X.calm=true)(hkind:scope.kind=.function)(hnames:∀y∈scope.names,y.2=.local->scope.names.lookup y.1=some .local)(hcell:∀y∈scope.names,y.2=.cell->scope.names.lookup y.1=some .cell)
  (hfree:(scope.names.all λy=>y.2 != .free||X.env.kindOf y.1==some .cell)=true) (hcap:Qq X scope caps capn)
  (hi:IOk X target iter mi) (hg:∀cl C ex s H,PG (cxB X (loc++capn) scope cl C ex s H) target g) (ho:GOk X g tg) (ht:∀cl C ex s H,zFo (cxB X (loc++capn) scope cl C ex s H) ifs tt) (he:∀cl C ex s H,EOk (cxB X (loc++capn) scope cl C ex s H) elt el)
  (hs:∀x,foldedSetIterable iter X.env x=pure x:=by intro _;rfl):EOk X (.ListComp elt [⟨target,iter,ifs,0⟩] scope pos) (ZJ nl caps mi tg tt el):=by
 obtain⟨c1,c2⟩:=Gz (loc:=loc) hcap;refine ok_comp nl caps (loc++capn) hx hc hkind hnames hcell hfree (by simp[hnl,c1]) (λi j e=>?_) hi hg ho ht he hs;obtain⟨x,q1,q2,q3⟩:=c2 i j e;refine⟨x,?_,q2,q3⟩;rw[getElem?_append_right (by omega),hnl,Nat.add_sub_cancel_left];exact q1
def sk_lc{elt target iter:Expr}{ifs:List Expr}{scope:Scope}{pos:Pos}{mi:MI}{tg:MG}{tt:MT}{el:ME}{g:TG}{nl:Nat}{caps:List Nat}{i:Nat}{y:Str}{py spos:Pos}(loc capn:List Str)(hN:X.N.Nodup)(hi':X.N[i]?=some y)(hy:Loc X.env.scope y)(hf:X.fn y=true\/X.env.scope.names.lookup y=some .local)(hnl:loc.length=nl)(hx:∀e s,¬X.xe e s)(hc:X.calm=true)(hkind:scope.kind=.function)(hnames:∀y∈scope.names,y.2=.local->scope.names.lookup y.1=some .local)(hcell:∀y∈scope.names,y.2=.cell->scope.names.lookup y.1=some .cell)
  (hfree:(scope.names.all λy=>y.2 != .free||X.env.kindOf y.1==some .cell)=true) (hcap:Qq X scope caps capn)
  (hi:IOk X target iter mi) (hg:∀cl C ex s H,PG (cxB X (loc++capn) scope cl C ex s H) target g) (ho:GOk X g tg) (ht:∀cl C ex s H,zFo (cxB X (loc++capn) scope cl C ex s H) ifs tt) (he:∀cl C ex s H,EOk (cxB X (loc++capn) scope cl C ex s H) elt el)
  (hs:∀x,foldedSetIterable iter X.env x=pure x) (hsw:swapsWith (.ListComp elt [⟨target,iter,ifs,0⟩] scope pos) (some (.Name y py)) spos.line X.env=pure true) :
  SOk X (.Assign [.Name y py] (.ListComp elt [⟨target,iter,ifs,0⟩] scope pos) spos) (sSet i (ZJ nl caps mi tg tt el)):=by
 obtain⟨c1,c2⟩:=Gz (loc:=loc) hcap;refine sk_comp nl caps (loc++capn) hN hi' hy hf hx hc hkind hnames hcell hfree (by simp[hnl,c1]) (λi j e=>?_) hi hg ho ht he hs hsw;obtain⟨x,q1,q2,q3⟩:=c2 i j e;refine⟨x,?_,q2,q3⟩;rw[getElem?_append_right (by omega),hnl,Nat.add_sub_cancel_left];exact q1
end
section
variable(P:Program)(w:World)(K:qH)(mg:Str->Option Value)(base:Heap)
def wK(x:Str)(st:Stmt)(ps:List Str):Prop:=∃(a:Addr) (fd:FuncData),mg x=some (.ref a)/\Fun K x x st a fd/\Z3 K fd ps []
def FOk(c:Bool)(x:Str)(k:Nat)(ps:List Str)(F:MF):Prop:=∃(a:Addr) (fd:FuncData),mg x=some (.ref a)/\keepIn K (.ref a)=true/\Z3 K fd ps []/\FnOkN c P w K mg base k a fd ps (spM K mg ps.length F)
end
mutual
def deq:D->D->Bool
 | .t a,d=>match d with
  | .t b=>deqs a b|_=>false
 | .l a,d=>match d with
  | .l b=>deqs a b|_=>false
 |a,d=>match d with
  | .t _=>false| .l _=>false|b=>eqV (flV a) (flV b)
def deqs:List D->List D->Bool
 | [],[]=>true|a::as,b::bs=>deq a b&&deqs as bs| [],_::_=>false|_::_,[]=>false
end
def eqb:Nat->D->Bool
 |_,.non=>true|_,.bl _=>true|_,.int _=>true|_,.str _=>true|n+1,.t ds=>ds.all (eqb n)|n+1,.l ds=>ds.all (eqb n)|_,_=>false
theorem wa:∀(a b:List D),deqs a b=((List.range (min a.length b.length)).all (λj=>deq (a.getD j .non) (b.getD j .non))&&a.length==b.length)
 | [],[]=>by simp[deqs]| [],_::_=>by simp[deqs]|_::_,[]=>by simp[deqs]
 |a::as,b::bs=>by
  simp only[deqs,wa as bs,length_cons];have e:min (as.length+1) (bs.length+1)=min as.length bs.length+1:=by omega
  rw[e,List.range_succ_eq_map,all_cons,List.all_map];simp[Function.comp_def,Bool.and_assoc]
section
variable{X:Cx}{pins:List (Addr×Obj)}{O:St}{H:Hp}{s:Shared}
def jy{d:D}(h:eqb 0 d=true):flat d=true:=by cases d<;>first|rfl|(cases h)
def zAf{v:V}(h:Jf v=true):eqV v v=true:=by cases v<;>simp[Jf]at h<;>simp[eqV]
def JZ{a b:D}(ha:flat a=true)(hb:flat b=true):deq a b=eqV (flV a) (flV b):=by
 cases a<;>cases b<;>first|(simp[flat]at ha;done)|(simp[flat]at hb;done)|simp[deq]
def zt{n:Nat}{d:D}(h:eqb n d=true):flat d=true\/(∃m ds,n=m+1/\d=.t ds/\∀e∈ds,eqb m e=true)\/(∃m ds,n=m+1/\d=.l ds/\∀e∈ds,eqb m e=true):=by
 cases d with
 |t ds =>
  cases n with
  |zero=>cases h|succ m=>exact .inr (.inl ⟨m,ds,rfl,rfl,all_eq_true.mp h⟩)
 |l ds =>
  cases n with
  |zero=>cases h|succ m=>exact .inr (.inr ⟨m,ds,rfl,rfl,all_eq_true.mp h⟩)
 |fn x=>cases n<;>cases h
 |dic=>cases n<;>cases h
 |dct _ _=>cases n<;>cases h
 |exn x y=>cases n<;>cases h
 |_=>exact .inl rfl
def zAg(I:Inv X pins O H s):∀(n:Nat) (d e:D) (x:V),eqb n d=true->eqb n e=true->Rep X.K X.mg H d x->Rep X.K X.mg H e x->deq d e=true:=by
 intro n
 induction n with
 |zero =>
  intro d e x hd he rd re;have fd:=jy hd;have fe:=jy he;rw[JZ fd fe,<- zV fd rd,<- zV fe re];exact zAf (by rw[zV fd rd];exact yN fd)
 |succ n ih =>
  intro d e x hd he rd re;have seq:∀(ds es:List D) (xs:List V),(∀e∈ds,eqb n e=true)->(∀e∈es,eqb n e=true)->Reps X.K X.mg H ds xs->Reps X.K X.mg H es xs->deqs ds es=true:=by
   intro ds
   induction ds with
   |nil =>
    intro es xs _ _ r1 r2;simp only[Reps]at r1;subst r1;cases es with
    |nil=>rfl|cons e es=>simp only[Reps]at r2;obtain⟨v,r,q,_⟩:=r2;cases q
   |cons d ds ihd =>
    intro es xs h1 h2 r1 r2;simp only[Reps]at r1;obtain⟨v,r,rfl,a1,a2⟩:=r1;cases es with
    |nil=>simp only[Reps]at r2;cases r2
    |cons e es =>
     simp only[Reps]at r2;obtain⟨v',r',q,b1,b2⟩:=r2;cases q;simp only[deqs,Bool.and_eq_true];exact⟨ih d e v (h1 d qE) (h2 e qE) a1 b1,ihd es r (λz hz=>h1 z (qD _ hz)) (λz hz=>h2 z (qD _ hz)) a2 b2⟩
  have isRef:∀{d:D} {a:Addr},flat d=true->Rep X.K X.mg H d (.ref a)->False:=λ{d a} fd r=>by
   have:=zV fd r;cases d<;>simp[flat]at fd<;>cases this
  have kinds:∀{a:Addr} {xs ys:List V},SqT X.K H a xs->SqL X.K H a ys->False:=λ{a xs ys} h1 h2=>by
   obtain⟨i1,_,⟨o,e1,c1,_⟩,_⟩:=I.tuple h1;obtain⟨i2,_,⟨o2,n2,e2,c2,_⟩,_⟩:=I.list h2;rw[e1]at e2;cases e2;rw[c1]at c2;simp at c2
  rcases zt hd with fd|⟨m,ds,em,rfl,hds⟩|⟨m,ds,em,rfl,hds⟩
  ·rcases zt he with fe|⟨m,es,em,rfl,hes⟩|⟨m,es,em,rfl,hes⟩
   ·rw[JZ fd fe,<- zV fd rd,<- zV fe re]
    exact zAf (by rw[zV fd rd];exact yN fd)
   ·obtain⟨a,xs,rfl,_,_⟩:=za re
    exact(isRef fd rd).elim
   ·obtain⟨a,xs,rfl,_,_⟩:=zX re
    exact(isRef fd rd).elim
  ·cases em
   obtain⟨a,xs,rfl,q1,q2⟩:=za rd;rcases zt he with fe|⟨m,es,em,rfl,hes⟩|⟨m,es,em,rfl,hes⟩
   ·exact(isRef fe re).elim
   ·cases em
    obtain⟨b,ys,e,p1,p2⟩:=za re;cases e;have:=I.tuple_inj q1 p1;subst this;simp only[deq];exact seq ds es xs hds hes q2 p2
   ·obtain⟨b,ys,e,p1,p2⟩:=zX re
    cases e;exact(kinds q1 p1).elim
  ·cases em
   obtain⟨a,xs,rfl,q1,q2⟩:=zX rd;rcases zt he with fe|⟨m,es,em,rfl,hes⟩|⟨m,es,em,rfl,hes⟩
   ·exact(isRef fe re).elim
   ·obtain⟨b,ys,e,p1,p2⟩:=za re
    cases e;exact(kinds p1 q1).elim
   ·cases em
    obtain⟨b,ys,e,p1,p2⟩:=zX re;cases e;have:=I.list_inj q1 p1;subst this;simp only[deq];exact seq ds es xs hds hes q2 p2
def ZK{ds:List D}{xs:List V}{us:List Value}(r:Reps X.K X.mg H ds xs)(v:ya xs us){j:Nat}(h:j<us.length):j<ds.length/\∃x,Rep X.K X.mg H (ds.getD j .non) x/\yK x us[j]:=by
 have l1:=r.length;have l2:=v.length;have hd:j<ds.length:=by omega
 refine⟨hd,?_⟩;obtain⟨x,q1,q2⟩:=r.get' (i:=j) (d:=ds[j]) (by simp[hd]);obtain⟨u,e1,e2⟩:=v.get q1;have:us[j]=u:=by
  have:=qG.mp e1;exact this.2
 refine⟨x,?_,by rw[this];exact e2⟩;rw[getD_eq_getElem?_getD,getElem?_eq_getElem hd];exact q2
def eqAt_ft{A:Around}{d:D}{x:V}{u:Value}{b:Addr}{its:Array Value}(hd:flat d=true)(rx:yK x u)(ex:x=flV d)(hb:s.heap.IsTuple b its)(hu:A.units<cLine):SeqAt.EqAt A s u (.ref b) false:=by
 subst ex;cases d with
 |non=>cases rx;exact SeqAt.EqAt.none_tuple hb hu|bl c=>cases rx;exact SeqAt.EqAt.bool_tuple c hb hu|int i=>obtain⟨t,rfl⟩:=rx;exact SeqAt.EqAt.int_tuple i t hb hu|str z=>obtain⟨t,rfl⟩:=rx;exact SeqAt.EqAt.str_tuple z t hb hu|_=>simp[flat]at hd
def eqAt_fl{A:Around}{d:D}{x:V}{u:Value}{b:Addr}{its:Array Value}(hd:flat d=true)(rx:yK x u)(ex:x=flV d)(hb:s.heap.IsList b its)(hu:A.units<cLine):SeqAt.EqAt A s u (.ref b) false:=by
 subst ex;cases d with
 |non=>cases rx;exact SeqAt.EqAt.none_list hb hu|bl c=>cases rx;exact SeqAt.EqAt.bool_list c hb hu|int i=>obtain⟨t,rfl⟩:=rx;exact SeqAt.EqAt.int_list i t hb hu|str z=>obtain⟨t,rfl⟩:=rx;exact SeqAt.EqAt.str_list z t hb hu|_=>simp[flat]at hd
def eqAt_tf{A:Around}{d:D}{x:V}{u:Value}{b:Addr}{its:Array Value}(hd:flat d=true)(rx:yK x u)(ex:x=flV d)(hb:s.heap.IsTuple b its)(hu:A.units<cLine):SeqAt.EqAt A s (.ref b) u false:=by
 subst ex;cases d with
 |non=>cases rx;exact SeqAt.EqAt.tuple_none hb hu|bl c=>cases rx;exact SeqAt.EqAt.tuple_bool c hb hu|int i=>obtain⟨t,rfl⟩:=rx;exact SeqAt.EqAt.tuple_int i t hb hu|str z=>obtain⟨t,rfl⟩:=rx;exact SeqAt.EqAt.tuple_str z t hb hu|_=>simp[flat]at hd
def eqAt_lf{A:Around}{d:D}{x:V}{u:Value}{b:Addr}{its:Array Value}(hd:flat d=true)(rx:yK x u)(ex:x=flV d)(hb:s.heap.IsList b its)(hu:A.units<cLine):SeqAt.EqAt A s (.ref b) u false:=by
 subst ex;cases d with
 |non=>cases rx;exact SeqAt.EqAt.list_none hb hu|bl c=>cases rx;exact SeqAt.EqAt.list_bool c hb hu|int i=>obtain⟨t,rfl⟩:=rx;exact SeqAt.EqAt.list_int i t hb hu|str z=>obtain⟨t,rfl⟩:=rx;exact SeqAt.EqAt.list_str z t hb hu|_=>simp[flat]at hd
def zCk{d:D}{ds:List D}(h:flat d=true):deq d (.t ds)=false:=by cases d<;>simp[flat]at h<;>simp[deq]
def zCl{d:D}{ds:List D}(h:flat d=true):deq d (.l ds)=false:=by cases d<;>simp[flat]at h<;>simp[deq]
def zCm{d:D}{ds:List D}(h:flat d=true):deq (.t ds) d=false:=by cases d<;>simp[flat]at h<;>simp[deq]
def zCn{d:D}{ds:List D}(h:flat d=true):deq (.l ds) d=false:=by cases d<;>simp[flat]at h<;>simp[deq]
def eqAtD(I:Inv X pins O H s):∀(n:Nat) (A:Around) (d e:D) (x y:V) (u v:Value),eqb n d=true->eqb n e=true->Rep X.K X.mg H d x->Rep X.K X.mg H e y->yK x u->yK y v->A.units+n<cLine->SeqAt.EqAt A s u v (deq d e):=by
 intro n
 induction n with
 |zero =>
  intro A d e x y u v hd he rd re rx ry hu;have fd:=jy hd;have fe:=jy he;rw[JZ fd fe,<- zV fd rd,<- zV fe re];exact vf rx ry (by rw[zV fd rd];exact yN fd) (by rw[zV fe re];exact yN fe)
 |succ n ih =>
  intro A d e x y u v hd he rd re rx ry hu;have hu0:A.units<cLine:=by omega
  have item:∀{ds es:List D} {xs ys:List V} {us vs:List Value},(∀e∈ds,eqb n e=true)->(∀e∈es,eqb n e=true)->Reps X.K X.mg H ds xs->Reps X.K X.mg H es ys->ya xs us->ya ys vs ->
    ∀j (h1:j<us.toArray.size) (h2:j<vs.toArray.size),SeqAt.EqAt A.in1 s us.toArray[j] vs.toArray[j] (deq (ds.getD j .non) (es.getD j .non)):=by
   intro ds es xs ys us vs k1 k2 r1 r2 v1 v2 j h1 h2;have h1':j<us.length:=by simpa using h1
   have h2':j<vs.length:=by simpa using h2
   obtain⟨l1,x1,a1,b1⟩:=ZK r1 v1 h1';obtain⟨l2,x2,a2,b2⟩:=ZK r2 v2 h2';rw[getElem_toArray,getElem_toArray];have m1:ds.getD j .non∈ds:=by rw[getD_eq_getElem?_getD,getElem?_eq_getElem l1];exact getElem_mem l1
   have m2:es.getD j .non∈es:=by rw[getD_eq_getElem?_getD,getElem?_eq_getElem l2];exact getElem_mem l2
   exact ih A.in1 _ _ x1 x2 _ _ (k1 _ m1) (k2 _ m2) a1 a2 b1 b2 (by show A.units+1+n<cLine;omega)
  rcases zt hd with fd|⟨m,ds,em,rfl,hds⟩|⟨m,ds,em,rfl,hds⟩
  ·have ex:=zV fd rd
   rcases zt he with fe|⟨m,es,em,rfl,hes⟩|⟨m,es,em,rfl,hes⟩
   ·rw[JZ fd fe,<- zV fd rd,<- zV fe re]
    exact vf rx ry (by rw[zV fd rd];exact yN fd) (by rw[zV fe re];exact yN fe)
   ·obtain⟨b,ys,rfl,p1,p2⟩:=za re
    cases ry;obtain⟨its,_,pl,_⟩:=I.tuple p1;rw[zCk fd];exact eqAt_ft fd rx ex pl hu0
   ·obtain⟨b,ys,rfl,p1,p2⟩:=zX re
    cases ry;obtain⟨its,_,pl,_⟩:=I.list p1;rw[zCl fd];exact eqAt_fl fd rx ex pl.isList hu0
  ·cases em
   obtain⟨a,xs,rfl,q1,q2⟩:=za rd;cases rx;obtain⟨us,v1,pl1,_⟩:=I.tuple q1;rcases zt he with fe|⟨m,es,em,rfl,hes⟩|⟨m,es,em,rfl,hes⟩
   ·rw[zCm fe];exact eqAt_tf fe ry (zV fe re) pl1 hu0
   ·cases em
    obtain⟨b,ys,rfl,p1,p2⟩:=za re;cases ry;obtain⟨vs,v2,pl2,_⟩:=I.tuple p1;by_cases hab:a=b
    ·subst hab
     rw[zAg I (n+1) _ _ _ hd he rd re];exact SeqAt.EqAt.same _
    ·have q:=SeqAt.EqAt.of_refs hab (SeqAt.RcAt.tuples pl1 pl2 hu0 (item hds hes q2 p2 v1 v2))
     simp only[deq];rw[wa];have l1:us.toArray.size=ds.length:=by rw[size_toArray,<- v1.length,q2.length]
     have l2:vs.toArray.size=es.length:=by rw[size_toArray,<- v2.length,p2.length]
     rw[l1,l2]at q;exact q
   ·obtain⟨b,ys,rfl,p1,p2⟩:=zX re
    cases ry;obtain⟨vs,v2,pl2,_⟩:=I.list p1;simp only[deq];exact SeqAt.EqAt.tuple_list pl1 pl2.isList hu0
  ·cases em
   obtain⟨a,xs,rfl,q1,q2⟩:=zX rd;cases rx;obtain⟨us,v1,pl1,_⟩:=I.list q1;rcases zt he with fe|⟨m,es,em,rfl,hes⟩|⟨m,es,em,rfl,hes⟩
   ·rw[zCn fe];exact eqAt_lf fe ry (zV fe re) pl1.isList hu0
   ·obtain⟨b,ys,rfl,p1,p2⟩:=za re
    cases ry;obtain⟨vs,v2,pl2,_⟩:=I.tuple p1;simp only[deq];exact SeqAt.EqAt.list_tuple pl1.isList pl2 hu0
   ·cases em
    obtain⟨b,ys,rfl,p1,p2⟩:=zX re;cases ry;obtain⟨vs,v2,pl2,_⟩:=I.list p1;have l1:us.toArray.size=ds.length:=by rw[size_toArray,<- v1.length,q2.length]
    have l2:vs.toArray.size=es.length:=by rw[size_toArray,<- v2.length,p2.length]
    by_cases hab:a=b
    ·subst hab
     rw[zAg I (n+1) _ _ _ hd he rd re];exact SeqAt.EqAt.same _
    ·simp only[deq]
     rw[wa];by_cases hl:ds.length=es.length
     ·have q:=SeqAt.EqAt.of_refs hab (SeqAt.RcAt.lists pl1.isList pl2.isList (by rw[l1,l2,hl]) hu0 (item hds hes q2 p2 v1 v2))
      rw[l1]at q;rw[hl]at q ⊢;simpa using q
     ·have q:=SeqAt.EqAt.of_refs hab (SeqAt.RcAt.lists_lengths (A:=A) pl1.isList pl2.isList (by rw[l1,l2];simpa using hl) hu0)
      have e:(ds.length==es.length)=false:=by simpa using hl
      rw[e,Bool.and_false];exact q
def rcAt_V{A:Around}{y x:V}{u v:Value}(ry:yK y u)(rx:yK x v)(fy:Jf y=true)(fx:Jf x=true):SeqAt.RcAt A s u v (eqV y x):=by
 cases y with
 |non =>
  cases ry;cases x with
  |non=>cases rx;exact SeqAt.RcAt.none_none|bl b=>cases rx;exact SeqAt.RcAt.none_bool  b|int b=>obtain⟨t2,rfl⟩:=rx;exact SeqAt.RcAt.none_int  b t2|str b=>obtain⟨t2,rfl⟩:=rx;exact SeqAt.RcAt.none_str  b t2|_=>exact absurd (show false=true from fx) qF
 |bl a =>
  cases ry;cases x with
  |non=>cases rx;exact SeqAt.RcAt.bool_none a|bl b=>cases rx;exact SeqAt.RcAt.bool_bool a b|int b=>obtain⟨t2,rfl⟩:=rx;exact SeqAt.RcAt.bool_int a b t2|str b=>obtain⟨t2,rfl⟩:=rx;exact SeqAt.RcAt.bool_str a b t2|_=>exact absurd (show false=true from fx) qF
 |int a =>
  obtain⟨t,rfl⟩:=ry;cases x with
  |non=>cases rx;exact SeqAt.RcAt.int_none a t|bl b=>cases rx;exact SeqAt.RcAt.int_bool a t b|int b=>obtain⟨t2,rfl⟩:=rx;exact SeqAt.RcAt.int_int a t b t2|str b=>obtain⟨t2,rfl⟩:=rx;exact SeqAt.RcAt.int_str a t b t2|_=>exact absurd (show false=true from fx) qF
 |str a =>
  obtain⟨t,rfl⟩:=ry;cases x with
  |non=>cases rx;exact SeqAt.RcAt.str_none a t|bl b=>cases rx;exact SeqAt.RcAt.str_bool a t b|int b=>obtain⟨t2,rfl⟩:=rx;exact SeqAt.RcAt.str_int a t b t2|str b=>obtain⟨t2,rfl⟩:=rx;exact SeqAt.RcAt.str_str a t b t2|_=>exact absurd (show false=true from fx) qF
 |_=>exact absurd (show false=true from fy) qF
def rcNe_V{A:Around}{y x:V}{u v:Value}(ry:yK y u)(rx:yK x v)(fy:Jf y=true)(fx:Jf x=true):SeqAt.RcNeAt A s u v (!eqV y x):=by
 cases y with
 |non =>
  cases ry;cases x with
  |non=>cases rx;exact SeqAt.RcNeAt.none_none|bl b=>cases rx;exact SeqAt.RcNeAt.none_bool  b|int b=>obtain⟨t2,rfl⟩:=rx;exact SeqAt.RcNeAt.none_int  b t2|str b=>obtain⟨t2,rfl⟩:=rx;exact SeqAt.RcNeAt.none_str  b t2|_=>exact absurd (show false=true from fx) qF
 |bl a =>
  cases ry;cases x with
  |non=>cases rx;exact SeqAt.RcNeAt.bool_none a|bl b=>cases rx;exact SeqAt.RcNeAt.bool_bool a b|int b=>obtain⟨t2,rfl⟩:=rx;exact SeqAt.RcNeAt.bool_int a b t2|str b=>obtain⟨t2,rfl⟩:=rx;exact SeqAt.RcNeAt.bool_str a b t2|_=>exact absurd (show false=true from fx) qF
 |int a =>
  obtain⟨t,rfl⟩:=ry;cases x with
  |non=>cases rx;exact SeqAt.RcNeAt.int_none a t|bl b=>cases rx;exact SeqAt.RcNeAt.int_bool a t b|int b=>obtain⟨t2,rfl⟩:=rx;exact SeqAt.RcNeAt.int_int a t b t2|str b=>obtain⟨t2,rfl⟩:=rx;exact SeqAt.RcNeAt.int_str a t b t2|_=>exact absurd (show false=true from fx) qF
 |str a =>
  obtain⟨t,rfl⟩:=ry;cases x with
  |non=>cases rx;exact SeqAt.RcNeAt.str_none a t|bl b=>cases rx;exact SeqAt.RcNeAt.str_bool a t b|int b=>obtain⟨t2,rfl⟩:=rx;exact SeqAt.RcNeAt.str_int a t b t2|str b=>obtain⟨t2,rfl⟩:=rx;exact SeqAt.RcNeAt.str_str a t b t2|_=>exact absurd (show false=true from fx) qF
 |_=>exact absurd (show false=true from fy) qF
def rc_ft{A:Around}{d:D}{x:V}{u:Value}{b:Addr}{its:Array Value}(hd:flat d=true)(rx:yK x u)(ex:x=flV d)(hb:s.heap.IsTuple b its)(hu:A.units<cLine):SeqAt.RcAt A s u (.ref b) false:=by
 subst ex;cases d with
 |non=>cases rx;exact SeqAt.RcAt.none_tuple hb hu|bl c=>cases rx;exact SeqAt.RcAt.bool_tuple c hb hu|int c=>obtain⟨t,rfl⟩:=rx;exact SeqAt.RcAt.int_tuple c t hb hu|str c=>obtain⟨t,rfl⟩:=rx;exact SeqAt.RcAt.str_tuple c t hb hu|_=>simp[flat]at hd
def rc_fl{A:Around}{d:D}{x:V}{u:Value}{b:Addr}{its:Array Value}(hd:flat d=true)(rx:yK x u)(ex:x=flV d)(hb:s.heap.IsList b its)(hu:A.units<cLine):SeqAt.RcAt A s u (.ref b) false:=by
 subst ex;cases d with
 |non=>cases rx;exact SeqAt.RcAt.none_list hb hu|bl c=>cases rx;exact SeqAt.RcAt.bool_list c hb hu|int c=>obtain⟨t,rfl⟩:=rx;exact SeqAt.RcAt.int_list c t hb hu|str c=>obtain⟨t,rfl⟩:=rx;exact SeqAt.RcAt.str_list c t hb hu|_=>simp[flat]at hd
def rc_tf{A:Around}{d:D}{x:V}{u:Value}{b:Addr}{its:Array Value}(hd:flat d=true)(rx:yK x u)(ex:x=flV d)(hb:s.heap.IsTuple b its)(hu:A.units<cLine):SeqAt.RcAt A s (.ref b) u false:=by
 subst ex;cases d with
 |non=>cases rx;exact SeqAt.RcAt.tuple_none hb hu|bl c=>cases rx;exact SeqAt.RcAt.tuple_bool c hb hu|int c=>obtain⟨t,rfl⟩:=rx;exact SeqAt.RcAt.tuple_int c t hb hu|str c=>obtain⟨t,rfl⟩:=rx;exact SeqAt.RcAt.tuple_str c t hb hu|_=>simp[flat]at hd
def rc_lf{A:Around}{d:D}{x:V}{u:Value}{b:Addr}{its:Array Value}(hd:flat d=true)(rx:yK x u)(ex:x=flV d)(hb:s.heap.IsList b its)(hu:A.units<cLine):SeqAt.RcAt A s (.ref b) u false:=by
 subst ex;cases d with
 |non=>cases rx;exact SeqAt.RcAt.list_none hb hu|bl c=>cases rx;exact SeqAt.RcAt.list_bool c hb hu|int c=>obtain⟨t,rfl⟩:=rx;exact SeqAt.RcAt.list_int c t hb hu|str c=>obtain⟨t,rfl⟩:=rx;exact SeqAt.RcAt.list_str c t hb hu|_=>simp[flat]at hd
def rn_ft{A:Around}{d:D}{x:V}{u:Value}{b:Addr}{its:Array Value}(hd:flat d=true)(rx:yK x u)(ex:x=flV d)(hb:s.heap.IsTuple b its)(hu:A.units<cLine):SeqAt.RcNeAt A s u (.ref b) true:=by
 subst ex;cases d with
 |non=>cases rx;exact SeqAt.RcNeAt.none_tuple hb hu|bl c=>cases rx;exact SeqAt.RcNeAt.bool_tuple c hb hu|int c=>obtain⟨t,rfl⟩:=rx;exact SeqAt.RcNeAt.int_tuple c t hb hu|str c=>obtain⟨t,rfl⟩:=rx;exact SeqAt.RcNeAt.str_tuple c t hb hu|_=>simp[flat]at hd
def rn_fl{A:Around}{d:D}{x:V}{u:Value}{b:Addr}{its:Array Value}(hd:flat d=true)(rx:yK x u)(ex:x=flV d)(hb:s.heap.IsList b its)(hu:A.units<cLine):SeqAt.RcNeAt A s u (.ref b) true:=by
 subst ex;cases d with
 |non=>cases rx;exact SeqAt.RcNeAt.none_list hb hu|bl c=>cases rx;exact SeqAt.RcNeAt.bool_list c hb hu|int c=>obtain⟨t,rfl⟩:=rx;exact SeqAt.RcNeAt.int_list c t hb hu|str c=>obtain⟨t,rfl⟩:=rx;exact SeqAt.RcNeAt.str_list c t hb hu|_=>simp[flat]at hd
def rn_tf{A:Around}{d:D}{x:V}{u:Value}{b:Addr}{its:Array Value}(hd:flat d=true)(rx:yK x u)(ex:x=flV d)(hb:s.heap.IsTuple b its)(hu:A.units<cLine):SeqAt.RcNeAt A s (.ref b) u true:=by
 subst ex;cases d with
 |non=>cases rx;exact SeqAt.RcNeAt.tuple_none hb hu|bl c=>cases rx;exact SeqAt.RcNeAt.tuple_bool c hb hu|int c=>obtain⟨t,rfl⟩:=rx;exact SeqAt.RcNeAt.tuple_int c t hb hu|str c=>obtain⟨t,rfl⟩:=rx;exact SeqAt.RcNeAt.tuple_str c t hb hu|_=>simp[flat]at hd
def rn_lf{A:Around}{d:D}{x:V}{u:Value}{b:Addr}{its:Array Value}(hd:flat d=true)(rx:yK x u)(ex:x=flV d)(hb:s.heap.IsList b its)(hu:A.units<cLine):SeqAt.RcNeAt A s (.ref b) u true:=by
 subst ex;cases d with
 |non=>cases rx;exact SeqAt.RcNeAt.list_none hb hu|bl c=>cases rx;exact SeqAt.RcNeAt.list_bool c hb hu|int c=>obtain⟨t,rfl⟩:=rx;exact SeqAt.RcNeAt.list_int c t hb hu|str c=>obtain⟨t,rfl⟩:=rx;exact SeqAt.RcNeAt.list_str c t hb hu|_=>simp[flat]at hd
def rcAtD(I:Inv X pins O H s)(n:Nat)(A:Around)(d e:D)(x y:V)(u v:Value)(hd:eqb n d=true)(he:eqb n e=true)(rd:Rep X.K X.mg H d x)(re:Rep X.K X.mg H e y)(rx:yK x u)(ry:yK y v)(hu:A.units+n<cLine):SeqAt.RcAt A s u v (deq d e):=by
 have hu0:A.units<cLine:=by omega
 have item:∀{m:Nat} {ds es:List D} {xs ys:List V} {us vs:List Value},n=m+1->(∀e∈ds,eqb m e=true)->(∀e∈es,eqb m e=true)->Reps X.K X.mg H ds xs->Reps X.K X.mg H es ys->ya xs us->ya ys vs ->
   ∀j (h1:j<us.toArray.size) (h2:j<vs.toArray.size),SeqAt.EqAt A.in1 s us.toArray[j] vs.toArray[j] (deq (ds.getD j .non) (es.getD j .non)):=by
  intro m ds es xs ys us vs hm k1 k2 r1 r2 v1 v2 j h1 h2;have h1':j<us.length:=by simpa using h1
  have h2':j<vs.length:=by simpa using h2
  obtain⟨l1,x1,a1,b1⟩:=ZK r1 v1 h1';obtain⟨l2,x2,a2,b2⟩:=ZK r2 v2 h2';rw[getElem_toArray,getElem_toArray];have m1:ds.getD j .non∈ds:=by rw[getD_eq_getElem?_getD,getElem?_eq_getElem l1];exact getElem_mem l1
  have m2:es.getD j .non∈es:=by rw[getD_eq_getElem?_getD,getElem?_eq_getElem l2];exact getElem_mem l2
  exact eqAtD I m A.in1 _ _ x1 x2 _ _ (k1 _ m1) (k2 _ m2) a1 a2 b1 b2 (by show A.units+1+m<cLine;omega)
 rcases zt hd with fd|⟨m,ds,em,rfl,hds⟩|⟨m,ds,em,rfl,hds⟩
 ·have ex:=zV fd rd
  rcases zt he with fe|⟨m,es,em,rfl,hes⟩|⟨m,es,em,rfl,hes⟩
  ·rw[JZ fd fe,<- zV fd rd,<- zV fe re]
   exact rcAt_V rx ry (by rw[zV fd rd];exact yN fd) (by rw[zV fe re];exact yN fe)
  ·obtain⟨b,ys,rfl,p1,p2⟩:=za re
   cases ry;obtain⟨its,_,pl,_⟩:=I.tuple p1;rw[zCk fd];exact rc_ft fd rx ex pl hu0
  ·obtain⟨b,ys,rfl,p1,p2⟩:=zX re
   cases ry;obtain⟨its,_,pl,_⟩:=I.list p1;rw[zCl fd];exact rc_fl fd rx ex pl.isList hu0
 ·obtain⟨a,xs,rfl,q1,q2⟩:=za rd
  cases rx;obtain⟨us,v1,pl1,_⟩:=I.tuple q1;rcases zt he with fe|⟨m',es,em',rfl,hes⟩|⟨m',es,em',rfl,hes⟩
  ·rw[zCm fe];exact rc_tf fe ry (zV fe re) pl1 hu0
  ·have:m=m':=by omega
   subst this;obtain⟨b,ys,rfl,p1,p2⟩:=za re;cases ry;obtain⟨vs,v2,pl2,_⟩:=I.tuple p1;have q:=SeqAt.RcAt.tuples pl1 pl2 hu0 (item em hds hes q2 p2 v1 v2);simp only[deq];rw[wa];have l1:us.toArray.size=ds.length:=by rw[size_toArray,<- v1.length,q2.length]
   have l2:vs.toArray.size=es.length:=by rw[size_toArray,<- v2.length,p2.length]
   rw[l1,l2]at q;exact q
  ·obtain⟨b,ys,rfl,p1,p2⟩:=zX re
   cases ry;obtain⟨vs,v2,pl2,_⟩:=I.list p1;simp only[deq];exact SeqAt.RcAt.tuple_list pl1 pl2.isList hu0
 ·obtain⟨a,xs,rfl,q1,q2⟩:=zX rd
  cases rx;obtain⟨us,v1,pl1,_⟩:=I.list q1;rcases zt he with fe|⟨m',es,em',rfl,hes⟩|⟨m',es,em',rfl,hes⟩
  ·rw[zCn fe];exact rc_lf fe ry (zV fe re) pl1.isList hu0
  ·obtain⟨b,ys,rfl,p1,p2⟩:=za re
   cases ry;obtain⟨vs,v2,pl2,_⟩:=I.tuple p1;simp only[deq];exact SeqAt.RcAt.list_tuple pl1.isList pl2 hu0
  ·have:m=m':=by omega
   subst this;obtain⟨b,ys,rfl,p1,p2⟩:=zX re;cases ry;obtain⟨vs,v2,pl2,_⟩:=I.list p1;have l1:us.toArray.size=ds.length:=by rw[size_toArray,<- v1.length,q2.length]
   have l2:vs.toArray.size=es.length:=by rw[size_toArray,<- v2.length,p2.length]
   simp only[deq];rw[wa];by_cases hl:ds.length=es.length
   ·have q:=SeqAt.RcAt.lists pl1.isList pl2.isList (by rw[l1,l2,hl]) hu0 (item em hds hes q2 p2 v1 v2)
    rw[l1]at q;rw[hl]at q ⊢;simpa using q
   ·have q:=SeqAt.RcAt.lists_lengths (A:=A) pl1.isList pl2.isList (by rw[l1,l2];simpa using hl) hu0
    have e:(ds.length==es.length)=false:=by simpa using hl
    rw[e,Bool.and_false];exact q
def rcNeD(I:Inv X pins O H s)(n:Nat)(A:Around)(d e:D)(x y:V)(u v:Value)(hd:eqb n d=true)(he:eqb n e=true)(rd:Rep X.K X.mg H d x)(re:Rep X.K X.mg H e y)(rx:yK x u)(ry:yK y v)(hu:A.units+n<cLine):SeqAt.RcNeAt A s u v (!deq d e):=by
 have hu0:A.units<cLine:=by omega
 have item:∀{m:Nat} {ds es:List D} {xs ys:List V} {us vs:List Value},n=m+1->(∀e∈ds,eqb m e=true)->(∀e∈es,eqb m e=true)->Reps X.K X.mg H ds xs->Reps X.K X.mg H es ys->ya xs us->ya ys vs ->
   ∀j (h1:j<us.toArray.size) (h2:j<vs.toArray.size),SeqAt.EqAt A.in1 s us.toArray[j] vs.toArray[j] (deq (ds.getD j .non) (es.getD j .non)):=by
  intro m ds es xs ys us vs hm k1 k2 r1 r2 v1 v2 j h1 h2;have h1':j<us.length:=by simpa using h1
  have h2':j<vs.length:=by simpa using h2
  obtain⟨l1,x1,a1,b1⟩:=ZK r1 v1 h1';obtain⟨l2,x2,a2,b2⟩:=ZK r2 v2 h2';rw[getElem_toArray,getElem_toArray];have m1:ds.getD j .non∈ds:=by rw[getD_eq_getElem?_getD,getElem?_eq_getElem l1];exact getElem_mem l1
  have m2:es.getD j .non∈es:=by rw[getD_eq_getElem?_getD,getElem?_eq_getElem l2];exact getElem_mem l2
  exact eqAtD I m A.in1 _ _ x1 x2 _ _ (k1 _ m1) (k2 _ m2) a1 a2 b1 b2 (by show A.units+1+m<cLine;omega)
 rcases zt hd with fd|⟨m,ds,em,rfl,hds⟩|⟨m,ds,em,rfl,hds⟩
 ·have ex:=zV fd rd
  rcases zt he with fe|⟨m,es,em,rfl,hes⟩|⟨m,es,em,rfl,hes⟩
  ·rw[JZ fd fe,<- zV fd rd,<- zV fe re]
   exact rcNe_V rx ry (by rw[zV fd rd];exact yN fd) (by rw[zV fe re];exact yN fe)
  ·obtain⟨b,ys,rfl,p1,p2⟩:=za re
   cases ry;obtain⟨its,_,pl,_⟩:=I.tuple p1;rw[zCk fd];exact rn_ft fd rx ex pl hu0
  ·obtain⟨b,ys,rfl,p1,p2⟩:=zX re
   cases ry;obtain⟨its,_,pl,_⟩:=I.list p1;rw[zCl fd];exact rn_fl fd rx ex pl.isList hu0
 ·obtain⟨a,xs,rfl,q1,q2⟩:=za rd
  cases rx;obtain⟨us,v1,pl1,_⟩:=I.tuple q1;rcases zt he with fe|⟨m',es,em',rfl,hes⟩|⟨m',es,em',rfl,hes⟩
  ·rw[zCm fe];exact rn_tf fe ry (zV fe re) pl1 hu0
  ·have:m=m':=by omega
   subst this;obtain⟨b,ys,rfl,p1,p2⟩:=za re;cases ry;obtain⟨vs,v2,pl2,_⟩:=I.tuple p1;have q:=SeqAt.RcNeAt.tuples pl1 pl2 hu0 (item em hds hes q2 p2 v1 v2);simp only[deq];rw[wa];have l1:us.toArray.size=ds.length:=by rw[size_toArray,<- v1.length,q2.length]
   have l2:vs.toArray.size=es.length:=by rw[size_toArray,<- v2.length,p2.length]
   rw[l1,l2]at q;exact q
  ·obtain⟨b,ys,rfl,p1,p2⟩:=zX re
   cases ry;obtain⟨vs,v2,pl2,_⟩:=I.list p1;simp only[deq];exact SeqAt.RcNeAt.tuple_list pl1 pl2.isList hu0
 ·obtain⟨a,xs,rfl,q1,q2⟩:=zX rd
  cases rx;obtain⟨us,v1,pl1,_⟩:=I.list q1;rcases zt he with fe|⟨m',es,em',rfl,hes⟩|⟨m',es,em',rfl,hes⟩
  ·rw[zCn fe];exact rn_lf fe ry (zV fe re) pl1.isList hu0
  ·obtain⟨b,ys,rfl,p1,p2⟩:=za re
   cases ry;obtain⟨vs,v2,pl2,_⟩:=I.tuple p1;simp only[deq];exact SeqAt.RcNeAt.list_tuple pl1.isList pl2 hu0
  ·have:m=m':=by omega
   subst this;obtain⟨b,ys,rfl,p1,p2⟩:=zX re;cases ry;obtain⟨vs,v2,pl2,_⟩:=I.list p1;have l1:us.toArray.size=ds.length:=by rw[size_toArray,<- v1.length,q2.length]
   have l2:vs.toArray.size=es.length:=by rw[size_toArray,<- v2.length,p2.length]
   simp only[deq];rw[wa];by_cases hl:ds.length=es.length
   ·have q:=SeqAt.RcNeAt.lists pl1.isList pl2.isList (by rw[l1,l2,hl]) hu0 (item em hds hes q2 p2 v1 v2)
    rw[l1]at q;rw[hl]at q ⊢;simpa using q
   ·have q:=SeqAt.RcNeAt.lists_lengths (A:=A) pl1.isList pl2.isList (by rw[l1,l2];simpa using hl) hu0
    have e:(ds.length==es.length)=false:=by simpa using hl
    rw[e,Bool.and_false];exact q
end
section
variable{X:Cx}{K:qH}{mg:Str->Option Value}
def rEqD(K:qH)(mg:Str->Option Value)(neg:Bool):R2:=λx y H Q=>∃d e,eqb 20 d=true/\eqb 20 e=true/\Rep K mg H d x/\Rep K mg H e y/\Q (.bl (if neg then !deq d e else deq d e)) H
def zFq(hu:X.A.units+20<cLine):OpR X (compareOp .Eq) (rEqD X.K X.mg false):=by
 intro pins s O H x y v u Q I rx ry h;obtain⟨d,e,h1,h2,r1,r2,q⟩:=h;exact rcAtD I 20 X.A d e x y v u h1 h2 r1 r2 rx ry hu X.prog X.w _ _ ⟨.bl (deq d e),H,I,rfl,q⟩
def zFr(hu:X.A.units+20<cLine):OpR X (compareOp .NotEq) (rEqD X.K X.mg true):=by
 intro pins s O H x y v u Q I rx ry h;obtain⟨d,e,h1,h2,r1,r2,q⟩:=h;exact rcNeD I 20 X.A d e x y v u h1 h2 r1 r2 rx ry hu X.prog X.w _ _ ⟨.bl (!deq d e),H,I,rfl,q⟩
def eqDD(neg:Bool)(d e:D):Option R:=if eqb 20 d=true/\eqb 20 e=true then some (.v (.bl (if neg then !deq d e else deq d e)))else none
def zFs{neg:Bool}:ROk K mg (rEqD K mg neg) (eqDD neg):=by
 intro M H Z x y d1 d2 res Q f r1 r2 e k;unfold eqDD at e;split at e
 ·rename_i hc
  cases e;exact⟨d1,d2,hc.1,hc.2,r1.mono zF,r2.mono zF,k.flat f rfl⟩
 ·cases e
end
end DV
namespace L2
open PySem PySem.Spec PyProof.Rows
section
variable{X:Cx}
def zAh{ns:List Int}{its:List Value}(rv:ya (ns.map V.int) its)(i:Nat)(v:Value)(hv:its.toArray[i]?=some v):∃t,v=.int (ns.getD i 0) t:=by
 have hv':its[i]?=some v:=by simpa using hv
 have hi:i<its.length:=(qG.mp hv').1;have hl:=rv.length;have hx:i<(ns.map V.int).length:=by rw[hl];exact hi
 obtain⟨u',e1,e2⟩:=rv.get (i:=i) (x:=(ns.map V.int)[i]) (by simp[hx]);rw[hv']at e1;cases e1;rw[length_map]at hx;rw[List.getElem_map]at e2;obtain⟨t,e⟩:=(show ∃t,v=.int (ns[i]) t from e2);exact⟨t,by rw[e];simp[hx]⟩
def maxAt(ns:List Int):Int:=ns.getD (argBest (λi j=>decide (ns.getD i 0 > ns.getD j 0)) (ns.length-1)) 0
theorem Wm(ns:List Int):∀k,k<=ns.length->preSum (λi=>ns.getD i 0) k=(ns.take k).sum
 |0,_=>by simp[preSum]
 |k+1,h=>by
  have hk:k<ns.length:=by omega
  rw[preSum,Wm ns k (by omega),take_add_one,getElem?_eq_getElem hk,sum_append];simp[hk]
def zCo(hc:X.calm=true):Je X (.builtin "sum") (λxs H Q=>∃(p:Addr) (ns:List Int),xs=[.ref p]/\SqL X.K H p (ns.map V.int)/\Q (.int ns.sum) H):=by
 intro pins s O H xs us Q I r h;obtain⟨p,ns,rfl,hq,q⟩:=h;obtain⟨u,rfl,rx⟩:=GW r;cases rx;obtain⟨its,rv,pl,hz⟩:=I.list hq;have hlen:its.length=ns.length:=by rw[<- rv.length,length_map]
 have hp:p<s.heap.objs.size:=by obtain⟨o,n,e,_⟩:=pl;exact lt_size e
 have hk:∀b o,s.heap.get? b=some o->(s.heap.push {cls:=.type "list_iterator",data:=.fields #[.ref p,.int 0 0]}).get? b=some o:=λb o e=>qA _ e
 refine call_sum_walkAnyS (wpAny_pyIter_list pl.isList ?_);refine⟨s.heap.objs.size,[s.heap.objs.size,p],[s.heap.objs.size],_,its.toArray.size,_,_,λi=>ns.getD i 0,rfl,
  (Walks.list (by show X.A.handled=none;exact I.ok.hd hc) _ p (ne_of_lt hp) its.toArray).toS,⟨⟨_,get?_push_size _ rfl,rfl,rfl⟩,?_⟩,?_,zAh rv,?_⟩
 ·obtain⟨o,e,c⟩:=pl.isList
  exact⟨o,hk _ _ e,c⟩
 ·intro b hb
  rw[size_push];rcases mem_cons.mp hb with rfl|hb
  ·exact Nat.lt_succ_self _
  ·have:b=p:=by simpa using hb
   subst this;exact lt_succ_of_lt hp
 ·intro s' t' mv
  rw[size_toArray,hlen,Wm ns _ (le_refl _),take_length];obtain⟨h',g',d',tk,o'⟩:=s';have e1:g'=s.gens:=mv.gens;have e2:d'=s.drawn:=mv.drawn;have e3:o'=s.os:=mv.os;subst e1 e2 e3;exact⟨.int ns.sum,H,I.kept (t':=tk) λb o eb=>mv.heap b o (λm=>by
   have:b=s.heap.objs.size:=by simpa using m
   subst this;exact absurd (lt_size eb) (lt_irrefl _)) (hk b o eb),⟨_,rfl⟩,q⟩
def zCp(hc:X.calm=true):Je X (.builtin "sum") (λxs H Q=>∃(p:Addr) (ns:List Int),xs=[.ref p]/\SqT X.K H p (ns.map V.int)/\Q (.int ns.sum) H):=by
 intro pins s O H xs us Q I r h;obtain⟨p,ns,rfl,hq,q⟩:=h;obtain⟨u,rfl,rx⟩:=GW r;cases rx;obtain⟨its,rv,pl,hz⟩:=I.tuple hq;have hlen:its.length=ns.length:=by rw[<- rv.length,length_map]
 have hp:p<s.heap.objs.size:=by obtain⟨o,e,_⟩:=pl;exact lt_size e
 have hk:∀b o,s.heap.get? b=some o->(s.heap.push {cls:=.type "tuple_iterator",data:=.fields #[.ref p,.int 0 0]}).get? b=some o:=λb o e=>qA _ e
 refine call_sum_walkAnyS (wpAny_pyIter_tuple (show s.heap.IsTuple p its.toArray from pl) ?_);refine⟨s.heap.objs.size,[s.heap.objs.size,p],[s.heap.objs.size],_,its.toArray.size,_,_,λi=>ns.getD i 0,rfl,
  (Walks.tuple (by show X.A.handled=none;exact I.ok.hd hc) _ p (ne_of_lt hp) its.toArray).toS,⟨⟨_,get?_push_size _ rfl,rfl,rfl⟩,?_⟩,?_,zAh rv,?_⟩
 ·obtain⟨o,e,c⟩:=pl
  exact⟨o,hk _ _ e,c⟩
 ·intro b hb
  rw[size_push];rcases mem_cons.mp hb with rfl|hb
  ·exact Nat.lt_succ_self _
  ·have:b=p:=by simpa using hb
   subst this;exact lt_succ_of_lt hp
 ·intro s' t' mv
  rw[size_toArray,hlen,Wm ns _ (le_refl _),take_length];obtain⟨h',g',d',tk,o'⟩:=s';have e1:g'=s.gens:=mv.gens;have e2:d'=s.drawn:=mv.drawn;have e3:o'=s.os:=mv.os;subst e1 e2 e3;exact⟨.int ns.sum,H,I.kept (t':=tk) λb o eb=>mv.heap b o (λm=>by
   have:b=s.heap.objs.size:=by simpa using m
   subst this;exact absurd (lt_size eb) (lt_irrefl _)) (hk b o eb),⟨_,rfl⟩,q⟩
def zBR(a:Int)(t:Tok)(l:Addr)(its:Array Value)(n:Nat)(dd:Option Addr)(sl:Array (Option Value)) :
  Meets (Builtin.«int.__rmul__» ⟨[.int a t,.ref l],[]⟩) (λ_ R s=>s.heap.get? l=some {cls:=.type "list",dict:=dd,data:=.seq its n,slots:=sl}/\R (.ok (.ret Value.notImplemented)) s) :=
 .of_wp λprog w A R s h=>by
  obtain⟨hp,g,d,tk,os⟩:=s;obtain⟨hl,h⟩:=h
  wp_walk
  exact⟨_,rfl,h⟩
def zCq(l:Addr)(its:Array Value)(n:Nat)(dd:Option Addr)(sl:Array (Option Value))(k:Int)(u:Tok)(h0:¬(!Builtin.List.listFitsIndex k)=true)(h1:¬its.size*k.toNat > (2^63-1)/8)(h2:¬Builtin.List.listTooLong (its.size*k.toNat)=true) :
  Meets (Builtin.«list.__mul__» ⟨[.ref l,.int k u],[]⟩) (λ_ R s=>s.heap.get? l=some {cls:=.type "list",dict:=dd,data:=.seq its n,slots:=sl} /\
   R (.ok (.ret (Value.ref s.heap.objs.size))) {s with heap:=s.heap.push {cls:=Value.type "list",data:=Data.seq (foldl (λa b=>a++b) #[] (replicate (if its.isEmpty=true then 0 else k.toNat) its))},toks:=s.toks}) :=
 .of_wp λprog w A R s h=>by
  obtain⟨hp,g,d,tk,os⟩:=s;obtain⟨hl,h⟩:=h;have fits:=AutoListH.joined_fits h2
  wp_walk
  refine wpAny_ite_false (decide_eq_false (not_lt.mpr fits)) ?_
  wp_walk
  exact⟨_,rfl,h⟩
def rRepL(K:qH):R2:=λx y H Q=>∃l k xs,x=.ref l/\y=.int k/\SqL K H l xs/\-(2^63)<=k/\k<2^63/\xs.length*k.toNat<=sizeLine /\
 ∀p,H p=none->Q (.ref p) (upd H p (.l (replicate k.toNat xs).flatten))
def op_repL:OpR X (binaryOp .Mult) (rRepL X.K):=by
 intro pins s O H x y v u Q I rx ry h;obtain⟨l,k,xs,rfl,rfl,hH,h1,h2,hz,q⟩:=h;cases rx;obtain⟨t,rfl⟩:=ry;obtain⟨its,r,pl,_⟩:=I.list hH;have hl:=r.length;obtain⟨⟨cls,dd,data,sl⟩,n,ho,hc,hdd,hd⟩:=pl;simp only at hc hd;subst hc hd;have hlen:its.toArray.size*k.toNat<=sizeLine:=by rw[size_toArray,<- hl];exact hz
 have c1:¬its.toArray.size*k.toNat > (2^63-1)/8:=by
  have:(sizeLine:Nat)<=(2^63-1)/8:=by decide
  omega
 have c2:¬(!Builtin.List.listFitsIndex k)=true:=by rw[fitsIndex_both h1 h2];exact qF
 have c3:¬Builtin.List.listTooLong (its.toArray.size*k.toNat)=true:=by rw[zD3 hlen];exact qF
 have hnew:foldl (λa b=>a++b) #[] (replicate (if its.toArray.isEmpty=true then 0 else k.toNat) its.toArray)=(replicate k.toNat its).flatten.toArray:=by
  have f0:∀m:Nat,foldl (λa b=>a++b) #[] (replicate m its.toArray)=(replicate m its).flatten.toArray:=λm=>by
   have:=WY its m [];rw[nil_append]at this;exact this
  rw[f0];cases its with
  |nil=>simp|cons a r'=>rw[if_neg (by simp)]
 refine wpAny_binaryOp_repeat_ref (T:="list") (U:="int") (by decide) ⟨_,ho,rfl⟩ (λs'=>typeIs_int s' k t) noFill_list_mul F.fills_int_mul F.slot_int_rmul repeat_list F.slot_int_index.lookup
  (call_meets F.slot_int_rmul (typeIs_int s k t) F.entry_int_rmul (F.args_int_rmul_2 _ _) (zBR k t l its.toArray n dd sl) ⟨ho,rfl,⟨_,ho,rfl⟩,?_⟩)
 refine call_meets F.slot_list_mul ⟨_,ho,rfl⟩ F.entry_list_mul (F.args_list_mul_2 _ _) (zCq l its.toArray n dd sl k t c2 c1 c3) ⟨ho,?_⟩;rw[hnew];exact⟨.ref _,_,I.lnew (t':=s.toks) (r.rep k.toNat) (by rw[Qg,mul_comm];exact hz),rfl,q _ I.fresh⟩
def isV:V->V->Option Bool
 | .non,.non=>some true| .non,.bl _=>some false| .bl _,.non=>some false| .bl a,.bl b=>some (a==b)| .non,.int _=>some false| .int _,.non=>some false| .non,.str _=>some false| .str _,.non=>some false| .ref _,.non=>some false| .non,.ref _=>some false| .ref _,.bl _=>some false| .bl _,.ref _=>some false| .int _,.bl _=>some false| .bl _,.int _=>some false| .str _,.bl _=>some false| .bl _,.str _=>some false|_,_=>none
def same_of{x y:V}{u v:Value}{b:Bool}(h:isV x y=some b)(rx:yK x u)(ry:yK y v):isSame u v=pure b:=by
 cases x<;>cases y<;>simp[isV]at h<;>subst h<;>first
  | (cases rx;cases ry;rfl)
  | (rename_i a b;cases rx;cases ry;cases a<;>cases b<;>rfl)
  | (cases rx;obtain⟨t,rfl⟩:=ry;rfl)
  | (obtain⟨t,rfl⟩:=rx;cases ry;rfl)
def zAi:OpR X (compareOp .IsNot) (λx y H Q=>∃b,isV x y=some b/\Q (.bl (!b)) H):=by
 intro pins s O H x y v u Q I rx ry h;obtain⟨b,hb,q⟩:=h;show wpAny _ _ (isSame v u >>= λc=>pure (Value.bool (!c))) _ _ _;rw[same_of hb rx ry];exact qC ⟨.bl (!b),H,I,rfl,q⟩
end
end L2
namespace DV
open PySem PySem.W PyProof.Rows
variable{κ:Nat->Int}
def ev(κ:Nat->Int){α:Type}:KasT α->α
 | .ret a=>a| .ask i j k=>ev κ (k (decide (κ i<κ j)))
def getD_q(p:Array Nat)(t:Nat):p.getD t 0=(p[t]?).getD 0:=by simp
end DV
namespace L2
open PySem PySem.Spec PyProof.Rows PySem.W
end L2
namespace DV
open PySem L2 PyProof.Rows PySem.W
end DV
namespace L2
open PySem PySem.Spec PyProof.Rows
end L2
namespace DV
open PySem L2
section
variable{X:Cx}{K:qH}{mg:Str->Option Value}
def call_or{f:Value}{r r':List V->Hp->VK->Prop}(h:Je X f r)(h':Je X f r'):Je X f (λxs H Q=>r xs H Q\/r' xs H Q):=by
 intro pins s O H xs us Q I rv q;rcases q with q|q
 ·exact h pins s O H xs us Q I rv q
 ·exact h' pins s O H xs us Q I rv q
def eqG(d e:D):Option R:=match eqF d e with
 |some r=>some r|none=>eqDD false d e
def neG(d e:D):Option R:=match neF d e with
 |some r=>some r|none=>eqDD true d e
def zFt:ROk K mg (λx y H Q=>rEq x y H Q\/rEqD K mg false x y H Q) eqG:=by
 intro M H Z x y d1 d2 res Q f r1 r2 e k;unfold eqG at e;cases h:eqF d1 d2 with
 |some r=>rw[h]at e;cases e;exact .inl (ro_eq M H Z x y d1 d2 res Q f r1 r2 h k)|none=>rw[h]at e;exact .inr (zFs M H Z x y d1 d2 res Q f r1 r2 e k)
def zFu:ROk K mg (λx y H Q=>rNe x y H Q\/rEqD K mg true x y H Q) neG:=by
 intro M H Z x y d1 d2 res Q f r1 r2 e k;unfold neG at e;cases h:neF d1 d2 with
 |some r=>rw[h]at e;cases e;exact .inl (ro_ne M H Z x y d1 d2 res Q f r1 r2 h k)|none=>rw[h]at e;exact .inr (zFs M H Z x y d1 d2 res Q f r1 r2 e k)
def isD:D->D->Option Bool
 | .non,.non=>some true| .bl a,.bl b=>some (a==b)| .non,.bl _=>some false| .bl _,.non=>some false| .non,.int _=>some false| .int _,.non=>some false| .non,.str _=>some false| .str _,.non=>some false| .int _,.bl _=>some false| .bl _,.int _=>some false| .str _,.bl _=>some false| .bl _,.str _=>some false| .t _,.non=>some false| .l _,.non=>some false| .t _,.bl _=>some false| .l _,.bl _=>some false|_,_=>none
def isG(neg:Bool)(d e:D):Option R:=(isD d e).map λb=>.v (.bl (if neg then !b else b))
def isV_of{H:Hp}{d e:D}{x y:V}{b:Bool}(h:isD d e=some b)(rx:Rep K mg H d x)(ry:Rep K mg H e y):isV x y=some b:=by
 cases d<;>cases e<;>simp only[isD]at h<;>first
  | (cases h;done)
  | (cases h;rw[jQ rx,jQ ry];rfl)
  | (cases h;rw[jM rx,jM ry];rfl)
  | (cases h;rw[jQ rx,jM ry];rfl)
  | (cases h;rw[jM rx,jQ ry];rfl)
  | (cases h;rw[jQ rx,zL ry];rfl)
  | (cases h;rw[zL rx,jQ ry];rfl)
  | (cases h;rw[jQ rx,wY ry];rfl)
  | (cases h;rw[wY rx,jQ ry];rfl)
  | (cases h;rw[zL rx,jM ry];rfl)
  | (cases h;rw[jM rx,zL ry];rfl)
  | (cases h;rw[wY rx,jM ry];rfl)
  | (cases h;rw[jM rx,wY ry];rfl)
  | (cases h;obtain⟨a,xs,rfl,_⟩:=za rx;rw[jQ ry];rfl)
  | (cases h;obtain⟨a,xs,rfl,_⟩:=zX rx;rw[jQ ry];rfl)
  | (cases h;obtain⟨a,xs,rfl,_⟩:=za rx;rw[jM ry];rfl)
  | (cases h;obtain⟨a,xs,rfl,_⟩:=zX rx;rw[jM ry];rfl)
def zAj:ROk K mg (λx y H Q=>∃b,isV x y=some b/\Q (.bl (!b)) H) (isG true):=by
 intro M H Z x y d1 d2 res Q f r1 r2 e k;unfold isG at e;cases h:isD d1 d2 with
 |none=>rw[h]at e;cases e|some b=>rw[h]at e;cases e;exact⟨b,isV_of h r1 r2,k.flat f rfl⟩
def vx(d e:D):Option R:=match vG d e with
 |some r=>some r
 |none=>match d,e with
  | .l a,.int k=>if -(2^63)<=k/\k<2^63/\a.length*k.toNat<=cap then some (.own (replicate k.toNat a).flatten)else none|_,_=>none
def ro_mulG:ROk K mg (λx y H Q=>rMulD K x y H Q\/rRepL K x y H Q) vx:=by
 intro M H Z x y d1 d2 res Q f r1 r2 e k;unfold vx at e;cases h:vG d1 d2 with
 |some r=>rw[h]at e;cases e;exact .inl (ro_mul M H Z x y d1 d2 res Q f r1 r2 h k)
 |none =>
  rw[h]at e;cases d1 with
  |l a =>
   cases d2 with
   |int n =>
    dsimp only at e;split at e
    ·rename_i hc
     cases e;obtain⟨p,xs,rfl,h1,h2⟩:=zX r1;rw[zL r2];exact .inr ⟨p,n,xs,rfl,rfl,zF.seq h1,hc.1,hc.2.1,by rw[h2.length];exact Wc hc.2.2,λq hq=>k.own f hq (h2.flatten _)⟩
    ·cases e
   |_=>cases e
  |_=>cases e
def ZL:List D->Option (List Int)
 | []=>some []| .int i::ds=>(ZL ds).map (i::·)|_::_=>none
theorem ZM{H:Hp}:∀{ds:List D} {xs:List V} {ns:List Int},ZL ds=some ns->Reps K mg H ds xs->xs=ns.map V.int
 | [],_,_,e,h=>by cases e;simp only[Reps]at h;subst h;rfl
 |d::ds,_,ns,e,h=>by
  simp only[Reps]at h;obtain⟨v,r,rfl,h1,h2⟩:=h;cases d with
  |int i =>
   simp only[ZL]at e;cases eb:ZL ds with
   |none=>rw[eb]at e;cases e
   |some cs =>
    rw[eb]at e;cases e;rw[zL h1,ZM eb h2];rfl
  |_=>cases e
def maxG:List D->Option R
 | [.int i,.int j]=>zCU [.int i,.int j]
 | [.l ds]=>match ZL ds with
  |some ns=>if 0<ns.length then some (.v (.int (maxAt ns)))else none|none=>none
 |_=>none
def zFv:List D->Option R
 | [.l ds]=>(ZL ds).map λns=>.v (.int ns.sum)| [.t ds]=>(ZL ds).map λns=>.v (.int ns.sum)|_=>none
def co_sumG:COk K mg (λxs H Q=>(∃(p:Addr) (ns:List Int),xs=[.ref p]/\SqL K H p (ns.map V.int)/\Q (.int ns.sum) H)\/∃(p:Addr) (ns:List Int),xs=[.ref p]/\SqT K H p (ns.map V.int)/\Q (.int ns.sum) H) zFv:=by
 intro M H Z xs ds res Q f r e k
 match ds,e with
 | [.l ds],e =>
  simp only[zFv]at e;cases hi:ZL ds with
  |none=>rw[hi]at e;cases e
  |some ns =>
   rw[hi]at e;cases e;obtain⟨v,rfl,h⟩:=ZG r;obtain⟨p,ys,rfl,h1,h2⟩:=zX h;rw[ZM hi h2]at h1;exact .inl ⟨p,ns,rfl,zF.seq h1,k.flat f rfl⟩
 | [.t ds],e =>
  simp only[zFv]at e;cases hi:ZL ds with
  |none=>rw[hi]at e;cases e
  |some ns =>
   rw[hi]at e;cases e;obtain⟨v,rfl,h⟩:=ZG r;obtain⟨p,ys,rfl,h1,h2⟩:=za h;rw[ZM hi h2]at h1;exact .inr ⟨p,ns,rfl,zO zF h1,k.flat f rfl⟩
def absG:List D->Option R
 | [.int i]=>some (.v (.int (if i<0 then -i else i)))|_=>none
def co_absG:COk K mg (λxs H Q=>∃i,xs=[.int i]/\Q (.int (if i<0 then -i else i)) H) absG:=by
 intro M H Z xs ds res Q f r e k
 match ds,e with
 | [.int i],e =>
  cases e;obtain⟨v,rfl,h⟩:=ZG r;exact⟨i,by rw[zL h],k.flat f rfl⟩
end
section
variable{X:Cx}{O:St}{H:Hp}
def sTup(is:List Nat)(m:ME):MS:=λE=>match m E with
 | .z=>.z| .exc x E1=>.exc x E1
 | .ok (r,E1)=>match gT is r.d E1 with
  | .ok E2=>.ok (.nx,E2)|_=>.z
def zEa{is:List Nat}{m:ME}{D:Ends}(h:tS X (sTup is m) D O H):zFU (tM X m) (gTup X.K is.length (J6 is)) D O H:=by
 obtain⟨M,E,hl,fr,k⟩:=h;unfold sTup at k;refine zx (T0:=[]) hl fr ?_;cases ea:m E with
 |z=>rw[ea]at k;exact k|exc x E1=>rw[ea]at k;exact λH' g=>k O H' g
 |ok p =>
  obtain⟨r,E1⟩:=p;rw[ea]at k;intro v H1 g;dsimp only at k;cases eg:gT is r.d E1 with
  |z=>rw[eg]at k;exact k.elim|exc _ _=>rw[eg]at k;exact k.elim
  |ok E2 =>
   rw[eg]at k;have g0:=g.dropAll;exact zFl (X:=X) is rfl M O E1 H1 [] v r.d E2 _ g0.len (FR.add g0.frame g.rep) eg λO' g'=>k O' H1 (g0.trans' g')
def sk_tup{is:List Nat}{es:List Expr}{e:Expr}{m:ME}{k:Nat}{p pos:Pos}(hg:PG X (.Tuple es k p) (gTup X.K is.length (J6 is)))(he:EOk X e m)(hs:swapsWithSole [.Tuple es k p] e pos.line X.env=pure false)(hw:swappedStores [.Tuple es k p] e X.env=pure none):SOk X (.Assign [.Tuple es k p] e pos) (sTup is m) :=
 yy (zBq he hg hs hw) λD O H=>zEa
def sPar(i j:Nat)(m:MA):MS:=λE=>match m E with
 | .z=>.z| .exc x E1=>.exc x E1
 | .ok ([r1,r2],E1)=>match gNs [i,j] [r1.d,r2.d] E1 with
  | .ok E2=>.ok (.nx,E2)|_=>.z
 |_=>.z
def zEb{i j:Nat}{m:MA}{D:Ends}(h:tS X (sPar i j m) D O H):tPar i j (tMA X m) D O H:=by
 obtain⟨M,E,hl,fr,k⟩:=h;unfold sPar at k;refine JC (T0:=[]) hl fr ?_;cases ea:m E with
 |z=>rw[ea]at k;exact k|exc x E1=>rw[ea]at k;exact λH' g=>k O H' g
 |ok p =>
  obtain⟨rs,E1⟩:=p;rw[ea]at k
  match rs,k with
  | [r1,r2],k =>
   intro vs H1 hv g;dsimp only at k;cases eg:gNs [i,j] [r1.d,r2.d] E1 with
   |z=>rw[eg]at k;exact k.elim|exc _ _=>rw[eg]at k;exact k.elim
   |ok E2 =>
    rw[eg]at k
    match vs,hv with
    | [v,w],_ =>
     have rp:=Got.reps rfl g;have g0:=g.dropAll;have q:=Wh (X:=X) [i,j] [r1.d,r2.d] [v,w] (a:=0) (ts:=[]) (Q:=D.nx) (Got.refl (T0:=[]) g0.len g0.fr) rp eg λO' g'=>k O' H1 (g0.trans' g')
     obtain⟨v1,rr,e1,v2,rr2,e2,e3,q⟩:=q;cases e1;cases e2;exact⟨v,w,rfl,q⟩
  | [],k=>exact k.elim| [_],k=>exact k.elim|_::_::_::_,k=>exact k.elim
def sk_any{st:Stmt}:SOk X st (λ_=>.z):=yy zDs λD O H ⟨M,E,hl,fr,k⟩=>k
end
end DV
namespace DV
open PySem L2 PyProof.Rows
def xinIn(K:qH)(C f:Addr):Bool:=match K.lookup C with
 |some ⟨.type "type",_,.cls cd,sl⟩=>(match cd.mro,sl.toList with
  | .ref C'::bm,[_,_,_,_,some (.builtin n),_]=>(C'==C&&n == "ValueError.__new__")&&(!cd.hasDel&&PySem.W.tailIn K VB bm)&&(PySem.W.nsOkIn K cd.ns&&nsIn K cd.ns "__init__" == some (some (.ref f)))|_,_=>false)
 |_=>false
def XO(C a:Addr)(od:Option Addr):HO:=.ext λh=>∃o t,h.get? a=some o/\o.cls=.ref C/\o.dict=od/\o.data=.fields #[.ref t,.none,.none,.none,.bool false,.none]
def spI(c:Str)(C:Addr):Sp:=λvs H Q _=>∃(a:Addr) (ns:List Int),vs=.ref a::ns.map V.int/\ns.length=(zCH c).length/\(∀n∈ns,n.natAbs.log2<1920)/\H a=some (XO C a none)/\∀d,H d=none->Q .non (upd (upd H d (XD d (fsV c ns))) a (XO C a (some d)))
def RIok(P:Program)(w:World)(K:qH)(mg:Str->Option Value)(base:Heap)(c:Str):Prop:=∃C f fd,mg c=some (.ref C)/\keepIn K (.ref C)=true/\xinIn K C f=true/\typeIn K (.ref f)=some (.type "function") /\
 Z3 K fd ("self"::zCH c) []/\FnOkN true P w K mg base 2 f fd ("self"::zCH c) (spI c C)
end DV
namespace DV
open PySem L2 PyProof.Rows
open PySem.W (Looks)
def ris_nil{R:Str->Prop}:∀c∈([]:List Str),R c:=λ_ h=>by cases h
def RAok(K:qH)(mg:Str->Option Value)(c:Str):Prop:=∃C T,mg c=some (.ref C)/\mg "ThrowError"=some (.ref T)/\XSet K C T/\∀n∈zCH c,findIn K (.ref C) n=some none
end DV
namespace DV
open PySem L2
section
variable{X:Cx}{O:L2.St}{H:Hp}{K:qH}{mg:Str->Option Value}{M:Addr->Prop}{E E1:zM}{T0:Fz}
def whN(c:MT)(b:MS):Nat->MS
 |0=>λ_=>.z
 |n+1=>λE=>match c E with
  | .z=>.z| .exc x E1=>.exc x E1| .ok (false,E1)=>.ok (.nx,E1)
  | .ok (true,E1)=>match b E1 with
   | .ok (.nx,E2)=>whN c b n E2| .ok (.ct,E2)=>whN c b n E2| .ok (.bk,E2)=>.ok (.nx,E2)|o=>o
def whN_run{c:MT}{b:MS}{D:Ends}{n:Nat}(h:tS X (whN c b n) D O H):zFW (tMT X c) (tS X b) D O H:=by
 refine⟨λm O H=>tS X (whN c b m) D O H,⟨n,h⟩,λm O H h=>?_⟩;cases m with
 |zero=>obtain⟨M,E,hl,fr,k⟩:=h;exact k.elim
 |succ m =>
  obtain⟨M,E,hl,fr,k⟩:=h;unfold whN at k;refine JB (T0:=[]) hl fr ?_;cases ec:c E with
  |z=>rw[ec]at k;exact k|exc x E1=>rw[ec]at k;exact λH' g=>k O H' g
  |ok p =>
   obtain⟨t,E1⟩:=p;rw[ec]at k;intro H1 g1;cases t with
   |false=>exact zD5 (k O H1 g1)
   |true =>
    refine zD6 ⟨λO' H'=>tS X (whN c b m) D O' H',λO' H' q=>⟨m,Nat.lt_succ_self m,q⟩,?_⟩;refine vn (T0:=[]) g1.len g1.fr ?_;dsimp only at k;cases eb:b E1 with
    |z=>rw[eb]at k;exact k|exc x E2=>rw[eb]at k;exact λO' H' g=>k O' H' (g1.trans' g)
    |ok p =>
     obtain⟨fl,E2⟩:=p;rw[eb]at k;cases fl with
     |ret r=>exact λv O' H' g=>k v O' H' (g1.trans' g)|bk=>exact λO' H' g=>k O' H' (g1.trans' g)|nx=>exact λO' H' g=>go g1 g k|ct=>exact λO' H' g=>go g1 g k
where
 go {c:MT} {b:MS} {D:Ends} {n:Nat} {M:Addr->Prop} {O O1 O':L2.St} {E E1 E2:zM} {H H1 H':Hp} (g1:Got X.K X.mg M O E H [] O1 E1 H1 []) (g:Got X.K X.mg M O1 E1 H1 [] O' E2 H' [])
  (k:match whN c b n E2 with
   | .z=>False| .ok (.nx,E')=>∀O' H',Got X.K X.mg M O E H [] O' E' H' []->D.nx O' H'| .ok (.bk,E')=>∀O' H',Got X.K X.mg M O E H [] O' E' H' []->D.bk O' H'| .ok (.ct,E')=>∀O' H',Got X.K X.mg M O E H [] O' E' H' []->D.ct O' H'| .ok (.ret r,E')=>∀v O' H',Got X.K X.mg M O E H [] O' E' H' [(some v,r.slot)]->D.rt v H'
   | .exc x E'=>∀O' H',Got X.K X.mg M O E H [] O' E' H' []->XE X O' H' x):tS X (whN c b n) D O' H':=by
  have gg:=g1.trans' g;refine vn (T0:=[]) gg.len gg.fr ?_;cases e:whN c b n E2 with
  |z=>rw[e]at k;exact k|exc x E3=>rw[e]at k;exact λO3 H3 g3=>k O3 H3 (gg.trans' g3)
  |ok p =>
   obtain⟨fl,E3⟩:=p;rw[e]at k;cases fl with
   |nx=>exact λO3 H3 g3=>k O3 H3 (gg.trans' g3)|bk=>exact λO3 H3 g3=>k O3 H3 (gg.trans' g3)|ct=>exact λO3 H3 g3=>k O3 H3 (gg.trans' g3)|ret r=>exact λv O3 H3 g3=>k v O3 H3 (gg.trans' g3)
def sWhile(c:MT)(b:MS):MS:=whN c b 1000000
def zEc{c:Expr}{body:List Stmt}{mc:MT}{mb:MS}{pos:Pos}(hp:PassesOwn (model X.prog X.w) X.A X.env X.xe)(hc:TOk X c mc)(hb:zBj X body mb):SOk X (.While c body [] pos) (sWhile mc mb) :=
 yy (zDu hp hc hb) λD O H h=>whN_run h
def sAug(i:Nat)(f:Int->Int->Option Int)(m:ME):MS:=λE=>match E[i]? with
 |some (.v (.int a))=>(match m E with
  | .z=>.z| .exc x E1=>.exc x E1
  | .ok (r,E1)=>match r.d with
   | .int b=>(match E1[i]?,f a b with
    |some (.v (.int a')),some z=>if a'=a then .ok (.nx,E1.set i (.v (.int z)))else .z|_,_=>.z)
   |_=>.z)
 |_=>.z
def Qr{i:Nat}{f:Int->Int->Option Int}{ti:TIp}{m:ME}{D:Ends}(hi:∀a b z H Q,f a b=some z->Q (.int z) H->ti (.int a) (.int b) H Q)(h:tS X (sAug i f m) D O H):tAug i (tM X m) ti D O H:=by
 obtain⟨M,E,hl,fr,k⟩:=h;unfold sAug at k;cases e0:E[i]? with
 |none=>rw[e0]at k;exact k.elim
 |some s0 =>
  rw[e0]at k;cases s0 with
  |v d =>
   cases d with
   |int a =>
    dsimp only at k;obtain⟨o,h1,h2⟩:=JD hl e0;obtain⟨v,rfl,rv⟩:=fr.val o (.int a) h2;have ev:=zL rv;subst ev;refine⟨.int a,h1,?_⟩;refine zx (T0:=[]) hl fr ?_;cases em:m E with
    |z=>rw[em]at k;exact k|exc x E1=>rw[em]at k;exact λH' g=>k O H' g
    |ok p =>
     obtain⟨r,E1⟩:=p;rw[em]at k;intro y H1 g;dsimp only at k;cases ed:r.d with
     |int b =>
      rw[ed]at k;dsimp only at k;have ry:=g.rep;rw[ed]at ry;have ey:=zL ry;subst ey;cases e1:E1[i]? with
      |none=>rw[e1]at k;exact k.elim
      |some s1 =>
       cases ef:f a b with
       |none=>rw[e1,ef]at k;cases s1<;>first|exact k.elim|(rename_i d;cases d<;>exact k.elim)
       |some z =>
        rw[e1,ef]at k;cases s1 with
        |v d1 =>
         cases d1 with
         |int a' =>
          dsimp only at k;by_cases ha:a'=a
          ·rw[if_pos ha]at k
           refine hi a b z _ _ ef (k _ H1 ?_);have gz:=g.dropAll.flat (d:=.int z) rfl;exact uN (r:=.v (.int z)) gz (by simp only[Z9,e1];rfl)
          ·rw[if_neg ha]at k;exact k.elim
         |_=>exact k.elim
        |_=>exact k.elim
     |_=>rw[ed]at k;exact k.elim
   |_=>exact k.elim
  |_=>exact k.elim
def ip_mulB:PIp X .Mult (λx y H Q=>∃i j,x=.int i/\y=.int j/\CMulB i j/\Q (.int (i*j)) H):=by
 intro pins s O H x y v u Q I r1 r2 h;obtain⟨i,j,e1,e2,hc,q⟩:=h;subst e1;subst e2;obtain⟨t,rfl⟩:=r1;obtain⟨t',rfl⟩:=r2;refine PyProof.Rows.imul_int ⟨.int _,H,I.tok _,⟨_,rfl⟩,q⟩ ?_;rcases hc with h|h
 ·exact h.ok
 ·exact zCT h.1 h.2
def G0:Int->Int->Option Int:=λa b=>if((-(2^64)<a/\a<2^64)\/(-(2^64)<b/\b<2^64))\/(a.natAbs<Big/\b.natAbs<Big)then some (a*b)else none
def zCr{i:Nat}{x:Str}{e:Expr}{m:ME}{pos pos':Pos}(hN:X.N.Nodup)(hi:X.N[i]?=some x)(hx:Loc X.env.scope x)(hf:X.fn x=true\/X.env.scope.names.lookup x=some .local)(he:EOk X e m):SOk X (.AugAssign (.Name x pos') .Add e pos) (sAug i (λa b=>some (a+b)) m) :=
 yy (zBr hN hi hx he zFV hf) λD O H h=>Qr (λa b z H Q ez q=>by cases ez;exact⟨a,b,rfl,rfl,q⟩) h
def zCs{i:Nat}{x:Str}{e:Expr}{m:ME}{pos pos':Pos}(hN:X.N.Nodup)(hi:X.N[i]?=some x)(hx:Loc X.env.scope x)(hf:X.fn x=true\/X.env.scope.names.lookup x=some .local)(he:EOk X e m):SOk X (.AugAssign (.Name x pos') .Sub e pos) (sAug i (λa b=>some (a-b)) m) :=
 yy (zBr hN hi hx he ip_sub hf) λD O H h=>Qr (λa b z H Q ez q=>by cases ez;exact⟨a,b,rfl,rfl,q⟩) h
def zCt{i:Nat}{x:Str}{e:Expr}{m:ME}{pos pos':Pos}(hN:X.N.Nodup)(hi:X.N[i]?=some x)(hx:Loc X.env.scope x)(hf:X.fn x=true\/X.env.scope.names.lookup x=some .local)(he:EOk X e m):SOk X (.AugAssign (.Name x pos') .Mult e pos) (sAug i G0 m) :=
 yy (zBr hN hi hx he ip_mulB hf) λD O H h=>Qr (λa b z H Q ez q=>by
  unfold G0 at ez;split at ez
  ·rename_i hc
   cases ez;exact⟨a,b,rfl,rfl,hc,q⟩
  ·cases ez) h
end
section
variable{X:Cx}{O:L2.St}{pins:List (Addr×Obj)}{H:Hp}{s:Shared}
def SmOk(K:qH):Prop:=∃o es n,K.lookup sysModules=some o/\o.data=.dict es n
end
end DV
namespace L2
open PySem PySem.Spec PyProof.Rows
section
variable{X:Cx}{pins:List (Addr×Obj)}{O:List (Option V)}{H:Hp}{s:Shared}{h':Heap}
def Inv.turnLay{t':Nat}{fp:List Addr}{q:Addr}{xs:List V}(I:Inv X pins O H s)(hf:∀b∈fp,Qe X pins H b)(k:∀b o,b∉fp->s.heap.get? b=some o->h'.get? b=some o)(hq:s.heap.objs.size<=q)(new:j9 X.prog X.w (upd H q (.t xs)) h' q (.t xs)):Inv X pins O (upd H q (.t xs)) {s with heap:=h',toks:=t'}:=by
 have hn:H q=none:=I.hok.fresh hq;have nq:∀b u,H b=some u->b≠q:=λb u e z=>by rw[z,hn]at e;cases e
 have nf:∀b u,H b=some u->b∉fp:=λb u e z=>by rw[(hf b z).1]at e;cases e
 refine I.step (g':=s.gens) (d':=s.drawn) (ch:=fp) (λb hb=>?_) (λb o _ _ hc e _=>k b o hc e) (λb o _ _ hc e _=>⟨o.slots,k b o hc e⟩) (λb o _ e n=>?_) (λb o hc e=>⟨o,k b o hc e⟩)
  (λb ys e=>?_) (λb o u e=>?_) (λb ps e=>⟨#[],?_⟩) (λm hm=>?_) (λb u e=>?_) I.bare
 ·obtain⟨_,f1,_,f3,f4,f5⟩:=hf b hb
  exact⟨f3,f1,f4,f5⟩
 ·have:b≠q:=λz=>by subst z;exact absurd (lt_of_lt_of_le (lt_size e) hq) (lt_irrefl _)
  rw[zp this];exact n
 ·rw[zp (nq b _ e)];exact e
 ·rw[zp (nq b _ e)];exact e
 ·rw[zp (nq b _ e),e];simp
 ·obtain⟨o,es,ep,ho,r⟩:=hm
  exact⟨o,es,ep,k _ o (λz=>(hf _ z).2.1 rfl) ho,r⟩
 ·by_cases hb:b=q
  ·subst hb;rw[jF]at e;cases e;exact new
  ·rw[zp hb]at e
   refine(I.hok b u e).stay (λc v hc q'=>k c v ?_ q') (λc q'=>?_) λc ys q'=>?_
   ·rcases hc with z|z
    ·rw[z];exact nf b u e
    ·exact nf c _ z
   ·rw[zp (nq c _ q')];exact q'
   ·rw[zp (nq c _ q')];exact q'
def Inv.turnL{t':Nat}{fp:List Addr}(I:Inv X pins O H s)(hf:∀b∈fp,Qe X pins H b)(k:∀b o,b∉fp->s.heap.get? b=some o->h'.get? b=some o):Inv X pins O H {s with heap:=h',toks:=t'}:=by
 have nf:∀b u,H b=some u->b∉fp:=λb u e z=>by rw[(hf b z).1]at e;cases e
 refine I.step (g':=s.gens) (d':=s.drawn) (ch:=fp) (λb hb=>?_) (λb o _ _ hc e _=>k b o hc e) (λb o _ _ hc e _=>⟨o.slots,k b o hc e⟩) (λ_ _ _ _ n=>n) (λb o hc e=>⟨o,k b o hc e⟩)
  (λ_ _ e=>e) (λ_ _ _ e=>e) (λb ps e=>⟨#[],by rw[e];simp⟩) (λm hm=>?_) (λb u e=>?_) I.bare
 ·obtain⟨_,f1,_,f3,f4,f5⟩:=hf b hb
  exact⟨f3,f1,f4,f5⟩
 ·obtain⟨o,es,ep,ho,r⟩:=hm
  exact⟨o,es,ep,k _ o (λz=>(hf _ z).2.1 rfl) ho,r⟩
 ·refine(I.hok b u e).stay (λc v hc q'=>k c v ?_ q') (λ_ q=>q) λ_ _ q=>q
  rcases hc with z|z
  ·rw[z];exact nf b u e
  ·exact nf c _ z
end
end L2
namespace DV
open PySem
abbrev IsZ(h:Heap)(z TI TO:Addr)(f0:Value)(b:Bool):Prop:=h.get? z=some {cls:=.type "zip",dict:=none,data:=.fields #[f0,.bool b,.bool false,.ref TI,.ref TO],slots:=#[]}
def Wt(f0:Value):Prop:=f0=.none\/∃a:Nat,f0=rawInt a
section
variable{prog:Program}{w:World}{A:Around}{E:Value->Shared->Prop}{s:Shared}
def st_iter{α:Type}{Q:α->Shared->Prop}(hh:A.handled=none)(hE:∀h' e,(∀b o,s.heap.get? b=some o->h'.get? b=some o)->(∃o,h'.get? e=some o/\o.cls=.type "StopIteration")->E (.ref e) {s with heap:=h'}):wpAny (model prog w) A.in1 (Builtin.SmallTypes.stopIteration:Sem α) Q E s:=by
 unfold Builtin.SmallTypes.stopIteration;refine qB ?_;unfold newExc newTuple;refine qB (wpAny_newObj_type ?_ (by size_fits));refine qB (m:=firstArgMember _ _) (wpAny_of_eq (a:=Value.none) rfl ?_);refine wpAny_newObj_type ?_ (by size_fits);unfold raiseNew;have hh':A.in1.handled=none:=hh;refine qB (wpAny_handled ?_);rw[hh'];refine qB (qC (wpAny_throw ?_));exact hE _ _ (λb o eb=>qA _ (qA _ eb)) ⟨_,get?_push_size _ rfl,rfl⟩
def sp_tup{it t:Addr}{i:Nat}{items:Array Value}{Q:Option Value->Shared->Prop}(hh:A.handled=none)(hit:s.heap.IsTupleIter it t i)(ht:s.heap.IsTuple t items)
  (h1:∀x,items[i]?=some x->∀h',h'.IsTupleIter it t (i+1)->Heap.SameBut it s.heap h'->Q (some x) {s with heap:=h'})
  (h2:items[i]?=none->∀h' e,Heap.ExtBut it s.heap h'->(∃o,h'.get? e=some o/\o.cls=.type "StopIteration")->E (.ref e) {s with heap:=h'}) :
  wpAny (model prog w) A (callSpecial? (.ref it) (Str.ofString "__next__")) Q E s:=by
 have⟨o,ho,hc,hd⟩:=id hit;obtain⟨u,hu,_,n,du⟩:=ht;refine wpAny_callSpecial?_slot hit.typeIs F.slot_tuple_iterator_next (wpAny_call_entry F.slot_tuple_iterator_next hit.typeIs F.entry_tuple_iterator_next ?_ (F.args_tuple_iterator_next_1 _));refine qB (m:=field (.ref it) 0) (wpAny_field ho hd (x:=.ref t) rfl ?_);have nn:¬(Value.ref t==Value.none)=true:=qF;simp only[nn,Bool.false_eq_true,if_false];refine qB (m:=field (.ref it) 1) (wpAny_field ho hd (x:=.int i 0) rfl ?_);refine qB (m:=seqItems? (.ref t)) (wpAny_seqItems hu du ?_);cases hx:items[i]? with
 |some x =>
  simp only[Int.toNat_natCast,hx];refine qB (wpAny_setField ho hd (by simp) (qC ⟨x,rfl,h1 x hx _ ?_ (Heap.SameBut.update ..)⟩));exact⟨_,Heap.get?_update_self _ ho (Obj.isFreed_of_fields (Obj.data_mapFields hd _)),(Obj.cls_mapFields ..).trans hc,by rw[Obj.data_mapFields hd];simp[rawInt]⟩
 |none =>
  simp only[Int.toNat_natCast,hx];refine qB (wpAny_rule (qB (wpAny_setField ho hd (by simp) ?_)));refine st_iter hh λh' e k q=>h2 hx h' e (λb o nb eb=>k b o ?_) q
  exact(Heap.SameBut.update ..).extBut b o nb eb
structure Src(prog:Program)(w:World)(A:Around)(it l:Addr)(items:Array Value)(st:Nat->Heap->Prop):Prop where
 keep:∀{i:Nat} {h h':Heap},st i h->(∀b,b=it\/b=l->∀o,h.get? b=some o->h'.get? b=some o)->st i h'
 lt:∀{i:Nat} {h:Heap},st i h->it<h.objs.size
 next:∀{i:Nat} {s:Shared} {Q:Value->Shared->Prop} {E:Value->Shared->Prop},st i s.heap->(∀x,items[i]?=some x->∀h',st (i+1) h'->Heap.SameBut it s.heap h'->Q x {s with heap:=h'}) ->
  (items[i]?=none->∀h' e,Heap.ExtBut it s.heap h'->(∃o,h'.get? e=some o/\o.cls=.type "StopIteration")->E (.ref e) {s with heap:=h'})->wpAny (model prog w) A (Builtin.SmallTypes.nextOf (.ref it)) Q E s
def src_tup(hh:A.handled=none){it t:Addr}(ne:t≠it)(items:Array Value):Src prog w A it t items (λi h=>h.IsTupleIter it t i/\h.IsTuple t items) where
 keep:=λst k=>⟨st.1.at λo e=>k it (.inl rfl) o e,st.2.at λo e=>k t (.inr rfl) o e⟩
 lt:=λst=>by obtain⟨⟨o,e,_⟩,_⟩:=st;exact lt_size e
 next:=λ{i s Q E} st h1 h2=>by
  unfold Builtin.SmallTypes.nextOf;exact qB (sp_tup hh st.1 st.2 (λx hx h' a b=>qC (h1 x hx h' ⟨a,st.2.extBut b.extBut ne⟩ b)) h2)
def zEd(hh:A.handled=none){it t:Addr}(ne:t≠it)(items:Array Value):Src prog w A it t items (λi h=>h.IsListIter it t i/\h.IsList t items) where
 keep:=λst k=>⟨st.1.at λo e=>k it (.inl rfl) o e,st.2.at λo e=>k t (.inr rfl) o e⟩
 lt:=λst=>by obtain⟨⟨o,e,_⟩,_⟩:=st;exact lt_size e
 next:=λ{i s Q E} st h1 h2=>by
  cases hx:items[i]? with
  |some x=>exact wpAny_nextOf_list_item st.1 st.2 hx λh' a b=>h1 x hx h' ⟨a,st.2.extBut b.extBut ne⟩ b|none=>exact wpAny_nextOf_list_end hh st.1 st.2 hx (h2 hx)
def zEe{z TI TO:Addr}{f0:Value}{b:Bool}{Q:Bool->Shared->Prop}(hz:IsZ s.heap z TI TO f0 b)(hf:Wt f0)(ht:Q true s)(hn:∀h' b',IsZ h' z TI TO f0 b'->(∀c o,c≠z->s.heap.get? c=some o->h'.get? c=some o)->h'.objs.size=s.heap.objs.size->Q false {s with heap:=h'}) :
  wpAny (model prog w) A (Builtin.SmallTypes.ownedTupleIsFree (.ref z)) Q E s:=by
 unfold Builtin.SmallTypes.ownedTupleIsFree;rcases hf with rfl|⟨a,rfl⟩
 ·exact qB (wpAny_field hz rfl (x:=.none) rfl (qC ht))
 ·refine qB (wpAny_field hz rfl (x:=rawInt a) rfl ?_)
  show wpAny _ _ (loadIfAlive ((a:Int).toNat) >>= _) _ _ _
  refine qB ?_;have al:∀(Q':Option Obj->Shared->Prop),Q' (s.heap.get? (a:Int).toNat) s->wpAny (model prog w) A (loadIfAlive (a:Int).toNat) Q' E s:=λQ' h=>λ_ _ _=>h
  refine al _ ?_;cases s.heap.get? (a:Int).toNat with
  |none=>exact qC ht
  |some o =>
   refine qB (wpAny_field hz rfl (x:=.bool b) rfl ?_);cases b with
   |true=>exact qC (hn s.heap true hz (λ_ _ _ e=>e) rfl)|false=>exact qB (wpAny_setField_rec hz (by simp) λh' z' b'=>qC (hn h' true z' (λc o c1 e=>b'.extBut _ _ c1 e) b'.1))
def zq_next{z TI TO i1 i2 l1 l2:Addr}{k:Nat}{xs ys:Array Value}{st1 st2:Nat->Heap->Prop}{a b:Value}{f0:Value}{bb:Bool}{Q:Value->Shared->Prop}(S1:Src prog w A i1 l1 xs st1)(S2:Src prog w A i2 l2 ys st2)(D:ZipApart z TI TO i1 i2 l1 l2)
  (hz:IsZ s.heap z TI TO f0 bb) (hf:Wt f0) (hTI:IsPair s.heap TI (.ref i1) (.ref i2)) (hTO:IsPair s.heap TO a b) (h1:st1 k s.heap) (h2:st2 k s.heap)
  (hQ:∀x y,xs[k]?=some x->ys[k]?=some y->∀h' f1 b1,Wt f1->IsZ h' z TI TO f1 b1->(∃u v,IsPair h' TO u v)->st1 (k+1) h'->st2 (k+1) h'->IsPair h' s.heap.objs.size x y ->
   (∀c o,c≠z->c≠TO->c≠i1->c≠i2->s.heap.get? c=some o->h'.get? c=some o)->Q (.ref s.heap.objs.size) {s with heap:=h'})
  (hE:xs[k]?=none\/ys[k]?=none->∀h' e,(∀c o,c≠z->c≠TO->c≠i1->c≠i2->s.heap.get? c=some o->h'.get? c=some o)->(∃o,h'.get? e=some o/\o.cls=.type "StopIteration")->E (.ref e) {s with heap:=h'}) :
  wpAny (model prog w) A (Builtin.«zip.__next__» ⟨[.ref z],[]⟩) (λfin s'=>∃v,fin=.done (.ret v)/\Q v s') E s:=by
 refine qB (m:=field (.ref z) 2) (wpAny_field hz rfl (x:=.bool false) rfl ?_);refine qB (m:=field (.ref z) 3) (wpAny_field hz rfl (x:=.ref TI) rfl ?_);refine qB (wpAny_seqItems hTI rfl ?_);refine qB (m:=Builtin.SmallTypes.ownedTupleIsFree (.ref z)) (zEe hz hf ?_ λg1 b1 z1 k1 e1=>?_)
 ·simp only[if_true]
  refine qB (wpAny_rule (qB (wpAny_field hz rfl (x:=.ref TO) rfl (qB (wpAny_setField_rec hz (by simp) λg1 z1 b1=>?_)))));have z1:IsZ g1 z TI TO .ellipsis bb:=z1;refine qB ?_;simp only[List.zipIdx_cons,List.zipIdx_nil,forIn_cons,forIn_nil];have s1:st1 k g1:=S1.keep h1 λc hc o e=>b1.extBut c o (by rcases hc with rfl|rfl;exact D.i1z;exact D.l1z) e
  refine qB (qB (wpAny_onRaise (qB (m:=Builtin.SmallTypes.nextOf (.ref i1)) (S1.next s1 (λx hx g2 s2 b2=>qC ?_) λhx g2 e b2 he=>?_))))
  ·have t2:IsPair g2 TO a b:=b2.extBut _ _ D.TOi1 (b1.extBut _ _ D.TOz hTO)
   refine qB (wpAny_seqItems t2 rfl (qB (wpAny_updateSeq_pair t2 λg3 t3 b3=>qB (wpAny_letGo (qC ?_)))));have t3:IsPair g3 TO x b:=t3;have k3:∀c o,c≠z->c≠TO->c≠i1->s.heap.get? c=some o->g3.get? c=some o:=λc o c1 c2 c3 e=>b3.extBut _ _ c2 (b2.extBut _ _ c3 (b1.extBut _ _ c1 e))
   have s3:st1 (k+1) g3:=S1.keep s2 λc hc o e=>b3.extBut c o (by rcases hc with rfl|rfl;exact D.TOi1.symm;exact D.l1TO) e
   have r3:st2 k g3:=S2.keep h2 λc hc o e=>k3 c o (by rcases hc with rfl|rfl;exact D.i2z;exact D.l2z) (by rcases hc with rfl|rfl;exact D.TOi2.symm;exact D.l2TO) (by rcases hc with rfl|rfl;exact D.i12.symm;exact D.l2i1) e
   have z3:IsZ g3 z TI TO .ellipsis bb:=b3.extBut _ _ D.TOz.symm (b2.extBut _ _ D.i1z.symm z1);refine qB (qB (wpAny_onRaise (qB (m:=Builtin.SmallTypes.nextOf (.ref i2)) (S2.next r3 (λy hy g4 r4 b4=>qC ?_) λhy g4 e b4 he=>?_))))
   ·have t4:IsPair g4 TO x b:=b4.extBut _ _ D.TOi2 t3
    refine qB (wpAny_seqItems t4 rfl (qB (wpAny_updateSeq_pair t4 λg5 t5 b5=>qB (wpAny_letGo (qC (qC ?_))))));have t5:IsPair g5 TO x y:=t5;have k5:∀c o,c≠z->c≠TO->c≠i1->c≠i2->s.heap.get? c=some o->g5.get? c=some o:=λc o c1 c2 c3 c4 e=>b5.extBut _ _ c2 (b4.extBut _ _ c4 (k3 c o c1 c2 c3 e))
    have s5:st1 (k+1) g5:=S1.keep s3 λc hc o e=>b5.extBut c o (by rcases hc with rfl|rfl;exact D.TOi1.symm;exact D.l1TO) (b4.extBut c o (by rcases hc with rfl|rfl;exact D.i12;exact D.l1i2) e)
    have r5:st2 (k+1) g5:=S2.keep r4 λc hc o e=>b5.extBut c o (by rcases hc with rfl|rfl;exact D.TOi2.symm;exact D.l2TO) e
    have z5:IsZ g5 z TI TO .ellipsis bb:=b5.extBut _ _ D.TOz.symm (b4.extBut _ _ D.i2z.symm z3);have sz:g5.objs.size=s.heap.objs.size:=by rw[b5.1,b4.1,b3.1,b2.1,b1.1]
    refine qB (wpAny_seqItems t5 rfl (qB (wpAny_newTuple ?_)));refine qB (m:=Builtin.SmallTypes.ownedTupleHandOut (.ref z) (.ref g5.objs.size)) ?_;unfold Builtin.SmallTypes.ownedTupleHandOut;have z6:IsZ (g5.push {cls:=.type "tuple",data:=.seq #[x,y]}) z TI TO .ellipsis bb:=qA _ z5;refine qB (wpAny_setField_rec z6 (by simp) λg7 z7 b7=>?_);have z7:IsZ g7 z TI TO (rawInt g5.objs.size) bb:=z7;refine wpAny_setField_rec z7 (by simp) λg8 z8 b8=>?_
    have z8:IsZ g8 z TI TO (rawInt g5.objs.size) false:=z8;have up:∀c o,c≠z->g5.get? c=some o->g8.get? c=some o:=λc o c1 e=>b8.extBut _ _ c1 (b7.extBut _ _ c1 (qA _ e))
    have zl:z<g5.objs.size:=lt_size z5;have p8:IsPair g8 g5.objs.size x y:=b8.extBut _ _ (ne_of_gt zl) (b7.extBut _ _ (ne_of_gt zl) (get?_push_size _ rfl));rw[sz]at p8;refine qC ⟨_,rfl,?_⟩;show Q (.ref g5.objs.size) _;have fin:=hQ x y hx hy g8 _ _ (.inr ⟨_,rfl⟩) z8 ⟨_,_,up _ _ D.TOz t5⟩ (S1.keep s5 λc hc o e=>up c o (by rcases hc with rfl|rfl;exact D.i1z;exact D.l1z) e) (S2.keep r5 λc hc o e=>up c o (by rcases hc with rfl|rfl;exact D.i2z;exact D.l2z) e) p8 λc o c1 c2 c3 c4 e=>up c o c1 (k5 c o c1 c2 c3 c4 e)
    rw[sz];exact fin
   ·have z4:IsZ g4 z TI TO .ellipsis bb:=b4 _ _ D.i2z.symm z3
    obtain⟨oe,ho,hc⟩:=he;have ez:e≠z:=λq=>by subst q;rw[z4]at ho;cases ho;simp at hc
    exact wpAny_setField_rec z4 (by simp) λg5 _ b5=>hE (.inr hy) g5 e (λc o c1 c2 c3 c4 x=>b5.extBut _ _ c1 (b4 _ _ c4 (k3 c o c1 c2 c3 x))) ⟨oe,b5.extBut _ _ ez ho,hc⟩
  ·have z2:IsZ g2 z TI TO .ellipsis bb:=b2 _ _ D.i1z.symm z1
   obtain⟨oe,ho,hc⟩:=he;have ez:e≠z:=λq=>by subst q;rw[z2]at ho;cases ho;simp at hc
   exact wpAny_setField_rec z2 (by simp) λg3 _ b3=>hE (.inl hx) g3 e (λc o c1 c2 c3 c4 x=>b3.extBut _ _ c1 (b2 _ _ c3 (b1.extBut _ _ c1 x))) ⟨oe,b3.extBut _ _ ez ho,hc⟩
 ·simp only[Bool.false_eq_true,if_false]
  refine qB ?_;rw[<- Array.forIn_toList];simp only[forIn_cons,forIn_nil];have s1:st1 k g1:=S1.keep h1 λc hc o e=>k1 c o (by rcases hc with rfl|rfl;exact D.i1z;exact D.l1z) e
  refine qB (qB (wpAny_holding (qB (m:=Builtin.SmallTypes.nextOf (.ref i1)) (S1.next s1 (λx hx g2 s2 b2=>qC ?_) λhx g2 e b2 he=>?_))))
  ·refine qC ?_
   dsimp only;have k2:∀c o,c≠z->c≠i1->s.heap.get? c=some o->g2.get? c=some o:=λc o c1 c3 e=>b2.extBut _ _ c3 (k1 _ _ c1 e)
   have r2:st2 k g2:=S2.keep h2 λc hc o e=>k2 c o (by rcases hc with rfl|rfl;exact D.i2z;exact D.l2z) (by rcases hc with rfl|rfl;exact D.i12.symm;exact D.l2i1) e
   refine qB (qB (wpAny_holding (qB (m:=Builtin.SmallTypes.nextOf (.ref i2)) (S2.next r2 (λy hy g3 r3 b3=>qC ?_) λhy g3 e b3 he=>?_))))
   ·refine qC ?_
    dsimp only;refine qC ?_;dsimp only;refine qB (wpAny_newTuple (hsz:=by simp[sizeLine_eq]) (qC ⟨_,rfl,?_⟩));have sz:g3.objs.size=s.heap.objs.size:=by rw[b3.1,b2.1,e1]
    have k3:∀c o,c≠z->c≠i1->c≠i2->s.heap.get? c=some o->g3.get? c=some o:=λc o c1 c3 c4 e=>b3.extBut _ _ c4 (k2 c o c1 c3 e)
    have s3:st1 (k+1) g3:=S1.keep s2 λc hc o e=>b3.extBut c o (by rcases hc with rfl|rfl;exact D.i12;exact D.l1i2) e
    have z3:IsZ g3 z TI TO f0 b1:=b3.extBut _ _ D.i2z.symm (b2.extBut _ _ D.i1z.symm z1);have fin:=hQ x y hx hy (g3.push {cls:=.type "tuple",data:=.seq #[x,y]}) _ _ hf (qA _ z3) ⟨_,_,qA _ (k3 _ _ D.TOz D.TOi1 D.TOi2 hTO)⟩ (S1.keep s3 λc hc o e=>qA _ e) (S2.keep r3 λc hc o e=>qA _ e) (sz▸get?_push_size _ rfl) λc o c1 c2 c3 c4 e=>qA _ (k3 c o c1 c3 c4 e)
    show Q (.ref g3.objs.size) _
    rw[sz];exact fin
   ·exact hE (.inr hy) g3 e (λc o c1 c2 c3 c4 x=>b3 _ _ c4 (k2 c o c1 c3 x)) he
  ·exact hE (.inl hx) g2 e (λc o c1 c2 c3 c4 x=>b2 _ _ c3 (k1 _ _ c1 x)) he
def Yl{z TI TO i1 i2 l1 l2:Addr}{k:Nat}{xs ys:Array Value}{st1 st2:Nat->Heap->Prop}{a b:Value}{f0:Value}{bb:Bool}{Q:Option Value->Shared->Prop}(S1:Src prog w A.in1 i1 l1 xs st1)(S2:Src prog w A.in1 i2 l2 ys st2)(D:ZipApart z TI TO i1 i2 l1 l2)
  (hz:IsZ s.heap z TI TO f0 bb) (hf:Wt f0) (hTI:IsPair s.heap TI (.ref i1) (.ref i2)) (hTO:IsPair s.heap TO a b) (h1:st1 k s.heap) (h2:st2 k s.heap)
  (hQ:∀x y,xs[k]?=some x->ys[k]?=some y->∀h' f1 b1,Wt f1->IsZ h' z TI TO f1 b1->(∃u v,IsPair h' TO u v)->st1 (k+1) h'->st2 (k+1) h'->IsPair h' s.heap.objs.size x y ->
   (∀c o,c≠z->c≠TO->c≠i1->c≠i2->s.heap.get? c=some o->h'.get? c=some o)->Q (some (.ref s.heap.objs.size)) {s with heap:=h'})
  (hE:xs[k]?=none\/ys[k]?=none->∀h',(∀c o,c≠z->c≠TO->c≠i1->c≠i2->s.heap.get? c=some o->h'.get? c=some o)->Q none {s with heap:=h'}):wpAny (model prog w) A (pyNext (.ref z)) Q E s:=by
 have hT:s.TypeIs (.ref z) "zip":=⟨_,hz,rfl⟩;unfold pyNext;refine qB (wpAny_attempt (wpAny_callSpecial?_slot hT F.slot_zip_next (wpAny_call_entry F.slot_zip_next hT F.entry_zip_next (zq_next S1 S2 D hz hf hTI hTO h1 h2 (λx y hx hy h' f1 b1 a0 a1 a2 a3 a4 a5 a6=>?_) λhend h' e hk he=>?_) (F.args_zip_next_1 _))))
 ·exact qC (hQ x y hx hy h' f1 b1 a0 a1 a2 a3 a4 a5 a6)
 ·obtain⟨o,ho,hc⟩:=he
  exact qB (wpAny_isInstance (T:="StopIteration") (b:=true) ⟨o,ho,hc⟩ isSubtype_stop (qC (hE hend h' hk)))
def zCu{z TI TO:Addr}{f0:Value}{b:Bool}{Q:Value->Shared->Prop}(hz:IsZ s.heap z TI TO f0 b)(h:Q (.ref z) s):wpAny (model prog w) A (pyIter (.ref z)) Q E s:=by
 have hT:s.TypeIs (.ref z) "zip":=⟨_,hz,rfl⟩;refine wpAny_pyIter_slot hT F.slot_zip_iter (wpAny_call_entry F.slot_zip_iter hT F.entry_zip_iter ?_ (F.args_zip_iter_1 _));show wpAny _ _ (ret (.ref z)) _ _ s;exact qC ⟨_,rfl,"zip",_,hT,F.slot_zip_next.lookup,h⟩
def TgZ(tg:Expr):Prop:=(∃el x p,tg=.Tuple el x p)\/∃y p,tg=.Name y p
def lo_zip{tg:Expr}{z TI TO T:Addr}{f0:Value}{b:Bool}{Q:Unit->Shared->Prop}(ht:TgZ tg)(hf:Wt f0)(hz:IsZ s.heap z TI TO f0 b)(hQ:∀h' f1,Wt f1->IsZ h' z TI TO f1 b->(∀c o,c≠z->s.heap.get? c=some o->h'.get? c=some o)->Q () {s with heap:=h'}):wpAny (model prog w) A (letOwnedTupleGo tg (.ref z) (.ref T)) Q E s:=by
 rcases ht with⟨el,x,p,rfl⟩|⟨y,p,rfl⟩
 ·unfold letOwnedTupleGo
  refine qB (wpAny_load hz ?_);show wpAny _ _ (if(["enumerate","zip","dict_itemiterator","dict_reverseitemiterator","odict_iterator","itertools.zip_longest","itertools.pairwise"].contains "zip"&&(#[f0,.bool b,.bool false,.ref TI,.ref TO]:Array Value)[0]?==some (rawInt T))=true then _ else _) Q E s;refine wpAny_ite_split (λ_=>qB (wpAny_rule ?_)) (λ_=>qC (hQ s.heap f0 hf hz λ_ _ _ e=>e));show wpAny _ _ (setField (.ref z) 0 .none) Q E s;exact wpAny_setField_rec hz (by simp) λh' hz' hs'=>hQ h' .none (.inl rfl) hz' λc o c1 e=>hs'.extBut _ _ c1 e
 ·exact qC (hQ s.heap f0 hf hz λ_ _ _ e=>e)
end
abbrev itO(c:String)(l:Addr):Obj:={cls:=.type c,data:=.fields #[.ref l,.int 0 0]}
abbrev zpA(h:Heap)(c1 c2:String)(l1 l2:Addr):Heap:=(h.push (itO c1 l1)).push (itO c2 l2)
abbrev zpB(h:Heap)(c1 c2:String)(l1 l2:Addr):Heap:=(zpA h c1 c2 l1 l2).push {cls:=.type "tuple",data:=.seq #[.ref h.objs.size,.ref (h.push (itO c1 l1)).objs.size]}
abbrev zpC(h:Heap)(c1 c2:String)(l1 l2:Addr):Heap:=(zpB h c1 c2 l1 l2).push {cls:=.type "tuple",data:=.seq #[.none,.none]}
abbrev zpD(h:Heap)(c1 c2:String)(l1 l2:Addr):Heap:=(zpC h c1 c2 l1 l2).push {cls:=.type "zip",data:=.fields #[.none,.bool false,.bool false,.ref (zpA h c1 c2 l1 l2).objs.size,.ref (zpB h c1 c2 l1 l2).objs.size]}
def zEf(l1 l2:Addr)(xs ys:Array Value):Meets (Builtin.«zip.__new__» ⟨[.type "zip",.ref l1,.ref l2],[]⟩) (λ_ R s=>s.heap.IsTuple l1 xs/\s.heap.IsTuple l2 ys/\R (.ok (.ret (.ref (zpC s.heap "tuple_iterator" "tuple_iterator" l1 l2).objs.size))) {s with heap:=zpD s.heap "tuple_iterator" "tuple_iterator" l1 l2}) :=
 .of_wp λprog w A R s h=>by
  obtain⟨hp,g,d,tk,os⟩:=s;obtain⟨h1,h2,h⟩:=h;have hs:=sub_zip;have a1:Heap.IsTuple (Shared.heap ⟨hp,g,d,tk,os⟩) l1 xs:=h1;have a2:Heap.IsTuple (Shared.heap ⟨hp.push (itO "tuple_iterator" l1),g,d,tk,os⟩) l2 ys:=h2.at λo e=>qA _ e
  wp_walk using wpAny_pyIter_tuple a1,wpAny_pyIter_tuple a2
  exact⟨_,rfl,h⟩
def zEg(l1 l2:Addr)(xs ys:Array Value):Meets (Builtin.«zip.__new__» ⟨[.type "zip",.ref l1,.ref l2],[]⟩) (λ_ R s=>s.heap.IsTuple l1 xs/\s.heap.IsList l2 ys/\R (.ok (.ret (.ref (zpC s.heap "tuple_iterator" "list_iterator" l1 l2).objs.size))) {s with heap:=zpD s.heap "tuple_iterator" "list_iterator" l1 l2}) :=
 .of_wp λprog w A R s h=>by
  obtain⟨hp,g,d,tk,os⟩:=s;obtain⟨h1,h2,h⟩:=h;have hs:=sub_zip;have a1:Heap.IsTuple (Shared.heap ⟨hp,g,d,tk,os⟩) l1 xs:=h1;have a2:Heap.IsList (Shared.heap ⟨hp.push (itO "tuple_iterator" l1),g,d,tk,os⟩) l2 ys:=h2.at λo e=>qA _ e
  wp_walk using wpAny_pyIter_tuple a1,wpAny_pyIter_list a2
  exact⟨_,rfl,h⟩
def zEh(l1 l2:Addr)(xs ys:Array Value):Meets (Builtin.«zip.__new__» ⟨[.type "zip",.ref l1,.ref l2],[]⟩) (λ_ R s=>s.heap.IsList l1 xs/\s.heap.IsTuple l2 ys/\R (.ok (.ret (.ref (zpC s.heap "list_iterator" "tuple_iterator" l1 l2).objs.size))) {s with heap:=zpD s.heap "list_iterator" "tuple_iterator" l1 l2}) :=
 .of_wp λprog w A R s h=>by
  obtain⟨hp,g,d,tk,os⟩:=s;obtain⟨h1,h2,h⟩:=h;have hs:=sub_zip;have a1:Heap.IsList (Shared.heap ⟨hp,g,d,tk,os⟩) l1 xs:=h1;have a2:Heap.IsTuple (Shared.heap ⟨hp.push (itO "list_iterator" l1),g,d,tk,os⟩) l2 ys:=h2.at λo e=>qA _ e
  wp_walk using wpAny_pyIter_list a1,wpAny_pyIter_tuple a2
  exact⟨_,rfl,h⟩
def zEi(l1 l2:Addr)(xs ys:Array Value):Meets (Builtin.«zip.__new__» ⟨[.type "zip",.ref l1,.ref l2],[]⟩) (λ_ R s=>s.heap.IsList l1 xs/\s.heap.IsList l2 ys/\R (.ok (.ret (.ref (zpC s.heap "list_iterator" "list_iterator" l1 l2).objs.size))) {s with heap:=zpD s.heap "list_iterator" "list_iterator" l1 l2}):=meets_zip_new l1 l2 xs ys
structure Zp(h h':Heap)(c1 c2:String)(l1 l2:Addr):Prop where
 z:IsZip h' (h.objs.size+4) (h.objs.size+2) (h.objs.size+3) .none
 a:IsPair h' (h.objs.size+2) (.ref h.objs.size) (.ref (h.objs.size+1))
 b:IsPair h' (h.objs.size+3) .none .none
 i1:h'.get? h.objs.size=some (itO c1 l1)
 i2:h'.get? (h.objs.size+1)=some (itO c2 l2)
 kp:∀c o,h.get? c=some o->h'.get? c=some o
def zp_of(h:Heap)(c1 c2:String)(l1 l2:Addr):Zp h (zpD h c1 c2 l1 l2) c1 c2 l1 l2/\(zpC h c1 c2 l1 l2).objs.size=h.objs.size+4:=by
 have n1:(h.push (itO c1 l1)).objs.size=h.objs.size+1:=size_push ..;have n2:(zpA h c1 c2 l1 l2).objs.size=h.objs.size+2:=by rw[size_push,n1]
 have n3:(zpB h c1 c2 l1 l2).objs.size=h.objs.size+3:=by rw[size_push,n2]
 have n4:(zpC h c1 c2 l1 l2).objs.size=h.objs.size+4:=by rw[size_push,n3]
 have u:=λ(h:Heap) (o:Obj) {b:Addr} {q:Obj} (e:h.get? b=some q)=>qA (h:=h) o e
 have g5:(zpD h c1 c2 l1 l2).get? (zpC h c1 c2 l1 l2).objs.size=some _:=get?_push_size _ rfl;have g4:(zpD h c1 c2 l1 l2).get? (zpB h c1 c2 l1 l2).objs.size=some _:=qA _ (get?_push_size _ rfl);have g3:(zpD h c1 c2 l1 l2).get? (zpA h c1 c2 l1 l2).objs.size=some _:=qA _ (qA _ (get?_push_size _ rfl));have g2:(zpD h c1 c2 l1 l2).get? (h.push (itO c1 l1)).objs.size=some (itO c2 l2):=qA _ (qA _ (qA _ (get?_push_size _ rfl)));have g1:(zpD h c1 c2 l1 l2).get? h.objs.size=some (itO c1 l1):=qA _ (qA _ (qA _ (qA _ (get?_push_size _ rfl))));rw[n2,n3,n4]at g5;rw[n1,n2]at g3;rw[n3]at g4;rw[n1]at g2;exact⟨⟨g5,g3,g4,g1,g2,λc o e=>qA _ (qA _ (qA _ (qA _ (qA _ e))))⟩,n4⟩
section
variable{prog:Program}{w:World}{A:Around}{E:Value->Shared->Prop}{s:Shared}
def SqO(h:Heap)(t:Bool)(l:Addr)(xs:Array Value):Prop:=if t then h.IsTuple l xs else h.IsList l xs
def itC(t:Bool):String:=if t then "tuple_iterator" else "list_iterator"
def zCv{t1 t2:Bool}{l1 l2:Addr}{xs ys:Array Value}{Q:Value->Shared->Prop}(h1:SqO s.heap t1 l1 xs)(h2:SqO s.heap t2 l2 ys)(h:∀h',Zp s.heap h' (itC t1) (itC t2) l1 l2->Q (.ref (s.heap.objs.size+4)) {s with heap:=h'}):wpAny (model prog w) A (call (.type "zip") [.ref l1,.ref l2]) Q E s:=by
 obtain⟨z,n⟩:=zp_of s.heap (itC t1) (itC t2) l1 l2;have hz:=h _ z;have fin:∀{P:Heap->Prop},P s.heap->Meets (Builtin.«zip.__new__» ⟨[.type "zip",.ref l1,.ref l2],[]⟩) (λ_ R s=>P s.heap/\R (.ok (.ret (.ref (zpC s.heap (itC t1) (itC t2) l1 l2).objs.size))) {s with heap:=zpD s.heap (itC t1) (itC t2) l1 l2})->wpAny (model prog w) A (call (.type "zip") [.ref l1,.ref l2]) Q E s:=λ{P} hP m=>by
  refine callType_new F.called_zip (by decide) (F.typeCall_zip_2 _ _) (F.newCall_zip_2 _ _) (λobj=>F.args_object_init_3 obj _ _) F.entry_zip_new m ⟨hP,?_⟩;show _/\_;rw[n];exact⟨⟨_,z.z,rfl⟩,hz⟩
 cases t1<;>cases t2
 ·exact fin (P:=λh=>h.IsList l1 xs/\h.IsList l2 ys) ⟨h1,h2⟩ (Meets.of_imp (zEi l1 l2 xs ys) λA R s q=>⟨q.1.1,q.1.2,q.2⟩)
 ·exact fin (P:=λh=>h.IsList l1 xs/\h.IsTuple l2 ys) ⟨h1,h2⟩ (Meets.of_imp (zEh l1 l2 xs ys) λA R s q=>⟨q.1.1,q.1.2,q.2⟩)
 ·exact fin (P:=λh=>h.IsTuple l1 xs/\h.IsList l2 ys) ⟨h1,h2⟩ (Meets.of_imp (zEg l1 l2 xs ys) λA R s q=>⟨q.1.1,q.1.2,q.2⟩)
 ·exact fin (P:=λh=>h.IsTuple l1 xs/\h.IsTuple l2 ys) ⟨h1,h2⟩ (Meets.of_imp (zEf l1 l2 xs ys) λA R s q=>⟨q.1.1,q.1.2,q.2⟩)
end
end DV
namespace DV
open PySem L2 PySem.Spec PyProof.Rows
def SqH(K:qH)(H:Hp)(t:Bool)(a:Addr)(xs:List V):Prop:=if t then SqT K H a xs else SqL K H a xs
section
variable{X:Cx}{pins:List (Addr×Obj)}{O:L2.St}{H:Hp}{s:Shared}{a b:Addr}{xs ys:List V}
def jr{t:Bool}(I:Inv X pins O H s)(h:SqH X.K H t a xs):∃its:List Value,ya xs its/\SqO s.heap t a its.toArray:=by
 cases t with
 |true =>
  obtain⟨its,r,p,_⟩:=I.tuple h;exact⟨its,r,p⟩
 |false =>
  obtain⟨its,r,p,_⟩:=I.list h;exact⟨its,r,p.isList⟩
def Qs{t:Bool}(I:Inv X pins O H s)(h:SqH X.K H t a xs)(h':SqH X.K H t a ys):xs=ys:=by
 cases t with
 |true=>exact I.tuple_inj h h'|false=>exact I.list_inj h h'
def vz{t:Bool}(I:Inv X pins O H s)(h:SqH X.K H t a xs)(f:Qe X pins H b):a≠b:=by
 intro z;subst z;have key:∀o,X.K.lookup a=some o->False:=λo hk=>by
  have hb:=I.ok.mod.kin a o hk;have e:=I.ok.bs a o hb;rcases f.2.2.2.1 with q|q
  ·exact I.ok.noex a o hb q
  ·exact absurd (lt_of_lt_of_le (lt_size e.1) q) (lt_irrefl _)
 have key2:∀u,Rd H a u->False:=λu r=>by
  rcases r with r|⟨o,r⟩<;>rw[f.1]at r<;>cases r
 cases t with
 |true =>
  rcases h with h|⟨o,its,n,hk,_⟩
  ·exact key2 _ h
  ·exact key o hk
 |false =>
  rcases h with h|⟨o,its,n,hk,_⟩
  ·exact key2 _ h
  ·exact key o hk
end
def Itz(K:qH)(t1 t2:Bool)(a b:Addr):It :=
 ⟨λi H=>∃xs ys,SqH K H t1 a xs/\SqH K H t2 b ys/\i<xs.length/\i<ys.length,
  λi H x H'=>∃q u v,(∀xs,SqH K H t1 a xs->xs[i]?=some u)/\(∀ys,SqH K H t2 b ys->ys[i]?=some v)/\H q=none/\H'=upd H q (.t [u,v])/\x=.ref q,
  λi H=>∃xs ys,SqH K H t1 a xs/\SqH K H t2 b ys/\(xs.length<=i\/ys.length<=i)⟩
def ItA(t:Bool)(h:Heap)(it l:Addr)(i:Nat):Prop:=if t then h.IsTupleIter it l i else h.IsListIter it l i
def Zl{t:Bool}{h h':Heap}{it l:Addr}{i:Nat}(x:ItA t h it l i)(k:∀o,h.get? it=some o->h'.get? it=some o):ItA t h' it l i:=by
 cases t with
 |true=>exact Heap.IsTupleIter.at x k|false=>exact Heap.IsListIter.at x k
def ZN{t:Bool}{h:Heap}{it l:Addr}{i:Nat}(x:ItA t h it l i):∃o,h.get? it=some o/\∀v,o.data≠.cell v:=by
 cases t with
 |true=>obtain⟨o,e,c,d⟩:=x;exact⟨o,e,λv z=>by rw[d]at z;cases z⟩|false=>obtain⟨o,e,c,d⟩:=x;exact⟨o,e,λv z=>by rw[d]at z;cases z⟩
def zDm{prog:Program}{w:World}{A:Around}(hh:A.handled=none)(t:Bool){it l:Addr}(ne:l≠it)(items:Array Value):Src prog w A it l items (λi h=>ItA t h it l i/\SqO h t l items):=by
 cases t with
 |true=>exact src_tup hh ne items|false=>exact zEd hh ne items
structure Five(z TI TO i1 i2:Addr):Prop where
 a1:TI≠z
 a2:TO≠z
 a3:i1≠z
 a4:i2≠z
 a5:TI≠TO
 a6:TI≠i1
 a7:TI≠i2
 a8:TO≠i1
 a9:TO≠i2
 a10:i1≠i2
def ZSn(z TI TO i1 i2:Addr)(t1 t2:Bool)(a b:Addr)(i:Nat)(h:Heap):Prop:=(∃f0 b,Wt f0/\IsZ h z TI TO f0 b)/\IsPair h TI (.ref i1) (.ref i2)/\(∃u v,IsPair h TO u v)/\ItA t1 h i1 a i/\ItA t2 h i2 b i
def zEj{P:Program}{w:World}{K:qH}{tg:Expr}{z TI TO i1 i2:Addr}(ht:TgZ tg)(F:Five z TI TO i1 i2)(t1 t2:Bool)(a b:Addr):Turn P w K tg (Itz K t1 t2 a b) [z,TI,TO,i1,i2] z (ZSn z TI TO i1 i2 t1 t2 a b) where
 mem:=by simp
 obj:=λi h st c hc=>by
  obtain⟨⟨f0,bb,hf0,hz⟩,hI,⟨u,v,hO⟩,h1,h2⟩:=st;simp only[mem_cons,mem_nil_iff,or_false]at hc;rcases hc with rfl|rfl|rfl|rfl|rfl
  ·exact⟨_,hz,λv z=>by cases z⟩
  ·exact⟨_,hI,λv z=>by cases z⟩
  ·exact⟨_,hO,λv z=>by cases z⟩
  ·exact ZN h1
  ·exact ZN h2
 keep:=λi h h' st k=>by
  obtain⟨⟨f0,bb,hf0,hz⟩,hI,⟨u,v,hO⟩,h1,h2⟩:=st;exact⟨⟨f0,bb,hf0,k z (by simp) _ hz⟩,k TI (by simp) _ hI,⟨u,v,k TO (by simp) _ hO⟩,Zl h1 λo e=>k i1 (by simp) o e,Zl h2 λo e=>k i2 (by simp) o e⟩
 item:=by
  intro X hP hw hK hc i pins s O H E I hf st hg;subst hP hw hK;obtain⟨⟨f0,bb,hf0,hz⟩,hI,⟨u0,v0,hO⟩,h1,h2⟩:=st;obtain⟨xs,ys,q1,q2,l1,l2⟩:=hg;obtain⟨us,r1,p1⟩:=jr I q1;obtain⟨vs,r2,p2⟩:=jr I q2;have na:∀c∈[z,TI,TO,i1,i2],a≠c:=λc hc=>vz I q1 (hf c hc)
  have nb:∀c∈[z,TI,TO,i1,i2],b≠c:=λc hc=>vz I q2 (hf c hc)
  have D:ZipApart z TI TO i1 i2 a b:=⟨F.a1,F.a2,F.a3,F.a4,F.a5,F.a6,F.a7,F.a8,F.a9,F.a10,na z (by simp),na TO (by simp),na i1 (by simp),na i2 (by simp),nb z (by simp),nb TO (by simp),nb i1 (by simp),nb i2 (by simp)⟩;have hh:X.A.in1.handled=none:=I.ok.hd hc;obtain⟨u,eu⟩:∃u,xs[i]?=some u:=⟨_,getElem?_eq_getElem l1⟩;obtain⟨v,ev⟩:∃v,ys[i]?=some v:=⟨_,getElem?_eq_getElem l2⟩;obtain⟨u',eu',ru⟩:=r1.get eu;obtain⟨v',ev',rv⟩:=r2.get ev;refine Yl (zDm hh t1 (na i1 (by simp)) us.toArray) (zDm hh t2 (nb i2 (by simp)) vs.toArray) D hz hf0 hI hO ⟨h1,p1⟩ ⟨h2,p2⟩ (λx y hx hy h' f1 b1 w1 z1 o1 s1 s2 pq kk=>?_) (λhe=>?_)
  ·have ex:x=u':=by simp[eu']at hx;exact hx.symm
   have ey:y=v':=by simp[ev']at hy;exact hy.symm
   subst ex ey;refine⟨_,rfl,lo_zip (s:={s with heap:=h'}) ht w1 z1 λh2 f2 w2 z2 b2=>?_⟩
   have lt:∀{c o},s.heap.get? c=some o->s.heap.objs.size≠c:=λe=>ne_of_gt (lt_size e)
   have pq2:IsPair h2 s.heap.objs.size x y:=b2 _ _ (lt hz) pq;have k2:∀c o,c∉[z,TI,TO,i1,i2]->s.heap.get? c=some o->h2.get? c=some o:=λc o hc e=>b2 _ _ (λq=>hc (by simp[q])) (kk c o (λq=>hc (by simp[q])) (λq=>hc (by simp[q])) (λq=>hc (by simp[q])) (λq=>hc (by simp[q])) e)
   obtain⟨ou,ov,o1⟩:=o1;have new:j9 X.prog X.w (upd H s.heap.objs.size (.t [u,v])) h2 s.heap.objs.size (.t [u,v]):=⟨by simp[sizeLine_eq],[x,y],.cons ru (.cons rv .nil),⟨_,pq2,rfl,_,rfl⟩⟩;have I2:=I.turnLay (t':=s.toks) hf k2 (le_refl _) new;have fresh:H s.heap.objs.size=none:=I.hok.fresh (le_refl _);refine⟨.ref s.heap.objs.size,_,I2,rfl,⟨_,u,v,λzs hz=>by rw[Qs I hz q1];exact eu,λzs hz=>by rw[Qs I hz q2];exact ev,fresh,rfl,rfl⟩,⟨⟨f2,b1,w2,z2⟩,b2 _ _ F.a1 (kk TI _ F.a1 F.a5 F.a6 F.a7 hI),⟨_,_,b2 _ _ F.a2 o1⟩,Zl s1.1 λo e=>b2 _ _ F.a3 e,Zl s2.1 λo e=>b2 _ _ F.a4 e⟩,λc hc=>?_⟩;have:c≠s.heap.objs.size:=λq=>by
    obtain⟨o,e⟩:∃o,s.heap.get? c=some o:=by
     simp only[mem_cons,mem_nil_iff,or_false]at hc;rcases hc with rfl|rfl|rfl|rfl|rfl
     ·exact⟨_,hz⟩
     ·exact⟨_,hI⟩
     ·exact⟨_,hO⟩
     ·obtain⟨o,e,_⟩:=ZN h1;exact⟨o,e⟩
     ·obtain⟨o,e,_⟩:=ZN h2;exact⟨o,e⟩
    exact lt e q.symm
   rw[zp this];exact(hf c hc).1
  ·exfalso
   rcases he with he|he
   ·simp[eu']at he
   ·simp[ev']at he
 done:=by
  intro X hP hw hK hc i pins s O H E I hf st hg;subst hP hw hK;obtain⟨⟨f0,bb,hf0,hz⟩,hI,⟨u0,v0,hO⟩,h1,h2⟩:=st;obtain⟨xs,ys,q1,q2,l12⟩:=hg;obtain⟨us,r1,p1⟩:=jr I q1;obtain⟨vs,r2,p2⟩:=jr I q2;have na:∀c∈[z,TI,TO,i1,i2],a≠c:=λc hc=>vz I q1 (hf c hc)
  have nb:∀c∈[z,TI,TO,i1,i2],b≠c:=λc hc=>vz I q2 (hf c hc)
  have D:ZipApart z TI TO i1 i2 a b:=⟨F.a1,F.a2,F.a3,F.a4,F.a5,F.a6,F.a7,F.a8,F.a9,F.a10,na z (by simp),na TO (by simp),na i1 (by simp),na i2 (by simp),nb z (by simp),nb TO (by simp),nb i1 (by simp),nb i2 (by simp)⟩;have hh:X.A.in1.handled=none:=I.ok.hd hc;have e1:=r1.length;have e2:=r2.length;refine Yl (zDm hh t1 (na i1 (by simp)) us.toArray) (zDm hh t2 (nb i2 (by simp)) vs.toArray) D hz hf0 hI hO ⟨h1,p1⟩ ⟨h2,p2⟩ (λx y hx hy=>?_) (λhe h' kk=>⟨rfl,?_⟩)
  ·exfalso
   simp at hx hy
   have a1:=(qG.mp hx).1;have a2:=(qG.mp hy).1;omega
  ·exact I.turnL (t':=s.toks) hf λc o hc e=>kk c o (λq=>hc (by simp[q])) (λq=>hc (by simp[q])) (λq=>hc (by simp[q])) (λq=>hc (by simp[q])) e
 self:=λ_ _ _ _ _ st h=>by
  obtain⟨⟨f0,bb,hf0,hz⟩,_⟩:=st;exact zCu hz h
section
variable{X:Cx}{K:qH}{mg:Str->Option Value}{O:L2.St}{H:Hp}
def iZip(K:qH)(t1 t2:Bool)(ta:TA):TI:=λO H R=>ta O H λvs H1=>∃a b xs ys,vs=[.ref a,.ref b]/\SqH K H1 t1 a xs/\SqH K H1 t2 b ys/\R (Itz K t1 t2 a b) H1
def zFw:bootBuiltins "zip"=some (.type "zip"):=by decide +kernel
def uY{t:Bool}{h:Heap}{it l:Addr}(e:h.get? it=some (itO (itC t) l)):ItA t h it l 0:=by
 cases t with
 |true=>exact⟨_,e,rfl,rfl⟩|false=>exact⟨_,e,rfl,rfl⟩
def five(n:Addr):Five (n+4) (n+2) (n+3) n (n+1) :=
 have e:∀i j:Nat,i≠j->n+i≠n+j:=λi j h q=>h (Nat.add_left_cancel q)
 ⟨e 2 4 (by decide),e 3 4 (by decide),e 0 4 (by decide),e 1 4 (by decide),e 2 3 (by decide),e 2 0 (by decide),e 2 1 (by decide),e 3 0 (by decide),e 3 1 (by decide),e 0 1 (by decide)⟩
def pi_zip{t1 t2:Bool}{e f:Expr}{ta:TA}{tg:Expr}{p pos:Pos}(ht:TgZ tg)(hg:Gl X "zip")(hm:X.mg "zip"=none)(ha:PA X [e,f] ta)(hs:starEach [e,f] X.env=[(false,eval e X.env),(false,eval f X.env)]:=by rfl)(hs2:starEach [f] X.env=[(false,eval f X.env)]:=by rfl) :
  PI X tg (.Call (.Name "zip" p) [e,f] [] pos) (iZip X.K t1 t2 ta):=by
 intro pins s O H R I h;refine Call_ (YZ I hg hm zFw (PyProof.Rows.callWith_type1 (thn (ha pos pins s O H _ I h) λus s1 ⟨vs,H1,I1,r1,q1⟩=>?_) (by rw[hs,hs2]) (by rw[hs2];rfl)));obtain⟨a,b,xs,ys,ev,qa,qb,q⟩:=q1;subst ev;cases r1 with
 |cons r rr =>
  cases rr with
  |cons r' rr =>
   cases rr;cases r;cases r';obtain⟨u1,v1,p1⟩:=jr I1 qa;obtain⟨u2,v2,p2⟩:=jr I1 qb;refine zCv p1 p2 λh' z=>?_
   refine wpAny_pyIter_zip (s:={s1 with heap:=h'}) z.z ?_
   have n:∀j,s1.heap.objs.size<=s1.heap.objs.size+j:=λj=>le_add_right _ _
   have fr:∀c,s1.heap.objs.size<=c->Qe X pins H1 c:=λc hc=>I1.fpOk hc (I1.hok.fresh hc)
   refine⟨_,[s1.heap.objs.size+4,s1.heap.objs.size+2,s1.heap.objs.size+3,s1.heap.objs.size,s1.heap.objs.size+1],_,_,H1,rfl,I1.kept (t':=s1.toks) z.kp,zEj ht (five _) t1 t2 a b,⟨⟨.none,false,.inl rfl,z.z⟩,z.a,⟨_,_,z.b⟩,uY z.i1,uY z.i2⟩,λc hc=>?_,q⟩;simp only[mem_cons,mem_nil_iff,or_false]at hc;rcases hc with rfl|rfl|rfl|rfl|rfl
   ·exact fr _ (n 4)
   ·exact fr _ (n 2)
   ·exact fr _ (n 3)
   ·exact fr _ (n 0)
   ·exact fr _ (n 1)
def zCw(d e:D):D:=.t [d,e]
def yD{t:Bool}{a:Addr}{xs:List V}{H H':Hp}(e:ZA H H')(h:SqH K H t a xs):SqH K H' t a xs:=by
 cases t with
 |true=>exact zO e h|false=>exact e.seq h
def it_zip{t1 t2:Bool}{a b:Addr}{xs ys:List V}{ds es:List D}:ItOk K mg (Itz K t1 t2 a b) (zipWith zCw ds es) (λH=>SqH K H t1 a xs/\Reps K mg H ds xs/\SqH K H t2 b ys/\Reps K mg H es ys) where
 mono:=λH H' s h=>⟨yD s h.1,h.2.1.mono s,yD s h.2.2.1,h.2.2.2.mono s⟩
 go:=λi Hh H s h hi=>by
  rw[List.length_zipWith]at hi;exact⟨xs,ys,yD s h.1,yD s h.2.2.1,by rw[h.2.1.length];omega,by rw[h.2.2.2.length];omega⟩
 yld:=λi Hh H x H' s h hi y=>by
  obtain⟨q,u,v,h1,h2,hq,rfl,rfl⟩:=y;have e1:=h1 xs (yD s h.1);have e2:=h2 ys (yD s h.2.2.1);obtain⟨d,g1,r1⟩:=h.2.1.get e1;obtain⟨e,g2,r2⟩:=h.2.2.2.get e2;refine⟨zCw d e,by rw[List.getElem?_zipWith,g1,g2],.inr ⟨q,[u,v],[d,e],hq,rfl,rfl,rfl,Reps.cons r1 (Reps.cons r2 Reps.nil)⟩⟩
 stop:=λi Hh H s h hi=>by
  rw[List.length_zipWith]at hi;refine⟨xs,ys,yD s h.1,yD s h.2.2.1,?_⟩;rw[h.2.1.length,h.2.2.2.length];omega
end
end DV
namespace DV
open PySem L2
section
variable{X:Cx}
def Qt:Bool->D->Option (List D)
 |true,.t ds=>some ds|false,.l ds=>some ds|_,_=>none
def iZ(t1 t2:Bool)(m:MA):MI:=λE=>match m E with
 | .z=>.z| .exc x E1=>.exc x E1
 | .ok ([r,r'],E1)=>match Qt t1 r.d,Qt t2 r'.d with
  |some ds,some es=>.ok (zipWith zCw ds es,E1)|_,_=>.z
 |_=>.z
def Wn{K:qH}{mg:Str->Option Value}{H:Hp}{t:Bool}{d:D}{ds:List D}{v:V}(e:Qt t d=some ds)(r:Rep K mg H d v):∃a xs,v=.ref a/\SqH K H t a xs/\Reps K mg H ds xs:=by
 cases t with
 |true =>
  cases d with
  |t es=>cases e;exact za r|_=>cases e
 |false =>
  cases d with
  |l es=>cases e;exact zX r|_=>cases e
def io_zip{t1 t2:Bool}{a b:Expr}{m:MA}{tg:Expr}{p cpos:Pos}(ht:TgZ tg)(hgl:Gl X "zip")(hm:X.mg "zip"=none)(ha:AOk X [a,b] m)(hst:zc a=false:=by rfl)(hst2:zc b=false:=by rfl) :
  IOk X tg (.Call (.Name "zip" p) [a,b] [] cpos) (iZ t1 t2 m):=vw (pi_zip ht hgl hm ha (star2 hst hst2) (zBL hst2)) λO H R ⟨M,E,hl,fr,k⟩=>by
 unfold iZ at k;refine JC (T0:=[]) hl fr ?_;cases ea:m E with
 |z=>rw[ea]at k;exact k|exc x E1=>rw[ea]at k;exact k
 |ok p =>
  obtain⟨rs,E1⟩:=p;rw[ea]at k
  match rs,k with
  | [r,r'],k =>
   intro vs H1 hv g1;have rp:=Got.reps hv g1;dsimp only at k;cases ed:Qt t1 r.d with
   |none=>rw[ed]at k;exact k.elim
   |some ds =>
    cases ed':Qt t2 r'.d with
    |none=>rw[ed,ed']at k;exact k.elim
    |some es =>
     rw[ed,ed']at k;simp only[List.map]at rp;obtain⟨v,w,rfl,h1,h2⟩:=zEI rp;obtain⟨c,xs,rfl,c1,c2⟩:=Wn ed h1;obtain⟨d,ys,rfl,d1,d2⟩:=Wn ed' h2;exact⟨c,d,xs,ys,rfl,yD zF c1,yD zF d1,k _ _ H1 it_zip ⟨c1,c2,d1,d2⟩ g1.dropAll⟩
  | [],k=>exact k.elim| [_],k=>exact k.elim|_::_::_::_,k=>exact k.elim
end
section
variable{X:Cx}{K:qH}{mg:Str->Option Value}{O:L2.St}{M:Addr->Prop}{E:zM}{H:Hp}
def zEk{J:It}{ds:List D}{Iv:Hp->Prop}{O0 O':L2.St}{E0 E':zM}{H1 H' H'':Hp}{i:Nat}{x:V}(it:ItOk K mg J ds Iv)(hlt:i<ds.length)(gb:Got K mg M O0 E0 H1 [] O' E' H' [])(ivb:Iv (Hm (Mo M (O'.zip E')) H'))(y:J.yld i H' x H'') :
  ∃d,ds[i]?=some d/\Got K mg M O0 E0 H1 [] O' E' H'' []/\Iv (Hm (Mo M (O'.zip E')) H'')/\Rep K mg (Hm (Mo M (O'.zip E')) H'') d x:=by
 obtain⟨d,hd,h⟩:=it.yld i _ _ x _ zF ivb hlt y;rcases h with⟨rfl,rx⟩|⟨q,xs,es,hq,rfl,rfl,rfl,rs⟩
 ·exact⟨d,hd,gb,ivb,rx⟩
 ·have f:FR K mg M H' (O'.zip E'):=gb.fr
  have f1:=f.newTup hq rs;have s1:Step M H' (O'.zip E') (upd H' q (.t xs)) ((some (.ref q),.v (.t es))::O'.zip E'):=Step.newVal hq;obtain⟨v,ev,rv⟩:=f1.val _ _ qE;cases ev;have sm:=s1.same;rw[JA]at rv sm;have s2:Step M H' (O'.zip E') (upd H' q (.t xs)) (O'.zip E'):=⟨sm,s1.keep⟩;exact⟨_,hd,⟨gb.len,f1.tail,gb.st.trans s2,gb.pk⟩,it.mono _ _ sm ivb,rv⟩
def sForI(mi:MI)(tg:MG)(body:MS):MS:=λE=>match mi E with
 | .z=>.z| .exc x E1=>.exc x E1| .ok (ds,E1)=>vq tg body ds E1
def zEl{mi:MI}{tg:MG}{g:TG}{body:MS}{D:Ends}(hg:GOk X g tg)(h:tS X (sForI mi tg body) D O H):tFor (tMI X mi) g (tS X body) D O H:=by
 obtain⟨M,E,hl,fr,k⟩:=zCb h;unfold sForI at k;refine⟨M,E,hl,fr,?_⟩;cases ei:mi E with
 |z=>rw[ei]at k;exact k|exc x E1=>rw[ei]at k;exact λH' g=>k O H' g
 |ok p =>
  obtain⟨ds,E1⟩:=p;rw[ei]at k;intro J Iv H1 it iv g1;refine⟨λi m O1 H2=>m=ds.length-i/\i<=ds.length/\∃E2,Got X.K X.mg M O E H [] O1 E2 H2 []/\Iv (Hm (Mo M (O1.zip E2)) H2)/\Fin X M O E H D (vq tg body (ds.drop i) E2),⟨ds.length,by simp,zero_le _,E1,g1,iv,k⟩,?_⟩
  rintro i m O1 H2 ⟨rfl,hi,E2,g2,iv2,fin⟩
  by_cases hlt:i<ds.length
  ·refine .inr ⟨it.go i _ H2 zF iv2 hlt,λO3 H3=>i+1<=ds.length/\∃E3,Got X.K X.mg M O E H [] O3 E3 H3 []/\Iv (Hm (Mo M (O3.zip E3)) H3)/\Fin X M O E H D (vq tg body (ds.drop (i+1)) E3),λO3 H3 q=>⟨ds.length-(i+1),by omega,rfl,q⟩,λx H3 y=>?_⟩
   obtain⟨d,hd,g3,iv3,rx⟩:=zEk it hlt g2 iv2 y;have ed:ds.drop i=d::ds.drop (i+1):=by
    obtain⟨hi',rfl⟩:=qG.mp hd;exact List.drop_eq_getElem_cons hi'
   rw[ed]at fin;exact uP hg g3 rx fin λO4 E4 H4 g4 st fin4=>⟨hlt,E4,g4,it.mono _ _ st.same iv3,fin4⟩
  ·have e:i=ds.length:=by omega
   subst e;rw[drop_length]at fin;exact .inl ⟨it.stop _ _ H2 zF iv2 (le_refl _),fin O1 H2 g2⟩
def sk_forI{tgt iter:Expr}{body:List Stmt}{mi:MI}{g:TG}{tg:MG}{mb:MS}{pos:Pos}(hp:PassesOwn (model X.prog X.w) X.A X.env X.xe)(hc:X.calm=true)(hi:IOk X tgt iter mi)(hg:PG X tgt g)(ho:GOk X g tg)(hb:zBj X body mb)
  (hs:∀x,foldedSetIterable iter X.env x=pure x:=by intro _;rfl):SOk X (.For tgt iter body [] pos) (sForI mi tg mb):=yy (zBw hp hc hi hg hb hs) λD O H=>zEl ho
end
end DV
namespace DV
open PySem L2 PySem.Spec PyProof.Rows
section
variable{prog:Program}{w:World}{A:Around}{E:Value->Shared->Prop}{s:Shared}
def en_next{e it l:Addr}{k:Nat}{items:Array Value}{st:Nat->Heap->Prop}{old:Value}{Q:Value->Shared->Prop}(S:Src prog w A it l items st)(ne:e≠it)(nl:l≠e)(he:IsEnum s.heap e it k old)(h1:st k s.heap)
  (hQ:∀x,items[k]?=some x->∀h',IsEnumOut h' e it ((k:Int)+1) x s.heap.objs.size->st (k+1) h'->IsPair h' s.heap.objs.size (.int k s.toks) x->(∀b o,b≠e->b≠it->s.heap.get? b=some o->h'.get? b=some o)->Q (.ref s.heap.objs.size) {s with heap:=h',toks:=s.toks+1})
  (hE:items[k]?=none->∀h' x,Heap.ExtBut it s.heap h'->(∃o,h'.get? x=some o/\o.cls=.type "StopIteration")->E (.ref x) {s with heap:=h'}) :
  wpAny (model prog w) A (Builtin.«enumerate.__next__» ⟨[.ref e],[]⟩) (λfin s'=>∃v,fin=.done (.ret v)/\Q v s') E s:=by
 obtain⟨hp,g,d,tk,os⟩:=s;refine qB (m:=field (.ref e) 2) (wpAny_field he rfl (x:=.ref it) rfl (qB (S.next h1 (λx hx g1 s1 b1=>?_) hE)));have b1:Heap.SameBut it hp g1:=b1;have e1:IsEnum g1 e it k old:=(b1.2 e ne).trans he;refine qB (m:=field (.ref e) 3) (wpAny_field e1 rfl (x:=rawInt k) rfl ?_);refine qB (m:=field (.ref e) 4) (wpAny_field e1 rfl (x:=.none) rfl ?_);refine qB (m:=mkInt k) (wpAny_mkInt ?_);refine qB (m:=setField (.ref e) 3 (rawInt ((k:Int)+1))) (wpAny_setField_rec e1 (by simp) λg2 e2 b2=>?_);have b2:Heap.SameBut e g1 g2:=b2;have e2:IsEnum g2 e it ((k:Int)+1) old:=e2;refine qB (m:=setField (.ref e) 4 .none) (wpAny_setField_rec e2 (by simp) λg3 e3 b3=>?_);have b3:Heap.SameBut e g2 g3:=b3;have e3:IsEnum g3 e it ((k:Int)+1) old:=e3;refine qB (m:=newTuple [.int k tk,x]) (wpAny_newTuple ?_);have sz:g3.objs.size=hp.objs.size:=by rw[b3.1,b2.1,b1.1]
 have el:e<hp.objs.size:=lt_size he;have e4:IsEnum (g3.push {cls:=.type "tuple",data:=.seq #[.int k tk,x]}) e it ((k:Int)+1) old:=qA _ e3;have p4:IsPair (g3.push {cls:=.type "tuple",data:=.seq #[.int k tk,x]}) hp.objs.size (.int k tk) x:=by rw[<- sz];exact get?_push_size _ rfl
 have k4:∀b o,b≠e->g1.get? b=some o->(g3.push {cls:=.type "tuple",data:=.seq #[.int k tk,x]}).get? b=some o:=λb o nb q=>qA _ (b3.extBut b o nb (b2.extBut b o nb q))
 generalize g3.push {cls:=.type "tuple",data:=.seq #[.int k tk,x]}=g4 at e4 p4 k4;refine qB (m:=Builtin.SmallTypes.ownedTupleIsFree (.ref e)) ?_;rw[sz];unfold Builtin.SmallTypes.ownedTupleIsFree;refine qB (wpAny_field e4 rfl (x:=.none) rfl (qC ?_));simp only[if_true];refine qB (wpAny_rule (qB (wpAny_field e4 rfl (x:=old) rfl (qB (wpAny_setField_rec e4 (by simp) λg5 e5 b5=>?_)))));have b5:Heap.SameBut e g4 g5:=b5;have e5:IsEnum g5 e it ((k:Int)+1) x:=e5;refine qB (m:=Builtin.SmallTypes.ownedTupleHandOut (.ref e) (.ref hp.objs.size)) ?_;unfold Builtin.SmallTypes.ownedTupleHandOut;refine qB (wpAny_setField_rec e5 (by simp) λg6 e6 b6=>?_);have b6:Heap.SameBut e g5 g6:=b6;have e6:IsEnumOut g6 e it ((k:Int)+1) x hp.objs.size:=e6;refine wpAny_setField_rec e6 (by simp) λg7 e7 b7=>?_
 have b7:Heap.SameBut e g6 g7:=b7;have e7:IsEnumOut g7 e it ((k:Int)+1) x hp.objs.size:=e7;have up:∀b o,b≠e->g4.get? b=some o->g7.get? b=some o:=λb o nb q=>b7.extBut b o nb (b6.extBut b o nb (b5.extBut b o nb q))
 refine qB (wpAny_letGo (qC ⟨_,rfl,hQ x hx g7 e7 (S.keep s1 λb hb o q=>?_) (up _ _ (ne_of_gt el) p4) λb o nb ni q=>up b o nb (k4 b o nb (b1.extBut b o ni q))⟩));have nb:b≠e:=by rcases hb with rfl|rfl;exact ne.symm;exact nl
 exact up b o nb (k4 b o nb q)
def G1{e it l:Addr}{k:Nat}{items:Array Value}{st:Nat->Heap->Prop}{old:Value}{Q:Option Value->Shared->Prop}(S:Src prog w A.in1 it l items st)(ne:e≠it)(nl:l≠e)(he:IsEnum s.heap e it k old)(h1:st k s.heap)
  (hQ:∀x,items[k]?=some x->∀h',IsEnumOut h' e it ((k:Int)+1) x s.heap.objs.size->st (k+1) h'->IsPair h' s.heap.objs.size (.int k s.toks) x->(∀b o,b≠e->b≠it->s.heap.get? b=some o->h'.get? b=some o)->Q (some (.ref s.heap.objs.size)) {s with heap:=h',toks:=s.toks+1})
  (hE:items[k]?=none->∀h',(∀b o,b≠it->s.heap.get? b=some o->h'.get? b=some o)->Q none {s with heap:=h'}):wpAny (model prog w) A (pyNext (.ref e)) Q E s:=by
 have hT:s.TypeIs (.ref e) "enumerate":=⟨_,he,rfl⟩;unfold pyNext;refine qB (wpAny_attempt (wpAny_callSpecial?_slot hT F.slot_enumerate_next (wpAny_call_entry F.slot_enumerate_next hT F.entry_enumerate_next (en_next S ne nl he h1 (λx hx h' a1 a2 a3 a4=>?_) λhx h' y hk q=>?_) (F.args_enumerate_next_1 _))))
 ·exact qC (hQ x hx h' a1 a2 a3 a4)
 ·obtain⟨o,ho,hc⟩:=q
  exact qB (wpAny_isInstance (T:="StopIteration") (b:=true) ⟨o,ho,hc⟩ isSubtype_stop (qC (hE hx h' λb o nb e=>hk b o nb e)))
end
def Ite(K:qH)(t:Bool)(a:Addr):It :=
 ⟨λi H=>∃xs,SqH K H t a xs/\i<xs.length,
  λi H x H'=>∃q u,(∀xs,SqH K H t a xs->xs[i]?=some u)/\H q=none/\H'=upd H q (.t [.int i,u])/\x=.ref q,
  λi H=>∃xs,SqH K H t a xs/\xs.length<=i⟩
def ESt(e it:Addr)(t:Bool)(a:Addr)(i:Nat)(h:Heap):Prop:=(∃old,IsEnum h e it i old)/\ItA t h it a i
def zCx{P:Program}{w:World}{K:qH}{elts:List Expr}{x1}{pos:Pos}{e it:Addr}(ne:e≠it)(t:Bool)(a:Addr):Turn P w K (.Tuple elts x1 pos) (Ite K t a) [e,it] e (ESt e it t a) where
 mem:=by simp
 obj:=λi h st c hc=>by
  obtain⟨⟨old,he⟩,h1⟩:=st;simp only[mem_cons,mem_nil_iff,or_false]at hc;rcases hc with rfl|rfl
  ·exact⟨_,he,λv z=>by cases z⟩
  ·exact ZN h1
 keep:=λi h h' st k=>by
  obtain⟨⟨old,he⟩,h1⟩:=st;exact⟨⟨old,k e (by simp) _ he⟩,Zl h1 λo q=>k it (by simp) o q⟩
 item:=by
  intro X hP hw hK hc i pins s O H E I hf st hg;subst hP hw hK;obtain⟨⟨old,he⟩,h1⟩:=st;obtain⟨xs,q1,l1⟩:=hg;obtain⟨us,r1,p1⟩:=jr I q1;have na:∀c∈[e,it],a≠c:=λc hc=>vz I q1 (hf c hc)
  have hh:X.A.in1.handled=none:=I.ok.hd hc;obtain⟨u,eu⟩:∃u,xs[i]?=some u:=⟨_,getElem?_eq_getElem l1⟩;obtain⟨u',eu',ru⟩:=r1.get eu;refine G1 (zDm hh t (na it (by simp)) us.toArray) ne (na e (by simp)) he ⟨h1,p1⟩ (λx hx h' o1 s1 pq kk=>?_) (λhx=>?_)
  ·have ex:x=u':=by simp[eu']at hx;exact hx.symm
   subst ex;refine⟨_,rfl,wpAny_letOwnedTupleGo_enum o1 λh2 z2 b2=>?_⟩;have lt:∀{c o},s.heap.get? c=some o->s.heap.objs.size≠c:=λq=>ne_of_gt (lt_size q)
   have pq2:IsPair h2 s.heap.objs.size (.int i s.toks) x:=b2.extBut _ _ (lt he) pq;have k2:∀c o,c∉[e,it]->s.heap.get? c=some o->h2.get? c=some o:=λc o hc q=>b2.extBut _ _ (λz=>hc (by simp[z])) (kk c o (λz=>hc (by simp[z])) (λz=>hc (by simp[z])) q)
   have new:j9 X.prog X.w (upd H s.heap.objs.size (.t [.int i,u])) h2 s.heap.objs.size (.t [.int i,u]):=⟨by simp[sizeLine_eq],[.int i s.toks,x],.cons ⟨_,rfl⟩ (.cons ru .nil),⟨_,pq2,rfl,_,rfl⟩⟩;have I2:=I.turnLay (t':=s.toks+1) hf k2 (le_refl _) new;have fresh:H s.heap.objs.size=none:=I.hok.fresh (le_refl _);refine⟨.ref s.heap.objs.size,_,I2,rfl,⟨_,u,λzs hz=>by rw[Qs I hz q1];exact eu,fresh,rfl,rfl⟩,⟨⟨_,by have:=z2;simpa using this⟩,Zl s1.1 λo q=>b2.extBut _ _ ne.symm q⟩,λc hc=>?_⟩;have:c≠s.heap.objs.size:=λq=>by
    obtain⟨o,e⟩:∃o,s.heap.get? c=some o:=by
     simp only[mem_cons,mem_nil_iff,or_false]at hc;rcases hc with rfl|rfl
     ·exact⟨_,he⟩
     ·obtain⟨o,e,_⟩:=ZN h1;exact⟨o,e⟩
    exact lt e q.symm
   rw[zp this];exact(hf c hc).1
  ·exfalso
   simp[eu']at hx
 done:=by
  intro X hP hw hK hc i pins s O H E I hf st hg;subst hP hw hK;obtain⟨⟨old,he⟩,h1⟩:=st;obtain⟨xs,q1,l1⟩:=hg;obtain⟨us,r1,p1⟩:=jr I q1;have na:∀c∈[e,it],a≠c:=λc hc=>vz I q1 (hf c hc)
  have hh:X.A.in1.handled=none:=I.ok.hd hc;have e1:=r1.length;refine G1 (zDm hh t (na it (by simp)) us.toArray) ne (na e (by simp)) he ⟨h1,p1⟩ (λx hx=>?_) (λhx h' kk=>⟨rfl,?_⟩)
  ·exfalso
   simp at hx
   have a1:=(qG.mp hx).1;omega
  ·exact I.turnL (t':=s.toks) hf λc o hc q=>kk c o (λz=>hc (by simp[z])) q
 self:=λ_ _ _ _ _ st h=>by
  obtain⟨⟨old,he⟩,_⟩:=st;exact wpAny_pyIter_enum he h
end DV
namespace DV
open PySem L2 PySem.Spec PyProof.Rows
open AutoSeq1 (wpAny_loadPart')
abbrev enH(h:Heap)(c:String)(l:Addr):Heap:=(h.push (itO c l)).push {cls:=.type "enumerate",data:=.fields #[.none,.bool false,.ref h.objs.size,rawInt 0,.none,.none]}
def en_newT(l:Addr)(items:Array Value)(n:Nat)(dd:Option Addr)(sl:Array (Option Value)) :
  Meets (Builtin.«enumerate.__new__» ⟨[.type "enumerate",.ref l],[]⟩) (λ_ R s=>s.heap.get? l=some {cls:=.type "tuple",dict:=dd,data:=.seq items n,slots:=sl}/\R (.ok (.ret (.ref (s.heap.push (itO "tuple_iterator" l)).objs.size))) {s with heap:=enH s.heap "tuple_iterator" l}) :=
 .of_wp λprog w A R s h=>by
  obtain⟨hp,g,d,tk,os⟩:=s;obtain⟨hl,h⟩:=h;have hs:=sub_enumerate;have a1:Heap.IsTuple (Shared.heap ⟨hp,g,d,tk,os⟩) l items:=⟨_,hl,rfl,n,rfl⟩
  wp_walk using wpAny_loadPart' hl
  refine wpAny_stack_any λst=>qC ?_
  split
  ·rename_i c _ _ _ _ _
   cases (c==Value.type "enumerate")<;>(wp_walk using wpAny_loadPart' hl,wpAny_pyIter_tuple a1;exact⟨_,rfl,h⟩)
  ·wp_walk using wpAny_loadPart' hl,wpAny_pyIter_tuple a1;exact⟨_,rfl,h⟩
section
variable{prog:Program}{w:World}{A:Around}{E:Value->Shared->Prop}{s:Shared}
structure En(h h':Heap)(c:String)(l:Addr):Prop where
 e:IsEnum h' (h.objs.size+1) h.objs.size 0 .none
 i:h'.get? h.objs.size=some (itO c l)
 kp:∀b o,h.get? b=some o->h'.get? b=some o
def en_call{t:Bool}{l:Addr}{xs:Array Value}{Q:Value->Shared->Prop}(h1:SqO s.heap t l xs)(h:∀h',(IsEnum h' (s.heap.objs.size+1) s.heap.objs.size 0 .none)->ItA t h' s.heap.objs.size l 0->(∀b o,s.heap.get? b=some o->h'.get? b=some o)->Q (.ref (s.heap.objs.size+1)) {s with heap:=h'}):wpAny (model prog w) A (call (.type "enumerate") [.ref l]) Q E s:=by
 cases t with
 |false =>
  exact call_enumerate_list h1 λh' a b c k=>h h' a b k
 |true =>
  obtain⟨⟨cl,dd,da,sl⟩,e,c,n,d⟩:=(h1:s.heap.IsTuple l xs);simp only at c d;subst c d;refine callType_new F.called_enumerate (by decide) (F.typeCall_enumerate_1 _) (F.newCall_enumerate_1 _) (λobj=>F.args_object_init_2 obj _) F.entry_enumerate_new (en_newT l xs n dd sl) ⟨e,?_⟩;have hz:(s.heap.push (itO "tuple_iterator" l)).objs.size=s.heap.objs.size+1:=size_push ..;have g1:(enH s.heap "tuple_iterator" l).get? (s.heap.push (itO "tuple_iterator" l)).objs.size=some _:=get?_push_size _ rfl;rw[hz]at g1;show _/\_;rw[hz];exact⟨⟨_,g1,rfl⟩,h _ g1 ⟨_,qA _ (get?_push_size _ rfl),rfl,rfl⟩ λb o x=>qA _ (qA _ x)⟩
end
section
variable{X:Cx}{K:qH}{mg:Str->Option Value}{O:L2.St}{H:Hp}
def iEnum(K:qH)(t:Bool)(ta:TA):TI:=λO H R=>ta O H λvs H1=>∃a xs,vs=[.ref a]/\SqH K H1 t a xs/\R (Ite K t a) H1
def bt_enum:bootBuiltins "enumerate"=some (.type "enumerate"):=by decide +kernel
def pi_enum{t:Bool}{e:Expr}{ta:TA}{elts:List Expr}{x1}{tp p pos:Pos}(hg:Gl X "enumerate")(hm:X.mg "enumerate"=none)(ha:PA X [e] ta)(hs:starEach [e] X.env=[(false,eval e X.env)]:=by rfl) :
  PI X (.Tuple elts x1 tp) (.Call (.Name "enumerate" p) [e] [] pos) (iEnum X.K t ta):=by
 intro pins s O H R I h;refine Call_ (YZ I hg hm bt_enum (PyProof.Rows.callWith_type1 (thn (ha pos pins s O H _ I h) λus s1 ⟨vs,H1,I1,r1,q1⟩=>?_) hs rfl));obtain⟨a,xs,ev,qa,q⟩:=q1;subst ev;cases r1 with
 |cons r rr =>
  cases rr;cases r;obtain⟨u1,v1,p1⟩:=jr I1 qa;refine en_call p1 λh' z0 z1 kp=>?_
  refine wpAny_pyIter_enum (s:={s1 with heap:=h'}) z0 ?_
  have fr:∀c,s1.heap.objs.size<=c->Qe X pins H1 c:=λc hc=>I1.fpOk hc (I1.hok.fresh hc)
  have nn:s1.heap.objs.size+1≠s1.heap.objs.size:=λz=>by have:=Nat.succ_ne_self s1.heap.objs.size;exact this z
  refine⟨_,[s1.heap.objs.size+1,s1.heap.objs.size],_,_,H1,rfl,I1.kept (t':=s1.toks) kp,zCx nn t a,⟨⟨_,z0⟩,z1⟩,λc hc=>?_,q⟩;simp only[mem_cons,mem_nil_iff,or_false]at hc;rcases hc with rfl|rfl
  ·exact fr _ (le_succ _)
  ·exact fr _ (le_refl _)
def G2:Nat->List D->List D
 |_,[]=>[]|n,d::ds=>.t [.int (n:Int),d]::G2 (n+1) ds
theorem uZ:∀(ds:List D) (n:Nat),(G2 n ds).length=ds.length
 | [],_=>rfl|d::ds,n=>by simp[G2,uZ ds]
theorem zAk:∀(ds:List D) (n i:Nat) (d:D),ds[i]?=some d->(G2 n ds)[i]?=some (.t [.int ((n+i:Nat):Int),d])
 | [],_,_,_,h=>by simp at h|e::ds,n,0,d,h=>by simp at h;subst h;simp[G2]
 |e::ds,n,i+1,d,h=>by
  simp only[List.getElem?_cons_succ]at h;have:=zAk ds (n+1) i d h;simp only[G2,List.getElem?_cons_succ];rw[this,show n+1+i=n+(i+1)by omega]
def it_enum{t:Bool}{a:Addr}{xs:List V}{ds:List D}:ItOk K mg (Ite K t a) (G2 0 ds) (λH=>SqH K H t a xs/\Reps K mg H ds xs) where
 mono:=λH H' s h=>⟨yD s h.1,h.2.mono s⟩
 go:=λi Hh H s h hi=>by
  rw[uZ]at hi;exact⟨xs,yD s h.1,by rw[h.2.length];omega⟩
 yld:=λi Hh H x H' s h hi y=>by
  obtain⟨q,u,h1,hq,rfl,rfl⟩:=y;have e1:=h1 xs (yD s h.1);obtain⟨d,g1,r1⟩:=h.2.get e1;refine⟨_,zAk ds 0 i d g1,.inr ⟨q,[.int (i:Int),u],[.int ((0+i:Nat):Int),d],hq,rfl,rfl,rfl,Reps.cons (by rw[zero_add];simp only[Rep]) (Reps.cons r1 Reps.nil)⟩⟩
 stop:=λi Hh H s h hi=>by
  rw[uZ]at hi;exact⟨xs,yD s h.1,by rw[h.2.length];omega⟩
def iE(t:Bool)(m:MA):MI:=λE=>match m E with
 | .z=>.z| .exc x E1=>.exc x E1
 | .ok ([r],E1)=>match Qt t r.d with
  |some ds=>.ok (G2 0 ds,E1)|none=>.z
 |_=>.z
def io_enum{t:Bool}{a:Expr}{m:MA}{elts:List Expr}{x1}{tp p cpos:Pos}(hgl:Gl X "enumerate")(hm:X.mg "enumerate"=none)(ha:AOk X [a] m)(hst:zc a=false:=by rfl) :
  IOk X (.Tuple elts x1 tp) (.Call (.Name "enumerate" p) [a] [] cpos) (iE t m):=vw (pi_enum hgl hm ha (zBL hst)) λO H R ⟨M,E,hl,fr,k⟩=>by
 unfold iE at k;refine JC (T0:=[]) hl fr ?_;cases ea:m E with
 |z=>rw[ea]at k;exact k|exc x E1=>rw[ea]at k;exact k
 |ok p =>
  obtain⟨rs,E1⟩:=p;rw[ea]at k
  match rs,k with
  | [r],k =>
   intro vs H1 hv g1;have rp:=Got.reps hv g1;dsimp only at k;cases ed:Qt t r.d with
   |none=>rw[ed]at k;exact k.elim
   |some ds =>
    rw[ed]at k;simp only[List.map]at rp;obtain⟨v,rfl,h1⟩:=ZG rp;obtain⟨c,xs,rfl,c1,c2⟩:=Wn ed h1;exact⟨c,xs,rfl,yD zF c1,k _ _ H1 it_enum ⟨c1,c2⟩ g1.dropAll⟩
  | [],k=>exact k.elim|_::_::_,k=>exact k.elim
end
end DV
namespace PySem
open Sem (wp)
open AutoSeq1 (wpAny_loadPart')
end PySem
namespace L2
open PySem PySem.Spec PyProof.Rows
end L2
namespace DV
open PySem L2
section
variable{X:Cx}{K:qH}{mg:Str->Option Value}{P P':Addr->Prop}{H:Hp}{a:Addr}{xs:List V}
def eFrz(m:ME):ME:=λE=>match m E with
 | .ok (r,E1)=>.ok (.v r.d,E1)| .exc x E1=>.exc x E1| .z=>.z
def ok_frz{e:Expr}{m:ME}(h:EOk X e m):EOk X e (eFrz m):=zr h λO H Q ⟨M,E,hl,f,k⟩=>by
 refine⟨M,E,hl,f,?_⟩;unfold eFrz at k;cases em:m E with
 |z=>rw[em]at k;exact k.elim|exc x E1=>rw[em]at k;exact k
 |ok p =>
  obtain⟨r,E1⟩:=p;rw[em]at k;intro v H' g;exact k v H' ⟨g.len,FR.frz g.fr,Step.frz g.st,g.pk⟩
def zCy(mi:MI)(tg:MG)(body:MS):MS:=λE=>match mi E with
 | .exc x E1=>.exc x E1
 |_=>(match sForI mi tg body E with
  | .exc _ _=>.z|o=>o)
def ps_forX{tg iter:Expr}{body:List Stmt}{wi:TI}{pos:Pos}(hi:PI X tg iter wi)(hs:∀x,foldedSetIterable iter X.env x=pure x):PS X (.For tg iter body [] pos) (λD O H=>wi O H λ_ _=>False):=by
 intro pins s O H D I h;refine wpAny_For (thn (hi pins s O H _ I h) λv s1 h1=>thn h1 λitv s2 h2=>?_) hs;obtain⟨it,fp,tn,J,H2,e,I2,T,st2,f2,f⟩:=h2;exact f.elim
end
def tupI:D->Option (List Int)
 | .t ds=>ZL ds|_=>none
def tupIs:List D->Option (List (List Int))
 | []=>some []
 |d::ds=>match tupI d,tupIs ds with
  |some a,some as=>some (a::as)|_,_=>none
def inT(neg:Bool)(d:D):D->Option R
 | .l ds=>match tupI d,tupIs ds with
  |some a,some as=>some (.v (.bl (if neg then !as.contains a else as.contains a)))|_,_=>none
 |_=>none
def inG(neg:Bool)(d e:D):Option R:=match inF neg d e with
 |some r=>some r|none=>inT neg d e
end DV
namespace DV
open PySem L2 PyProof.Rows PySem.Calls
end DV
namespace DV
open PySem L2
end DV
namespace DV
open PySem PyProof.Rows
end DV
namespace DV
open PySem L2
abbrev TA:=Addr->St->Hp->(St->Hp->Prop)->Prop
def PA(Y:Cx)(act:Value->Env->Sem PySem.Fin->Sem PySem.Fin)(ta:TA):Prop:=∀(D:Addr) (pins:List (Addr×Obj)) (s:Shared) (O:St) (H:Hp) (Nx:St->Hp->Prop) (k:Sem PySem.Fin) (Q:PySem.Fin->Shared->Prop) (E:Value->Shared->Prop),Inv Y pins O H s->ta D O H Nx ->
 (∀O' H' s',Inv Y pins O' H' s'->Nx O' H'->wpAny (model Y.prog Y.w) Y.A k Q E s')->wpAny (model Y.prog Y.w) Y.A (act (.ref D) Y.env k) Q E s
end DV
namespace DV
open PySem PyProof.Rows
end DV
namespace DV
open PySem L2
def DicAt(K:qH)(H:Hp)(a:Addr)(es:List DE):Prop:=H a=some (Zi a es)/\∀e∈es,SqT K H e.2.1 (e.1.map oV)
section
variable{X:Cx}{pins:List (Addr×Obj)}{O:L2.St}{H:Hp}{s:Shared}{a:Addr}{es:List DE}
def rDIx(K:qH):R2:=λx y H Q=>∃a es kb ks v,x=.ref a/\DicAt K H a es/\y=.ref kb/\SqT K H kb (ks.map oV)/\atE es ks=some v/\Q v H
def ix_dic(hu:X.A.units+1<cLine):IxR X (rDIx X.K):=by
 intro value slice pins s O H x y v u Q I rx ry h hs;obtain⟨a,es,kb,ks,w,rfl,⟨e,hk⟩,rfl,hb,hat,q⟩:=h;cases rx;cases ry;obtain⟨xs,r,hm,hd,_⟩:=zAS I e hk;obtain⟨p,hp,rw'⟩:=wJ.at r hat
 exact PyProof.Rows.tail_any hm.typeIs slot_dict_getitem.lookup (wpAny_getItem_heap (tupleKind_room_in1 hu) (vg I hb) hm hp ⟨w,H,I.tok _,rw',q⟩) hs
def Qu{h:Heap}{xs:List DX}(hm:h.DictOfH (tupleKind (wy X.prog X.w)) a xs)(hd:(a==sysModules)=false)(hl:es.length<=sizeLine)(r:wJ es xs):zFa a es h:=by
 obtain⟨o,esA,ep,h1,h2,h3,h4,_,h5⟩:=hm;exact⟨hd,hl,by rw[<- wJ.keys r];exact h5,o,esA,ep,xs,h1,h2,h3,r,h4⟩
def rSetD(K:qH):V->V->V->Hp->(Hp->Prop)->Prop:=λo i v H Q=>∃a es kb ks,o=.ref a/\DicAt K H a es/\i=.ref kb/\SqT K H kb (ks.map oV)/\es.length<1000000/\Q (upd H a (Zi a (Z7 es ks kb v)))
def zCz(hu:X.A.units+1<cLine):PSet X (rSetD X.K):=by
 intro pins s O H o i v ov iv u Q I ro ri rv h;obtain⟨a,es,kb,ks,rfl,⟨e,hk⟩,rfl,hb,hl,q⟩:=h;cases ro;cases ri;obtain⟨xs,r,hm,hd,hz,hn⟩:=zAS I e hk;have hsl:(1000000:Nat)<=sizeLine:=by decide +kernel
 have hlen:xs.length=es.length:=by have:=congrArg length (wJ.keys r);simpa using this
 refine wpAny_setItem_heap (tupleKind_room_in1 hu) (vg I hb) hm (λh' hm' sb=>?_) (by omega);have dp:zFa a (Z7 es ks kb v) h':=Qu hm' hd (by have:=(Ge (k:=ks) (ka:=kb) (v:=v) hn).2;omega) (r.put rv);obtain⟨_,_,_,o',_,_,_,e',_⟩:=id dp;refine⟨_,I.write (x:=a) (e:=a) (by rw[e];trivial) (.inl rfl) (λb w hb' q'=>(sb.2 b hb').trans q') ⟨o',e'⟩ (zAR dp),q⟩
end
def G3:List D->Option (List KN)
 | []=>some []| .int i::ds=>(G3 ds).map (some i::·)| .non::ds=>(G3 ds).map (none::·)|_::_=>none
def G4:D->Option (List KN)
 | .t ds=>G3 ds|_=>none
def WC:List (List KN)->List D->List KN->Option D
 |k::ks,v::vs,q=>if k=q then some v else WC ks vs q|_,_,_=>none
def setV:List (List KN)->List D->List KN->D->List D
 |k::ks,v::vs,q,d=>(if k=q then d else v)::setV ks vs q d|_,vs,_,_=>vs
def GS(ks:List (List KN))(vs:List D)(q:List KN)(d:D):List (List KN)×List D:=match WC ks vs q with
 |some _=>(ks,setV ks vs q d)|none=>(ks++[q],vs++[d])
section
variable{K:qH}{mg:Str->Option Value}{X:Cx}{O:L2.St}{H:Hp}{M:Addr->Prop}
theorem Qv:∀{ds:List D} {ks:List KN} {xs:List V},G3 ds=some ks->Reps K mg H ds xs->xs=ks.map oV
 | [],_,_,e,r=>by cases e;simp only[Reps]at r;subst r;rfl
 |d::ds,ks,xs,e,r=>by
  simp only[Reps]at r;obtain⟨v,t,rfl,r1,r2⟩:=r;cases d with
  |int i =>
   simp only[G3]at e;cases h:G3 ds with
   |none=>rw[h]at e;cases e|some q=>rw[h]at e;cases e;rw[zL r1,Qv h r2];rfl
  |non =>
   simp only[G3]at e;cases h:G3 ds with
   |none=>rw[h]at e;cases e|some q=>rw[h]at e;cases e;rw[jQ r1,Qv h r2];rfl
  |_=>cases e
def ZO{d:D}{ks:List KN}{v:V}(e:G4 d=some ks)(r:Rep K mg H d v):∃kb,v=.ref kb/\SqT K H kb (ks.map oV):=by
 cases d with
 |t ds =>
  obtain⟨a,xs,rfl,h1,h2⟩:=za r;rw[Qv e h2]at h1;exact⟨a,rfl,h1⟩
 |_=>cases e
theorem Ym:∀{es:List DE} {vs:List D} {q:List KN} {d:D},Reps K mg H vs (es.map (·.2.2))->WC (es.map (·.1)) vs q=some d->∃v,atE es q=some v/\Rep K mg H d v
 | [],_,_,_,_,e=>by simp[WC]at e
 |x::es,vs,q,d,r,e=>by
  cases vs with
  |nil=>simp[WC]at e
  |cons y vs =>
   simp only[map_cons,Reps]at r;obtain⟨v,t,h0,r1,r2⟩:=r;cases h0;simp only[map_cons,WC]at e;unfold atE;rw[find?_cons];by_cases h:x.1=q
   ·rw[if_pos h]at e;cases e
    rw[decide_eq_true h];exact⟨_,rfl,r1⟩
   ·rw[if_neg h]at e
    rw[decide_eq_false h];exact Ym r2 e
theorem G5:∀{es:List DE} {vs:List D} {q:List KN},Reps K mg H vs (es.map (·.2.2))->WC (es.map (·.1)) vs q=none->atE es q=none
 | [],_,_,_,_=>rfl
 |x::es,vs,q,r,e=>by
  cases vs with
  |nil=>simp only[map_cons,Reps]at r;cases r
  |cons y vs =>
   simp only[map_cons,Reps]at r;obtain⟨v,t,h0,r1,r2⟩:=r;cases h0;simp only[map_cons,WC]at e;unfold atE;rw[find?_cons];by_cases h:x.1=q
   ·rw[if_pos h]at e;cases e
   ·rw[if_neg h]at e
    rw[decide_eq_false h];exact G5 r2 e
def Qw{es:List DE}{vs:List D}{q:List KN}(r:Reps K mg H vs (es.map (·.2.2))):(atE es q).isSome=(WC (es.map (·.1)) vs q).isSome:=by
 cases h:WC (es.map (·.1)) vs q with
 |none=>rw[G5 r h];rfl|some d=>obtain⟨v,e,_⟩:=Ym r h;rw[e];rfl
theorem zAl:∀{es:List DE} {vs:List D} {q:List KN} {d:D} {v:V},Reps K mg H vs (es.map (·.2.2))->Rep K mg H d v->Reps K mg H (setV (es.map (·.1)) vs q d) ((es.map λe=>if e.1=q then(e.1,e.2.1,v)else e).map (·.2.2))
 | [],vs,_,_,_,r,_=>by
  cases vs with
  |nil=>exact r|cons _ _=>simp only[map_nil,Reps]at r;obtain⟨_,_,z,_⟩:=r;cases z
 |x::es,vs,q,d,v,r,rd=>by
  cases vs with
  |nil=>simp only[map_cons,Reps]at r;cases r
  |cons y vs =>
   simp only[map_cons,Reps]at r;obtain⟨w,t,h0,r1,r2⟩:=r;cases h0;simp only[map_cons,setV];refine Reps.cons ?_ (zAl r2 rd);by_cases h:x.1=q
   ·rw[if_pos h,if_pos h];exact rd
   ·rw[if_neg h,if_neg h];exact r1
def ub{es:List DE}{vs:List D}{q:List KN}{kb:Addr}{d:D}{v:V}(r:Reps K mg H vs (es.map (·.2.2)))(rd:Rep K mg H d v) :
  (Z7 es q kb v).map (·.1)=(GS (es.map (·.1)) vs q d).1/\Reps K mg H (GS (es.map (·.1)) vs q d).2 ((Z7 es q kb v).map (·.2.2)):=by
 unfold Z7 GS;rw[Qw r];cases h:WC (es.map (·.1)) vs q with
 |none =>
  simp only[Option.isSome_none,Bool.false_eq_true,if_false,map_append,map_cons,map_nil];exact⟨trivial,r.append (Reps.cons rd Reps.nil)⟩
 |some y =>
  simp only[Option.isSome_some,if_true];refine⟨?_,zAl r rd⟩;rw[map_map];refine map_congr_left λe _=>?_
  simp only[Function.comp];split<;>rfl
def WD{es:List DE}{q:List KN}{kb:Addr}{v:V}(h:∀e∈es,SqT K H e.2.1 (e.1.map oV))(hb:SqT K H kb (q.map oV)):∀e∈Z7 es q kb v,SqT K H e.2.1 (e.1.map oV):=λe he=>by
 unfold Z7 at he;split at he
 ·obtain⟨x,hx,rfl⟩:=mem_map.mp he
  have:=h x hx;split
  ·exact this
  ·exact this
 ·rcases mem_append.mp he with he|he
  ·exact h e he
  ·rw[mem_singleton.mp he];exact hb
def ctD:Slot->Option (List (List KN)×List D)
 | .dct ks vs=>some (ks,vs)| .v (.dct ks vs)=>some (ks,vs)|_=>none
def zAm{E:zM}{i:Nat}{s:Slot}{ks:List (List KN)}{vs:List D}(hl:E.length=O.length)(f:FR K mg M H (O.zip E))(h:E[i]?=some s)(hs:ctD s=some (ks,vs)):∃a es,O[i]?=some (some (.ref a))/\H a=some (Zi a es)/\ks=es.map (·.1)/\(∀e∈es,SqT K (Hm (Mo M (O.zip E)) H) e.2.1 (e.1.map oV))/\Reps K mg (Hm (Mo M (O.zip E)) H) vs (es.map (·.2.2)):=by
 obtain⟨o,h1,h2⟩:=JD hl h;cases s with
 |dct ks' vs' =>
  cases hs;obtain⟨a,ho,rfl,e2,_,es,rfl,r1,r2,r3⟩:=f.own o _ _ h2 rfl;exact⟨a,es,h1,e2,r1,r2,r3⟩
 |v d =>
  cases d with
  |dct ks' vs' =>
   cases hs;obtain⟨v,rfl,r⟩:=f.val o _ h2;simp only[Rep]at r;obtain⟨a,es,rfl,e2,r1,r2,r3⟩:=r;exact⟨a,es,h1,zF _ _ e2,r1,r2,r3⟩
  |_=>cases hs
 |_=>cases hs
def eDgO(i:Nat)(m:ME):ME:=λE=>if jX E[i]?=true then .z else match m E with
 | .z=>.z| .exc x E1=>.exc x E1
 | .ok (r,E1)=>match E1[i]? with
  |some s=>match ctD s with
   |some (ks,vs)=>match G4 r.d with
    |some q=>match WC ks vs q with
     |some d=>.ok (.v d,E1)|none=>.z
    |none=>.z
   |none=>.z
  |none=>.z
def dgO_run{i:Nat}{m:ME}{Q:VK}(h:tM X (eDgO i m) O H Q):tOp (rDIx X.K) (Qd i) (tM X m) O H Q:=by
 obtain⟨M,E,hl,fr,k⟩:=h;unfold eDgO at k;cases em:jX E[i]? with
 |true=>rw[em]at k;exact k.elim
 |false =>
  rw[em]at k;simp only[Bool.false_eq_true,if_false]at k;obtain⟨s,hs1,hs2⟩:=ZH em;obtain⟨v,hv⟩:=vo hl fr hs1 hs2;refine⟨v,hv,?_⟩;refine zx (T0:=[]) hl fr ?_;cases ea:m E with
  |z=>rw[ea]at k;exact k|exc x E1=>rw[ea]at k;exact k
  |ok p =>
   obtain⟨r,E1⟩:=p;rw[ea]at k;intro y H1 g;dsimp only at k;cases e1:E1[i]? with
   |none=>rw[e1]at k;exact k.elim
   |some s1 =>
    rw[e1]at k;dsimp only at k;cases e2:ctD s1 with
    |none=>rw[e2]at k;exact k.elim
    |some pr =>
     obtain⟨ks,vs⟩:=pr;rw[e2]at k;dsimp only at k;cases e3:G4 r.d with
     |none=>rw[e3]at k;exact k.elim
     |some q =>
      rw[e3]at k;dsimp only at k;cases e4:WC ks vs q with
      |none=>rw[e4]at k;exact k.elim
      |some d =>
       rw[e4]at k;obtain⟨a,es,h1,h2,rfl,h4,h5⟩:=zAm g.len g.frame e1 e2;have ev:v=.ref a:=by rw[hv]at h1;exact qJ (qJ h1)
       subst ev;obtain⟨kb,rfl,hb⟩:=ZO e3 g.rep;obtain⟨w,hw,rw'⟩:=Ym h5 e4;exact⟨a,es,kb,q,w,rfl,⟨h2,λx hx=>zO zF (h4 x hx)⟩,rfl,zO zF hb,hw,k w H1 (g.more (T:=[(some w,.v d)]) (g.frame.add rw') Step.refl.add)⟩
def ok_dgO(i:Nat){x:Str}{b:Expr}{m:ME}{p pos:Pos}(hu:X.A.units+1<cLine)(hv:PE X (.Name x p) (Qd i))(hs:WX b)(hb:EOk X b m):EOk X (.Subscript (.Name x p) b pos) (eDgO i m) :=
 zr (pe_ix (ix_dic hu) hv hb hs) λO H Q h=>dgO_run h
def FR.mutD{Z:Fz}(h:FR K mg M H Z){i:Nat}{p:Addr}{ks:List (List KN)}{vs vs':List D}{es:List DE}(hi:Z[i]?=some (some (.ref p),.dct ks vs))(hk:∀e∈es,SqT K (Hm (Mo M Z) H) e.2.1 (e.1.map oV))(r:Reps K mg (Hm (Mo M Z) H) vs' (es.map (·.2.2))) :
  FR K mg M (upd H p (Zi p es)) (Z.set i (some (.ref p),.dct (es.map (·.1)) vs'))/\Step M H Z (upd H p (Zi p es)) (Z.set i (some (.ref p),.dct (es.map (·.1)) vs')):=by
 have eo:yI (Z.set i (some (.ref p),.dct (es.map (·.1)) vs'))=yI Z:=yz (show uH (some (.ref p),Slot.dct (es.map (·.1)) vs')=uH (some (.ref p),Slot.dct ks vs)from rfl) hi;have em:Mo M (Z.set i (some (.ref p),.dct (es.map (·.1)) vs'))=Mo M Z:=by unfold Mo;rw[eo]
 have hp:p∈yI Z:=jB (c:=.d ks vs) (mem_of_getElem? hi) rfl rfl;obtain⟨o0,hH,hM,_⟩:=h.ownAt hp;have ehm:Hm (Mo M Z) (upd H p (Zi p es))=Hm (Mo M Z) H:=by
  funext b
  unfold Hm;by_cases hb:Mo M Z b
  ·simp[hb]
  ·have:b≠p:=λe=>hb (by subst e;exact .inr hp)
   simp[hb,zp this]
 have hlt:i<Z.length:=(qG.mp hi).1;have nd2:p∉yI (Z.eraseIdx i):=by
  have pz:Z.Perm ((some (.ref p),.dct ks vs)::Z.eraseIdx i):=by
   have:=zQ (some (V.ref p),Slot.dct ks vs) Z i hlt;rw[jx hi]at this;exact this
  have nd:=(pz.filterMap uH).nodup_iff.mp h.nd;have e:List.filterMap uH ((some (V.ref p),Slot.dct ks vs)::Z.eraseIdx i)=p::yI (Z.eraseIdx i):=rfl;rw[e]at nd;exact(nodup_cons.mp nd).1
 have pz2:(Z.set i (some (.ref p),.dct (es.map (·.1)) vs')).Perm ((some (.ref p),.dct (es.map (·.1)) vs')::Z.eraseIdx i):=zQ _ _ _ hlt;refine⟨⟨λo d q=>?_,λo s' c q e=>?_,by rw[eo];exact h.nd,λb q=>?_⟩,⟨by rw[em,ehm];exact ZA.refl _,λb o m e=>?_⟩⟩
 ·rw[em,ehm]
  rcases(List.mem_or_eq_of_mem_set q).symm with q|q
  ·cases q
  ·exact h.val o d q
 ·rw[em,ehm]
  rcases mem_cons.mp (pz2.mem_iff.mp q)with q'|q'
  ·cases q';cases e
   exact⟨p,_,rfl,jF,hM,es,rfl,rfl,hk,r⟩
  ·have q'':(o,s')∈Z:=(eraseIdx_sublist Z i).subset q'
   obtain⟨a,ho,e1,e2,e3,rr⟩:=h.own o s' c q'' e;have ne:a≠p:=λz=>by subst z;exact nd2 (jB q' e e1)
   exact⟨a,ho,e1,by rw[zp ne];exact e2,e3,rr⟩
 ·obtain⟨o,e,ko⟩:=h.mal b q
  by_cases z:b=p
  ·subst z;exact⟨_,jF,.inr ⟨_,rfl⟩⟩
  ·exact⟨o,by rw[zp z];exact e,ko⟩
 ·have ne:b≠p:=λz=>hM (by subst z;exact m)
  rw[zp ne];exact e
def sDput(i:Nat)(mk mv:ME):MS:=λE=>if jX E[i]?=true then .z else match mv E with
 | .z=>.z| .exc x E1=>.exc x E1
 | .ok (r,E1)=>match mk E1 with
  | .z=>.z| .exc x E2=>.exc x E2
  | .ok (r2,E2)=>match E2[i]? with
   |some (.dct ks vs)=>match G4 r2.d with
    |some q=>if ks.length<1000000 then .ok (.nx,E2.set i (.dct (GS ks vs q r.d).1 (GS ks vs q r.d).2))else .z|none=>.z
   |_=>.z
def zEm{i:Nat}{mk mv:ME}{D:Ends}(h:tS X (sDput i mk mv) D O H):zFU (tM X mv) (gSub (Qd i) (tM X mk) (rSetD X.K)) D O H:=by
 obtain⟨M,E,hl,fr,k⟩:=h;unfold sDput at k;cases em:jX E[i]? with
 |true=>rw[em]at k;exact k.elim
 |false =>
  rw[em]at k;obtain⟨s,hs1,hs2⟩:=ZH em;obtain⟨v,hv⟩:=vo hl fr hs1 hs2;refine zx (T0:=[]) hl fr ?_;simp only[Bool.false_eq_true,if_false]at k;cases ea:mv E with
  |z=>rw[ea]at k;exact k|exc x E1=>rw[ea]at k;exact λH' g=>k O H' g
  |ok p =>
   obtain⟨r,E1⟩:=p;rw[ea]at k;intro y H1 g1;refine⟨v,hv,?_⟩;refine zx (T0:=[(some y,r.slot)]) g1.len g1.fr ?_;dsimp only at k;cases eb:mk E1 with
   |z=>rw[eb]at k;exact k|exc x E2=>rw[eb]at k;exact λH' g=>k O H' (g1.trans' g).dropAll
   |ok p =>
    obtain⟨r2,E2⟩:=p;rw[eb]at k;intro z H2 g2;have g:=g1.trans' g2;dsimp only at k;cases e1:E2[i]? with
    |none=>rw[e1]at k;exact k.elim
    |some s1 =>
     rw[e1]at k;cases s1 with
     |dct ks vs =>
      dsimp only at k;cases e3:G4 r2.d with
      |none=>rw[e3]at k;exact k.elim
      |some q =>
       rw[e3]at k;dsimp only at k;by_cases hc:ks.length<1000000
       ·rw[if_pos hc]at k
        have rp:=Got.reps (vs:=[z,y]) (rs:=[r2,r]) rfl g;simp only[List.map,Reps]at rp;obtain⟨z',_,q1,rz,y',_,q2,ry,_⟩:=rp;cases q1;cases q2;obtain⟨a,es,h1,h2,rfl,h4,h5⟩:=zAm g.len g.frame e1 rfl;have ev:v=.ref a:=by rw[hv]at h1;exact qJ (qJ h1)
        subst ev;obtain⟨kb,rfl,hb⟩:=ZO e3 rz;obtain⟨o,h1',h2'⟩:=jn g.len e1;have eo:o=some (.ref a):=by rw[h1]at h1';exact(qJ h1').symm
        subst eo;obtain⟨pk1,pk2⟩:=ub (q:=q) (kb:=kb) h5 ry;obtain⟨f,st⟩:=FR.mutD g.frame h2' (WD h4 hb) pk2;rw[pk1]at f st;have e:=zU (E:=E2) (.dct (GS (es.map (·.1)) vs q r.d).1 (GS (es.map (·.1)) vs q r.d).2) h1;rw[<- e]at f st;refine⟨a,es,kb,q,rfl,⟨h2,λx hx=>zO zF (h4 x hx)⟩,rfl,zO zF hb,by simpa using hc,k O _ ?_⟩;exact⟨by simp[g.len],f,(g.st.weak (zC (sublist_append_right _ _))).trans st,g.pk.trans (Wb (ds0:=[]) e1 (λds' q=>by cases q) _)⟩
       ·rw[if_neg hc]at k;exact k.elim
     |_=>exact k.elim
def sk_dput(i:Nat){x:Str}{b e:Expr}{mk mv:ME}{p p1 pos:Pos}(hu:X.A.units+1<cLine)(hv:PE X (.Name x p) (Qd i))(hb:EOk X b mk)(he:EOk X e mv)
  (ha:∀v,assign (.Subscript (.Name x p) b p1) X.env v=(do
   let ov <- holding [v] (eval (.Name x p) X.env)
   let iv <- holding [v,ov] (eval b X.env)
   standAt p1
   holding [v,ov,iv] (setItem ov iv v)
   release [v,ov,iv] []):=by intro _;rfl) (hs:swapsWithSole [.Subscript (.Name x p) b p1] e pos.line X.env=pure false:=by rfl):SOk X (.Assign [.Subscript (.Name x p) b p1] e pos) (sDput i mk mv) :=
 yy (zBq he (zFT hv hb (zCz hu) ha) hs) λD O H=>zEm
end
def dic_new{P:Program}{w:World}{H:Hp}(h:Heap)(hb:sysModules<h.objs.size):j9 P w H (h.push {cls:=.type "dict",dict:=none,data:=.dict #[]}) h.objs.size (Zi h.objs.size []) :=
 zAR ⟨beq_eq_false_iff_ne.mpr (Ne.symm (ne_of_lt hb)),zero_le _,List.nodup_nil,_,#[],0,[],get?_push_size _ rfl,⟨rfl,rfl,rfl⟩,rfl,.nil,rfl⟩
def zBS{env:Env}(k v gens scope pos):eval (.DictComp k v gens scope pos) env=comprehension (.DictComp k v gens scope pos) scope env (firstIterPos gens pos) newDict (firstAsync gens) (firstIter gens env):=rfl
def actD(ke ve:Expr):Value->Env->Sem PySem.Fin->Sem PySem.Fin:=λacc env k=>do
 (do
  let kv <- eval ke env
  let vv <- holding [kv] (eval ve env)
  match acc with
  | .ref d=>do
   standAt {ke.pos with endLine:=ve.pos.endLine,endCol:=ve.pos.endCol}
   holding [kv,vv] (dictSet d kv vv)
  |_=>unsupported "internal:dictcomp")
 k
section
variable{prog:Program}{w:World}{A:Around}{R:Result->Shared->Prop}{s:Shared}{ke ve t0 i0 t1 i1:Expr}{f0 f1:List Expr}{scope:Scope}{pos:Pos}{it acc:Value}{env:Env}
def zBT{target iter:Expr}{ifs:List Expr}(h0:codeAny (model prog w) A (.compLoop (.DictComp ke ve [⟨target,iter,ifs,0⟩] scope pos) 0 it acc env) R s)
  (h:wpAny (model prog w) A (pyIter it) (λit' s'=>codeAny (model prog w) A (.compLoop (.DictComp ke ve [⟨target,iter,ifs,0⟩] scope pos) 0 it' acc env) R s') (notedBy (model prog w) A env λx s'=>R (.error x) s') s) :
  codeAny (model prog w) A (.compStart (.DictComp ke ve [⟨target,iter,ifs,0⟩] scope pos) 0 it acc env) R s:=by
 refine codeAny_of_tree (wpAny_notedAt ?_);refine qB (wpAny_askSetting (wpAny_ite ?_));split
 ·exact qB (qC (qC ⟨rfl,h0⟩))
 ·exact qB (wpAny_rule (qB (wpAny_standAt (qB (wpAny_mono h (λit' s' h'=>qC ⟨rfl,h'⟩) λx x_1 x_2=>x_2)))))
def turnD:compTurn (.DictComp ke ve [⟨t0,i0,f0,0⟩] scope pos) 0 it acc env=(do
  standAt i0.pos
  let r <- pyNext it
  match r with
  |none=>pure (.done .next)
  |some v=>do
   letOwnedTupleGo t0 it v
   assign t0 env v
   let ok <- forIn f0 true λc r=>if r=true then do let ok <- isTrue c env (eval c env);pure (ForInStep.yield ok)else pure (ForInStep.yield r)
   if ok=true then actD ke ve acc env (again (.compLoop (.DictComp ke ve [⟨t0,i0,f0,0⟩] scope pos) 0 it acc env))else again (.compLoop (.DictComp ke ve [⟨t0,i0,f0,0⟩] scope pos) 0 it acc env)):=rfl
def loopD{gens:List Comprehension}{d:Nat}{p:Pos}{t:Expr}{fs:List Expr}{act:Sem PySem.Fin->Sem PySem.Fin}
  (hT:compTurn (.DictComp ke ve gens scope pos) d it acc env=(do
   standAt p
   let r <- pyNext it
   match r with
   |none=>pure (.done .next)
   |some v=>do
    letOwnedTupleGo t it v
    assign t env v
    let ok <- forIn fs true λc r=>if r=true then do let ok <- isTrue c env (eval c env);pure (ForInStep.yield ok)else pure (ForInStep.yield r)
    if ok=true then act (again (.compLoop (.DictComp ke ve gens scope pos) d it acc env))else again (.compLoop (.DictComp ke ve gens scope pos) d it acc env)))
  (I:Nat->Shared->Prop)
  (turn:∀n s,I n s->wpAny (model prog w) A (pyNext it) (λr s₁=>match r with
   |none=>R (.ok .next) s₁
   |some v=>wpAny (model prog w) A (letOwnedTupleGo t it v) (λ_ s₁=>wpAny (model prog w) A (assign t env v) (λ_ s₂ =>
     wpAny (model prog w) A (forIn fs true λc r=>if r=true then do let ok <- isTrue c env (eval c env);pure (ForInStep.yield ok)else pure (ForInStep.yield r)) (λok s₃ =>
      if ok=true then ∀(k:Sem PySem.Fin) (Q:PySem.Fin->Shared->Prop),(∀s',(∃m,m<n/\I m s')->wpAny (model prog w) A k Q (notedBy (model prog w) A env λe s'=>R (.error e) s') s')->wpAny (model prog w) A (act k) Q (notedBy (model prog w) A env λe s'=>R (.error e) s') s₃
      else ∃m,m<n/\I m s₃) (notedBy (model prog w) A env λe s'=>R (.error e) s') s₂) (notedBy (model prog w) A env λe s'=>R (.error e) s') s₁) (notedBy (model prog w) A env λe s'=>R (.error e) s') s₁) (notedBy (model prog w) A env λe s'=>R (.error e) s') s)
  (n:Nat) (h:I n s):codeAny (model prog w) A (.compLoop (.DictComp ke ve gens scope pos) d it acc env) R s:=by
 refine codeAny_loop rfl I (λn s hI=>?_) n h;show wpAny _ A ((compTurn (.DictComp ke ve gens scope pos) d it acc env).onRaise (λx=>do noteFrame x env;theTreesLotGoes x)) _ _ s;refine wpAny_noted ?_;rw[hT];refine qB (wpAny_standAt (qB (wpAny_mono (turn n s hI) (λr s₁ h₁=>?_) λ_ _ h'=>h')));cases r with
 |none=>exact qC h₁
 |some v =>
  refine qB (wpAny_mono h₁ (λ_ s₁' h₁'=>?_) λ_ _ h'=>h');refine qB (wpAny_mono h₁' (λ_ s₂ h₂=>qB (wpAny_mono h₂ (λok s₃ h₃=>?_) λ_ _ h'=>h')) λ_ _ h'=>h');cases ok with
  |false=>exact qC ⟨rfl,h₃⟩|true=>exact h₃ _ _ λs' q=>qC ⟨rfl,q⟩
end
def taD(K:qH)(tk tv:TE):TA:=λD O H Nx=>tk O H λy H1=>tv O H1 λz H2=>∃es kb ks,y=.ref kb/\DicAt K H2 D es/\SqT K H2 kb (ks.map oV)/\es.length<1000000/\Nx O (upd H2 D (Zi D (Z7 es ks kb z)))
def zAn(nl:Nat)(caps:List Nat)(wi:TI)(g:TG)(tt:TT)(ta:TA):TE:=λO H Q=>wi O H λJ H1=>∀D,H1 D=none->∃W:Nat->Nat->St->Hp->Prop,(∃m,W 0 m (L2.zZ nl caps O) (upd H1 D (Zi D [])))/\∀i m O' H',W i m O' H' ->
 (J.stop i H'/\Q (.ref D) H')\/(J.go i H'/\∃Nx:St->Hp->Prop,(∀O'' H'',Nx O'' H''->∃m',m'<m/\W (i+1) m' O'' H'')/\∀x H'',J.yld i H' x H''->g x O' H'' λO2 H2 =>
  tt O2 H2 λb H3=>if b=true then ta D O2 H3 Nx else Nx O2 H3)
def zFx{Y:Cx}{ke ve:Expr}{tk tv:TE}(hu:Y.A.units<cLine)(hx:∀e s,¬Y.xe e s)(hk:PE Y ke tk)(hv:PE Y ve tv):PA Y (actD ke ve) (taD Y.K tk tv):=λD pins s O H Nx k Q E I h hn=>by
 unfold actD;refine qB (qB (wpAny_mono (hk pins s O H _ I h) (λkv s1 h1=>?_) λ_ _ z=>absurd z (hx _ _)));obtain⟨y,H1,I1,r1,q1⟩:=h1;refine qB (wpAny_holding (wpAny_mono (hv pins s1 O H1 _ I1 q1) (λvv s2 h2=>?_) λ_ _ z=>absurd z (hx _ _)));obtain⟨z,H2,I2,r2,es,kb,ks,rfl,⟨e,hkk⟩,hb,hl,n2⟩:=h2;cases r1;dsimp only;refine qB (wpAny_standAt (wpAny_holding ?_));obtain⟨xs,r,hm,hd,hz,hnd⟩:=zAS I2 e hkk;have hsl:(1000000:Nat)<=sizeLine:=by decide +kernel
 have hlen:xs.length=es.length:=by have:=congrArg length (wJ.keys r);simpa using this
 refine wpAny_dictSet_heap (knd:=tupleKind (wy Y.prog Y.w)) hu (vg I2 hb) hm (λh' hm' sb=>?_) (by omega);have dp:zFa D (Z7 es ks kb z) h':=Qu (X:=Y) hm' hd (by have:=(Ge (k:=ks) (ka:=kb) (v:=z) hnd).2;omega) (r.put r2);obtain⟨_,_,_,o',_,_,_,e',_⟩:=id dp;exact hn O _ _ (I2.write (x:=D) (e:=D) (by rw[e];trivial) (.inl rfl) (λb w hb' q'=>(sb.2 b hb').trans q') ⟨o',e'⟩ (zAR dp)) n2
section
variable{X:Cx}{ke ve target iter:Expr}{ifs:List Expr}{scope:Scope}{pos:Pos}{nl:Nat}{caps:List Nat}{N':List Str}
def v3{wi:TI}{g:TG}{tt:TT}{ta:TA}{use:Option (Value->Sem Unit)}{QQ:Value->Shared->Prop}{pins:List (Addr×Obj)}{s:Shared}{O:St}{H:Hp}{Q:VK}{p0:Pos}(hx:∀e s,¬X.xe e s)(hc:X.calm=true)(hkind:scope.kind=.function)(hnames:∀y∈scope.names,y.2=.local->scope.names.lookup y.1=some .local)(hcell:∀y∈scope.names,y.2=.cell->scope.names.lookup y.1=some .cell)
  (hfree:(scope.names.all λy=>y.2 != .free||X.env.kindOf y.1==some .cell)=true)
  (hlen:N'.length=nl+caps.length) (hcap:∀(i j:Nat),caps[i]?=some j->∃x,N'[nl+i]?=some x/\X.N[j]?=some x/\scope.names.lookup x=some .free)
  (hi:PI X target iter wi) (hg:∀cl C ex s H,PG (cxB X N' scope cl C ex s H) target g) (ht:∀cl C ex s H,zCe (cxB X N' scope cl C ex s H) ifs tt) (he:∀cl C ex s H,PA (cxB X N' scope cl C ex s H) (actD ke ve) ta)
  (hs:∀x,foldedSetIterable iter X.env x=pure x) (I:Inv X pins O H s) (h:zAn nl caps wi g tt ta O H Q)
  (hfin:∀(D C:Addr) (H5:Hp) (s6:Shared) (m6:Str->Option Value),Inv X pins O H5 s6->Qe X pins H5 C->s6.heap.Ns C m6->Q (.ref D) H5->compPost (model X.prog X.w) X.A X.xe use QQ (.ref D) C (.ok .next) s6) :
  wpAny (model X.prog X.w) X.A (comprehension (.DictComp ke ve [⟨target,iter,ifs,0⟩] scope pos) scope X.env p0 newDict false (eval iter X.env) use) QQ X.xe s:=by
 have hfr:∀y∈scope.names,y.2=.free->X.env.kindOf y.1=some .cell:=λy hy e=>by
  have:=all_eq_true.mp hfree y hy;rw[e]at this;simpa using this
 have hcl:∀y∈scope.names,y.2=.free->∃c,X.env.cells.lookup y.1=some c:=λy hy e=>I.ok.has y.1 (.inl (hfr y hy e))
 have hclos:closureFor scope X.env=pure (Qc X.env scope.names []):=by
  simp only[closureFor];rw[JY scope.names [] hcl];rfl
 have cl1:∀x c,(Qc X.env scope.names []).lookup x=some c->X.env.cells.lookup x=some c:=λx c e=>(jC scope.names [] x hcl (λ_ z=>by cases z)).1 c e
 have cl2:∀x,(∃y∈scope.names,y.1=x/\y.2=.free)->∃c,(Qc X.env scope.names []).lookup x=some c:=λx q=>(jC scope.names [] x hcl (λ_ z=>by cases z)).2 (.inr q)
 generalize Qc X.env scope.names []=cl at hclos cl1 cl2;refine wpAny_comprehension_free (use:=use) rfl hs hclos hkind hnames (thn (hi pins s O H _ I h) λxv s1 h1=>thn h1 λitv s2 h2=>?_);obtain⟨it,fp,tn,J,H2,e,I2,T,st2,f2,turn⟩:=h2;subst e;refine wpAny_newObj_type (wu ?_) (by first|trivial|decide|simp[sizeOk]);dsimp only;generalize hH3:s2.heap.push {cls:=.type "dict",dict:=none,data:=.dict #[]}=h3;have hC:h3.objs.size=s2.heap.objs.size+1:=by rw[<- hH3,size_push]
 have hD:H2 s2.heap.objs.size=none:=I2.hok.fresh (le_refl _);obtain⟨W,⟨m0,w0⟩,step⟩:=turn s2.heap.objs.size hD
 -- the state at the block's entry
 have I3:Inv X pins O (upd H2 s2.heap.objs.size (Zi s2.heap.objs.size [])) {s2 with heap:=h3}:=by
  rw[<- hH3];exact I2.laid (t':=s2.toks) (λb o q=>qA _ q) (le_refl _) (dic_new s2.heap (Inv.big I2))
 have hcfr:∀x,scope.names.lookup x=some .free->(x,NameKind.cell)∉scope.names:=λx e z=>by
  have:=hcell _ z rfl;rw[e]at this;cases this
 have szp:(h3.push {cls:=.type "dict",data:=.dict #[]}).objs.size=h3.objs.size+1:=size_push ..;have cw:∀x c,(cellsFrom (h3.objs.size+1) scope.names cl).lookup x=some c->cl.lookup x=some c\/((x,NameKind.cell)∈scope.names/\h3.objs.size+1<=c/\(pushCells (h3.push {cls:=.type "dict",data:=.dict #[]}) scope.names).IsCell c none):=λx c e=>by
  rw[<- szp]at e ⊢;exact Yj _ _ _ x c e
 have cfr:∀x,scope.names.lookup x=some .free->(cellsFrom (h3.objs.size+1) scope.names cl).lookup x=cl.lookup x:=λx e=>Wk _ _ _ x (hcfr x e)
 have chas:∀x,scope.names.lookup x=some .cell->∃c,(cellsFrom (h3.objs.size+1) scope.names cl).lookup x=some c:=λx e=>by
  have:=cellsFrom_some scope.names (h3.objs.size+1) cl (x:=x) (.inl e);exact Option.isSome_iff_exists.mp this
 have clt:∀x c,cl.lookup x=some c->c<h3.objs.size:=λx c e=>by
  obtain⟨v,q⟩:=I3.cell x c (cl1 x c e);exact q.lt
 have cinj:=zAb scope.names (h3.objs.size+1) cl (λx y c e1 e2=>I.ok.inj x y c (cl1 x c e1) (cl1 y c e2)) λx c e=>lt_succ_of_lt (clt x c e)
 have hns₁:(pushCells (h3.push {cls:=.type "dict",data:=.dict #[]}) scope.names).Ns h3.objs.size λ_=>none:=(Heap.Ns.new h3 (.type "dict")).keeps (pushCells_keeps _ _)
 have old:∀b o,h3.get? b=some o->(pushCells (h3.push {cls:=.type "dict",data:=.dict #[]}) scope.names).get? b=some o:=λb o e=>pushCells_keeps _ _ b o (qA _ e)
 generalize hh1:pushCells (h3.push {cls:=.type "dict",data:=.dict #[]}) scope.names=h₁ at hns₁ old cw ⊢;generalize hcs:cellsFrom (h3.objs.size+1) scope.names cl=cs at cw cfr chas cinj ⊢;have fpD:∀b∈fp,b≠s2.heap.objs.size:=λb hb z=>by
  obtain⟨o,e,_⟩:=T.obj 0 s2.heap st2 b hb;subst z;exact absurd (lt_size e) (lt_irrefl _)
 have fp3:∀b∈fp,upd H2 s2.heap.objs.size (Zi s2.heap.objs.size []) b=none:=λb hb=>by rw[zp (fpD b hb)];exact(f2 b hb).1
 have fpC:∀b∈fp,b≠h3.objs.size:=λb hb z=>by
  obtain⟨o,e,_⟩:=T.obj 0 s2.heap st2 b hb;have q:b<s2.heap.objs.size:=lt_size e;rw[z,hC]at q;exact absurd q (not_lt.mpr (le_succ _))
 have hCn:upd H2 s2.heap.objs.size (Zi s2.heap.objs.size []) h3.objs.size=none:=I3.hok.fresh (le_refl _);have fpok:∀b∈fp,(b∈X.ex\/X.s₀.heap.objs.size<=b)/\b≠X.env.locals/\(∀x c,X.env.cells.lookup x=some c->c≠b)/\∀p∈X.pn++pins,p.1≠b:=λb hb=>by
  obtain⟨_,q2,_,q4,q5,q6⟩:=f2 b hb;exact⟨q4,q2,q5,q6⟩
 have fpH:∀b∈fp,b<h3.objs.size:=λb hb=>by
  obtain⟨o,e,_⟩:=T.obj 0 s2.heap st2 b hb;have q:b<s2.heap.objs.size:=lt_size e;rw[hC];exact lt_succ_of_lt q
 have fpcs:∀b∈fp,∀x c,cs.lookup x=some c->c≠b:=λb hb x c e=>by
  rcases cw x c e with q|⟨_,q,_⟩
  ·exact(fpok b hb).2.2.1 x c (cl1 x c q)
  ·intro z;subst z
   exact absurd (lt_of_lt_of_le (fpH _ hb) (Nat.le_of_succ_le q)) (lt_irrefl _)
 let Y:Cx:=cxB X N' scope cs h3.objs.size fp {s2 with heap:=h3} (upd H2 s2.heap.objs.size (Zi s2.heap.objs.size []))
 have kindY:∀x k,Y.env.kindOf x=some k->∃k0,scope.names.lookup x=some k0/\(k=k0\/(k0=.free/\k=.cell)):=λx k e=>wA e
 have okY:Y.Ok:={
  mod:=I.ok.mod
  kind:=hkind
  glob:=I.ok.glob
  blt:=I.ok.blt
  above:=le_refl _
  inj:=cinj
  has:=λx q=>by
   have:scope.names.lookup x=some .cell\/scope.names.lookup x=some .free:=by
    rcases q with q|q
    ·obtain⟨k0,e,z⟩:=kindY x _ q
     rcases z with z|z
     ·subst z;exact .inl e
     ·rw[z.1]at e;exact .inr e
    ·obtain⟨k0,e,z⟩:=kindY x _ q
     rcases z with z|z
     ·subst z;exact .inr e
     ·rw[z.1]at e;exact .inr e
   rcases this with q|q
   ·exact chas x q
   ·obtain⟨c,e⟩:=cl2 x ⟨(x,.free),PySem.mem_of_lookup q,rfl,rfl⟩
    exact⟨c,by show cs.lookup x=_;rw[cfr x q];exact e⟩
  cab:=λx c z e=>by
   have z:scope.names.lookup x=some .cell:=by
    have z:(scope.names.lookup x==some NameKind.cell)=true:=z;simpa using z
   have e:cs.lookup x=some c:=e;rw[<- hcs]at e;exact le_trans (le_succ _) (zAa _ _ _ x c (PySem.mem_of_lookup z) e)
  hd:=I.ok.hd
  frames:=I.ok.frames
  stk:=.inl rfl
  exf:=λb hb=>⟨fpC b hb,fpcs b hb⟩
  bs:=λb o e=>I3.bs b o e
  bsz:=le_trans I.ok.bsz I3.sz
  noex:=λb o e hb=>by
   obtain⟨q,_⟩:=fpok b hb;rcases q with q|q
   ·exact I.ok.noex b o e q
   ·exact absurd (lt_of_lt_of_le (lt_size e) I.ok.bsz) (not_lt.mpr q)
  exfs:=λb hb z=>by
   have:=I2.stkSub b z;rcases mem_cons.mp this with q|q
   ·exact(fpok b hb).2.1 q
   ·exact(f2 b hb).2.2.1 q
  funs:=I3.stack
  frf:=I3.stkFree}
 have keep1:∀b o,h3.get? b=some o->h₁.get? b=some o:=old;have lenY:(L2.zZ nl caps O).length=N'.length:=by unfold L2.zZ;simp[hlen]
 have IY:Inv Y [] (L2.zZ nl caps O) (upd H2 s2.heap.objs.size (Zi s2.heap.objs.size [])) {s2 with heap:=h₁}:={
  ok:=okY
  os:=rfl
  bare:=I3.bare
  base:=Un.kept keep1
  loc:=by
   refine⟨_,hns₁,λi x v e1 e2 e3=>?_⟩;have e1:N'[i]?=some x:=e1;have hi:nl<=i:=by
    by_cases z:nl<=i
    ·exact z
    ·unfold L2.zZ at e2
     rw[getElem?_append_left (by simp;omega),List.getElem?_replicate]at e2;split at e2<;>cases e2
   unfold L2.zZ at e2;rw[getElem?_append_right (by simpa using hi),List.length_replicate,getElem?_map]at e2;cases ej:caps[i-nl]? with
   |none=>rw[ej]at e2;cases e2
   |some j =>
    rw[ej]at e2;simp only[Option.map_some,Option.some.injEq]at e2;obtain⟨x',c1,c2,c3⟩:=hcap (i-nl) j ej;have ex:x'=x:=by
     rw[show nl+(i-nl)=i by omega,e1]at c1;exact(qJ c1).symm
    subst ex;have e4:O[j]?=some (some v):=by
     cases z:O[j]? with
     |none=>rw[z]at e2;cases e2|some o=>rw[z]at e2;simp at e2;rw[e2]
    have kx:X.env.kindOf x'=some .cell:=hfr (x',.free) (PySem.mem_of_lookup c3) rfl;obtain⟨mm,_,lk⟩:=I3.loc;obtain⟨u,ru,lu⟩:=lk j x' v c2 e4 (.inr (.inl kx));refine⟨u,ru,?_⟩;rcases lu with⟨z,_⟩|⟨_,c,d1,d2⟩
    ·rw[kx]at z;cases z
    ·obtain⟨c',d3⟩:=cl2 x' ⟨(x',.free),PySem.mem_of_lookup c3,rfl,rfl⟩
     have:c'=c:=by have:=cl1 x' c' d3;rw[d1]at this;exact(qJ this).symm
     subst this;exact .inr ⟨.inl (JG c3 I.ok.kind kx),c',by show cs.lookup _=_;rw[cfr x' c3];exact d3,d2.keeps old⟩
  cell:=λx c e=>by
   rcases cw x c e with e|⟨_,_,q⟩
   ·obtain⟨v,q⟩:=I3.cell x c (cl1 x c e)
    exact⟨v,q.keeps old⟩
   ·exact⟨_,q⟩
  free:=hCn
  freeC:=λx c e=>by
   rcases cw x c e with e|⟨_,q,_⟩
   ·exact I3.freeC x c (cl1 x c e)
   ·exact I3.hok.fresh (le_trans (le_succ _) q)
  pin:=λp hp=>absurd (show p∈([]:List (Addr×Obj))from hp) (by simp)
  hok:=I3.hok.kept old
  len:=lenY}
 have st1:tn 0 h₁:=T.keep 0 s2.heap h₁ st2 λb hb o e=>old b o (by rw[<- hH3];exact qA _ e)
 have fpY:∀{H':Hp},(∀b∈fp,H' b=none)->∀b∈fp,Qe Y [] H' b:=λhn b hb =>
  ⟨hn b hb,fpC b hb,okY.exfs b hb,.inl hb,fpcs b hb,λp hp=>absurd (show p∈([]:List (Addr×Obj))from hp) (by simp)⟩
 have hA:Y.A=X.A:=rfl;have noE:∀{E':Value->Shared->Prop} {e:Value} {s:Shared},X.xe e s->E' e s:=λq=>absurd q (hx _ _)
 have fin:∀s₄:Shared,s₄={s2 with heap:=h₁} ->
   codeAny (model X.prog X.w) X.A (.compLoop (.DictComp ke ve [⟨target,iter,ifs,0⟩] scope pos) 0 (.ref it) (.ref s2.heap.objs.size) Y.env)
    (compPost (model X.prog X.w) X.A X.xe use QQ (.ref s2.heap.objs.size) h3.objs.size) s₄:=by
  rintro s₄ rfl
  refine loopD (act:=actD ke ve (.ref s2.heap.objs.size) Y.env) turnD (λn s'=>∃i O' H',Inv Y [] O' H' s'/\tn i s'.heap/\(∀b∈fp,H' b=none)/\W i n O' H') ?_ m0 ⟨0,L2.zZ nl caps O,_,IY,st1,fp3,w0⟩
  rintro n s5 ⟨i,O5,H5,I5,st5,fr5,w5⟩
  rcases step i n O5 H5 w5 with⟨stop,q⟩|⟨go,Nx,hN,turn⟩
  ·refine wpAny_mono (T.done Y rfl rfl rfl hc i [] s5 O5 H5 (λ_ _=>False) I5 (fpY fr5) st5 stop) (λr s6 ⟨hr,I6⟩=>?_) (λ_ _ z=>z.elim)
   subst hr;obtain⟨m6,n6,_⟩:=I6.loc;have u:Un (frs X.stack) fp (upd H2 s2.heap.objs.size (Zi s2.heap.objs.size [])) H5 h3 s6.heap:=I6.base;have I7:Inv X pins O H5 s6:=I3.call' (s':=s6) (ch:=fp) I6.os u I6.hok I6.bare fpok;exact hfin _ _ H5 s6 m6 I7 (I3.fpOk (le_refl _) I6.free) n6 q
  ·refine wpAny_mono (T.item Y rfl rfl rfl hc i [] s5 O5 H5 (λ_ _=>False) I5 (fpY fr5) st5 go) (λr s6 ⟨u,hr,h6⟩=>?_) (λ_ _ z=>z.elim)
   subst hr;refine wpAny_mono h6 (λ_ s7 ⟨x,H7,I7,r7,y7,st7,fr7⟩=>?_) (λ_ _ z=>z.elim);have I7':=I7.pinned (fpY fr7) (T.obj _ _ st7);refine wpAny_mono (hg _ _ _ _ _ _ s7 O5 H7 x u _ I7' r7 (turn x H7 y7)) (λ_ s8 ⟨O8,H8,I8,q8⟩=>?_) (λ_ _ z=>noE z);refine wpAny_mono (ht _ _ _ _ _ _ s8 O8 H8 _ I8 q8) (λb s9 ⟨H9,I9,q9⟩=>?_) (λ_ _ z=>noE z);have again:∀{O7:St} {H':Hp} {s':Shared},Inv Y ([]++vc fp s7.heap) O7 H' s'->Nx O7 H'->∃m,m<n/\∃i O' H',Inv Y [] O' H' s'/\tn i s'.heap/\(∀b∈fp,H' b=none)/\W i m O' H':=λ{O7 H' s'} I' n7=>by
    obtain⟨m',hm,w7⟩:=hN O7 H' n7;refine⟨m',hm,i+1,O7,H',I'.unpinned,T.keep _ _ _ st7 λb hb o e=>(I'.pin (b,o) (qK _ (qK _ (jj hb e)))).1,λb hb=>?_,w7⟩;obtain⟨o,e,d⟩:=T.obj _ _ st7 b hb;exact(I'.pin (b,o) (qK _ (qK _ (jj hb e)))).2.1
   cases b with
   |false =>
    rw[if_neg qF]at q9 ⊢;exact again I9 q9
   |true =>
    rw[if_pos rfl]at q9 ⊢;exact λk Qk hk=>he _ _ _ _ _ _ _ s9 O8 H9 Nx k Qk _ I9 q9 λO' H' s' I' n'=>hk s' (again I' n')
 exact zBT (fin _ rfl) (T.self X.A 0 _ _ _ st1 (fin _ rfl))
def zEn{wi:TI}{g:TG}{tt:TT}{ta:TA}(hx:∀e s,¬X.xe e s)(hc:X.calm=true)(hkind:scope.kind=.function)(hnames:∀y∈scope.names,y.2=.local->scope.names.lookup y.1=some .local)(hcell:∀y∈scope.names,y.2=.cell->scope.names.lookup y.1=some .cell)
  (hfree:(scope.names.all λy=>y.2 != .free||X.env.kindOf y.1==some .cell)=true)
  (hlen:N'.length=nl+caps.length) (hcap:∀(i j:Nat),caps[i]?=some j->∃x,N'[nl+i]?=some x/\X.N[j]?=some x/\scope.names.lookup x=some .free)
  (hi:PI X target iter wi) (hg:∀cl C ex s H,PG (cxB X N' scope cl C ex s H) target g) (ht:∀cl C ex s H,zCe (cxB X N' scope cl C ex s H) ifs tt) (he:∀cl C ex s H,PA (cxB X N' scope cl C ex s H) (actD ke ve) ta)
  (hs:∀x,foldedSetIterable iter X.env x=pure x:=by intro _;rfl):PE X (.DictComp ke ve [⟨target,iter,ifs,0⟩] scope pos) (zAn nl caps wi g tt ta):=by
 intro pins s O H Q I h;rw[zBS];refine v3 (use:=none) hx hc hkind hnames hcell hfree hlen hcap hi hg ht he hs I h λD C H5 s6 m6 I7 f n6 q=>?_
 refine⟨m6,n6,λh' hs'=>?_⟩;obtain⟨f1,f2,f3,f4,f5,f6⟩:=f;exact⟨.ref D,H5,I7.turned (it:=C) (t':=s6.toks) (λb o hb e=>hs'.extBut b o hb e) f1 (λz=>f2 z) f4 f5 f6,rfl,q⟩
def zEo{i:Nat}{y:Str}{py spos:Pos}{wi:TI}{g:TG}{tt:TT}{ta:TA}(hN:X.N.Nodup)(hi':X.N[i]?=some y)(hy:Loc X.env.scope y)(hf:X.fn y=true\/X.env.scope.names.lookup y=some .local)(hx:∀e s,¬X.xe e s)(hc:X.calm=true)(hkind:scope.kind=.function)(hnames:∀y∈scope.names,y.2=.local->scope.names.lookup y.1=some .local)(hcell:∀y∈scope.names,y.2=.cell->scope.names.lookup y.1=some .cell)
  (hfree:(scope.names.all λy=>y.2 != .free||X.env.kindOf y.1==some .cell)=true)
  (hlen:N'.length=nl+caps.length) (hcap:∀(i j:Nat),caps[i]?=some j->∃x,N'[nl+i]?=some x/\X.N[j]?=some x/\scope.names.lookup x=some .free)
  (hi:PI X target iter wi) (hg:∀cl C ex s H,PG (cxB X N' scope cl C ex s H) target g) (ht:∀cl C ex s H,zCe (cxB X N' scope cl C ex s H) ifs tt) (he:∀cl C ex s H,PA (cxB X N' scope cl C ex s H) (actD ke ve) ta)
  (hs:∀x,foldedSetIterable iter X.env x=pure x) (hsw:swapsWith (.DictComp ke ve [⟨target,iter,ifs,0⟩] scope pos) (some (.Name y py)) spos.line X.env=pure true) :
  PS X (.Assign [.Name y py] (.DictComp ke ve [⟨target,iter,ifs,0⟩] scope pos) spos) (zFU (zAn nl caps wi g tt ta) (GU i)):=by
 intro pins s O H D I h;rw[exec_Assign_Name_used _ _ _ _ hsw];refine qB (wpAny_standAt (qB ?_));show wpAny _ X.A (do let _ <- comprehension (.DictComp ke ve [⟨target,iter,ifs,0⟩] scope pos) scope X.env _ newDict false (eval iter X.env) (some (assign (.Name y py) X.env))) _ _ s;refine qB (wpAny_mono (v3 (use:=some (assign (.Name y py) X.env)) (QQ:=λ_ s'=>SP X pins D .next s') hx hc hkind hnames hcell hfree hlen hcap hi hg ht he hs I h λDa C H5 s6 m6 I7 f n6 q=>?_) (λ_ s' hq=>qC (qC hq)) λ_ _ e=>e);obtain⟨f1,f2,f3,f4,f5,f6⟩:=f;show wpAny _ X.A (assign (.Name y py) X.env (.ref Da)) _ _ s6;refine wpAny_assign_Name (WT I7 hN hi' hy (v:=.ref Da) rfl (λs7 I8 ⟨a,sb,ha⟩=>?_) hf);have hne:C≠a:=by
  rcases ha with ha|ha
  ·rw[ha];exact f2
  ·exact λz=>f5 y a ha z.symm
 refine⟨m6,n6.sameBut sb hne,λh' hs'=>?_⟩;exact⟨_,H5,I8.turned (it:=C) (t':=s7.toks) (λb o hb e=>hs'.extBut b o hb e) f1 (λz=>f2 z) f4 f5 f6,q⟩
end
abbrev Acc:=List (List KN)×List D
section
variable{X:Cx}{K:qH}{mg:Str->Option Value}{O:St}{M:Addr->Prop}{E:zM}{H:Hp}{T0 Z T:Fz}
structure GD(K:qH)(mg:Str->Option Value)(M:Addr->Prop)(D:Addr)(O:St)(E:zM)(H:Hp)(acc:Acc)(O':St)(E':zM)(H':Hp)(acc':Acc):Prop where
 len:E'.length=O'.length
 fr:FR K mg M H' ((some (.ref D),.dct acc'.1 acc'.2)::O'.zip E')
 st:Step M H ((some (.ref D),.dct acc.1 acc.2)::O.zip E) H' ((some (.ref D),.dct acc'.1 acc'.2)::O'.zip E')
 pk:PKp O E O' E'
def GD.of{D:Addr}{acc:Acc}{O':St}{E':zM}{H':Hp}(g:Got K mg M O E H [(some (.ref D),.dct acc.1 acc.2)] O' E' H' []):GD K mg M D O E H acc O' E' H' acc:=⟨g.len,g.fr,g.st,g.pk⟩
theorem GD.trans{D:Addr}{acc acc1 acc2:Acc}{O1 O2:St}{E1 E2:zM}{H1 H2:Hp}(a:GD K mg M D O E H acc O1 E1 H1 acc1)(b:GD K mg M D O1 E1 H1 acc1 O2 E2 H2 acc2):GD K mg M D O E H acc O2 E2 H2 acc2:=⟨b.len,b.fr,a.st.trans b.st,a.pk.trans b.pk⟩
abbrev MCD:=zM->Acc->Out (Acc×zM)
def zC0(K:qH)(mg:Str->Option Value)(ma:MCD)(ta:TA):Prop:=∀(M:Addr->Prop) (D:Addr) (O:St) (E:zM) (H:Hp) (acc acc':Acc) (E':zM) (Nx:St->Hp->Prop),E.length=O.length->FR K mg M H ((some (.ref D),.dct acc.1 acc.2)::O.zip E)->ma E acc=.ok (acc',E')->(∀O' H',GD K mg M D O E H acc O' E' H' acc'->Nx O' H')->ta D O H Nx
def maD(mk mv:ME):MCD:=λE acc=>match mk E with
 | .ok (r1,E1)=>match mv E1 with
  | .ok (r2,E2)=>match G4 r1.d with
   |some q=>if acc.1.length<1000000 then .ok (GS acc.1 acc.2 q r2.d,E2)else .z|none=>.z
  |_=>.z
 |_=>.z
def zC1{mk mv:ME}:zC0 K mg (maD mk mv) (taD K (tN K mg mk) (tN K mg mv)):=λM D O E H acc acc' E' Nx hl fr em hN=>by
 unfold maD at em;cases e1:mk E with
 |z=>rw[e1]at em;cases em|exc _ _=>rw[e1]at em;cases em
 |ok p =>
  obtain⟨r1,Ea⟩:=p;rw[e1]at em;dsimp only at em;cases e2:mv Ea with
  |z=>rw[e2]at em;cases em|exc _ _=>rw[e2]at em;cases em
  |ok p =>
   obtain⟨r2,Eb⟩:=p;rw[e2]at em;dsimp only at em;cases e3:G4 r1.d with
   |none=>rw[e3]at em;cases em
   |some q =>
    rw[e3]at em;dsimp only at em;by_cases hc:acc.1.length<1000000
    ·rw[if_pos hc]at em
     cases em;refine zCf (T0:=[(some (.ref D),.dct acc.1 acc.2)]) hl fr e1 λy H1 g1=>?_
     refine zCf (T0:=[(some y,r1.slot)]++[(some (.ref D),.dct acc.1 acc.2)]) g1.len g1.fr e2 λz H2 g2=>?_
     have g:=g1.trans g2
     -- the key and the value are given up
     have fa:FR K mg M H2 ((some z,r2.slot)::(some y,r1.slot)::((some (.ref D),Slot.dct acc.1 acc.2)::O.zip E')):=g.fr;have fb:=fa.frz;have fc:FR K mg M H2 ((some y,r1.slot)::(some z,.v r2.d)::((some (.ref D),Slot.dct acc.1 acc.2)::O.zip E')):=fb.perm (List.Perm.swap _ _ _);have fd:=fc.frz;obtain⟨y',ey,ry⟩:=fd.val _ _ qE;cases ey;obtain⟨z',ez,rz⟩:=fd.val _ _ (qD _ qE);cases ez;rw[JA,JA]at ry rz;have fo:=fd.tail.tail;obtain⟨a,ho,ea,ha,_,es,rfl,k1,k2,k3⟩:=fo.own _ _ _ qE rfl;cases ea;obtain⟨kb,rfl,hb⟩:=ZO e3 ry;rw[k1]at hc;obtain⟨pk1,pk2⟩:=ub (q:=q) (kb:=kb) k3 rz;obtain⟨fm,sm⟩:=FR.mutD (i:=0) fo rfl (WD k2 hb) pk2;rw[pk1,<- k1]at fm sm;refine⟨es,kb,q,rfl,⟨ha,λx hx=>zO zF (k2 x hx)⟩,zO zF hb,by simpa using hc,hN O _ ?_⟩;have sz:Step M H ((some (.ref D),Slot.dct acc.1 acc.2)::O.zip E) H2 ((some (.ref D),Slot.dct acc.1 acc.2)::O.zip E'):=g.st.weak (zC (.cons _ (.cons _ (List.Sublist.refl _))));exact⟨g.len,fm,sz.trans sm,g.pk⟩
    ·rw[if_neg hc]at em;cases em
def ZP(tg:MG)(tt:MT)(ma:MCD):List D->zM->Acc->Out (Acc×zM)
 | [],E,acc=>.ok (acc,E)
 |d::ds,E,acc=>match tg d E with
  | .ok E1=>match tt E1 with
   | .ok (true,E2)=>match ma E2 acc with
    | .ok (acc',E3)=>ZP tg tt ma ds E3 acc'|_=>.z
   | .ok (false,E2)=>ZP tg tt ma ds E2 acc|_=>.z
  |_=>.z
def Wo(nl:Nat)(caps:List Nat)(mi:MI)(tg:MG)(tt:MT)(ma:MCD):ME:=λE=>match mi E with
 | .z=>.z| .exc x E1=>.exc x E1
 | .ok (ds,E1)=>match wz E1 caps with
  | .ok ars=>match zK ars E1 with
   | .ok (ss,E2)=>match ZP tg tt ma ds (replicate nl .e++ss) ([],[])with
    | .ok (res,Eb)=>match zH ars ((zk (replicate nl .e++ss) Eb).drop nl) E1 E2 with
     | .ok E3=>.ok (.dct res.1 res.2,E3)|_=>.z
    |_=>.z
   |_=>.z
  |_=>.z
def yld_gd{J:It}{ds:List D}{Iv:Hp->Prop}{O0 O':St}{E0 E':zM}{H1 H' H'':Hp}{Da:Addr}{acc0 acc:Acc}{i:Nat}{x:V}(it:ItOk K mg J ds Iv)(hlt:i<ds.length)(gb:GD K mg M Da O0 E0 H1 acc0 O' E' H' acc)(ivb:Iv (Hm (Mo M ((some (.ref Da),Slot.dct acc.1 acc.2)::O'.zip E')) H'))(y:J.yld i H' x H'') :
  ∃d,ds[i]?=some d/\GD K mg M Da O0 E0 H1 acc0 O' E' H'' acc/\Iv (Hm (Mo M ((some (.ref Da),Slot.dct acc.1 acc.2)::O'.zip E')) H'')/\Rep K mg (Hm (Mo M ((some (.ref Da),Slot.dct acc.1 acc.2)::O'.zip E')) H'') d x:=by
 obtain⟨d,hd,h⟩:=it.yld i _ _ x _ zF ivb hlt y;rcases h with⟨rfl,rx⟩|⟨q,xs,es,hq,rfl,rfl,rfl,rs⟩
 ·exact⟨d,hd,gb,ivb,rx⟩
 ·have f1:=gb.fr.newTup hq rs
  have s1:Step M H' ((some (.ref Da),Slot.dct acc.1 acc.2)::O'.zip E') (upd H' q (.t xs)) ((some (.ref q),.v (.t es))::((some (.ref Da),Slot.dct acc.1 acc.2)::O'.zip E')):=Step.newVal hq;obtain⟨v,ev,rv⟩:=f1.val _ _ qE;cases ev;have sm:=s1.same;rw[JA]at rv sm;exact⟨_,hd,⟨gb.len,f1.tail,gb.st.trans ⟨sm,s1.keep⟩,gb.pk⟩,it.mono _ _ sm ivb,rv⟩
def turnsD{tg:MG}{tt:MT}{ma:MCD}{ta:TA}{g:TG}(ho:GOk X g tg)(ha:zC0 X.K X.mg ma ta){J:It}{ds:List D}{Iv:Hp->Prop}(it:ItOk X.K X.mg J ds Iv){Da:Addr}{acc accF:Acc}{EF:zM}{Nx:St->Hp->Prop}(hl:E.length=O.length)(fr:FR X.K X.mg M H ((some (.ref Da),.dct acc.1 acc.2)::O.zip E))(iv:Iv (Hm (Mo M ((some (.ref Da),Slot.dct acc.1 acc.2)::O.zip E)) H))(em:ZP tg tt ma ds E acc=.ok (accF,EF))
  (hN:∀O' H',GD X.K X.mg M Da O E H acc O' EF H' accF->Nx O' H'):∃W:Nat->Nat->St->Hp->Prop,(∃m,W 0 m O H)/\∀i m O' H',W i m O' H' ->
   (J.stop i H'/\Nx O' H')\/(J.go i H'/\∃N2:St->Hp->Prop,(∀O'' H'',N2 O'' H''->∃m',m'<m/\W (i+1) m' O'' H'')/\∀x H'',J.yld i H' x H''->g x O' H'' λO2 H2 =>
    tNT X.K X.mg tt O2 H2 λb H3=>if b=true then ta Da O2 H3 N2 else N2 O2 H3):=by
 refine⟨λi m O' H'=>m=ds.length-i/\i<=ds.length/\∃E' acc',GD X.K X.mg M Da O E H acc O' E' H' acc'/\Iv (Hm (Mo M ((some (.ref Da),Slot.dct acc'.1 acc'.2)::O'.zip E')) H')/\ZP tg tt ma (ds.drop i) E' acc'=.ok (accF,EF),
  ⟨ds.length,by simp,zero_le _,E,acc,⟨hl,fr,Step.refl,PKp.refl⟩,iv,em⟩,?_⟩
 rintro i m O' H' ⟨rfl,hi,E',acc',gb,ivb,cm⟩
 by_cases hlt:i<ds.length
 ·refine .inr ⟨it.go i _ H' zF ivb hlt,λO'' H''=>(i+1<=ds.length/\∃E' acc',GD X.K X.mg M Da O E H acc O'' E' H'' acc'/\Iv (Hm (Mo M ((some (.ref Da),Slot.dct acc'.1 acc'.2)::O''.zip E')) H'')/\ZP tg tt ma (ds.drop (i+1)) E' acc'=.ok (accF,EF)),
   λO'' H'' q=>⟨ds.length-(i+1),by omega,rfl,q⟩,λx H'' y=>?_⟩
  obtain⟨d,hd,gb,ivb,rx⟩:=yld_gd it hlt gb ivb y;have ed:ds.drop i=d::ds.drop (i+1):=by
   obtain⟨hi',rfl⟩:=qG.mp hd;exact List.drop_eq_getElem_cons hi'
  rw[ed]at cm;simp only[ZP]at cm;cases e1:tg d E' with
  |z=>rw[e1]at cm;cases cm|exc _ _=>rw[e1]at cm;cases cm
  |ok Ea =>
   rw[e1]at cm;dsimp only at cm;refine ho _ O' E' _ [(some (.ref Da),.dct acc'.1 acc'.2)] x d Ea _ gb.len (gb.fr.add rx) e1 λO2 ga=>?_
   have g2:=gb.trans (GD.of ga);cases e2:tt Ea with
   |z=>rw[e2]at cm;cases cm|exc _ _=>rw[e2]at cm;cases cm
   |ok p =>
    obtain⟨b,Eb2⟩:=p;rw[e2]at cm;refine zCg ga.len ga.fr e2 λH3 gt=>?_
    have gt':GD X.K X.mg M Da O2 Ea H'' acc' O2 Eb2 H3 acc':=⟨gt.len,gt.fr,gt.st,gt.pk⟩;have g3:=g2.trans gt';have iv3:=it.mono _ _ (ga.st.same.trans gt.st.same) ivb;cases b with
    |false=>exact zD5 ⟨hlt,Eb2,acc',g3,iv3,cm⟩
    |true =>
     refine zD6 ?_;dsimp only at cm;cases e3:ma Eb2 acc' with
     |z=>rw[e3]at cm;cases cm|exc _ _=>rw[e3]at cm;cases cm
     |ok p =>
      obtain⟨acc2,Ec⟩:=p;rw[e3]at cm;exact ha M Da O2 Eb2 H3 acc' acc2 Ec _ g3.len g3.fr e3 λO4 H4 g4=>⟨hlt,Ec,acc2,g3.trans g4,it.mono _ _ g4.st.same iv3,cm⟩
 ·have ei2:i=ds.length:=by omega
  subst ei2;rw[drop_length]at cm;simp only[ZP]at cm;cases cm;exact .inl ⟨it.stop _ _ H' zF ivb (le_refl _),hN O' H' gb⟩
def G6{nl:Nat}{caps:List Nat}{mi:MI}{tg:MG}{tt:MT}{ma:MCD}{ta:TA}{g:TG}{Q:VK}(ho:GOk X g tg)(ha:zC0 X.K X.mg ma ta)(h:tM X (Wo nl caps mi tg tt ma) O H Q):zAn nl caps (tMI X mi) g (tNT X.K X.mg tt) ta O H Q:=by
 obtain⟨M,E,hl,fr,k⟩:=h;unfold Wo at k;refine⟨M,E,hl,fr,?_⟩;cases ei:mi E with
 |z=>rw[ei]at k;exact k|exc x E1=>rw[ei]at k;exact k
 |ok p =>
  obtain⟨ds,E1⟩:=p;rw[ei]at k;intro J Iv H1 it iv g1 D hD;dsimp only at k;cases ec:wz E1 caps with
  |z=>rw[ec]at k;exact k.elim|exc _ _=>rw[ec]at k;exact k.elim
  |ok ars =>
   rw[ec]at k;dsimp only at k;cases el1:zK ars E1 with
   |z=>rw[el1]at k;exact k.elim|exc _ _=>rw[el1]at k;exact k.elim
   |ok p =>
    obtain⟨ss,E2⟩:=p;rw[el1]at k;dsimp only at k;cases em:ZP tg tt ma ds (replicate nl .e++ss) ([],[])with
    |z=>rw[em]at k;exact k.elim|exc _ _=>rw[em]at k;exact k.elim
    |ok p =>
     obtain⟨res,Eb⟩:=p;rw[em]at k;dsimp only at k;cases eb:zH ars ((zk (replicate nl .e++ss) Eb).drop nl) E1 E2 with
     |z=>rw[eb]at k;exact k.elim|exc _ _=>rw[eb]at k;exact k.elim
     |ok E3 =>
      rw[eb]at k;obtain⟨vs,av,evs,f1,o1⟩:=zAc (T:=[]) caps g1.len ec g1.fr;obtain⟨f2,o2,l2,l3⟩:=ZI (T:=[]) ars g1.len av el1 f1;have hv:=av.length;have f2':FR X.K X.mg M H1 (O.zip E2++(vs.map some).zip ss):=FR.perm (T:=O.zip E2++(vs.map some).zip ss) (Z:=(vs.map some).zip ss++O.zip E2) f2 perm_append_comm;have osub:∀b,b∈yI (O.zip E2++(vs.map some).zip ss)->b∈yI (O.zip E1):=λb hb =>
       o1 b ((o2 b).mpr (zD (T:=O.zip E2++(vs.map some).zip ss) (Z:=(vs.map some).zip ss++O.zip E2) perm_append_comm b hb))
      have st1:Step M H (O.zip E) H1 (O.zip E2++(vs.map some).zip ss):=g1.st.weak osub;have eO:zZ nl caps O=replicate nl none++vs.map some:=by unfold L2.zZ;rw[evs]
      rw[eO];have ez:(replicate nl (none:Option V)++vs.map some).zip (replicate nl Slot.e++ss)=replicate nl (none,.e)++(vs.map some).zip ss:=by
       rw[zip_append (by simp),uS]
      have f4:FR X.K X.mg (Mo M (O.zip E2)) H1 ((replicate nl (none:Option V)++vs.map some).zip (replicate nl Slot.e++ss)):=by
       rw[ez];exact(FR.inner f2').emps0 nl
      have oo:yI ((replicate nl (none:Option V)++vs.map some).zip (replicate nl Slot.e++ss))=yI ((vs.map some).zip ss):=by rw[ez,Gv]
      generalize hO0:replicate nl (none:Option V)++vs.map some=O0 at f4 oo ⊢;generalize hE0:replicate nl Slot.e++ss=E0 at f4 oo em eb ⊢;have hl0:E0.length=O0.length:=by rw[<- hO0,<- hE0];simp[l2,hv]
      have f5:=f4.newDct (es:=[]) (vs:=[]) hD (λe he=>by cases he) Reps.nil;have s5:=Step.newDct (ks:=[]) (vs:=[]) (o:=Zi D []) f4 hD;have iv5:Iv (Hm (Mo (Mo M (O.zip E2)) ((some (.ref D),Slot.dct [] [])::O0.zip E0)) (upd H1 D (Zi D []))):=by
       refine it.mono _ _ s5.same (it.mono _ _ (jP λb hb=>?_) iv);rcases hb with hb|hb
       ·rcases hb with hb|hb
        ·exact .inl hb
        ·exact .inr (osub b (by rw[zT];exact mem_append_left _ hb))
       ·rw[oo]at hb
        exact .inr (osub b (by rw[zT];exact qK _ hb))
      refine turnsD ho ha it hl0 f5 iv5 em λO' H' ga=>k _ H' ?_
      have gb:Got X.K X.mg (Mo M (O.zip E2)) O0 E0 H1 [] O' Eb H' [(some (.ref D),.dct res.1 res.2)]:=⟨ga.len,ga.fr,s5.trans ga.st,ga.pk⟩;have mk0:Mask (O'.zip Eb) (O0.zip (zk E0 Eb)):=Yi E0 O0 O' Eb gb.len (hl0.symm) λj ds' e=>(gb.pk j ds' e).2
      have mk:Mask (O'.zip Eb) ((vs.map some).zip ((zk E0 Eb).drop nl)):=by
       have:=JH nl mk0;have e:(O0.zip (zk E0 Eb)).drop nl=(vs.map some).zip ((zk E0 Eb).drop nl):=by
        rw[Wl,<- hO0];congr 1;rw[List.drop_left' (by simp)]
       rw[e]at this;exact this
      refine Gw (r:=.dct res.1 res.2) el1 eb av f2' st1 l3 g1.pk (gb.fr.mask (.keep mk)) ?_;refine(gb.st.weak λb hb=>(Mask.keep mk).sub.subset hb).left λb hb=>?_
      show b∈yI _
      rw[nil_append,oo]at hb;exact hb
end
section
variable{X:Cx}{ke ve target iter:Expr}{ifs:List Expr}{scope:Scope}{pos:Pos}{mi:MI}{tg:MG}{tt:MT}{mk mv:ME}{g:TG}{nl:Nat}{caps:List Nat}
def ok_dc(loc capn:List Str)(hu:X.A.units<cLine)(hnl:loc.length=nl)(hx:∀e s,¬X.xe e s)(hc:X.calm=true)(hkind:scope.kind=.function)(hnames:∀y∈scope.names,y.2=.local->scope.names.lookup y.1=some .local)(hcell:∀y∈scope.names,y.2=.cell->scope.names.lookup y.1=some .cell)
  (hfree:(scope.names.all λy=>y.2 != .free||X.env.kindOf y.1==some .cell)=true) (hcap:Qq X scope caps capn)
  (hi:IOk X target iter mi) (hg:∀cl C ex s H,PG (cxB X (loc++capn) scope cl C ex s H) target g) (ho:GOk X g tg) (ht:∀cl C ex s H,zFo (cxB X (loc++capn) scope cl C ex s H) ifs tt)
  (hk:∀cl C ex s H,EOk (cxB X (loc++capn) scope cl C ex s H) ke mk) (hv:∀cl C ex s H,EOk (cxB X (loc++capn) scope cl C ex s H) ve mv)
  (hs:∀x,foldedSetIterable iter X.env x=pure x) :
  EOk X (.DictComp ke ve [⟨target,iter,ifs,0⟩] scope pos) (Wo nl caps mi tg tt (maD mk mv)):=by
 obtain⟨c1,c2⟩:=Gz (loc:=loc) hcap;refine zr (zEn (N':=loc++capn) (tt:=tNT X.K X.mg tt) (ta:=taD X.K (tN X.K X.mg mk) (tN X.K X.mg mv)) hx hc hkind hnames hcell hfree (by simp[hnl,c1]) (λi j e=>by
  obtain⟨x,q1,q2,q3⟩:=c2 i j e;refine⟨x,?_,q2,q3⟩;rw[getElem?_append_right (by omega),hnl,Nat.add_sub_cancel_left];exact q1) hi hg (λcl C ex s H=>Yk (ht cl C ex s H) λO H Q q=>zEV (X:=cxB X (loc++capn) scope cl C ex s _) q)
  (λcl C ex s H=>zFx (Y:=cxB X (loc++capn) scope cl C ex s H) hu hx (zr (hk cl C ex s H) λO H Q q=>tN_M (X:=cxB X (loc++capn) scope cl C ex s _) q) (zr (hv cl C ex s H) λO H Q q=>tN_M (X:=cxB X (loc++capn) scope cl C ex s _) q)) hs) λO H Q=>G6 ho zC1
def sk_dc{i:Nat}{y:Str}{py spos:Pos}(loc capn:List Str)(hu:X.A.units<cLine)(hN:X.N.Nodup)(hi':X.N[i]?=some y)(hy:Loc X.env.scope y)(hf:X.fn y=true\/X.env.scope.names.lookup y=some .local)(hnl:loc.length=nl)(hx:∀e s,¬X.xe e s)(hc:X.calm=true)(hkind:scope.kind=.function)(hnames:∀y∈scope.names,y.2=.local->scope.names.lookup y.1=some .local)(hcell:∀y∈scope.names,y.2=.cell->scope.names.lookup y.1=some .cell)
  (hfree:(scope.names.all λy=>y.2 != .free||X.env.kindOf y.1==some .cell)=true) (hcap:Qq X scope caps capn)
  (hi:IOk X target iter mi) (hg:∀cl C ex s H,PG (cxB X (loc++capn) scope cl C ex s H) target g) (ho:GOk X g tg) (ht:∀cl C ex s H,zFo (cxB X (loc++capn) scope cl C ex s H) ifs tt)
  (hk:∀cl C ex s H,EOk (cxB X (loc++capn) scope cl C ex s H) ke mk) (hv:∀cl C ex s H,EOk (cxB X (loc++capn) scope cl C ex s H) ve mv)
  (hs:∀x,foldedSetIterable iter X.env x=pure x)
  (hsw:swapsWith (.DictComp ke ve [⟨target,iter,ifs,0⟩] scope pos) (some (.Name y py)) spos.line X.env=pure true) :
  SOk X (.Assign [.Name y py] (.DictComp ke ve [⟨target,iter,ifs,0⟩] scope pos) spos) (sSet i (Wo nl caps mi tg tt (maD mk mv))):=by
 obtain⟨c1,c2⟩:=Gz (loc:=loc) hcap;refine yy (zEo (N':=loc++capn) (tt:=tNT X.K X.mg tt) (ta:=taD X.K (tN X.K X.mg mk) (tN X.K X.mg mv)) hN hi' hy hf hx hc hkind hnames hcell hfree (by simp[hnl,c1]) (λi j e=>by
  obtain⟨x,q1,q2,q3⟩:=c2 i j e;refine⟨x,?_,q2,q3⟩;rw[getElem?_append_right (by omega),hnl,Nat.add_sub_cancel_left];exact q1) hi hg (λcl C ex s H=>Yk (ht cl C ex s H) λO H Q q=>zEV (X:=cxB X (loc++capn) scope cl C ex s _) q)
  (λcl C ex s H=>zFx (Y:=cxB X (loc++capn) scope cl C ex s H) hu hx (zr (hk cl C ex s H) λO H Q q=>tN_M (X:=cxB X (loc++capn) scope cl C ex s _) q) (zr (hv cl C ex s H) λO H Q q=>tN_M (X:=cxB X (loc++capn) scope cl C ex s _) q)) hs hsw) λD O H h=>G6 ho zC1 (Qn h)
end
end DV
namespace DV
open PySem PySem.W L2
end DV
namespace DV
open PySem L2
section
variable{X:Cx}{K:qH}{mg:Str->Option Value}{M:Addr->Prop}{O:St}{E:zM}{H:Hp}
def got_frz{i:Nat}{r:R}(hl:E.length=O.length)(f:FR K mg M H (O.zip E))(e:E[i]?=some r.slot):Got K mg M O E H [] O (E.set i (.v r.d)) H []:=by
 obtain⟨o,h1,h2⟩:=jn hl e;have hlt:i<(O.zip E).length:=(qG.mp h2).1;have p:(O.zip E).Perm ((o,r.slot)::(O.zip E).eraseIdx i):=by
  have:=zQ (o,r.slot) (O.zip E) i hlt;rw[jx h2]at this;exact this
 have f2:FR K mg M H ((O.zip E).set i (o,.v r.d)):=((f.perm p).frz).perm (zQ _ _ _ hlt).symm;rw[<- zU (.v r.d) h1]at f2;refine⟨by simp[hl],f2,Step.weak Step.refl λb hb=>zD p.symm b ?_,Wb (ds0:=[]) e (λds' q=>by cases r<;>cases q) _⟩;rw[nil_append,nil_append,zU (.v r.d) h1]at hb;have hb':=zD (zQ _ _ _ hlt) b hb;rw[zb]at hb';exact zC (sublist_cons_self _ _) b hb'
def slR:DV.Slot->Option R
 | .dct ks vs=>some (.dct ks vs)| .own ds=>some (.own ds)|_=>none
def slR_eq{s:DV.Slot}{r:R}(h:slR s=some r):s=r.slot:=by
 cases s<;>first|(cases h;rfl)|(cases h)
def eFrd(i:Nat)(m:ME):ME:=λE=>match E[i]?.bind slR with
 |some r=>m (E.set i (.v r.d))|none=>m E
def ok_frd(i:Nat){e:Expr}{m:ME}(h:EOk X e m):EOk X e (eFrd i m):=zr h λO H Q ⟨M,E,hl,f,k⟩=>by
 unfold eFrd at k;cases hd:E[i]?.bind slR with
 |none=>rw[hd]at k;exact⟨M,E,hl,f,k⟩
 |some r =>
  rw[hd]at k;have hs:E[i]?=some r.slot:=by
   cases e0:E[i]? with
   |none=>rw[e0]at hd;cases hd|some s=>rw[e0]at hd;rw[slR_eq hd]
  have g:=got_frz hl f hs;refine⟨M,_,g.len,g.fr,?_⟩;dsimp only at k;cases em:m (E.set i (.v r.d))with
  |z=>rw[em]at k;exact k|exc x E1=>rw[em]at k;exact λH' g'=>k H' (g.trans g')|ok p=>rw[em]at k;exact λv H' g'=>k v H' (g.trans g')
end
section
variable{K:qH}{mg:Str->Option Value}{X:Cx}{O:L2.St}{H:Hp}{M:Addr->Prop}
def get_dic(hu:X.A.units+1<cLine):PGet X (rDIx X.K):=by
 intro pins s O H x y v u Q I rx ry h;obtain⟨a,es,kb,ks,w,rfl,⟨e,hk⟩,rfl,hb,hat,q⟩:=h;cases rx;cases ry;obtain⟨xs,r,hm,hd,_⟩:=zAS I e hk;obtain⟨p,hp,rw'⟩:=wJ.at r hat
 exact wpAny_getItem_heap (tupleKind_room_in1 hu) (vg I hb) hm hp ⟨w,H,I.tok _,rw',q⟩
def sDaug(i:Nat)(mk mv:ME):MS:=λE=>if jX E[i]?=true then .z else match mk E with
 | .ok (r1,E1)=>(match E1[i]?,G4 r1.d with
  |some (.dct ks vs),some q=>(match WC ks vs q with
   |some (.int a)=>(match mv E1 with
    | .ok (.v (.int b),E2)=>(match E2[i]? with
     |some (.dct ks2 vs2)=>if ks2.length<1000000 then .ok (.nx,E2.set i (.dct (GS ks2 vs2 q (.int (a+b))).1 (GS ks2 vs2 q (.int (a+b))).2))else .z|_=>.z)
    |_=>.z)
   |_=>.z)
  |_,_=>.z)
 |_=>.z
def zEp{i:Nat}{mk mv:ME}{D:Ends}(h:tS X (sDaug i mk mv) D O H):tAugS (Qd i) (tM X mk) (tM X mv) (rDIx X.K) (ipI λi j=>i+j) (rSetD X.K) D O H:=by
 obtain⟨M,E,hl,fr,k⟩:=h;unfold sDaug at k;cases em:jX E[i]? with
 |true=>rw[em]at k;exact k.elim
 |false =>
  rw[em]at k;obtain⟨s,hs1,hs2⟩:=ZH em;obtain⟨v,hv⟩:=vo hl fr hs1 hs2;refine⟨v,hv,?_⟩;refine zx (T0:=[]) hl fr ?_;simp only[Bool.false_eq_true,if_false]at k;cases ea:mk E with
  |z=>rw[ea]at k;exact k.elim|exc x E1=>rw[ea]at k;exact k.elim
  |ok p =>
   obtain⟨r1,E1⟩:=p;rw[ea]at k;intro y H1 g1;dsimp only at k;split at k
   ·rename_i ks vs q e1 e3
    split at k
    ·rename_i n1 e4
     obtain⟨a,es,h1,h2,rfl,h4,h5⟩:=zAm g1.len g1.frame e1 rfl;have ev:v=.ref a:=by rw[hv]at h1;exact qJ (qJ h1)
     subst ev;obtain⟨kb,rfl,hb⟩:=ZO e3 g1.rep;obtain⟨w,hw,rw'⟩:=Ym h5 e4;have ew:=zL rw';subst ew;refine⟨a,es,kb,q,.int n1,rfl,⟨h2,λx hx=>zO zF (h4 x hx)⟩,rfl,zO zF hb,hw,?_⟩;refine zx (T0:=[(some (.ref kb),r1.slot)]) g1.len g1.fr ?_;cases eb:mv E1 with
     |z=>rw[eb]at k;exact k.elim|exc x E2=>rw[eb]at k;exact k.elim
     |ok p =>
      obtain⟨r2,E2⟩:=p;rw[eb]at k;intro z H2 g2;have g:=g1.trans' g2;split at k
      ·rename_i b E2' eo
       cases eo;split at k
       ·rename_i ks2 vs2 e5
        by_cases hc:ks2.length<1000000
        ·rw[if_pos hc]at k
         have rp:=Got.reps (vs:=[z,.ref kb]) (rs:=[.v (.int b),r1]) rfl g;simp only[List.map,Reps]at rp;obtain⟨z',_,q1,rz,y',_,q2,ry,_⟩:=rp;cases q1;cases q2;have ez:=zL rz;obtain⟨a',es',h1',h2',rfl,h4',h5'⟩:=zAm g.len g.frame e5 rfl;have ev:a=a':=by rw[h1]at h1';cases h1';rfl
         subst ev;obtain⟨kb',ek,hb'⟩:=ZO e3 ry;cases ek;obtain⟨o,h1'',h2''⟩:=jn g.len e5;have eo:o=some (.ref a):=by rw[h1']at h1'';exact(qJ h1'').symm
         subst eo;obtain⟨pk1,pk2⟩:=ub (q:=q) (kb:=kb) (d:=.int (n1+b)) (v:=.int (n1+b)) h5' (by simp only[Rep]);obtain⟨f,st⟩:=FR.mutD g.frame h2'' (WD h4' hb') pk2;rw[pk1]at f st;have e:=zU (E:=E2) (.dct (GS (es'.map (·.1)) vs2 q (.int (n1+b))).1 (GS (es'.map (·.1)) vs2 q (.int (n1+b))).2) h1';rw[<- e]at f st;refine⟨n1,b,rfl,ez,a,es',kb,q,rfl,⟨h2',λx hx=>zO zF (h4' x hx)⟩,rfl,zO zF hb',by simpa using hc,k O _ ?_⟩;exact⟨by simp[g.len],f,(g.st.weak (zC (sublist_append_right _ _))).trans st,g.pk.trans (Wb (ds0:=[]) e5 (λds' q=>by cases q) _)⟩
        ·rw[if_neg hc]at k;exact k.elim
       ·exact k.elim
      ·exact k.elim
    ·exact k.elim
   ·exact k.elim
def sk_daug(i:Nat){x:Str}{b e:Expr}{mi mv:ME}{p p1 pos:Pos}(hu:X.A.units+1<cLine)(hv:PE X (.Name x p) (Qd i))(hb:EOk X b mi)(he:EOk X e mv)(ha:∀ov iv new,augStore b ov iv new=(do holding [new,ov,iv] (setItem ov iv new);release [new,ov,iv] [];pure .next)) :
  SOk X (.AugAssign (.Subscript (.Name x p) b p1) .Add e pos) (sDaug i mi mv) :=
 yy (ps_augS hv hb (get_dic hu) he zFV (zCz hu) ha) λD O H=>zEp
end
end DV
namespace DV
open PySem
def zEq:entryFor table "zip.__getattribute__"=some Builtin.«object.__getattribute__» :=
 entryFor_alias (id':="object.__getattribute__") (by kernel_rfl) (by first|rfl|decide +kernel) (by decide +kernel) (by kernel_rfl)
def zk_keys:typeLookup (.type "zip") "keys"=pure none:=by rw[typeLookup_type,builtinLookup_eq_fast];kernel_rfl
def zk_ga:typeLookup (.type "zip") "__getattr__"=pure none:=by rw[typeLookup_type,builtinLookup_eq_fast];kernel_rfl
def zEr(z:Addr)(fl:Array Value)(u:Tok):Meets (Builtin.«object.__getattribute__» ⟨[.ref z,.str "keys" u],[]⟩) (λA R s=>s.heap.get? z=some {cls:=.type "zip",dict:=none,data:=.fields fl,slots:=#[]}/\raisesAttr (.ref z) "keys" A R s) :=
 Meets.of_wp λprog w A R s hs=>by
  obtain⟨h,g,d,t,os⟩:=s;obtain⟨hz,hA,hE⟩:=hs;have hz:h.get? z=some {cls:=.type "zip",dict:=none,data:=.fields fl,slots:=#[]}:=hz;have hT:(⟨h,g,d,t,os⟩:Shared).TypeIs (.ref z) "zip":=⟨_,hz,rfl⟩;have f1:=zk_keys;unfold Builtin.«object.__getattribute__»
  repeat (any_goals (first|assumption|wp_step))
  exact wpAny_raiseAttrError hA hE (attrMsg_fits (by decide +kernel) (by decide +kernel))
section
variable{prog:Program}{w:World}{A:Around}{E:Value->Shared->Prop}{s:Shared}
def zk_none{z:Addr}{fl:Array Value}{Q:Option Value->Shared->Prop}(hz:s.heap.get? z=some {cls:=.type "zip",dict:=none,data:=.fields fl,slots:=#[]})(hA:A.handled=none)
  (hQ:∀h' tk,(∀b ob,s.heap.get? b=some ob->h'.get? b=some ob)->Q none {s with heap:=h',toks:=tk}):wpAny (model prog w) A (getAttr? (.ref z) "keys") Q E s:=by
 obtain⟨h,g,d,t,os⟩:=s;have hz:h.get? z=some {cls:=.type "zip",dict:=none,data:=.fields fl,slots:=#[]}:=hz;have hT:∀t,(⟨h,g,d,t,os⟩:Shared).TypeIs (.ref z) "zip":=λ_=>⟨_,hz,rfl⟩
 have f1:=sub_AttributeError;have f3:=PySem.F.slot_zip_getattribute.lookup;have f4:=PySem.F.slot_zip_getattribute.bind (.ref z);have f5:=zk_ga;unfold getAttr? getAttrBy? getAttrBy
 repeat (any_goals (first|assumption|((with_reducible show wpAny _ _ (call (Value.builtin "zip.__getattribute__") _ _) _ _ _);refine call_meets PySem.F.slot_zip_getattribute (hT _) zEq (PySem.F.args_zip_getattribute_2 _ _) (zEr z fl _) ⟨hz,hA,λh' tk' e hx=>?_⟩)|wp_step))
 obtain⟨t',u',he⟩:=hx.there;show wpAny _ _ (getattributeRaised _ _ _ _ _ _ _) _ _ _;unfold getattributeRaised
 repeat (any_goals (first|assumption|wp_step))
 exact hQ _ _ hx.keeps
def WE:plainId "dict.update.loop"=true:=by decide +kernel
def zAo:entryFor table "dict.update.loop"=some Builtin.«dict.update.loop»:=entryFor_of_fast (by kernel_rfl)
def zAp{h h':Heap}{ks:List KN}{a:Addr}(k:IsTupleKey (wy prog w) h ks a)(e:∀o,h.get? a=some o->h'.get? a=some o):IsTupleKey (wy prog w) h' ks a:=by
 obtain⟨o,its,n,ho,r⟩:=k;exact⟨o,its,n,e o ho,r⟩
def key_lt{h:Heap}{ks:List KN}{a:Addr}(k:IsTupleKey (wy prog w) h ks a):a<h.objs.size:=by
 obtain⟨o,its,n,ho,r⟩:=k;exact lt_size ho
def ZS(z TI TO i1 i2 l1 l2:Addr)(t1 t2:Bool)(us vs:Array Value)(k:Nat)(h:Heap):Prop :=
 (∃f0 b,Wt f0/\IsZ h z TI TO f0 b)/\IsPair h TI (.ref i1) (.ref i2)/\(∃u v,IsPair h TO u v)/\(ItA t1 h i1 l1 k/\SqO h t1 l1 us)/\(ItA t2 h i2 l2 k/\SqO h t2 l2 vs)
theorem SqO.at{h h':Heap}{t:Bool}{l:Addr}{us:Array Value}(x:SqO h t l us)(e:∀o,h.get? l=some o->h'.get? l=some o):SqO h' t l us:=by
 cases t with
 |true=>exact Heap.IsTuple.at x e|false=>exact Heap.IsList.at x e
def Wp{h h':Heap}{d:Addr}{acc:List DX}(D:h.DictOfH (tupleKind (wy prog w)) d acc)(e:∀o,h.get? d=some o->h'.get? d=some o)(e2:∀x∈acc,∀o,h.get? x.2.1=some o->h'.get? x.2.1=some o):h'.DictOfH (tupleKind (wy prog w)) d acc:=by
 obtain⟨o,es,ep,h1,h2,h3,h4,h5,h6⟩:=D;exact⟨o,es,ep,e o h1,h2,h3,h4,λx hx=>zAp (h5 x hx) (e2 x hx),h6⟩
def zBU{acc:List DX}{k:List KN}{a:Addr}{v:Value}{n:Nat}(h:∀x∈acc,x.2.1<n)(ha:a<n):∀x∈storedH acc k a v,x.2.1<n:=λx hx=>by
 unfold storedH at hx;split at hx
 ·obtain⟨y,hy,rfl⟩:=mem_map.mp hx
  have:=h y hy;unfold putAt;split<;>exact this
 ·rcases mem_append.mp hx with hx|hx
  ·exact h x hx
  ·rw[mem_singleton.mp hx];exact ha
def zBV{acc:List DX}{k:List KN}{a:Addr}{v:Value}:(storedH acc k a v).length<=acc.length+1:=by
 unfold storedH;split<;>simp
def zEs{R:Result->Shared->Prop}{s0:Shared}{n0:Nat}{d z TI TO i1 i2 l1 l2:Addr}{t1 t2:Bool}{ps:List DX}{res:Value}(hA:A.handled=none)(hu:A.units+1<cLine)(D:ZipApart z TI TO i1 i2 l1 l2)
  (hd:∀c∈[z,TI,TO,i1,i2],d≠c) (hn:∀c∈[d,z,TO,i1,i2],n0<=c) (hnl:l1<n0/\l2<n0) (hk:∀p∈ps,IsTupleKey (wy prog w) s0.heap p.1 p.2.1) (hkn:s0.heap.objs.size=n0) (hl:ps.length<=1000) :
  ∀(m k:Nat) (h:Heap) (tk:Nat) (i:Int) (ti:Tok) (acc:List DX),ps.length-k=m->k<=ps.length->ZS z TI TO i1 i2 l1 l2 t1 t2 (ps.map λp=>Value.ref p.2.1).toArray (ps.map (·.2.2)).toArray k h->h.DictOfH (tupleKind (wy prog w)) d acc->acc.length<=k->(∀x∈acc,x.2.1<n0) ->
   (∀c o,s0.heap.get? c=some o->h.get? c=some o)->(∀h' tk',h'.DictOfH (tupleKind (wy prog w)) d ((ps.drop k).foldl (λa p=>storedH a p.1 p.2.1 p.2.2) acc)->(∀c o,s0.heap.get? c=some o->h'.get? c=some o)->R (.ok (.ret res)) {s0 with heap:=h',toks:=tk'}) ->
   codeAny (model prog w) A (.builtin "dict.update.loop" ⟨[.ref d,.ref z,.int i ti,res],[]⟩) R {s0 with heap:=h,toks:=tk}:=by
 have hh:A.in1.in1.handled=none:=hA;have no:∀c,c<n0->c≠d/\c≠z/\c≠TO/\c≠i1/\c≠i2:=λc hc=>⟨ne_of_lt (lt_of_lt_of_le hc (hn d (by simp))),ne_of_lt (lt_of_lt_of_le hc (hn z (by simp))),ne_of_lt (lt_of_lt_of_le hc (hn TO (by simp))),ne_of_lt (lt_of_lt_of_le hc (hn i1 (by simp))),ne_of_lt (lt_of_lt_of_le hc (hn i2 (by simp)))⟩
 have lt0:∀{c o},s0.heap.get? c=some o->c<n0:=λe=>hkn▸lt_size e
 intro m
 induction m with
 |zero =>
  intro k h tk i ti acc hm hk' st hD ha hac old hR;have ek:k=ps.length:=by omega
  subst ek;obtain⟨⟨f0,bb,hf0,hz⟩,hI,⟨u0,v0,hO⟩,h1,h2⟩:=st;refine codeAny_builtin zAo ?_;rw[Around.under_plainId WE _];show wpAny _ A.in1 (pyNext (.ref z) >>= _) _ _ _;refine qB (Yl (zDm hh t1 D.l1i1 _) (zDm hh t2 D.l2i2 _) D hz hf0 hI hO h1 h2 (λx y hx=>?_) λ_ h' kk=>?_)
  ·simp at hx
  ·show wpAny _ A.in1 (Builtin.Dict.addKeywords d [] >>= λ_=>ret res) _ _ _
   refine qB (qC (qC (hR h' tk ?_ λc o e=>?_)))
   ·rw[drop_length]
    exact Wp hD (λo e=>kk d o (hd z (by simp)) (hd TO (by simp)) (hd i1 (by simp)) (hd i2 (by simp)) e) λx hx o e=>by
     obtain⟨_,q1,q2,q3,q4⟩:=no _ (hac x hx);exact kk _ o q1 q2 q3 q4 e
   ·obtain⟨_,q1,q2,q3,q4⟩:=no _ (lt0 e)
    exact kk _ o q1 q2 q3 q4 (old c o e)
 |succ m ih =>
  intro k h tk i ti acc hm hk' st hD ha hac old hR;have hkl:k<ps.length:=by omega
  obtain⟨p,hp⟩:∃p,ps[k]?=some p:=⟨_,getElem?_eq_getElem hkl⟩;have mp:=mem_of_getElem? hp;obtain⟨⟨f0,bb,hf0,hz⟩,hI,⟨u0,v0,hO⟩,h1,h2⟩:=st;refine codeAny_builtin zAo ?_;rw[Around.under_plainId WE _];show wpAny _ A.in1 (pyNext (.ref z) >>= _) _ _ _;refine qB (Yl (zDm hh t1 D.l1i1 _) (zDm hh t2 D.l2i2 _) D hz hf0 hI hO h1 h2 (λx y hx hy h' f1 b1 w1 z1 o1 s1 s2 pq kk=>?_) λhe=>?_)
  ·have ex:x=.ref p.2.1:=by simp[hp]at hx;exact hx.symm
   have ey:y=p.2.2:=by simp[hp]at hy;exact hy.symm
   subst ex ey;refine qB (wpAny_holding (qB (wpAny_tryCatch ?_)));unfold Builtin.Dict.pairItems;refine qB (wpAny_typeOf (T:="tuple") ⟨_,pq,rfl⟩ ?_);rw[if_pos (by decide)];refine qB (wpAny_seqItems pq rfl (qC ?_));have kpD:h'.DictOfH (tupleKind (wy prog w)) d acc:=Wp hD (λo e=>kk d o (hd z (by simp)) (hd TO (by simp)) (hd i1 (by simp)) (hd i2 (by simp)) e) λx hx o e=>by
     obtain⟨_,q1,q2,q3,q4⟩:=no _ (hac x hx);exact kk _ o q1 q2 q3 q4 e
   have old':∀c o,s0.heap.get? c=some o->h'.get? c=some o:=λc o e=>by
    obtain⟨_,q1,q2,q3,q4⟩:=no _ (lt0 e);exact kk _ o q1 q2 q3 q4 (old c o e)
   have key:IsTupleKey (wy prog w) h' p.1 p.2.1:=zAp (hk p mp) (old' _);have hsl:(1000000:Nat)<=sizeLine:=by decide +kernel
   refine wpAny_holding (wpAny_dictSet_heap (tupleKind_room_in1 hu) key kpD (λh'' hm'' sb=>?_) (by omega));have stay:∀c o,c≠d->h'.get? c=some o->h''.get? c=some o:=λc o hc e=>(sb.2 c hc).trans e
   obtain⟨u1,v1,o1⟩:=o1;refine qC ⟨plainId_quiet WE _,ih (k+1) h'' _ _ _ _ (by omega) (by omega) ⟨⟨f1,b1,w1,stay _ _ (hd z (by simp)).symm z1⟩,stay _ _ (hd TI (by simp)).symm (kk TI _ D.TIz D.TITO D.TIi1 D.TIi2 hI),⟨u1,v1,stay _ _ (hd TO (by simp)).symm o1⟩,⟨Zl s1.1 λo e=>stay _ _ (hd i1 (by simp)).symm e,s1.2.at λo e=>stay _ _ (no l1 hnl.1).1 e⟩,⟨Zl s2.1 λo e=>stay _ _ (hd i2 (by simp)).symm e,s2.2.at λo e=>stay _ _ (no l2 hnl.2).1 e⟩⟩ hm'' (le_trans zBV (by omega)) (zBU hac (hkn▸key_lt (hk p mp))) (λc o e=>stay _ _ (no c (lt0 e)).1 (old' c o e)) λh3 tk3 hd3 old3=>hR h3 tk3 ?_ old3⟩;have:ps.drop k=p::ps.drop (k+1):=by
    rw[<- List.getElem_cons_drop hkl];congr 1;exact(qG.mp hp).2
   rw[this];exact hd3
  ·exfalso
   rcases he with he|he<;>simp[hp]at he
def zEt{l1 l2:Addr}{t1 t2:Bool}{ps:List DX}{hz:Heap}{Q:Value->Shared->Prop}(hA:A.handled=none)(hu:A.in1.units+1<cLine)(s1:SqO s.heap t1 l1 (ps.map λp=>Value.ref p.2.1).toArray)(s2:SqO s.heap t2 l2 (ps.map (·.2.2)).toArray)(z:Zp s.heap hz (itC t1) (itC t2) l1 l2)(hk:∀p∈ps,IsTupleKey (wy prog w) s.heap p.1 p.2.1)(hl:ps.length<=1000)
  (hQ:∀h' tk d,s.heap.objs.size<=d->h'.DictOfH (tupleKind (wy prog w)) d (ps.foldl (λa p=>storedH a p.1 p.2.1 p.2.2) [])->(∀c o,s.heap.get? c=some o->h'.get? c=some o)->Q (.ref d) {s with heap:=h',toks:=tk}) :
  wpAny (model prog w) A (call (.type "dict") [.ref (s.heap.objs.size+4)]) Q E {s with heap:=hz}:=by
 have lt1:∀{c o},hz.get? c=some o->c<hz.objs.size:=λe=>lt_size e
 have hl1:l1<s.heap.objs.size:=by
  cases t1 with
  |true=>obtain⟨o,e,_⟩:=s1;exact lt_size e|false=>obtain⟨o,e,_⟩:=s1;exact lt_size e
 have hl2:l2<s.heap.objs.size:=by
  cases t2 with
  |true=>obtain⟨o,e,_⟩:=s2;exact lt_size e|false=>obtain⟨o,e,_⟩:=s2;exact lt_size e
 have D:ZipApart (s.heap.objs.size+4) (s.heap.objs.size+2) (s.heap.objs.size+3) s.heap.objs.size (s.heap.objs.size+1) l1 l2 :=
  have F:=five s.heap.objs.size;have n1:∀j:Nat,l1≠s.heap.objs.size+j:=λj=>ne_of_lt (lt_of_lt_of_le hl1 (le_add_right _ _))
  have n2:∀j:Nat,l2≠s.heap.objs.size+j:=λj=>ne_of_lt (lt_of_lt_of_le hl2 (le_add_right _ _))
  ⟨F.a1,F.a2,F.a3,F.a4,F.a5,F.a6,F.a7,F.a8,F.a9,F.a10,n1 4,n1 3,n1 0,n1 1,n2 4,n2 3,n2 0,n2 1⟩
 refine callType_codes (Q₁:=λobj s₁=>obj=.ref hz.objs.size/\s₁={s with heap:=hz.push {cls:=.type "dict",data:=.dict #[]}}) PySem.F.kt_called_dict (PySem.F.kt_typeCall_dict_1 _) PySem.F.entry_dict_init (kt_code_dict_new _ ⟨rfl,rfl⟩) ?_
 rintro obj s₁ ⟨rfl,rfl⟩
 have hnew:(hz.push {cls:=.type "dict",data:=.dict #[]}).DictOfH (tupleKind (wy prog w)) hz.objs.size []:=Heap.DictOfH.new hz;refine⟨hnew.typeIs,PySem.F.args_dict_init_2 _ _,?_⟩;unfold Builtin.«dict.__init__»;refine qB ?_;unfold Builtin.Dict.selfAndRest;refine qB (wpAny_notOrdered_dict hnew.typeIs ?_);show wpAny _ _ (pure (hz.objs.size,[Value.ref (s.heap.objs.size+4)])) _ _ _;refine qC ?_;show wpAny _ _ (Builtin.Dict.updateFrom "dict.__init__" hz.objs.size (.ref (s.heap.objs.size+4)) [] .none) _ _ _;unfold Builtin.Dict.updateFrom;have up:∀c o,hz.get? c=some o->(hz.push {cls:=.type "dict",data:=.dict #[]}).get? c=some o:=λc o e=>qA _ e
 refine qB (wpAny_typeOf (T:="zip") ⟨_,up _ _ z.z,rfl⟩ ?_);rw[if_pos (by decide)];refine qB (zk_none (A:=A.in1.in1) (up _ _ z.z) hA λh' tk kp=>?_);rw[if_pos (by rfl)];refine qB (wpAny_rule (qB (zCu (s:={s with heap:=h',toks:=tk}) (kp _ _ (up _ _ z.z)) ?_)))
 have q2:∀c o,hz.get? c=some o->h'.get? c=some o:=λc o e=>kp _ _ (up _ _ e)
 have q1:∀c o,s.heap.get? c=some o->h'.get? c=some o:=λc o e=>q2 _ _ (z.kp _ _ e)
 have ge:∀j:Nat,s.heap.objs.size<=s.heap.objs.size+j:=λj=>le_add_right _ _
 have gd:s.heap.objs.size<=hz.objs.size:=le_of_lt (lt1 z.i1);refine qC ⟨plainId_quiet WE _,zEs (A:=A.in1) (s0:=s) (n0:=s.heap.objs.size) (ps:=ps) hA hu D (λc hc=>?_) (λc hc=>?_) ⟨hl1,hl2⟩ hk rfl hl ps.length 0 h' tk _ _ [] (by simp) (zero_le _) ⟨⟨.none,false,.inl rfl,q2 _ _ z.z⟩,q2 _ _ z.a,⟨_,_,q2 _ _ z.b⟩,⟨uY (q2 _ _ z.i1),s1.at λo e=>q1 _ _ e⟩,⟨uY (q2 _ _ z.i2),s2.at λo e=>q1 _ _ e⟩⟩ (Wp hnew (λo e=>kp _ _ e) λx hx=>by cases hx) (le_refl _) (λx hx=>by cases hx) q1 λh3 tk3 hd3 old3=>?_⟩
 ·simp only[mem_cons,mem_nil_iff,or_false]at hc
  rcases hc with rfl|rfl|rfl|rfl|rfl
  ·exact ne_of_gt (lt1 z.z)
  ·exact ne_of_gt (lt1 z.a)
  ·exact ne_of_gt (lt1 z.b)
  ·exact ne_of_gt (lt1 z.i1)
  ·exact ne_of_gt (lt1 z.i2)
 ·simp only[mem_cons,mem_nil_iff,or_false]at hc
  rcases hc with rfl|rfl|rfl|rfl|rfl
  ·exact gd
  ·exact ge 4
  ·exact ge 3
  ·exact ge 0
  ·exact ge 1
 ·exact⟨rfl,hQ h3 tk3 _ gd (by simpa using hd3) old3⟩
end
open L2 PySem.Spec PyProof.Rows
section
variable{X:Cx}{K:qH}{mg:Str->Option Value}{O:L2.St}{H:Hp}
def fE(es:List DE):List DE:=es.foldl (λa e=>Z7 a e.1 e.2.1 e.2.2) []
def rDzip(K:qH)(t1 t2:Bool):List V->Hp->VK->Prop:=λvs H Q=>∃a b es,vs=[.ref a,.ref b]/\SqH K H t1 a (es.map λe:DE=>.ref e.2.1)/\SqH K H t2 b (es.map (·.2.2))/\(∀e∈es,SqT K H e.2.1 (e.1.map oV))/\es.length<=1000/\∀p,H p=none->Q (.ref p) (upd H p (Zi p (fE es)))
def mkP:List DE->List Value->List DX
 |e::es,u::us=>(e.1,e.2.1,u)::mkP es us|_,_=>[]
theorem zFy:∀{es:List DE} {us vs:List Value},ya (es.map λe:DE=>.ref e.2.1) us->ya (es.map (·.2.2)) vs->wJ es (mkP es vs)/\us=(mkP es vs).map (λp=>Value.ref p.2.1)/\vs=(mkP es vs).map (·.2.2)/\∀p∈mkP es vs,∃e∈es,p.1=e.1/\p.2.1=e.2.1
 | [],_,_,.nil,.nil=>⟨.nil,rfl,rfl,λp hp=>by cases hp⟩
 |e::es,_,_,.cons r t,.cons r' t'=>by
  obtain⟨h1,h2,h3,h4⟩:=zFy t t';cases (show _=Value.ref e.2.1 from r);refine⟨.cons ⟨rfl,rfl,r'⟩ h1,by simp only[mkP,map_cons];rw[<- h2],by simp only[mkP,map_cons];rw[<- h3],λp hp=>?_⟩;rcases mem_cons.mp hp with rfl|hp
  ·exact⟨e,qE,rfl,rfl⟩
  ·obtain⟨e',m,q⟩:=h4 p hp
   exact⟨e',qD _ m,q⟩
theorem G7:∀{es:List DE} {ps:List DX} {ac:List DE} {ac':List DX},wJ es ps->wJ ac ac'->wJ (es.foldl (λa e=>Z7 a e.1 e.2.1 e.2.2) ac) (ps.foldl (λa p=>storedH a p.1 p.2.1 p.2.2) ac')
 | [],_,_,_,.nil,g=>g
 |e::es,_,_,_,.cons (b:=p) r t,g=>by
  have q:=wJ.put (k:=e.1) (ka:=e.2.1) g r.2.2;rw[foldl_cons,foldl_cons,r.1,r.2.1];exact G7 t q
def pe_dzip{t1 t2:Bool}{a b:Expr}{ta:L2.TA}{p p0 pos pos0:Pos}(hc:X.calm=true)(hu:X.A.units+2<cLine)(hgd:Gl X "dict")(hmd:X.mg "dict"=none)(hvd:bootBuiltins "dict"=some (.type "dict"))(hg:Gl X "zip")(hm:X.mg "zip"=none)(ha:L2.PA X [a,b] ta)(h1:zc a=false)(h2:zc b=false) :
  PE X (.Call (.Name "dict" p0) [.Call (.Name "zip" p) [a,b] [] pos] [] pos0) (tCB (rDzip X.K t1 t2) ta):=by
 intro pins s O H Q I h;refine Call_ (YZ I hgd hmd hvd (PyProof.Rows.callWith_type1 (Calls.spliced_cons ?_) rfl rfl));refine Call_ (YZ I hg hm zFw (PyProof.Rows.callWith_type1 (thn (ha pos pins s O H _ I h) λus s1 ⟨vs,H1,I1,r1,q1⟩=>?_) (yC h1) (by rw[zBL h2];rfl)));obtain⟨a,b,es,ev,qa,qb,hk,hl,q⟩:=q1;subst ev;cases r1 with
 |cons r rr =>
  cases rr with
  |cons r' rr =>
   cases rr;cases r;cases r';obtain⟨u1,v1,p1⟩:=jr I1 qa;obtain⟨u2,v2,p2⟩:=jr I1 qb;obtain⟨e1,e2,e3,e4⟩:=zFy v1 v2;have hlen:(mkP es u2).length=es.length:=by have:=congrArg length (wJ.keys e1);simpa using this
   refine zCv p1 p2 λh' z=>Calls.spliced_nil ?_
   have hh:X.A.handled=none:=I1.ok.hd hc;rw[e2]at p1;have p2':SqO s1.heap t2 b ((mkP es u2).map (·.2.2)).toArray:=by rw[<- e3];exact p2
   refine zEt (s:=s1) (ps:=mkP es u2) hh hu p1 p2' z (λx hx=>?_) (by omega) λh2 tk d hd hD old=>?_
   ·obtain⟨e,m,q1,q2⟩:=e4 x hx
    rw[q1,q2];exact vg I1 (hk e m)
   ·have hn:=I1.hok.fresh hd
    have I2:Inv X pins O H1 {s1 with heap:=h2,toks:=tk}:=I1.kept (t':=tk) old
    have hsm:(d==sysModules)=false:=by
     have:=Inv.big I1;rw[beq_eq_false_iff_ne];exact ne_of_gt (lt_of_lt_of_le this hd)
    have fl:∀(es:List DE) (ac:List DE),(es.foldl (λa e=>Z7 a e.1 e.2.1 e.2.2) ac).length<=ac.length+es.length:=by
     intro es
     induction es with
     |nil=>exact λac=>le_refl _
     |cons e es ih =>
      intro ac;have:=ih (Z7 ac e.1 e.2.1 e.2.2);have q:(Z7 ac e.1 e.2.1 e.2.2).length<=ac.length+1:=by unfold Z7;split<;>simp
      simp only[foldl_cons,length_cons]at this ⊢;omega
    have hsl:(1000000:Nat)<=sizeLine:=by decide +kernel
    have dp:zFa d (fE es) h2:=Qu (X:=X) hD hsm (by have:=fl es [];simp only[length_nil]at this;unfold fE;omega) (G7 e1 .nil);have I3:Inv X pins O (upd H1 d (Zi d (fE es))) {s1 with heap:=h2,toks:=tk}:=I1.laid (t':=tk) old hd (zAR dp)
    exact⟨.ref d,_,I3,rfl,q _ hn⟩
end
end DV
namespace DV
open PySem L2
section
variable{X:Cx}{K:qH}{mg:Str->Option Value}{H:Hp}
def G8:List D->Option (List (List KN))
 | []=>some []
 |d::ds=>match G4 d,G8 ds with
  |some k,some ks=>some (k::ks)|_,_=>none
def zAq:List (List KN)->List D->List (List KN)×List D->List (List KN)×List D
 |k::ks,d::ds,acc=>zAq ks ds (GS acc.1 acc.2 k d)|_,_,acc=>acc
def G9(t1 t2:Bool):List D->Option R
 | [a,b]=>match Qt t1 a,Qt t2 b with
  |some ds,some es=>match G8 ds with
   |some ks=>if ds.length=es.length/\ds.length<=1000 then some (.dct (zAq ks es ([],[])).1 (zAq ks es ([],[])).2)else none|none=>none
  |_,_=>none
 |_=>none
theorem build:∀{ds es:List D} {ks:List (List KN)} {xs ys:List V},G8 ds=some ks->ds.length=es.length->Reps K mg H ds xs->Reps K mg H es ys->∃E:List DE,E.map (·.1)=ks/\xs=E.map (λe=>.ref e.2.1)/\ys=E.map (·.2.2)/\(∀e∈E,SqT K H e.2.1 (e.1.map oV))/\E.length=ds.length
 | [],[],ks,xs,ys,e,_,r1,r2=>by
  cases e;simp only[Reps]at r1 r2;subst r1 r2;exact⟨[],rfl,rfl,rfl,(λe he=>absurd he List.not_mem_nil),rfl⟩
 | [],_::_,_,_,_,_,h,_,_=>by cases h|_::_,[],_,_,_,_,h,_,_=>by cases h
 |d::ds,f::es,ks,xs,ys,e,h,r1,r2=>by
  simp only[G8]at e;cases e1:G4 d with
  |none=>rw[e1]at e;cases e
  |some k =>
   cases e2:G8 ds with
   |none=>rw[e1,e2]at e;cases e
   |some kt =>
    rw[e1,e2]at e;cases e;simp only[Reps]at r1 r2;obtain⟨v,xt,rfl,ra,rb⟩:=r1;obtain⟨w,yt,rfl,rc,rd⟩:=r2;obtain⟨kb,rfl,hb⟩:=ZO e1 ra;obtain⟨E,q1,q2,q3,q4,q5⟩:=build e2 (by simpa using h) rb rd;refine⟨(k,kb,w)::E,by simp[q1],by simp[q2],by simp[q3],λx hx=>?_,by simp[q5]⟩;rcases mem_cons.mp hx with rfl|hx
    ·exact hb
    ·exact q4 x hx
theorem zAr:∀{E ac:List DE} {es vs:List D},Reps K mg H es (E.map (·.2.2))->(∀e∈E,SqT K H e.2.1 (e.1.map oV))->Reps K mg H vs (ac.map (·.2.2))->(∀e∈ac,SqT K H e.2.1 (e.1.map oV)) ->
  (E.foldl (λa e=>Z7 a e.1 e.2.1 e.2.2) ac).map (·.1)=(zAq (E.map (·.1)) es (ac.map (·.1),vs)).1/\Reps K mg H (zAq (E.map (·.1)) es (ac.map (·.1),vs)).2 ((E.foldl (λa e=>Z7 a e.1 e.2.1 e.2.2) ac).map (·.2.2))/\∀e∈E.foldl (λa e=>Z7 a e.1 e.2.1 e.2.2) ac,SqT K H e.2.1 (e.1.map oV)
 | [],ac,es,vs,r,_,ra,ha=>by
  simp only[map_nil,zAq,List.foldl_nil];exact⟨trivial,ra,ha⟩
 |e::E,ac,es,vs,r,he,ra,ha=>by
  cases es with
  |nil=>simp only[map_cons,Reps]at r;cases r
  |cons d es =>
   simp only[map_cons,Reps]at r;obtain⟨v,t,h0,r1,r2⟩:=r;cases h0;obtain⟨p1,p2⟩:=ub (q:=e.1) (kb:=e.2.1) ra r1;have p3:=WD (v:=e.2.2) ha (he e qE);have ih:=zAr (ac:=Z7 ac e.1 e.2.1 e.2.2) r2 (λx hx=>he x (qD _ hx)) p2 p3;simp only[map_cons,zAq,foldl_cons];rw[p1]at ih;exact ih
def co_dzip{t1 t2:Bool}:COk K mg (rDzip K t1 t2) (G9 t1 t2):=by
 intro M H Z xs ds res Q f r e k
 match ds,e with
 | [a,b],e =>
  simp only[G9]at e;cases e1:Qt t1 a with
  |none=>rw[e1]at e;cases e
  |some ls =>
   cases e2:Qt t2 b with
   |none=>rw[e1,e2]at e;cases e
   |some es =>
    rw[e1,e2]at e;dsimp only at e;cases e3:G8 ls with
    |none=>rw[e3]at e;cases e
    |some ks =>
     rw[e3]at e;dsimp only at e;by_cases hc:ls.length=es.length/\ls.length<=1000
     ·rw[if_pos hc]at e
      cases e;obtain⟨v,w,rfl,h1,h2⟩:=zEI r;obtain⟨c,xs,rfl,c1,c2⟩:=Wn e1 h1;obtain⟨d,ys,rfl,d1,d2⟩:=Wn e2 h2;obtain⟨E,q1,q2,q3,q4,q5⟩:=build e3 hc.1 c2 d2;subst q2 q3;refine⟨c,d,E,rfl,yD zF c1,yD zF d1,λx hx=>zO zF (q4 x hx),by omega,λp hp=>?_⟩;obtain⟨w1,w2,w3⟩:=zAr (ac:=[]) (vs:=[]) d2 q4 Reps.nil (λe he=>by cases he);rw[q1]at w1 w2;have nf:=f.newDct (es:=fE E) hp w3 w2;have ns:=Step.newDct (ks:=(fE E).map (·.1)) (vs:=(zAq ks es ([],[])).2) (o:=Zi p (fE E)) f hp;have w1':(fE E).map (·.1)=(zAq ks es ([],[])).1:=w1;rw[w1']at nf ns;exact k _ _ nf ns
     ·rw[if_neg hc]at e;cases e
def ok_dzip{t1 t2:Bool}{a b:Expr}{m:MA}{p p0 pos pos0:Pos}(hc:X.calm=true)(hu:X.A.units+2<cLine)(hgd:Gl X "dict")(hmd:X.mg "dict"=none)(hvd:bootBuiltins "dict"=some (.type "dict"))(hg:Gl X "zip")(hm:X.mg "zip"=none)(ha:AOk X [a,b] m)(h1:zc a=false)(h2:zc b=false) :
  EOk X (.Call (.Name "dict" p0) [.Call (.Name "zip" p) [a,b] [] pos] [] pos0) (eCB (G9 t1 t2) m) :=
 zr (pe_dzip hc hu hgd hmd hvd hg hm ha h1 h2) λO H Q h=>Gm co_dzip h
end
inductive Op2 where
 |add|sub|mul|fdiv|mod|pow
def Op2.op:Op2->Operator
 | .add=>.Add | .sub=>.Sub | .mul=>.Mult | .fdiv=>.FloorDiv | .mod=>.Mod | .pow=>.Pow
def Op2.f:Op2->D->D->Option R
 | .add=>zBO | .sub=>subD | .mul=>vx | .fdiv=>Go | .mod=>zFi | .pow=>powD
inductive Cp where
 |lt|le|gt|ge|eq|ne|nin|isn
def Cp.op:Cp->CmpOp
 | .lt=>.Lt | .le=>.LtE | .gt=>.Gt | .ge=>.GtE | .eq=>.Eq | .ne=>.NotEq | .nin=>.NotIn | .isn=>.IsNot
def Cp.f:Cp->D->D->Option R
 | .lt=>ltD | .le=>leD | .gt=>gtD | .ge=>geD | .eq=>eqG | .ne=>neG | .nin=>inF true | .isn=>isG true
def Cp.isI:Cp->Bool
 | .lt | .le | .gt | .ge=>true
 |_=>false
def Cp.b:Cp->Int->Int->Bool
 | .lt=>ltB | .le=>leB | .gt=>gtB|_=>geB
inductive Bi where
 |len|max|all|int|tuple|sum|abs
def Bi.nm:Bi->Str
 | .len=>"len" | .max=>"max" | .all=>"all" | .int=>"int" | .tuple=>"tuple" | .sum=>"sum" | .abs=>"abs"
def Bi.f:Bi->List D->Option R
 | .len=>zBP | .max=>zCU | .all=>allD | .int=>intF | .tuple=>zFj | .sum=>zFv | .abs=>absG
inductive Ty where
 |int|bool|tuple|list|str|dict
def Ty.s:Ty->String
 | .int=>"int" | .bool=>"bool" | .tuple=>"tuple" | .list=>"list" | .str=>"str" | .dict=>"dict"
def Ty.nm:Ty->Str
 | .int=>"int" | .bool=>"bool" | .tuple=>"tuple" | .list=>"list" | .str=>"str" | .dict=>"dict"
inductive Tg where
 |n (i:Nat)
 |t (is:List Nat)
def Tg.m:Tg->MG
 | .n i=>gN i| .t is=>gT is
mutual
inductive Ex where
 |c (d:D)|gl (d:D)|var (i:Nat)|mov (i:Nat)
 |bin (o:Op2) (a b:Ex)|cmp (o:Cp) (a b:Ex)|chain (o o':Cp) (a b c:Ex)
 |neg (a:Ex)|not (a:Ex)|and (a b:Ex)
 |ifx (t:Tx) (a b:Ex)|t (as:Ax)|l (as:Ax)
 |ix (a b:Ex)|ixO (i:Nat) (b:Ex)|sl (a:Ex) (l h:Ox)
 |comp (nl:Nat) (loc capn:List Str) (caps:List Nat) (it:Ix) (tg:Tg) (tt:Tx) (el:Ex)
 |is (T:Ty) (a:Ex)|cB (b:Bi) (as:Ax)|call (k:Nat) (as:Gx)
 |frz (a:Ex)
 |dzip (t1 t2:Bool) (as:Ax)|frd (i:Nat) (a:Ex)|dgO (i:Nat) (b:Ex)
 |dcomp (nl:Nat) (loc capn:List Str) (caps:List Nat) (it:Ix) (tg:Tg) (tt:Tx) (ka va:Ex)
inductive Tx where
 |tAnd (a b:Tx)|tOr (a b:Tx)|tNot (a:Tx)|tE (a:Ex)|tTr
inductive Ax where
 |nil|cons (a:Ex) (as:Ax)
inductive Gx where
 |nil|ev (a:Ex) (as:Gx)|lend (i:Nat) (as:Gx)
inductive Ox where
 |oN|oS (a:Ex)
inductive Ix where
 |iL (a:Ex)|iT (a:Ex)|iR1 (as:Ax)|iR2 (as:Ax)|iZ (t1 t2:Bool) (as:Ax)|iE (t1:Bool) (as:Ax)
end
mutual
inductive Sx where
 |sIf (t:Tx) (a b:Bx)|sSet (i:Nat) (a:Ex)|sRet (a:Ex)|sDrop (a:Ex)|sIx (i:Nat) (b a:Ex)
 |sForL (a:Ex) (tg:Tg) (b:Bx)|sForR1 (as:Ax) (tg:Tg) (b:Bx)|sForI (it:Ix) (tg:Tg) (b:Bx)
 |sDput (i:Nat) (b a:Ex)|sDaug (i:Nat) (b a:Ex)
 |sAny|sTup (is:List Nat) (a:Ex)|sPar (i j:Nat) (as:Ax)
 |sWhile (t:Tx) (b:Bx)|sAug (i:Nat) (o:Op2) (a:Ex)
inductive Bx where
 |bNil|bOne (s:Sx)|bSeq (s:Sx) (b:Bx)
end
structure FI where
 x:Str
 n:Nat
 lv:Nat
 wild:Bool
 F:MF
def fiF(fs:List FI)(k:Nat):MF:=match fs[k]? with
 |some i=>i.F|none=>λ_=>.z
def fiX(fs:List FI)(k:Nat):Str:=match fs[k]? with
 |some i=>i.x|none=>""
def Op2.aug:Op2->Int->Int->Option Int
 | .add=>λa b=>some (a+b)| .sub=>λa b=>some (a-b)| .mul=>G0|_=>λ_ _=>none
def Op2.isAug:Op2->Bool
 | .add | .sub | .mul=>true
 |_=>false
def QA(m:ME):ME:=λE=>match m E with
 | .exc _ _=>.z|o=>o
def v4(m:MS):MS:=λE=>match m E with
 | .exc _ _=>.z|o=>o
def Wq{m:ME}{E:zM}{p:R×zM}(h:m E=.ok p):QA m E=.ok p:=by simp only[QA,h]
def ud{m:MS}{E:zM}{p:Fl×zM}(h:m E=.ok p):v4 m E=.ok p:=by simp only[v4,h]
def no_E{X:Cx}{e:Expr}{m:ME}(h:EOk X.nox e m):EOk X e (QA m):=zr h.nox λO H Q ⟨M,E,hl,fr,k⟩=>by
 unfold QA at k;refine⟨M,E,hl,fr,?_⟩;cases e:m E with
 |z=>rw[e]at k;exact k|exc x E1=>rw[e]at k;exact k.elim|ok p=>rw[e]at k;exact k
def no_S{X:Cx}{st:Stmt}{m:MS}(h:SOk X.nox st m):SOk X st (v4 m):=λpins s O H D I ⟨M,E,hl,fr,k⟩=>by
 refine wpAny_mono (h pins s O H D (I.wish _) ⟨M,E,hl,fr,?_⟩) (λ_ _ q=>q.unwish) λ_ _ z=>False.elim z
 unfold v4 at k;cases e:m E with
 |z=>rw[e]at k;exact k|exc x E1=>rw[e]at k;exact k.elim
 |ok p =>
  rw[e]at k;obtain⟨fl,E1⟩:=p;cases fl<;>exact k
def sk_forN{X:Cx}{st:Stmt}{mi:MI}{tg:MG}{body:MS}(h1:PS X st (λD O H=>tMI X mi O H λ_ _=>False))(h2:SOk X st (v4 (sForI mi tg body))):SOk X st (zCy mi tg body):=λpins s O H D I ⟨M,E,hl,fr,k⟩=>by
 unfold zCy at k;cases e:mi E with
 |exc x E1=>rw[e]at k;exact h1 pins s O H D I ⟨M,E,hl,fr,by rw[e];exact λH' g=>k O H' g⟩|z=>rw[e]at k;exact h2 pins s O H D I ⟨M,E,hl,fr,k⟩|ok p=>rw[e]at k;exact h2 pins s O H D I ⟨M,E,hl,fr,k⟩
def zFz{i:Nat}{m:ME}:v4 (sSet i m)=sSet i (QA m):=by
 funext E
 simp only[v4,sSet,QA];cases m E with
 |z=>rfl|exc x E1=>rfl
 |ok p =>
  obtain⟨r,E1⟩:=p;dsimp only;cases Z9 i r E1<;>rfl
mutual
def dE(fs:List FI):Ex->ME
 | .c d=>eC d| .gl d=>eC d| .var i=>zBK i| .mov i=>zCZ i| .bin o a b=>Z5 o.f (dE fs a) (dE fs b)| .cmp o a b=>Z5 o.f (dE fs a) (dE fs b)| .chain o o' a b c=>jq o.b o'.b (dE fs a) (dE fs b) (dE fs c)| .neg a=>eNeg (dE fs a)| .not a=>zCN (dE fs a)| .and a b=>zAW (dE fs a) (dE fs b)| .ifx t a b=>eIf (dT fs t) (dE fs a) (dE fs b)| .t as=>zCP (dA fs as)| .l as=>zCQ (dA fs as)| .ix a b=>Z5 ixD (dE fs a) (dE fs b)| .ixO i b=>eIxO i (dE fs b)| .sl a l h=>eSl slD (dE fs a) (dO fs l) (dO fs h)| .comp nl _ _ caps it tg tt el=>QA (ZJ nl caps (dI fs it) tg.m (dT fs tt) (dE fs el))| .is T a=>eIs T.s (dE fs a)| .cB b as=>eCB b.f (dA fs as)| .call k as=>wO (fiF fs k) (dG fs as)| .frz a=>eFrz (dE fs a)| .dgO i b=>eDgO i (dE fs b)| .frd i a=>eFrd i (dE fs a)| .dzip t1 t2 as=>eCB (G9 t1 t2) (dA fs as)| .dcomp nl _ _ caps it tg tt ka va=>QA (Wo nl caps (dI fs it) tg.m (dT fs tt) (maD (dE fs ka) (dE fs va)))
def dT(fs:List FI):Tx->MT
 | .tAnd a b=>Yg (dT fs a) (dT fs b)| .tOr a b=>zBN (dT fs a) (dT fs b)| .tNot a=>ZE (dT fs a)| .tE a=>tT (dE fs a)| .tTr=>uU
def dA(fs:List FI):Ax->MA
 | .nil=>zCO| .cons a as=>ZF (dE fs a) (dA fs as)
def dG(fs:List FI):Gx->List Arg
 | .ev a as=>.ev (dE fs a)::dG fs as| .lend i as=>.lend i::dG fs as| .nil=>[]
def dO(fs:List FI):Ox->MO
 | .oN=>zEK| .oS a=>zCW (dE fs a)
def dI(fs:List FI):Ix->MI
 | .iL a=>iL (dE fs a)| .iT a=>iT (dE fs a)| .iR1 as=>iR1 (dA fs as)| .iR2 as=>iR2 (dA fs as)| .iZ t1 t2 as=>iZ t1 t2 (dA fs as)| .iE t1 as=>iE t1 (dA fs as)
end
mutual
def dS(fs:List FI):Sx->MS
 | .sIf t a b=>sIf (dT fs t) (dB fs a) (dB fs b)| .sSet i a=>sSet i (dE fs a)| .sRet a=>sRet (dE fs a)| .sDrop a=>sDrop (dE fs a)| .sIx i b a=>Wg i (dE fs b) (dE fs a)| .sDput i b a=>DV.sDput i (dE fs b) (dE fs a)| .sDaug i b a=>DV.sDaug i (dE fs b) (dE fs a)| .sTup is a=>sTup is (dE fs a)| .sPar i j as=>sPar i j (dA fs as)| .sForL a tg b=>v4 (sForL (dE fs a) tg.m (dB fs b))| .sForI it tg b=>zCy (dI fs it) tg.m (dB fs b)| .sForR1 a tg b=>v4 (sForR1 (dA fs a) tg.m (dB fs b))| .sAny=>λ_=>.z| .sWhile t b=>v4 (DV.sWhile (dT fs t) (dB fs b))| .sAug i o a=>DV.sAug i o.aug (dE fs a)
def dB(fs:List FI):Bx->MS
 | .bNil=>zCX| .bOne s=>dS fs s| .bSeq s b=>zAZ (dS fs s) (dB fs b)
end
def rE_c{fs d}:dE fs (.c d)=eC d:=rfl
def rE_gl{fs d}:dE fs (.gl d)=eC d:=rfl
def Jo{fs i}:dE fs (.var i)=zBK i:=rfl
def rE_mov{fs i}:dE fs (.mov i)=zCZ i:=rfl
def v5{fs o a b}:dE fs (.bin o a b)=Z5 o.f (dE fs a) (dE fs b):=rfl
def QB{fs o a b}:dE fs (.cmp o a b)=Z5 o.f (dE fs a) (dE fs b):=rfl
def WF{fs o o' a b c}:dE fs (.chain o o' a b c)=jq o.b o'.b (dE fs a) (dE fs b) (dE fs c):=rfl
def zAs{fs a b}:dE fs (.and a b)=zAW (dE fs a) (dE fs b):=rfl
def zF0{fs t a b}:dE fs (.ifx t a b)=eIf (dT fs t) (dE fs a) (dE fs b):=rfl
def zF1{fs as}:dE fs (.t as)=zCP (dA fs as):=rfl
def QC{fs as}:dE fs (.l as)=zCQ (dA fs as):=rfl
def rE_ix{fs a b}:dE fs (.ix a b)=Z5 ixD (dE fs a) (dE fs b):=rfl
def zF2{fs i b}:dE fs (.ixO i b)=eIxO i (dE fs b):=rfl
def rE_sl{fs a l h}:dE fs (.sl a l h)=eSl slD (dE fs a) (dO fs l) (dO fs h):=rfl
def ue{fs nl u1 u2 caps it tg tt el}:dE fs (.comp nl u1 u2 caps it tg tt el)=QA (ZJ nl caps (dI fs it) tg.m (dT fs tt) (dE fs el)):=rfl
def rE_is{fs T a}:dE fs (.is T a)=eIs T.s (dE fs a):=rfl
def zEu{fs b as}:dE fs (.cB b as)=eCB b.f (dA fs as):=rfl
def jR{fs k as}:dE fs (.call k as)=wO (fiF fs k) (dG fs as):=rfl
def zF3{fs a}:dE fs (.frz a)=eFrz (dE fs a):=rfl
def zF4{fs i b}:dE fs (.dgO i b)=eDgO i (dE fs b):=rfl
def zF5{fs i a}:dE fs (.frd i a)=eFrd i (dE fs a):=rfl
def rE_dzip{fs t1 t2 as}:dE fs (.dzip t1 t2 as)=eCB (G9 t1 t2) (dA fs as):=rfl
def zEv{fs nl u1 u2 caps it tg tt ka va}:dE fs (.dcomp nl u1 u2 caps it tg tt ka va)=QA (Wo nl caps (dI fs it) tg.m (dT fs tt) (maD (dE fs ka) (dE fs va))):=rfl
def zC2{fs a b}:dT fs (.tAnd a b)=Yg (dT fs a) (dT fs b):=rfl
def rT_tOr{fs a b}:dT fs (.tOr a b)=zBN (dT fs a) (dT fs b):=rfl
def rT_tNot{fs a}:dT fs (.tNot a)=ZE (dT fs a):=rfl
def zEw{fs a}:dT fs (.tE a)=tT (dE fs a):=rfl
def zAt{fs}:dT fs (.tTr)=uU:=rfl
def Wr{fs}:dA fs (.nil)=zCO:=rfl
def Qx{fs a as}:dA fs (.cons a as)=ZF (dE fs a) (dA fs as):=rfl
def uf{fs a as}:dG fs (.ev a as)=.ev (dE fs a)::dG fs as:=rfl
def ug{fs i as}:dG fs (.lend i as)=.lend i::dG fs as:=rfl
def wP{fs}:dG fs (.nil)=[]:=rfl
def rO_oN{fs}:dO fs (.oN)=zEK:=rfl
def rO_oS{fs a}:dO fs (.oS a)=zCW (dE fs a):=rfl
def rI_iL{fs a}:dI fs (.iL a)=iL (dE fs a):=rfl
def rI_iT{fs a}:dI fs (.iT a)=iT (dE fs a):=rfl
def rI_iR1{fs as}:dI fs (.iR1 as)=iR1 (dA fs as):=rfl
def rI_iR2{fs as}:dI fs (.iR2 as)=iR2 (dA fs as):=rfl
def rI_iZ{fs t1 t2 as}:dI fs (.iZ t1 t2 as)=iZ t1 t2 (dA fs as):=rfl
def rI_iE{fs t1 as}:dI fs (.iE t1 as)=iE t1 (dA fs as):=rfl
def QD{fs t a b}:dS fs (.sIf t a b)=sIf (dT fs t) (dB fs a) (dB fs b):=rfl
def Ws{fs i a}:dS fs (.sSet i a)=sSet i (dE fs a):=rfl
def JI{fs a}:dS fs (.sRet a)=sRet (dE fs a):=rfl
def zEx{fs a}:dS fs (.sDrop a)=sDrop (dE fs a):=rfl
def zF6{fs i b a}:dS fs (.sIx i b a)=Wg i (dE fs b) (dE fs a):=rfl
def zEy{fs i b a}:dS fs (.sDput i b a)=DV.sDput i (dE fs b) (dE fs a):=rfl
def zEz{fs i b a}:dS fs (.sDaug i b a)=DV.sDaug i (dE fs b) (dE fs a):=rfl
def rS_sTup{fs is a}:dS fs (.sTup is a)=sTup is (dE fs a):=rfl
def rS_sPar{fs i j as}:dS fs (.sPar i j as)=sPar i j (dA fs as):=rfl
def zE0{fs a tg b}:dS fs (.sForL a tg b)=v4 (sForL (dE fs a) tg.m (dB fs b)):=rfl
def zE1{fs it tg b}:dS fs (.sForI it tg b)=zCy (dI fs it) tg.m (dB fs b):=rfl
def zC3{fs a tg b}:dS fs (.sForR1 a tg b)=v4 (sForR1 (dA fs a) tg.m (dB fs b)):=rfl
def QE{fs t b}:dS fs (.sWhile t b)=v4 (DV.sWhile (dT fs t) (dB fs b)):=rfl
def rS_sAug{fs i o a}:dS fs (.sAug i o a)=DV.sAug i o.aug (dE fs a):=rfl
def uh{fs}:dB fs (.bNil)=zCX:=rfl
def JJ{fs s}:dB fs (.bOne s)=dS fs s:=rfl
def J8{fs s b}:dB fs (.bSeq s b)=zAZ (dS fs s) (dB fs b):=rfl
structure Sg where
 N:List Str
 sc:Scope
 top:Bool
 cs:List (Str×D)
 fs:List FI
 bs:List Str
 lv:Nat
 calm:Bool
 cl:List Str
 rs:List Str
 oc:List Str
 ri:List Str
def kIs(sg:Sg)(x:Str)(k:NameKind):Bool:=sg.sc.names.lookup x==some k
def vis(sg:Sg)(i:Nat)(x:Str):Bool:=sg.N[i]?==some x&&(kIs sg x .local||(kIs sg x .cell||kIs sg x .free))&&(!(x==("__debug__":Str))&&!(x==("__classdict__":Str)))
def glb(sg:Sg)(x:Str):Bool:=kIs sg x .globalImplicit&&!(x==("__debug__":Str))
def locd(sg:Sg)(i:Nat)(x:Str):Bool:=sg.N[i]?==some x&&(kIs sg x .local||(kIs sg x .cell&&(sg.top||sg.oc.contains x)))
def cIs:D->Const->Bool
 | .non,.none=>true| .bl b,.bool c=>b==c| .int i,.int j=>i==j| .str x,.str y=>x==y|_,_=>false
def feq:D->D->Bool
 | .non,.non=>true| .bl b,.bl c=>b==c| .int i,.int j=>i==j| .str x,.str y=>x==y|_,_=>false
def geq:D->D->Bool
 | .t [.int a,.int b],.t [.int c,.int d]=>a==c&&b==d| .t [.non,.int b],.t [.non,.int d]=>b==d|d,e=>feq d e
def gIs(sg:Sg)(x:Str)(d:D):Bool:=match sg.cs.lookup x with
 |some d'=>geq d d'|none=>false
def fIs(sg:Sg)(k:Nat)(x:Str):Bool:=match sg.fs[k]? with
 |some i=>i.x==x|none=>false
def fArg(sg:Sg)(n:Nat)(k:Nat):Bool:=match sg.fs[k]? with
 |some i=>i.n==n&&decide (i.lv<=sg.lv)&&(sg.calm||i.wild)
 |none=>false
def bIn(sg:Sg)(x:Str):Bool:=sg.bs.contains x
def gLen:Gx->Nat
 | .ev _ as=>gLen as+1| .lend _ as=>gLen as+1| .nil=>0
def zBW:Tg->Sg->Expr->Bool
 | .n i,sg,e=>match e with
  | .Name x _=>locd sg i x|_=>false
 | .t is,sg,e=>match e with
  | .Tuple es _ _=>all2 sg is es|_=>false
where all2 (sg:Sg):List Nat->List Expr->Bool
 | [],[]=>true
 |i::is,e::es=>(match e with | .Name x _=>locd sg i x|_=>false)&&all2 sg is es
 |_,_=>false
def relab(scope:Scope)(sc:Scope):Scope:={scope with names:=scope.names.map λ(n,k)=>if(k==NameKind.free&&sc.kind==.function&&sc.names.lookup n==some .cell)then(n,NameKind.cell)else(n,k)}
def capB(sg:Sg)(scope:Scope):List Nat->List Str->Bool
 | [],[]=>true|j::js,x::xs=>sg.N[j]?==some x&&scope.names.lookup x==some .free&&capB sg scope js xs|_,_=>false
def J9(sg:Sg)(N:List Str)(scope:Scope):Sg:={sg with N:=N,sc:=relab scope sg.sc,top:=false,oc:=(scope.names.filter λy=>y.2==.cell).map Prod.fst}
def QF(sg:Sg)(nl:Nat)(loc capn:List Str)(caps:List Nat)(scope:Scope):Bool :=
 loc.length==nl&&scope.kind==.function&&decide (loc++capn).Nodup&&scope.names.all (λy=>y.2 != .local||scope.names.lookup y.1==some .local)&&scope.names.all (λy=>y.2 != .cell||scope.names.lookup y.1==some .cell)
  && scope.names.all (λy=>y.2 != .free||sg.sc.names.lookup y.1==some .cell)&&capB sg scope caps capn
def isCmp:Ex->Bool
 | .cmp _ _ _=>true| .chain _ _ _ _ _=>true|_=>false
def swOk(sg:Sg)(es:List Expr)(v:Expr):Bool:=match v with
 | .Tuple vs _ _=>es.any (λe=>match e with | .Name x _=>!(kIs sg x .local)|_=>true)||vs.all (foldedForSure 8)
 |_=>true
def swB(sg:Sg)(x:Str)(px:Pos)(scope:Scope)(vp:Pos):Bool:=kIs sg x .local&&px.line==vp.line&&!(scope.names.any λy=>y.1==x&&(y.2==.local||y.2==.cell))
def isCo:Ex->Bool
 | .comp _ _ _ _ _ _ _ _=>true|_=>false
def isDc:Ex->Bool
 | .dcomp _ _ _ _ _ _ _ _ _=>true|_=>false
def setOk(sg:Sg)(x:Str)(px:Pos)(a:Ex)(v:Expr):Bool:=match v with
 | .ListComp _ _ scope vp=>sg.sc.kind==.function&&(!swB sg x px scope vp||isCo a)
 | .DictComp _ _ _ scope vp=>sg.sc.kind==.function&&(!swB sg x px scope vp||isDc a)
 |v=>J4 v
def zE2(sg:Sg)(i j:Nat)(x y:Str)(px py:Pos)(a b:Expr):Bool :=
 sg.sc.kind==.function&&sg.N[i]?==some x&&sg.N[j]?==some y&&i != j&&kIs sg x .local&&kIs sg y .local&&py.line==px.line&&!(x==y)&&!zc a&&!zc b&&!([a,b].all (foldedForSure 8))&&!([a,b].all (constantsAlone 8))
def isTr:Tx->Bool
 | .tTr=>true|_=>false
def chkZ:Ix->Expr->Bool
 | .iZ _ _ _,e=>match e with
  | .Tuple _ _ _=>true|_=>false
 | .iE _ _,e=>match e with
  | .Tuple _ _ _=>true|_=>false
 |_,_=>true
mutual
def yQ:Ex->Sg->Expr->Bool
 | .c d,_,e=>match e with
  | .Constant k _ _=>cIs d k|_=>false
 | .gl d,sg,e=>match e with
  | .Name x _=>glb sg x&&gIs sg x d|_=>false
 | .var i,sg,e=>match e with
  | .Name x _=>vis sg i x|_=>false
 | .mov i,sg,e=>match e with
  | .Name x _=>vis sg i x|_=>false
 | .bin o a b,sg,e=>match e with
  | .BinOp x op y _=>op==o.op&&(yQ a sg x&&yQ b sg y)|_=>false
 | .cmp o a b,sg,e=>match e with
  | .Compare x [op] [y] _=>op==o.op&&jp y&&(yQ a sg x&&yQ b sg y)|_=>false
 | .chain o o' a b c,sg,e=>match e with
  | .Compare x [op,op'] [y,z] _=>op==o.op&&op'==o'.op&&o.isI&&o'.isI&&jp z&&(yQ a sg x&&(yQ b sg y&&yQ c sg z))|_=>false
 | .neg a,sg,e=>match e with
  | .UnaryOp .USub x _=>yQ a sg x|_=>false
 | .not a,sg,e=>match e with
  | .UnaryOp .Not x _=>yQ a sg x|_=>false
 | .and a b,sg,e=>match e with
  | .BoolOp .And (x::y::r) p=>yQ a sg x&&(match r with | []=>yQ b sg y|z::r'=>yQ b sg (.BoolOp .And (y::z::r') p))
  |_=>false
 | .ifx t a b,sg,e=>match e with
  | .IfExp c x y _=>chkT t sg c&&(yQ a sg x&&yQ b sg y)|_=>false
 | .t as,sg,e=>match e with
  | .Tuple es _ _=>chkA as sg es|_=>false
 | .l as,sg,e=>match e with
  | .List es _=>chkA as sg es|_=>false
 | .ix a b,sg,e=>match e with
  | .Subscript x y _=>uL y&&(yQ a sg x&&yQ b sg y)|_=>false
 | .ixO i b,sg,e=>match e with
  | .Subscript (.Name x _) y _=>vis sg i x&&uL y&&yQ b sg y|_=>false
 | .sl a l h,sg,e=>match e with
  | .Subscript x (.Slice lo hi none _) _=>yQ a sg x&&(chkO l sg lo&&chkO h sg hi)|_=>false
 | .comp nl loc capn caps it tg tt el,sg,e=>match e with
  | .ListComp elt [⟨target,iter,ifs,0⟩] scope _=>sg.calm&&(QF sg nl loc capn caps scope&&jp iter&&((chkZ it target&&chkI it sg iter)&&(zBW tg (J9 sg (loc++capn) scope) target&&((match ifs with | []=>isTr tt|c::cs=>cs.isEmpty&&chkT tt (J9 sg (loc++capn) scope) c)&&yQ el (J9 sg (loc++capn) scope) elt))))
  |_=>false
 | .is T a,sg,e=>match e with
  | .Call (.Name f _) [x,.Name y _] [] _=>f == "isinstance"&&y==T.nm&&glb sg "isinstance"&&bIn sg "isinstance"&&glb sg T.nm&&bIn sg T.nm&&!zc x&&yQ a sg x|_=>false
 | .cB b as,sg,e=>match e with
  | .Call (.Name f _) (x::es) [] _=>sg.calm&&(f==b.nm&&glb sg b.nm&&bIn sg b.nm&&jo (x::es)&&chkA as sg (x::es))|_=>false
 | .call k as,sg,e=>match e with
  | .Call (.Name f _) (x::es) [] _=>glb sg f&&fIs sg k f&&fArg sg (gLen as) k&&jo (x::es)&&chkG as sg (x::es)|_=>false
 | .frz a,sg,e=>yQ a sg e| .frd i a,sg,e=>yQ a sg e
 | .dzip t1 t2 as,sg,e=>match e with
  | .Call (.Name t _) [.Call (.Name f _) [x,y] [] _] [] _=>sg.calm&&(t == "dict"&&f == "zip"&&glb sg "dict"&&bIn sg "dict"&&glb sg "zip"&&bIn sg "zip"&&!zc x&&!zc y&&chkA as sg [x,y])|_=>false
 | .dgO i b,sg,e=>match e with
  | .Subscript (.Name x _) y _=>vis sg i x&&uL y&&yQ b sg y|_=>false
 | .dcomp nl loc capn caps it tg tt ka va,sg,e=>match e with
  | .DictComp ke ve [⟨target,iter,ifs,0⟩] scope _=>sg.calm&&(QF sg nl loc capn caps scope&&jp iter&&((chkZ it target&&chkI it sg iter)&&(zBW tg (J9 sg (loc++capn) scope) target&&((match ifs with | []=>isTr tt|c::cs=>cs.isEmpty&&chkT tt (J9 sg (loc++capn) scope) c)&&(yQ ka (J9 sg (loc++capn) scope) ke&&yQ va (J9 sg (loc++capn) scope) ve)))))
  |_=>false
def chkT:Tx->Sg->Expr->Bool
 | .tAnd a b,sg,e=>match e with
  | .BoolOp .And (x::y::r) p=>chkT a sg x&&(match r with | []=>chkT b sg y|z::r'=>chkT b sg (.BoolOp .And (y::z::r') p))
  |_=>false
 | .tOr a b,sg,e=>match e with
  | .BoolOp .Or (x::y::r) p=>chkT a sg x&&(match r with | []=>chkT b sg y|z::r'=>chkT b sg (.BoolOp .Or (y::z::r') p))
  |_=>false
 | .tNot a,sg,e=>match e with
  | .UnaryOp .Not x _=>chkT a sg x|_=>false
 | .tE a,sg,e=>(zFe e||isCmp a)&&yQ a sg e
 | .tTr,_,_=>false
def chkA:Ax->Sg->List Expr->Bool
 | .nil,_,es=>es.isEmpty
 | .cons a as,sg,es=>match es with
  |x::r=>!zc x&&(yQ a sg x&&chkA as sg r)| []=>false
def chkG:Gx->Sg->List Expr->Bool
 | .nil,_,es=>es.isEmpty
 | .ev a as,sg,es=>match es with
  |x::r=>!zc x&&(yQ a sg x&&chkG as sg r)| []=>false
 | .lend i as,sg,es=>match es with
  | .Name x _::r=>vis sg i x&&chkG as sg r|_=>false
def chkO:Ox->Sg->Option Expr->Bool
 | .oN,_,o=>o.isNone
 | .oS a,sg,o=>match o with
  |some e=>yQ a sg e|none=>false
def chkI:Ix->Sg->Expr->Bool
 | .iL a,sg,e=>yQ a sg e| .iT a,sg,e=>yQ a sg e
 | .iR1 as,sg,e=>match e with
  | .Call (.Name f _) [x] [] _=>f == "range"&&glb sg "range"&&bIn sg "range"&&!zc x&&chkA as sg [x]|_=>false
 | .iR2 as,sg,e=>match e with
  | .Call (.Name f _) [x,y] [] _=>f == "range"&&glb sg "range"&&bIn sg "range"&&!zc x&&!zc y&&chkA as sg [x,y]|_=>false
 | .iE t1 as,sg,e=>match e with
  | .Call (.Name f _) [x] [] _=>f == "enumerate"&&glb sg "enumerate"&&bIn sg "enumerate"&&!zc x&&chkA as sg [x]|_=>false
 | .iZ t1 t2 as,sg,e=>match e with
  | .Call (.Name f _) [x,y] [] _=>f == "zip"&&glb sg "zip"&&bIn sg "zip"&&!zc x&&!zc y&&chkA as sg [x,y]|_=>false
end
mutual
def ui:Sx->Sg->Stmt->Bool
 | .sIf t a b,sg,e=>match e with
  | .If c x y _=>chkT t sg c&&(chkB a sg x&&chkB b sg y)|_=>false
 | .sSet i a,sg,e=>match e with
  | .Assign [.Name x px] v _=>locd sg i x&&setOk sg x px a v&&yQ a sg v|_=>false
 | .sAny,_,_=>true
 | .sWhile t b,sg,e=>match e with
  | .While c body [] _=>chkT t sg c&&chkB b sg body|_=>false
 | .sAug i o a,sg,e=>match e with
  | .AugAssign (.Name x _) op v _=>locd sg i x&&op==o.op&&o.isAug&&yQ a sg v|_=>false
 | .sTup is a,sg,e=>match e with
  | .Assign [.Tuple es k p] v _=>sg.calm&&(zBW.all2 sg is es&&J4 v&&swOk sg es v&&yQ a sg v)|_=>false
 | .sPar i j as,sg,e=>match e with
  | .Assign [.Tuple [.Name x px,.Name y py] _ _] (.Tuple [a,b] _ _) _=>sg.calm&&(zE2 sg i j x y px py a b&&chkA as sg [a,b])|_=>false
 | .sRet a,sg,e=>match e with
  | .Return (some v) _=>yQ a sg v|_=>false
 | .sDrop a,sg,e=>match e with
  | .Expr v _=>J4 v&&yQ a sg v|_=>false
 | .sIx i b a,sg,e=>match e with
  | .Assign [.Subscript (.Name x _) y _] v _=>vis sg i x&&uL y&&J4 v&&(yQ b sg y&&yQ a sg v)|_=>false
 | .sDaug i b a,sg,e=>match e with
  | .AugAssign (.Subscript (.Name x _) y _) op v _=>vis sg i x&&op==.Add&&uL y&&(yQ b sg y&&yQ a sg v)|_=>false
 | .sDput i b a,sg,e=>match e with
  | .Assign [.Subscript (.Name x _) y _] v _=>vis sg i x&&uL y&&J4 v&&(yQ b sg y&&yQ a sg v)|_=>false
 | .sForL a tg b,sg,e=>match e with
  | .For t it body [] _=>sg.calm&&(jp it&&zBW tg sg t&&(yQ a sg it&&chkB b sg body))|_=>false
 | .sForI ix tg b,sg,e=>match e with
  | .For t it body [] _=>sg.calm&&(jp it&&zBW tg sg t&&((chkZ ix t&&chkI ix sg it)&&chkB b sg body))|_=>false
 | .sForR1 as tg b,sg,e=>match e with
  | .For t (.Call (.Name f _) [x] [] _) body [] _=>sg.calm&&(f == "range"&&glb sg "range"&&bIn sg "range"&&!zc x&&zBW tg sg t&&(chkA as sg [x]&&chkB b sg body))|_=>false
def chkB:Bx->Sg->List Stmt->Bool
 | .bNil,_,l=>l.isEmpty
 | .bOne a,sg,l=>match l with
  | [s]=>ui a sg s|_=>false
 | .bSeq a b,sg,l=>match l with
  |s::r=>ui a sg s&&chkB b sg r|_=>false
end
structure SgOk(X:Cx)(sg:Sg):Prop where
 N:X.N=sg.N
 sc:X.env.scope=sg.sc
 fn:sg.top=true->∀x,X.fn x=true
 oc:∀x∈sg.oc,X.env.scope.names.lookup x=some .cell->X.fn x=true
 calm:sg.calm=true->X.calm=true
 hd:sg.calm=true->X.A.handled=none
 stk:sg.top=true->X.stack=X.env::X.outer/\X.env.frame=some X.env.locals
 nd:X.N.Nodup
 cs:∀x d,sg.cs.lookup x=some d->∃u v,X.mg x=some u/\yK v u/\∀H,Rep X.K X.mg H d v
 fs:∀i∈sg.fs,∃f fd ps,X.mg i.x=some (.ref f)/\keepIn X.K (.ref f)=true/\Z3 X.K fd ps []/\ps.length=i.n/\FnOkN (!i.wild) X.prog X.w X.K X.mg X.base i.lv f fd ps (spM X.K X.mg i.n i.F)
 bs:∀x∈sg.bs,X.mg x=none
 room:RoomN sg.lv X.A
 cl:sg.cl≠[]->∃T,X.mg "ThrowError"=some (.ref T)/\TCls X.K T/\∀c∈sg.cl,∃C,X.mg c=some (.ref C)/\XCls X.K c C T/\C≠T
 rs:∀c∈sg.rs,∃C,X.mg c=some (.ref C)/\excIn X.K C VB "ValueError.__new__"=true
 sm:SmOk X.K
 ri:∀c∈sg.ri,RIok X.prog X.w X.K X.mg X.base c/\RAok X.K X.mg c
section
variable{X:Cx}{sg:Sg}
def wv(G:SgOk X sg){x:Str}{k:NameKind}(h:kIs sg x k=true):X.env.scope.names.lookup x=some k:=by
 rw[G.sc];simpa[kIs]using h
def wQ(G:SgOk X sg){x:Str}(h:glb sg x=true):Gl X x/\(x==("__debug__":Str))=false:=by
 simp only[glb,Bool.and_eq_true,Bool.not_eq_true']at h;exact⟨wv G h.1,h.2⟩
def Zm(G:SgOk X sg){x:Str}{i:Nat}{pos:Pos}(h:vis sg i x=true):PE X (.Name x pos) (Qd i):=by
 simp only[vis,Bool.and_eq_true,Bool.or_eq_true,Bool.not_eq_true']at h;refine pe_var (by rw[G.N];simpa using h.1.1) ?_ h.2.1 h.2.2;rcases h.1.2 with q|q|q
 ·exact .inl (wv G q)
 ·exact .inr (.inl (wv G q))
 ·exact .inr (.inr (wv G q))
def ul(G:SgOk X sg){x:Str}{i:Nat}(h:locd sg i x=true):X.N[i]?=some x/\Loc X.env.scope x/\(X.fn x=true\/X.env.scope.names.lookup x=some .local):=by
 simp only[locd,Bool.and_eq_true,Bool.or_eq_true]at h;refine⟨by rw[G.N];simpa using h.1,?_⟩;rcases h.2 with q|q
 ·exact⟨.inl (wv G q),.inr (wv G q)⟩
 ·refine⟨.inr (wv G q.1),.inl ?_⟩
  rcases q.2 with q2|q2
  ·exact G.fn q2 x
  ·exact G.oc x (by simpa using q2) (wv G q.1)
def Jp(G:SgOk X sg){x:Str}(h:bIn sg x=true):X.mg x=none:=G.bs x (by simpa[bIn]using h)
def feq_of{d d':D}(h:feq d d'=true):d=d':=by
 cases d<;>cases d'<;>simp[feq]at h<;>first|rfl|(subst h;rfl)
def geq_of{d d':D}(h:geq d d'=true):d=d':=by
 unfold geq at h;split at h
 ·obtain⟨h1,h2⟩:=Bool.and_eq_true_iff.mp h
  have:=beq_iff_eq.mp h1;have:=beq_iff_eq.mp h2
  subst_vars;rfl
 ·have:=beq_iff_eq.mp h
  subst_vars;rfl
 ·exact feq_of h
def ok_glR{x:Str}{d:D}{u:Value}{v:V}{pos:Pos}(hg:Gl X x)(hm:X.mg x=some u)(r:yK v u)(hr:∀H,Rep X.K X.mg H d v)(hd:(x==("__debug__":Str))=false):EOk X (.Name x pos) (eC d) :=
 zr (pe_glob hg hm r hd) λO H Q ⟨M,E,hl,fr,k⟩=>k _ H ((Got.refl (T0:=[]) hl fr).more (T:=[(some v,.v d)]) (FR.add fr (hr _)) Step.refl.add)
def fIs_of{k:Nat}{x:Str}(h:fIs sg k x=true):∃i,sg.fs[k]?=some i/\i.x=x:=by
 unfold fIs at h;split at h
 ·rename_i i e;exact⟨i,e,by simpa using h⟩
 ·cases h
def fArg_of{k n:Nat}(h:fArg sg n k=true):∃i,sg.fs[k]?=some i/\i.n=n/\i.lv<=sg.lv/\(sg.calm||i.wild)=true:=by
 unfold fArg at h;split at h
 ·rename_i i e
  simp only[Bool.and_eq_true,decide_eq_true_eq,beq_iff_eq]at h;exact⟨i,e,h.1.1,h.1.2,by simpa using h.2⟩
 ·cases h
def hd_of(G:SgOk X sg){b:Bool}(h:(sg.calm||b)=true):(!b)=true->X.A.handled=none:=λhb=>G.hd (by
 cases b with
 |true=>cases hb|false=>simpa using h)
def fiF_of{fs:List FI}{k:Nat}{i:FI}(h:fs[k]?=some i):fiF fs k=i.F/\fiX fs k=i.x:=by
 unfold fiF fiX;rw[h];exact⟨rfl,rfl⟩
def ZQ{b:Expr}(h:uL b=true):WX b:=by
 intro o i;cases b<;>first|rfl|(cases h)
def Zn(es:List Expr)(is:List Nat)(G:SgOk X sg)(h:zBW.all2 sg is es=true):PGs X es (J6 is)/\(assignEach es X.env).length=is.length/\(assignEach es X.env).findIdx? (·.1)=none:=by
 induction es generalizing is with
 |nil =>
  cases is with
  |nil=>exact⟨pgs_nil,rfl,rfl⟩|cons i is=>cases h
 |cons e es ih =>
  cases is with
  |nil=>cases h
  |cons i is =>
   simp only[zBW.all2,Bool.and_eq_true]at h;obtain⟨h1,h2⟩:=h;cases e with
   |Name x pos =>
    obtain⟨q1,q2,q3⟩:=ul G h1;obtain⟨i1,i2,i3⟩:=ih is h2;refine⟨zDt (zBp G.nd q1 q2 q3) i1 rfl,?_,?_⟩
    ·show(assignEach es X.env).length+1=_
     rw[i2];rfl
    ·show List.findIdx? _ ((false,_)::assignEach es X.env)=none
     simp only[List.findIdx?_cons,i3];rfl
   |_=>cases h1
def gOf(K:qH):Tg->TG
 | .n i=>GU i| .t is=>gTup K is.length (J6 is)
def WU(tg:Tg):GOk X (gOf X.K tg) tg.m:=by
 cases tg with
 |n i=>exact go_name i|t is=>exact zFl is rfl
def Qy{tg:Tg}{t:Expr}(hcm:sg.calm=true)(G:SgOk X sg)(h:zBW tg sg t=true):PG X t (gOf X.K tg):=by
 cases tg with
 |n i =>
  simp only[zBW]at h;cases t with
  |Name x pos =>
   obtain⟨q1,q2,q3⟩:=ul G h;exact zBp G.nd q1 q2 q3
  |_=>cases h
 |t is =>
  simp only[zBW]at h;cases t with
  |Tuple es k pos =>
   obtain⟨q1,q2,q3⟩:=Zn es is G h;exact zFS (G.calm hcm) q1 q2 q3
  |_=>cases h
def WG(G:SgOk X sg){N:List Str}{scope:Scope}(hn:N.Nodup)(hcell:∀y∈scope.names,y.2=.cell->scope.names.lookup y.1=some .cell){cl C ex s H}:SgOk (cxB X N scope cl C ex s H) (J9 sg N scope) where
 N:=rfl
 sc:=by
  show relabel scope X.env=relab scope sg.sc
  rw[<- G.sc];rfl
 fn:=λh=>by cases h
 oc:=λx h _=>by
  obtain⟨y,hy,rfl⟩:=mem_map.mp (show x∈(scope.names.filter λy=>y.2==.cell).map Prod.fst from h);obtain⟨q1,q2⟩:=mem_filter.mp hy;show(scope.names.lookup y.1==some NameKind.cell)=true;rw[hcell y q1 (by simpa using q2)];rfl
 calm:=G.calm
 hd:=G.hd
 stk:=λh=>by cases h
 nd:=hn
 cs:=G.cs
 fs:=G.fs
 bs:=G.bs
 room:=G.room
 cl:=G.cl
 rs:=G.rs
 sm:=G.sm
 ri:=G.ri
def yY(G:SgOk X sg):SgOk X.nox sg:=⟨G.N,G.sc,G.fn,G.oc,G.calm,G.hd,G.stk,G.nd,G.cs,G.fs,G.bs,G.room,G.cl,G.rs,G.sm,G.ri⟩
end
section
open Bool
def kit_of(K:qH)(T:Ty):Kit K T.s:=by
 cases T
 ·exact kit_int K
 ·exact zEW K
 ·exact zCh K
 ·exact zEX K
 ·exact kit_str K
 ·exact zEY K
def bt_of(T:Ty):bootBuiltins T.nm=some (.type T.s):=by
 cases T
 ·exact zFp
 ·exact bt_bool
 ·exact zAe
 ·exact bt_list
 ·exact bt_str
 ·exact zCi
def nm_of(T:Ty):T.nm≠"__name__":=by cases T<;>decide +kernel
def bin_of{X:Cx}{o:Op2}{a b:Expr}{ma mb:ME}{pos:Pos}(ha:EOk X a ma)(hb:EOk X b mb):EOk X (.BinOp a o.op b pos) (Z5 o.f ma mb):=by
 cases o
 ·exact zBM op_addD ro_add ha hb
 ·exact zBM op_sub ro_sub ha hb
 ·exact zBM (op_mulD.or op_repL) ro_mulG ha hb
 ·exact zBM zEH ro_fdiv ha hb
 ·exact zBM op_mod ro_mod ha hb
 ·exact zBM op_pow ro_pow ha hb
def Jq{X:Cx}{sg:Sg}(G:SgOk X sg):X.A.units+20<cLine:=by have:=G.room.un;omega
def bt_sum:bootBuiltins "sum"=some (.builtin "sum"):=by decide +kernel
def bt_abs:bootBuiltins "abs"=some (.builtin "abs"):=by decide +kernel
def yE{op:CmpOp}{b:Expr}(h:jp b=true):behindInMarks op b=false:=by
 cases b<;>first|rfl|(cases h)
def cmp_of{X:Cx}{sg:Sg}(G:SgOk X sg){o:Cp}{a b:Expr}{ma mb:ME}{pos:Pos}(hn:jp b=true)(ha:EOk X a ma)(hb:EOk X b mb):EOk X (.Compare a [o.op] [b] pos) (Z5 o.f ma mb):=by
 cases o
 ·exact Zk op_lt ro_lt (yE hn) ha hb
 ·exact Zk op_le ro_le (yE hn) ha hb
 ·exact Zk op_gt ro_gt (yE hn) ha hb
 ·exact Zk op_ge ro_ge (yE hn) ha hb
 ·exact Zk (op_eq.or (zFq (Jq G))) zFt (yE hn) ha hb
 ·exact Zk (op_ne.or (zFr (Jq G))) zFu (yE hn) ha hb
 ·exact Zk Zh (ro_in (neg:=true)) (yE hn) ha hb
 ·exact Zk zAi zAj (yE hn) ha hb
def cmpT_of{X:Cx}{sg:Sg}(G:SgOk X sg){o:Cp}{a b:Expr}{ma mb:ME}{pos:Pos}(hn:jp b=true)(ha:EOk X a ma)(hb:EOk X b mb):TOk X (.Compare a [o.op] [b] pos) (tT (Z5 o.f ma mb)):=by
 cases o
 ·exact JE op_lt ro_lt (yE hn) ha hb
 ·exact JE op_le ro_le (yE hn) ha hb
 ·exact JE op_gt ro_gt (yE hn) ha hb
 ·exact JE op_ge ro_ge (yE hn) ha hb
 ·exact JE (op_eq.or (zFq (Jq G))) zFt (yE hn) ha hb
 ·exact JE (op_ne.or (zFr (Jq G))) zFu (yE hn) ha hb
 ·exact JE Zh (ro_in (neg:=true)) (yE hn) ha hb
 ·exact JE zAi zAj (yE hn) ha hb
def zC4{o o':CmpOp}{b c:Expr}(h:jp c=true):lastMarks [o,o'] [b,c]=false:=yE h
def zAu{X:Cx}{o:Cp}(h:o.isI=true):OpR X (compareOp o.op) (rI0 λi j=>.bl (o.b i j)):=by
 cases o<;>first|exact op_lt|exact op_le|exact op_gt|exact op_ge|(cases h)
def bi_of{X:Cx}{sg:Sg}(hcm:sg.calm=true)(G:SgOk X sg)(b:Bi){x:Expr}{es:List Expr}{m:MA}{p pos:Pos}(hg:Gl X b.nm)(hm:X.mg b.nm=none)(hs:jo (x::es)=true)(ha:AOk X (x::es) m):EOk X (.Call (.Name b.nm p) (x::es) [] pos) (eCB b.f m):=by
 have h1:zc x=false:=by simp only[jo,Bool.and_eq_true,Bool.not_eq_true']at hs;exact hs.1
 have h2:jo es=true:=by simp only[jo,Bool.and_eq_true,Bool.not_eq_true']at hs;exact hs.2
 cases b with
 |len=>exact Yh Gc co_len hg hm bt_len ha (by decide +kernel) (by decide +kernel) h1 h2|max=>exact Yh (zB2 (G.calm hcm)) co_max hg hm bt_max ha (by decide +kernel) (by decide +kernel) h1 h2|all=>exact Yh (zED (G.calm hcm)) co_all hg hm bt_all ha (by decide +kernel) (by decide +kernel) h1 h2|int=>exact Gn zB3 co_int hg hm zFp ha (by decide +kernel) (by decide +kernel) h1 h2|tuple=>exact Gn uG zEJ hg hm zAe ha (by decide +kernel) (by decide +kernel) h1 h2|sum=>exact Yh (call_or (zCo (G.calm hcm)) (zCp (G.calm hcm))) co_sumG hg hm bt_sum ha (by decide +kernel) (by decide +kernel) h1 h2|abs=>exact Yh zDy co_absG hg hm bt_abs ha (by decide +kernel) (by decide +kernel) h1 h2
theorem zC5(fs:List FI):∀as:Gx,(dG fs as).length=gLen as
 | .nil=>rfl| .ev a as=>congrArg (·+1) (zC5 fs as)| .lend i as=>congrArg (·+1) (zC5 fs as)
def call_ok{X:Cx}{sg:Sg}(G:SgOk X sg){k:Nat}{as:Gx}{f:Str}{x:Expr}{es:List Expr}{p pos:Pos}(h1:glb sg f=true)(h2:fIs sg k f=true)(h3:fArg sg (gLen as) k=true)(h4:jo (x::es)=true)(ha:zFm X (x::es) (dG sg.fs as)):EOk X (.Call (.Name f p) (x::es) [] pos) (wO (fiF sg.fs k) (dG sg.fs as)):=by
 obtain⟨g1,g2⟩:=wQ G h1;obtain⟨i,e1,e2⟩:=fIs_of h2;obtain⟨i',e1',e3,e4,e5⟩:=fArg_of h3;rw[e1]at e1';cases e1';obtain⟨a,fd,ps,m1,m2,m3,m4,m5⟩:=G.fs i (mem_of_getElem? e1);rw[(fiF_of e1).1];subst e2;simp only[jo,Bool.and_eq_true,Bool.not_eq_true']at h4;rw[<- m4]at m5;exact ok_call m5 (hd_of G e5) (G.room.mono e4) g1 m1 m2 m3 ha (by rw[zC5,m4,e3]) g2 h4.1 h4.2
theorem QG{X:Cx}{sg:Sg}(G:SgOk X sg){scope:Scope}:∀{caps:List Nat} {capn:List Str},capB sg scope caps capn=true->Qq X scope caps capn
 | [],[],_=>trivial| [],_::_,h=>by cases h|_::_,[],h=>by cases h
 |j::js,x::xs,h=>by
  simp only[capB,Bool.and_eq_true]at h;exact⟨by rw[G.N];simpa using h.1.1,by simpa using h.1.2,QG G h.2⟩
end
section
def aug_of{b:Expr}(h:uL b=true):∀ov iv new,augStore b ov iv new=(do holding [new,ov,iv] (setItem ov iv new);release [new,ov,iv] [];pure .next):=by
 cases b<;>first|(intros;rfl)|(cases h)
def zF7{x:Str}{p p1:Pos}{b:Expr}{env:Env}(h:uL b=true):∀v,assign (.Subscript (.Name x p) b p1) env v=(do
   let ov <- holding [v] (eval (.Name x p) env)
   let iv <- holding [v,ov] (eval b env)
   standAt p1
   holding [v,ov,iv] (setItem ov iv v)
   release [v,ov,iv] []):=by
 intro v;cases b<;>first|rfl|(cases h)
def um{t e:Expr}{l:Nat}{env:Env}(h:J4 e=true):swapsWithSole [t] e l env=pure false:=by
 show swapsWith e (some t) l env=pure false
 exact uK h
def Qz{X:Cx}{sg:Sg}(G:SgOk X sg)(h:(sg.sc.kind==ScopeKind.function)=true):X.env.blockKind=.function:=by
 have:X.env.scope.kind=.function:=by rw[G.sc];exact beq_iff_eq.mp h
 unfold Env.blockKind;rw[this];rfl
def zC6{X:Cx}{sg:Sg}(G:SgOk X sg)(hk:(sg.sc.kind==ScopeKind.function)=true){ke ve:Expr}{gs:List Comprehension}{scope:Scope}{vp px:Pos}{x:Str}{l:Nat}:swapsWith (.DictComp ke ve gs scope vp) (some (.Name x px)) l X.env=pure (swB sg x px scope vp):=by
 show(pure (X.env.blockKind==.function&&X.env.kindOf x==some .local&&px.line==vp.line&&!(scope.names.any λ(n,k)=>n==x&&(k==.local||k==.cell))):Sem Bool)=_
 rw[Qz G hk];unfold swB kIs Env.kindOf;rw[G.sc];simp
def zF8{X:Cx}{sg:Sg}(G:SgOk X sg)(hk:(sg.sc.kind==ScopeKind.function)=true){el:Expr}{gs:List Comprehension}{scope:Scope}{vp px:Pos}{x:Str}{l:Nat}:swapsWith (.ListComp el gs scope vp) (some (.Name x px)) l X.env=pure (swB sg x px scope vp):=by
 show(pure (X.env.blockKind==.function&&X.env.kindOf x==some .local&&px.line==vp.line&&!(scope.names.any λ(n,k)=>n==x&&(k==.local||k==.cell))):Sem Bool)=_
 rw[Qz G hk];unfold swB kIs Env.kindOf;rw[G.sc];simp
theorem zF9{α β:Type}(f:α->Option β):∀l:List α,(l.filterMap f).length<=l.length
 | []=>le_refl _
 |a::l=>by
  have:=zF9 f l;rw[filterMap_cons];split
  ·simp only[length_cons];omega
  ·simp only[length_cons];omega
theorem fm_lt{α β:Type}(f:α->Option β):∀l:List α,(∃a∈l,f a=none)->(l.filterMap f).length<l.length
 | [],h=>by obtain⟨a,h,_⟩:=h;cases h
 |b::l,h=>by
  obtain⟨a,hm,hf⟩:=h;rw[filterMap_cons];rcases mem_cons.mp hm with rfl|hm
  ·rw[hf]
   have:=zF9 f l;simp only[length_cons];omega
  ·have:=fm_lt f l ⟨a,hm,hf⟩
   split
   ·simp only[length_cons];omega
   ·simp only[length_cons];omega
def sw_ok{X:Cx}{sg:Sg}(G:SgOk X sg){es:List Expr}{k:Nat}{p:Pos}{v:Expr}(h:swOk sg es v=true):swappedStores [.Tuple es k p] v X.env=pure none:=by
 cases v with
 |Tuple vs k2 p2 =>
  unfold swappedStores;dsimp only;split
  ·rfl
  split
  ·rfl
  split
  ·rfl
  rename_i hn;split
  ·rfl
  rename_i hf
  exfalso
  rcases Bool.or_eq_true _ _ |>.mp h with h|h
  ·obtain⟨e,he,hk⟩:=List.any_eq_true.mp h
   refine hn (Bool.or_eq_true _ _ |>.mpr (.inl ?_));refine bne_iff_ne.mpr (ne_of_lt (fm_lt _ es ⟨e,he,?_⟩));cases e with
   |Name x q =>
    have:X.env.kindOf x≠some .local:=λz=>by
     have z':sg.sc.names.lookup x=some .local:=by rw[<- G.sc];exact z
     simp[kIs,z']at hk
    have e1:(X.env.kindOf x==some NameKind.local)=false:=by simpa using this
    simp[e1]
   |_=>rfl
  ·exact hf h
 |_=>rfl
def sw_par0{env:Env}{x y:Str}{px py p p2:Pos}{a b:Expr}{kt k2:Nat}(hk:env.blockKind=.function)(hx:env.kindOf x=some .local)(hy:env.kindOf y=some .local)(hl:py.line=px.line)(hxy:(x==y)=false)(ha:zc a=false)(hb:zc b=false)(hf:[a,b].all (foldedForSure 8)=false)(hc:[a,b].all (constantsAlone 8)=false) :
  swappedStores [.Tuple [.Name x px,.Name y py] kt p] (.Tuple [a,b] k2 p2) env=pure (some [x,y]):=by
 have sa:∀e:Expr,(match e with | .Starred _ _=>true|_=>false)=zc e:=λe=>by cases e<;>rfl
 have e1:([Expr.Name x px,Expr.Name y py].filterMap fun
  | .Name id pos=>if env.kindOf id==some .local&&pos.line==px.line then some id else none|_=>none)=[x,y]:=by simp[hx,hy,hl]
 have e2:[x,y].eraseDups.length=2:=by
  have:y≠x:=λz=>by subst z;simp at hxy
  have h2:(y==x)=false:=by simpa using this
  simp[List.eraseDups,List.eraseDupsBy,List.eraseDupsBy.loop,h2]
 have e3:([a,b].any fun | .Starred ..=>true|_=>false)=false:=by
  simp only[any_cons,List.any_nil,Bool.or_false];rw[sa,sa,ha,hb];rfl
 show(if !(2==2||2==3)||2 != 2||env.blockKind != .function then pure none else if([a,b].any fun | .Starred ..=>true|_=>false)then pure none else
  (let names:=([Expr.Name x px,Expr.Name y py].filterMap fun
  | .Name id pos=>if env.kindOf id==some .local&&pos.line==px.line then some id else none|_=>none)
  if names.length != 2||names.eraseDups.length != names.length then pure none else if [a,b].all (foldedForSure 8)then pure none else if [a,b].all (constantsAlone 8)then(do unsupported "assign.tuple-of-constant-expressions:order-of-the-stores";pure (some names))else pure (some names)):Sem (Option (List Str)))=_
 rw[hk,e3,e1,hf,hc];simp[e2]
def sw_par{X:Cx}{sg:Sg}(G:SgOk X sg){i j:Nat}{x y:Str}{px py p p2:Pos}{a b:Expr}{kt k2:Nat}(h:zE2 sg i j x y px py a b=true):swappedStores [.Tuple [.Name x px,.Name y py] kt p] (.Tuple [a,b] k2 p2) X.env=pure (some [x,y]):=by
 unfold zE2 at h;simp only[Bool.and_eq_true,Bool.not_eq_true',beq_iff_eq,bne_iff_ne]at h;obtain⟨⟨⟨⟨⟨⟨⟨⟨⟨⟨⟨kk,_⟩,_⟩,_⟩,l1⟩,l2⟩,ln⟩,xy⟩,sa⟩,sb⟩,f1⟩,f2⟩:=h;exact sw_par0 (Qz G (by rw[kk];rfl)) (wv G l1) (wv G l2) ln xy sa sb f1 f2
def zGA{X:Cx}{op:BoolOp}{vs:List Expr}{p:Pos}{m:MT}(h:TOk X (.BoolOp op vs p) m):WOk X (.BoolOp op vs p) m:=λwh=>h
def zI{a b:Bool}(h:(a&&b)=true):a=true/\b=true:=by simpa using h
def nst{a:Bool}(h:(!a)=true):a=false:=by simpa using h
mutual
theorem sE:∀(t:Ex) {X:Cx} {sg:Sg} {e:Expr},SgOk X sg->yQ t sg e=true->EOk X e (dE sg.fs t)
 | .c d,X,sg,e,G,h=>by
  unfold yQ at h;split at h
  ·unfold cIs at h
   split at h
   ·exact ok_non
   ·have:=(beq_iff_eq.mp h);subst this;exact ok_bl
   ·have:=(beq_iff_eq.mp h);subst this;exact ok_int
   ·have:=(beq_iff_eq.mp h);subst this;exact ok_str
   ·cases h
  ·cases h
 | .gl d,X,sg,e,G,h=>by
  unfold yQ at h;split at h
  ·rename_i x _
   obtain⟨h1,h2⟩:=zI h;obtain⟨g1,g2⟩:=wQ G h1;unfold gIs at h2;split at h2
   ·rename_i d' e
    have:=geq_of h2;subst this;obtain⟨u,v,q1,q2,q3⟩:=G.cs x d e;exact ok_glR g1 q1 q2 q3 g2
   ·cases h2
  ·cases h
 | .var i,X,sg,e,G,h=>by
  unfold yQ at h;split at h
  ·exact ok_var i (Zm G h)
  ·cases h
 | .mov i,X,sg,e,G,h=>by
  unfold yQ at h;split at h
  ·exact ok_move i (Zm G h)
  ·cases h
 | .bin o a b,X,sg,e,G,h=>by
  unfold yQ at h;split at h
  ·obtain⟨h1,h2⟩:=zI h
   obtain⟨h2,h3⟩:=zI h2;have:=beq_iff_eq.mp h1;subst this;exact bin_of (sE a G h2) (sE b G h3)
  ·cases h
 | .cmp o a b,X,sg,e,G,h=>by
  unfold yQ at h;split at h
  ·obtain⟨h1,h2⟩:=zI h
   obtain⟨h1,h0⟩:=zI h1;obtain⟨h2,h3⟩:=zI h2;have:=beq_iff_eq.mp h1;subst this;exact cmp_of G h0 (sE a G h2) (sE b G h3)
  ·cases h
 | .chain o o' a b c,X,sg,e,G,h=>by
  unfold yQ at h;split at h
  ·obtain⟨h1,h2⟩:=zI h
   obtain⟨h1,k5⟩:=zI h1;obtain⟨h1,k4⟩:=zI h1;obtain⟨h1,k3⟩:=zI h1;obtain⟨k1,k2⟩:=zI h1;obtain⟨h2,h3⟩:=zI h2;obtain⟨h3,h4⟩:=zI h3;have:=beq_iff_eq.mp k1;subst this;have:=beq_iff_eq.mp k2;subst this;exact zEZ (zAu k3) (zAu k4) (sE a G h2) (sE b G h3) (sE c G h4) (zC4 k5)
  ·cases h
 | .neg a,X,sg,e,G,h=>by
  unfold yQ at h;split at h
  ·exact ok_neg (sE a G h)
  ·cases h
 | .not a,X,sg,e,G,h=>by
  unfold yQ at h;split at h
  ·exact ok_not (sE a G h)
  ·cases h
 | .and a b,X,sg,e,G,h=>by
  unfold yQ at h;split at h
  ·rename_i _ _ r _
   obtain⟨h1,h2⟩:=zI h;cases r with
   |nil=>exact zFh (sE a G h1) (ok_one (sE b G h2))|cons z r'=>exact zFh (sE a G h1) (sE b G h2)
  ·cases h
 | .ifx t a b,X,sg,e,G,h=>by
  unfold yQ at h;split at h
  ·obtain⟨h1,h2⟩:=zI h
   obtain⟨h2,h3⟩:=zI h2;exact ok_if (sT t G h1) (sE a G h2) (sE b G h3)
  ·cases h
 | .t as,X,sg,e,G,h=>by
  unfold yQ at h;split at h
  ·exact ok_tup (sA as G h)
  ·cases h
 | .l as,X,sg,e,G,h=>by
  unfold yQ at h;split at h
  ·exact ok_lst (sA as G h)
  ·cases h
 | .ix a b,X,sg,e,G,h=>by
  unfold yQ at h;split at h
  ·obtain⟨h1,h2⟩:=zI h
   obtain⟨h2,h3⟩:=zI h2;exact ok_ix ix_both ro_ix (ZQ h1) (sE a G h2) (sE b G h3)
  ·cases h
 | .ixO i b,X,sg,e,G,h=>by
  unfold yQ at h;split at h
  ·obtain⟨h1,h2⟩:=zI h
   obtain⟨h1,h3⟩:=zI h1;exact ok_ixO i (Zm G h1) (sE b G h2) (ZQ h3)
  ·cases h
 | .sl a l hh,X,sg,e,G,h=>by
  unfold yQ at h;split at h
  ·obtain⟨h1,h2⟩:=zI h
   obtain⟨h2,h3⟩:=zI h2;exact ok_sl (sE a G h1) (sO l G h2) (sO hh G h3)
  ·cases h
 | .comp nl loc capn caps it tg tt el,X,sg,e,G,h=>by
  unfold yQ at h;split at h
  ·rename_i _ _ _ ifs scope _
   obtain⟨hcm,h⟩:=zI h;obtain⟨h1,h2⟩:=zI h;obtain⟨h1,k9⟩:=zI h1;unfold QF at h1;obtain⟨h1,k7⟩:=zI h1;obtain⟨h1,k6⟩:=zI h1;obtain⟨h1,k5⟩:=zI h1;obtain⟨h1,k4⟩:=zI h1;obtain⟨h1,k3⟩:=zI h1;obtain⟨k1,k2⟩:=zI h1;obtain⟨q1,q2⟩:=zI h2;obtain⟨q0,q1⟩:=zI q1;obtain⟨q2,q3⟩:=zI q2;obtain⟨q3,q4⟩:=zI q3;have nd:(loc++capn).Nodup:=of_decide_eq_true k3;have kc:∀y∈scope.names,y.2=.cell->scope.names.lookup y.1=some .cell:=λy hy hc=>by
    have:=all_eq_true.mp k5 y hy;rw[hc]at this;simpa using this
   have I:∀cl C ex s H,SgOk (cxB X.nox (loc++capn) scope cl C ex s H) (J9 sg (loc++capn) scope):=λ_ _ _ _ _=>WG (yY G) nd kc
   refine no_E (ok_lc (X:=X.nox) loc capn (beq_iff_eq.mp k1) (λe s z=>z) (G.calm hcm) (beq_iff_eq.mp k2) (λy hy hl=>?_) (λy hy hc=>?_) (by rw[show X.env.kindOf=λn=>X.env.scope.names.lookup n from rfl,G.sc];exact k6) (QG (yY G) k7) (sI it (yY G) q1 q0) (g:=gOf X.K tg) (λcl C ex s H=>Qy (sg:=J9 sg (loc++capn) scope) hcm (I cl C ex s H) q2) (WU tg) (λcl C ex s H=>?_) (λcl C ex s H=>sE (sg:=J9 sg (loc++capn) scope) el (I cl C ex s H) q4) (jL k9))
   ·have:=all_eq_true.mp k4 y hy
    rw[hl]at this;simpa using this
   ·exact kc y hy hc
   ·cases ifs with
    |nil =>
     cases tt<;>first|(cases q3;done)|skip;exact uV
    |cons c cs =>
     obtain⟨q3,q5⟩:=zI q3;have:=isEmpty_iff.mp q3;subst this;exact uW (sT (sg:=J9 sg (loc++capn) scope) tt (I cl C ex s H) q5)
  ·cases h
 | .dcomp nl loc capn caps it tg tt ka va,X,sg,e,G,h=>by
  unfold yQ at h;split at h
  ·rename_i _ _ _ _ ifs scope _
   obtain⟨hcm,h⟩:=zI h;obtain⟨h1,h2⟩:=zI h;obtain⟨h1,k9⟩:=zI h1;unfold QF at h1;obtain⟨h1,k7⟩:=zI h1;obtain⟨h1,k6⟩:=zI h1;obtain⟨h1,k5⟩:=zI h1;obtain⟨h1,k4⟩:=zI h1;obtain⟨h1,k3⟩:=zI h1;obtain⟨k1,k2⟩:=zI h1;obtain⟨q1,q2⟩:=zI h2;obtain⟨q0,q1⟩:=zI q1;obtain⟨q2,q3⟩:=zI q2;obtain⟨q3,q4⟩:=zI q3;obtain⟨q4,q6⟩:=zI q4;have nd:(loc++capn).Nodup:=of_decide_eq_true k3;have kc:∀y∈scope.names,y.2=.cell->scope.names.lookup y.1=some .cell:=λy hy hc=>by
    have:=all_eq_true.mp k5 y hy;rw[hc]at this;simpa using this
   have I:∀cl C ex s H,SgOk (cxB X.nox (loc++capn) scope cl C ex s H) (J9 sg (loc++capn) scope):=λ_ _ _ _ _=>WG (yY G) nd kc
   refine no_E (ok_dc (X:=X.nox) loc capn (by have:=Jq G;show X.A.units<_;omega) (beq_iff_eq.mp k1) (λe s z=>z) (G.calm hcm) (beq_iff_eq.mp k2) (λy hy hl=>?_) (λy hy hc=>?_) (by rw[show X.env.kindOf=λn=>X.env.scope.names.lookup n from rfl,G.sc];exact k6) (QG (yY G) k7) (sI it (yY G) q1 q0) (g:=gOf X.K tg) (λcl C ex s H=>Qy (sg:=J9 sg (loc++capn) scope) hcm (I cl C ex s H) q2) (WU tg) (λcl C ex s H=>?_) (λcl C ex s H=>sE (sg:=J9 sg (loc++capn) scope) ka (I cl C ex s H) q4) (λcl C ex s H=>sE (sg:=J9 sg (loc++capn) scope) va (I cl C ex s H) q6) (jL k9))
   ·have:=all_eq_true.mp k4 y hy
    rw[hl]at this;simpa using this
   ·exact kc y hy hc
   ·cases ifs with
    |nil =>
     cases tt<;>first|(cases q3;done)|skip;exact uV
    |cons c cs =>
     obtain⟨q3,q5⟩:=zI q3;have:=isEmpty_iff.mp q3;subst this;exact uW (sT (sg:=J9 sg (loc++capn) scope) tt (I cl C ex s H) q5)
  ·cases h
 | .dzip t1 t2 as,X,sg,e,G,h=>by
  unfold yQ at h;split at h
  ·obtain⟨hcm,h⟩:=zI h
   obtain⟨h1,h2⟩:=zI h;obtain⟨h1,k8⟩:=zI h1;obtain⟨h1,k7⟩:=zI h1;obtain⟨h1,k6⟩:=zI h1;obtain⟨h1,k5⟩:=zI h1;obtain⟨h1,k4⟩:=zI h1;obtain⟨h1,k3⟩:=zI h1;obtain⟨k1,k2⟩:=zI h1;have:=beq_iff_eq.mp k1;subst this;have:=beq_iff_eq.mp k2;subst this;exact ok_dzip (G.calm hcm) (by have:=Jq G;omega) (wQ G k3).1 (Jp G k4) zCi (wQ G k5).1 (Jp G k6) (sA as G h2) (nst k7) (nst k8)
  ·cases h
 | .frd i a,X,sg,e,G,h=>ok_frd i (sE a G (by unfold yQ at h;exact h))
 | .dgO i b,X,sg,e,G,h=>by
  unfold yQ at h;split at h
  ·obtain⟨h1,h2⟩:=zI h
   obtain⟨h1,h3⟩:=zI h1;exact ok_dgO i (by have:=Jq G;omega) (Zm G h1) (ZQ h3) (sE b G h2)
  ·cases h
 | .is T a,X,sg,e,G,h=>by
  unfold yQ at h;split at h
  ·obtain⟨h1,h2⟩:=zI h
   obtain⟨h1,k7⟩:=zI h1;obtain⟨h1,k6⟩:=zI h1;obtain⟨h1,k5⟩:=zI h1;obtain⟨h1,k4⟩:=zI h1;obtain⟨h1,k3⟩:=zI h1;obtain⟨k1,k2⟩:=zI h1;have:=beq_iff_eq.mp k1;subst this;have:=beq_iff_eq.mp k2;subst this;exact ok_is (kit_of _ T) (wQ G k3).1 (Jp G k4) (wQ G k5).1 (Jp G k6) (bt_of T) (sE a G h2) uX (nm_of T) (wQ G k5).2 (nst k7)
  ·cases h
 | .cB b as,X,sg,e,G,h=>by
  unfold yQ at h;split at h
  ·obtain⟨hcm,h⟩:=zI h
   obtain⟨h1,h2⟩:=zI h;obtain⟨h1,k4⟩:=zI h1;obtain⟨h1,k3⟩:=zI h1;obtain⟨k1,k2⟩:=zI h1;have:=beq_iff_eq.mp k1;subst this;exact bi_of hcm G b (wQ G k2).1 (Jp G k3) k4 (sA as G h2)
  ·cases h
 | .call k as,X,sg,e,G,h=>by
  unfold yQ at h;split at h
  ·obtain⟨h1,h2⟩:=zI h
   obtain⟨h1,k4⟩:=zI h1;obtain⟨h1,k3⟩:=zI h1;obtain⟨k1,k2⟩:=zI h1;exact call_ok G k1 k2 k3 k4 (sG as G h2)
  ·cases h
 | .frz a,X,sg,e,G,h=>ok_frz (sE a G h)
theorem sT:∀(t:Tx) {X:Cx} {sg:Sg} {e:Expr},SgOk X sg->chkT t sg e=true->TOk X e (dT sg.fs t)
 | .tAnd a b,X,sg,e,G,h=>by
  unfold chkT at h;split at h
  ·rename_i _ _ r _
   obtain⟨h1,h2⟩:=zI h;cases r with
   |nil=>exact tk_w (zFg (sT a G h1) (wk_and1 (sT b G h2)))|cons z r'=>exact tk_w (zFg (sT a G h1) (zGA (sT b G h2)))
  ·cases h
 | .tOr a b,X,sg,e,G,h=>by
  unfold chkT at h;split at h
  ·rename_i _ _ r _
   obtain⟨h1,h2⟩:=zI h;cases r with
   |nil=>exact tk_w (wk_or (sT a G h1) (wk_or1 (sT b G h2)))|cons z r'=>exact tk_w (wk_or (sT a G h1) (zGA (sT b G h2)))
  ·cases h
 | .tNot a,X,sg,e,G,h=>by
  unfold chkT at h;split at h
  ·exact tk_not (sT a G h)
  ·cases h
 | .tE a,X,sg,e,G,h=>by
  obtain⟨h1,h2⟩:=zI h;rcases Bool.or_eq_true _ _ |>.mp h1 with h1|h1
  ·exact ok_test (sE a G h2) (test_of h1)
  ·cases a with
   |cmp o a b =>
    cases e with
    |Compare x v66 v67 w1 =>
     cases v66 with
     |cons op v68 =>
      cases v68 with
      |nil =>
       cases v67 with
       |cons y v69 =>
        cases v69 with
        |nil =>
         replace h2:(op==o.op&&jp y&&(yQ a sg x&&yQ b sg y))=true:=h2;obtain⟨h1,k1⟩:=zI h2;obtain⟨h1,h0⟩:=zI h1;obtain⟨k2,k3⟩:=zI k1;have:=beq_iff_eq.mp h1;subst this;exact cmpT_of G h0 (sE a G k2) (sE b G k3)
        |_=>exact absurd h2 qF
       |_=>exact absurd h2 qF
      |_=>exact absurd h2 qF
     |_=>exact absurd h2 qF
    |_=>exact absurd h2 qF
   |chain o o' a b c =>
    cases e with
    |Compare x v70 v71 w1 =>
     cases v70 with
     |cons op v72 =>
      cases v72 with
      |cons op' v73 =>
       cases v73 with
       |nil =>
        cases v71 with
        |cons y v74 =>
         cases v74 with
         |cons z v75 =>
          cases v75 with
          |nil =>
           replace h2:(op==o.op&&op'==o'.op&&o.isI&&o'.isI&&jp z&&(yQ a sg x&&(yQ b sg y&&yQ c sg z)))=true:=h2;obtain⟨h1,j2⟩:=zI h2;obtain⟨h1,k5⟩:=zI h1;obtain⟨h1,k4⟩:=zI h1;obtain⟨h1,k3⟩:=zI h1;obtain⟨k1,k2⟩:=zI h1;obtain⟨j2,j3⟩:=zI j2;obtain⟨j3,j4⟩:=zI j3;have:=beq_iff_eq.mp k1;subst this;have:=beq_iff_eq.mp k2;subst this;exact zCj (zAu k3) (zAu k4) (sE a G j2) (sE b G j3) (sE c G j4) (zC4 k5)
          |_=>exact absurd h2 qF
         |_=>exact absurd h2 qF
        |_=>exact absurd h2 qF
       |_=>exact absurd h2 qF
      |_=>exact absurd h2 qF
     |_=>exact absurd h2 qF
    |_=>exact absurd h2 qF
   |_=>cases h1
 | .tTr,X,sg,e,G,h=>absurd h qF
theorem sA:∀(t:Ax) {X:Cx} {sg:Sg} {e:List Expr},SgOk X sg->chkA t sg e=true->AOk X e (dA sg.fs t)
 | .nil,X,sg,e,G,h=>by
  have:=isEmpty_iff.mp h;subst this;exact ak_nil
 | .cons a as,X,sg,e,G,h=>by
  cases e with
  |cons x r =>
   replace h:(!zc x&&(yQ a sg x&&chkA as sg r))=true:=h;obtain⟨h1,h2⟩:=zI h;obtain⟨h2,h3⟩:=zI h2;exact ak_cons (sE a G h2) (sA as G h3) (nst h1)
  |_=>exact nf h
theorem sG:∀(t:Gx) {X:Cx} {sg:Sg} {e:List Expr},SgOk X sg->chkG t sg e=true->zFm X e (dG sg.fs t)
 | .nil,X,sg,e,G,h=>by
  have:=isEmpty_iff.mp h;subst this;exact ga_nil
 | .ev a as,X,sg,e,G,h=>by
  cases e with
  |cons x r =>
   replace h:(!zc x&&(yQ a sg x&&chkG as sg r))=true:=h;obtain⟨h1,h2⟩:=zI h;obtain⟨h2,h3⟩:=zI h2;exact ga_ev (sE a G h2) (sG as G h3) (nst h1)
  |_=>exact nf h
 | .lend i as,X,sg,e,G,h=>by
  cases e with
  |cons v76 r =>
   cases v76 with
   |Name x w1 =>
    replace h:(vis sg i x&&chkG as sg r)=true:=h;obtain⟨h1,h2⟩:=zI h;exact ga_lend (Zm G h1) (sG as G h2)
   |_=>exact nf h
  |_=>exact nf h
theorem sO:∀(t:Ox) {X:Cx} {sg:Sg} {e:Option Expr},SgOk X sg->chkO t sg e=true->OOk X e (dO sg.fs t)
 | .oN,X,sg,e,G,h=>by
  cases e with
  |none=>exact oo_none|some e=>cases h
 | .oS a,X,sg,e,G,h=>by
  cases e with
  |none=>cases h|some e=>exact oo_some (sE a G h)
theorem sI:∀(t:Ix) {X:Cx} {sg:Sg} {tg e:Expr},SgOk X sg->chkI t sg e=true->chkZ t tg=true->IOk X tg e (dI sg.fs t)
 | .iL a,X,sg,tg,e,G,h,hz=>by
  exact io_list (sE a G h)
 | .iT a,X,sg,tg,e,G,h,hz=>by
  exact io_tup (sE a G h)
 | .iR1 as,X,sg,tg,e,G,h,hz=>by
  unfold chkI at h;split at h
  ·obtain⟨h1,h2⟩:=zI h
   obtain⟨h1,k4⟩:=zI h1;obtain⟨h1,k3⟩:=zI h1;obtain⟨k1,k2⟩:=zI h1;have:=beq_iff_eq.mp k1;subst this;exact io_r1 (wQ G k2).1 (Jp G k3) (sA as G h2) (nst k4)
  ·cases h
 | .iR2 as,X,sg,tg,e,G,h,hz=>by
  unfold chkI at h;split at h
  ·obtain⟨h1,h2⟩:=zI h
   obtain⟨h1,k5⟩:=zI h1;obtain⟨h1,k4⟩:=zI h1;obtain⟨h1,k3⟩:=zI h1;obtain⟨k1,k2⟩:=zI h1;have:=beq_iff_eq.mp k1;subst this;exact io_r2 (wQ G k2).1 (Jp G k3) (sA as G h2) (nst k4) (nst k5)
  ·cases h
 | .iE t1 as,X,sg,tg,e,G,h,hz=>by
  unfold chkI at h;split at h
  ·obtain⟨h1,h2⟩:=zI h
   obtain⟨h1,k4⟩:=zI h1;obtain⟨h1,k3⟩:=zI h1;obtain⟨k1,k2⟩:=zI h1;have:=beq_iff_eq.mp k1;subst this;cases tg with
   |Tuple tE tX tP=>exact io_enum (wQ G k2).1 (Jp G k3) (sA as G h2) (nst k4)|_=>exact absurd hz qF
  ·cases h
 | .iZ t1 t2 as,X,sg,tg,e,G,h,hz=>by
  unfold chkI at h;split at h
  ·obtain⟨h1,h2⟩:=zI h
   obtain⟨h1,k5⟩:=zI h1;obtain⟨h1,k4⟩:=zI h1;obtain⟨h1,k3⟩:=zI h1;obtain⟨k1,k2⟩:=zI h1;have:=beq_iff_eq.mp k1;subst this;cases tg with
   |Tuple tE tX tP=>exact io_zip (.inl ⟨_,_,_,rfl⟩) (wQ G k2).1 (Jp G k3) (sA as G h2) (nst k4) (nst k5)|_=>exact absurd hz qF
  ·cases h
end
def zE3{X:Cx}{sg:Sg}(G:SgOk X sg){i:Nat}{x:Str}{px spos:Pos}{nl:Nat}{loc capn:List Str}{caps:List Nat}{it:Ix}{tg:Tg}{tt:Tx}{el:Ex}{v:Expr}(hi:X.N[i]?=some x)(hx:Loc X.env.scope x)(hf:X.fn x=true\/X.env.scope.names.lookup x=some .local)
  (hsw:swapsWith v (some (.Name x px)) spos.line X.env=pure true) (h:yQ (.comp nl loc capn caps it tg tt el) sg v=true):SOk X (.Assign [.Name x px] v spos) (sSet i (dE sg.fs (.comp nl loc capn caps it tg tt el))):=by
 cases v with
 |ListComp elt v86 scope w1 =>
  cases v86 with
  |cons v87 v88 =>
   cases v87 with
   |mk target iter ifs v89 =>
    cases v89 with
    |ofNat v90 =>
     cases v90 with
     |zero =>
      cases v88 with
      |nil =>
       replace h:(sg.calm&&(QF sg nl loc capn caps scope&&jp iter&&((chkZ it target&&chkI it sg iter)&&(zBW tg (J9 sg (loc++capn) scope) target&&(_&&yQ el (J9 sg (loc++capn) scope) elt)))))=true:=h;obtain⟨hcm,h⟩:=zI h;obtain⟨h1,h2⟩:=zI h;obtain⟨h1,k9⟩:=zI h1;unfold QF at h1;obtain⟨h1,k7⟩:=zI h1;obtain⟨h1,k6⟩:=zI h1;obtain⟨h1,k5⟩:=zI h1;obtain⟨h1,k4⟩:=zI h1;obtain⟨h1,k3⟩:=zI h1;obtain⟨k1,k2⟩:=zI h1;obtain⟨q1,q2⟩:=zI h2;obtain⟨q0,q1⟩:=zI q1;obtain⟨q2,q3⟩:=zI q2;obtain⟨q3,q4⟩:=zI q3;have nd:(loc++capn).Nodup:=of_decide_eq_true k3;have kc:∀y∈scope.names,y.2=.cell->scope.names.lookup y.1=some .cell:=λy hy hc=>by
        have:=all_eq_true.mp k5 y hy;rw[hc]at this;simpa using this
       have I:∀cl C ex s H,SgOk (cxB X.nox (loc++capn) scope cl C ex s H) (J9 sg (loc++capn) scope):=λ_ _ _ _ _=>WG (yY G) nd kc
       refine zFz▸no_S (sk_lc (X:=X.nox) loc capn G.nd hi hx hf (beq_iff_eq.mp k1) (λe s z=>z) (G.calm hcm) (beq_iff_eq.mp k2) (λy hy hl=>?_) (λy hy hc=>?_) (by rw[show X.env.kindOf=λn=>X.env.scope.names.lookup n from rfl,G.sc];exact k6) (QG (yY G) k7) (sI it (yY G) q1 q0) (g:=gOf X.K tg) (λcl C ex s H=>Qy (sg:=J9 sg (loc++capn) scope) hcm (I cl C ex s H) q2) (WU tg) (λcl C ex s H=>?_) (λcl C ex s H=>sE (sg:=J9 sg (loc++capn) scope) el (I cl C ex s H) q4) (jL k9) hsw)
       ·have:=all_eq_true.mp k4 y hy
        rw[hl]at this;simpa using this
       ·exact kc y hy hc
       ·cases ifs with
        |nil =>
         cases tt<;>first|(cases q3;done)|skip;exact uV
        |cons c cs =>
         obtain⟨q3,q5⟩:=zI q3;have:=isEmpty_iff.mp q3;subst this;exact uW (sT (sg:=J9 sg (loc++capn) scope) tt (I cl C ex s H) q5)
      |_=>exact nf h
     |_=>exact nf h
    |_=>exact nf h
  |_=>exact nf h
 |_=>exact nf h
def zC7{X:Cx}{sg:Sg}(G:SgOk X sg){i:Nat}{x:Str}{px spos:Pos}{nl:Nat}{loc capn:List Str}{caps:List Nat}{it:Ix}{tg:Tg}{tt:Tx}{ka va:Ex}{v:Expr}(hi:X.N[i]?=some x)(hx:Loc X.env.scope x)(hf:X.fn x=true\/X.env.scope.names.lookup x=some .local)
  (hsw:swapsWith v (some (.Name x px)) spos.line X.env=pure true) (h:yQ (.dcomp nl loc capn caps it tg tt ka va) sg v=true):SOk X (.Assign [.Name x px] v spos) (sSet i (dE sg.fs (.dcomp nl loc capn caps it tg tt ka va))):=by
 cases v with
 |DictComp ke ve v86 scope w1 =>
  cases v86 with
  |cons v87 v88 =>
   cases v87 with
   |mk target iter ifs v89 =>
    cases v89 with
    |ofNat v90 =>
     cases v90 with
     |zero =>
      cases v88 with
      |nil =>
       replace h:(sg.calm&&(QF sg nl loc capn caps scope&&jp iter&&((chkZ it target&&chkI it sg iter)&&(zBW tg (J9 sg (loc++capn) scope) target&&(_&&(yQ ka (J9 sg (loc++capn) scope) ke&&yQ va (J9 sg (loc++capn) scope) ve))))))=true:=h;obtain⟨hcm,h⟩:=zI h;obtain⟨h1,h2⟩:=zI h;obtain⟨h1,k9⟩:=zI h1;unfold QF at h1;obtain⟨h1,k7⟩:=zI h1;obtain⟨h1,k6⟩:=zI h1;obtain⟨h1,k5⟩:=zI h1;obtain⟨h1,k4⟩:=zI h1;obtain⟨h1,k3⟩:=zI h1;obtain⟨k1,k2⟩:=zI h1;obtain⟨q1,q2⟩:=zI h2;obtain⟨q0,q1⟩:=zI q1;obtain⟨q2,q3⟩:=zI q2;obtain⟨q3,q4⟩:=zI q3;obtain⟨q4,q6⟩:=zI q4;have nd:(loc++capn).Nodup:=of_decide_eq_true k3;have kc:∀y∈scope.names,y.2=.cell->scope.names.lookup y.1=some .cell:=λy hy hc=>by
        have:=all_eq_true.mp k5 y hy;rw[hc]at this;simpa using this
       have I:∀cl C ex s H,SgOk (cxB X.nox (loc++capn) scope cl C ex s H) (J9 sg (loc++capn) scope):=λ_ _ _ _ _=>WG (yY G) nd kc
       refine zFz▸no_S (sk_dc (X:=X.nox) loc capn (by have:=Jq G;show X.A.units<_;omega) G.nd hi hx hf (beq_iff_eq.mp k1) (λe s z=>z) (G.calm hcm) (beq_iff_eq.mp k2) (λy hy hl=>?_) (λy hy hc=>?_) (by rw[show X.env.kindOf=λn=>X.env.scope.names.lookup n from rfl,G.sc];exact k6) (QG (yY G) k7) (sI it (yY G) q1 q0) (g:=gOf X.K tg) (λcl C ex s H=>Qy (sg:=J9 sg (loc++capn) scope) hcm (I cl C ex s H) q2) (WU tg) (λcl C ex s H=>?_) (λcl C ex s H=>sE (sg:=J9 sg (loc++capn) scope) ka (I cl C ex s H) q4) (λcl C ex s H=>sE (sg:=J9 sg (loc++capn) scope) va (I cl C ex s H) q6) (jL k9) hsw)
       ·have:=all_eq_true.mp k4 y hy
        rw[hl]at this;simpa using this
       ·exact kc y hy hc
       ·cases ifs with
        |nil =>
         cases tt<;>first|(cases q3;done)|skip;exact uV
        |cons c cs =>
         obtain⟨q3,q5⟩:=zI q3;have:=isEmpty_iff.mp q3;subst this;exact uW (sT (sg:=J9 sg (loc++capn) scope) tt (I cl C ex s H) q5)
      |_=>exact nf h
     |_=>exact nf h
    |_=>exact nf h
  |_=>exact nf h
 |_=>exact nf h
mutual
theorem sS:∀(t:Sx) {X:Cx} {sg:Sg} {e:Stmt},SgOk X sg->ui t sg e=true->SOk X e (dS sg.fs t)
 | .sIf t a b,X,sg,e,G,h=>by
  unfold ui at h;split at h
  ·obtain⟨h1,h2⟩:=zI h
   obtain⟨h2,h3⟩:=zI h2;exact sk_if (sT t G h1) (sB a G h2) (sB b G h3)
  ·cases h
 | .sSet i a,X,sg,e,G,h=>by
  unfold ui at h;split at h
  ·obtain⟨h1,h2⟩:=zI h
   obtain⟨h1,h3⟩:=zI h1;obtain⟨q1,q2,q3⟩:=ul G h1;unfold setOk at h3;split at h3
   ·obtain⟨k1,k2⟩:=zI h3
    rename_i el gs scope vp;cases hb:swB sg _ _ scope vp with
    |false=>exact zCY G.nd q1 q2 (sE a G h2) (by rw[zF8 G k1,hb]) q3
    |true =>
     rw[hb]at k2;cases a with
     |comp nl loc capn caps it tg tt el'=>exact zE3 G q1 q2 q3 (by rw[zF8 G k1,hb]) h2|_=>cases k2
   ·obtain⟨k1,k2⟩:=zI h3
    rename_i ke ve gs scope vp;cases hb:swB sg _ _ scope vp with
    |false=>exact zCY G.nd q1 q2 (sE a G h2) (by rw[zC6 G k1,hb]) q3
    |true =>
     rw[hb]at k2;cases a with
     |dcomp nl loc capn caps it tg tt ka va=>exact zC7 G q1 q2 q3 (by rw[zC6 G k1,hb]) h2|_=>cases k2
   ·exact zCY G.nd q1 q2 (sE a G h2) (uK h3) q3
  ·cases h
 | .sAny,X,sg,e,G,h=>by
  exact sk_any
 | .sTup is a,X,sg,e,G,h=>by
  unfold ui at h;split at h
  ·obtain⟨hcm,h⟩:=zI h
   obtain⟨h1,h2⟩:=zI h;obtain⟨h1,k3⟩:=zI h1;obtain⟨k1,k2⟩:=zI h1;obtain⟨q1,q2,q3⟩:=Zn _ is G k1;exact sk_tup (zFS (G.calm hcm) q1 q2 q3) (sE a G h2) (um k2) (sw_ok G k3)
  ·cases h
 | .sPar i j as,X,sg,e,G,h=>by
  unfold ui at h;split at h
  ·obtain⟨hcm,h⟩:=zI h
   obtain⟨h1,h2⟩:=zI h;have h1':=h1;unfold zE2 at h1;simp only[Bool.and_eq_true,Bool.not_eq_true',beq_iff_eq,bne_iff_ne]at h1;obtain⟨⟨⟨⟨⟨⟨⟨⟨⟨⟨⟨_,n1⟩,n2⟩,n3⟩,l1⟩,l2⟩,_⟩,_⟩,_⟩,_⟩,_⟩,_⟩:=h1;exact yy (ps_par (G.calm hcm) G.nd (by rw[G.N];exact n1) (by rw[G.N];exact n2) n3 (wv G l1) (wv G l2) (sA as G h2) (sw_par G h1') (um rfl)) λD O H=>zEb
  ·cases h
 | .sRet a,X,sg,e,G,h=>by
  unfold ui at h;split at h
  ·exact sk_ret (sE a G h)
  ·cases h
 | .sDrop a,X,sg,e,G,h=>by
  unfold ui at h;split at h
  ·obtain⟨h1,h2⟩:=zI h
   exact sk_drop (sE a G h2) (uK h1)
  ·cases h
 | .sIx i b a,X,sg,e,G,h=>by
  unfold ui at h;split at h
  ·obtain⟨h1,h2⟩:=zI h
   obtain⟨h1,h0⟩:=zI h1;obtain⟨h1,h4⟩:=zI h1;obtain⟨h2,h3⟩:=zI h2;exact zEN i (Zm G h1) (sE b G h2) (sE a G h3) (zF7 h4) (um h0)
  ·cases h
 | .sDaug i b a,X,sg,e,G,h=>by
  unfold ui at h;split at h
  ·obtain⟨h1,h2⟩:=zI h
   obtain⟨h6,h4⟩:=zI h1;obtain⟨h7,h5⟩:=zI h6;obtain⟨h8,h3⟩:=zI h2;rw[eq_of_beq h5];exact sk_daug i (by have:=Jq G;omega) (Zm G h7) (sE b G h8) (sE a G h3) (aug_of h4)
  ·cases h
 | .sDput i b a,X,sg,e,G,h=>by
  unfold ui at h;split at h
  ·obtain⟨h1,h2⟩:=zI h
   obtain⟨h1,h0⟩:=zI h1;obtain⟨h1,h4⟩:=zI h1;obtain⟨h2,h3⟩:=zI h2;exact sk_dput i (by have:=Jq G;omega) (Zm G h1) (sE b G h2) (sE a G h3) (zF7 h4) (um h0)
  ·cases h
 | .sForL a tg b,X,sg,e,G,h=>by
  unfold ui at h;split at h
  ·obtain⟨hcm,h⟩:=zI h
   obtain⟨h1,h2⟩:=zI h;obtain⟨h1,h0⟩:=zI h1;obtain⟨h2,h3⟩:=zI h2;exact no_S (sk_forL (X:=X.nox) PassesOwn.never (G.calm hcm) (sE a (yY G) h2) (Qy hcm (yY G) h0) (WU tg) (sB b (yY G) h3) (jL h1))
  ·cases h
 | .sForI ix tg b,X,sg,e,G,h=>by
  unfold ui at h;split at h
  ·obtain⟨hcm,h⟩:=zI h
   obtain⟨h1,h2⟩:=zI h;obtain⟨h1,h0⟩:=zI h1;obtain⟨h2,h3⟩:=zI h2;obtain⟨h4,h2⟩:=zI h2;exact sk_forN (ps_forX (sI ix G h2 h4) (jL h1)) (no_S (sk_forI (X:=X.nox) PassesOwn.never (G.calm hcm) (sI ix (yY G) h2 h4) (Qy hcm (yY G) h0) (WU tg) (sB b (yY G) h3) (jL h1)))
  ·cases h
 | .sForR1 as tg b,X,sg,e,G,h=>by
  unfold ui at h;split at h
  ·obtain⟨hcm,h⟩:=zI h
   obtain⟨h1,h2⟩:=zI h;obtain⟨h1,k5⟩:=zI h1;obtain⟨h1,k4⟩:=zI h1;obtain⟨h1,k3⟩:=zI h1;obtain⟨k1,k2⟩:=zI h1;obtain⟨h2,h3⟩:=zI h2;have:=beq_iff_eq.mp k1;subst this;exact no_S (zEP (X:=X.nox) PassesOwn.never (G.calm hcm) (wQ (yY G) k2).1 (Jp (yY G) k3) (sA as (yY G) h2) (Qy hcm (yY G) k5) (WU tg) (sB b (yY G) h3) (nst k4) (jL rfl))
  ·cases h
 | .sWhile t b,X,sg,e,G,h=>by
  unfold ui at h;split at h
  ·obtain⟨h1,h2⟩:=zI h
   exact no_S (zEc (X:=X.nox) PassesOwn.never (sT t (yY G) h1) (sB b (yY G) h2))
  ·cases h
 | .sAug i o a,X,sg,e,G,h=>by
  unfold ui at h;split at h
  ·obtain⟨h,h2⟩:=zI h
   obtain⟨h,k2⟩:=zI h;obtain⟨h1,k1⟩:=zI h;obtain⟨q1,q2,q3⟩:=ul G h1;have:=beq_iff_eq.mp k1;subst this;cases o with
   |add=>exact zCr G.nd q1 q2 q3 (sE a G h2)|sub=>exact zCs G.nd q1 q2 q3 (sE a G h2)|mul=>exact zCt G.nd q1 q2 q3 (sE a G h2)|_=>cases k2
  ·cases h
theorem sB:∀(t:Bx) {X:Cx} {sg:Sg} {e:List Stmt},SgOk X sg->chkB t sg e=true->zBj X e (dB sg.fs t)
 | .bNil,X,sg,e,G,h=>by
  have:=isEmpty_iff.mp h;subst this;exact sk_nil
 | .bOne a,X,sg,e,G,h=>by
  cases e with
  |cons s v135 =>
   cases v135 with
   |nil =>
    replace h:(ui a sg s)=true:=h;exact sk_one (sS a G h)
   |_=>exact nf h
  |_=>exact nf h
 | .bSeq a b,X,sg,e,G,h=>by
  cases e with
  |cons s r =>
   replace h:(ui a sg s&&chkB b sg r)=true:=h;obtain⟨h1,h2⟩:=zI h;exact sk_cons (sS a G h1) (sB b G h2)
  |_=>exact nf h
end
end
def ClOk(K:qH)(mg:Str->Option Value)(cl rs:List Str):Prop :=
 (cl≠[]->∃T,mg "ThrowError"=some (.ref T)/\TCls K T/\∀c∈cl,∃C,mg c=some (.ref C)/\XCls K c C T/\C≠T)/\(∀c∈rs,∃C,mg c=some (.ref C)/\excIn K C VB "ValueError.__new__"=true)/\SmOk K
abbrev zC8(P:Program)(w:World)(K:qH)(mg:Str->Option Value)(base:Heap)(ri:List Str):Prop:=∀c∈ri,RIok P w K mg base c/\RAok K mg c
def def_ok{P:Program}{w:World}{K:qH}{mg:Str->Option Value}{base:Heap}{x:Str}{st:Stmt}{ps N:List Str}{n lv:Nat}{cs:List (Str×D)}{fs:List FI}{bs:List Str}{c:Bool}{cl rs:List Str}(t:Bx)(T:wK K mg x st ps)(S:FnScope N ps (zn st))(hn:N.length=n)
  (hcs:∀x d,cs.lookup x=some d->∃u v,mg x=some u/\yK v u/\∀H,Rep K mg H d v)
  (hfs:∀i∈fs,∃f fd ps,mg i.x=some (.ref f)/\keepIn K (.ref f)=true/\Z3 K fd ps []/\ps.length=i.n/\FnOkN (!i.wild) P w K mg base i.lv f fd ps (spM K mg i.n i.F))
  (hbs:∀x∈bs,mg x=none) (hcl:ClOk K mg cl rs) {ri:List Str} (hri:zC8 P w K mg base ri) (h:chkB t ⟨N,zn st,true,cs,fs,bs,lv,c,cl,rs,[],ri⟩ (jO st)=true):FOk P w K mg base c x (lv+1) ps (fnM n (dB fs t)):=by
 obtain⟨a,fd,hm,F,bnd⟩:=T;subst hn;refine⟨a,fd,hm,F.kp,bnd,fn_ok F S λcdv A outer s H E hd hr=>?_⟩;exact sB (sg:=⟨N,zn st,true,cs,fs,bs,lv,c,cl,rs,[],ri⟩) t ⟨rfl,rfl,λ_ _=>rfl,(λx h=>by cases h),id,hd,λ_=>⟨rfl,rfl⟩,S.nd,hcs,hfs,hbs,hr,hcl.1,hcl.2.1,hcl.2.2,hri⟩ h
def zC9(K:qH)(mg:Str->Option Value)(cs:List (Str×D)):Prop:=∀x d,cs.lookup x=some d->∃u v,mg x=some u/\yK v u/\∀H,Rep K mg H d v
def BsOk(mg:Str->Option Value)(bs:List Str):Prop:=∀x∈bs,mg x=none
def FsOk(P:Program)(w:World)(K:qH)(mg:Str->Option Value)(base:Heap)(fs:List FI):Prop :=
 ∀i∈fs,∃f fd ps,mg i.x=some (.ref f)/\keepIn K (.ref f)=true/\Z3 K fd ps []/\ps.length=i.n/\FnOkN (!i.wild) P w K mg base i.lv f fd ps (spM K mg i.n i.F)
section
variable{P:Program}{w:World}{K:qH}{mg:Str->Option Value}{base:Heap}
def cs_nil:zC9 K mg []:=λx d h=>by cases h
def zGB{x:Str}{d:D}{cs:List (Str×D)}(h:∃u v,mg x=some u/\yK v u/\∀H,Rep K mg H d v)(t:zC9 K mg cs):zC9 K mg ((x,d)::cs):=λy d' e=>by
 rw[lookup_cons]at e;cases hy:y==x with
 |true =>
  rw[hy]at e;cases e;have:y=x:=by simpa using hy
  subst this;exact h
 |false=>rw[hy]at e;exact t y d' e
def YA{x:Str}{i:Int}{cs:List (Str×D)}(h:∃t,mg x=some (.int i t))(t:zC9 K mg cs):zC9 K mg ((x,.int i)::cs):=by
 obtain⟨k,h⟩:=h;exact zGB ⟨_,.int i,h,⟨_,rfl⟩,λH=>by simp only[Rep]⟩ t
def zDA{x:Str}{d:D}{cs:List (Str×D)}(h:∃a,mg x=some (.ref a)/\∀H,Rep K mg H d (.ref a))(t:zC9 K mg cs):zC9 K mg ((x,d)::cs):=by
 obtain⟨a,h,r⟩:=h;exact zGB ⟨_,.ref a,h,rfl,r⟩ t
def bs_nil:BsOk mg []:=λx h=>by cases h
def jD{x:Str}{bs:List Str}(h:mg x=none)(t:BsOk mg bs):BsOk mg (x::bs):=λy e=>by
 rcases mem_cons.mp e with e|e
 ·subst e;exact h
 ·exact t y e
def ze:FsOk P w K mg base []:=λx h=>by cases h
def zE{x:Str}{n lv:Nat}{F:MF}{fs:List FI}{ps:List Str}{wl:Bool}(h:FOk P w K mg base (!wl) x lv ps F)(hl:ps.length=n)(t:FsOk P w K mg base fs):FsOk P w K mg base (⟨x,n,lv,wl,F⟩::fs):=λi e=>by
 rcases mem_cons.mp e with e|e
 ·subst e
  subst hl;obtain⟨a,fd,h1,h2,h3,h4⟩:=h;exact⟨a,fd,ps,h1,h2,h3,rfl,h4⟩
 ·exact t i e
def def_at{x:Str}{st:Stmt}{ps N:List Str}{n lv:Nat}{cs:List (Str×D)}{fs:List FI}{bs:List Str}{cl rs:List Str}(t:Bx){a:Addr}{fd:FuncData}(F:Fun K x x st a fd)(S:FnScope N ps (zn st))(hn:N.length=n)
  (hcs:zC9 K mg cs) (hfs:FsOk P w K mg base fs) (hbs:BsOk mg bs) (hcl:ClOk K mg cl rs) {ri:List Str} (hri:zC8 P w K mg base ri) (h:chkB t ⟨N,zn st,true,cs,fs,bs,lv,true,cl,rs,[],ri⟩ (jO st)=true):FnOk P w K mg base (CXx P w) (lv+1) a fd ps (spM K mg ps.length (fnM n (dB fs t))):=by
 subst hn;refine(fn_ok (c:=true) F S λcdv A outer s H E hd hr=>?_).fn;exact sB (sg:=⟨N,zn st,true,cs,fs,bs,lv,true,cl,rs,[],ri⟩) t ⟨rfl,rfl,λ_ _=>rfl,(λx h=>by cases h),id,hd,λ_=>⟨rfl,rfl⟩,S.nd,hcs,hfs,hbs,hr,hcl.1,hcl.2.1,hcl.2.2,hri⟩ h
def scP(N P:List Str)(sc:Scope):Prop:=sc.kind=.function/\sc.isCoroutine=false/\sc.isGenerator=false/\N.Nodup/\N.take P.length=P/\(∀x∈P,sc.names.lookup x=some .local\/sc.names.lookup x=some .cell)/\∀y∈sc.names,y.2≠.free
instance scD (N P:List Str) (sc:Scope):Decidable (scP N P sc):=by unfold scP;infer_instance
def sc_of{N P:List Str}{sc:Scope}(h:scP N P sc):FnScope N P sc:=⟨h.1,h.2.1,h.2.2.1,h.2.2.2.1,h.2.2.2.2.1,h.2.2.2.2.2.1,h.2.2.2.2.2.2⟩
def zR{x:Str}{st:Stmt}{ps:List Str}{lv:Nat}{cs:List (Str×D)}{fs:List FI}{bs:List Str}{c:Bool}{cl rs:List Str}(t:Bx)(N:List Str)(T:wK K mg x st ps)
  (hcs:zC9 K mg cs) (hfs:FsOk P w K mg base fs) (hbs:BsOk mg bs) (hcl:ClOk K mg cl rs) {ri:List Str} (hri:zC8 P w K mg base ri) (h:(decide (scP N ps (zn st))&&chkB t ⟨N,zn st,true,cs,fs,bs,lv,c,cl,rs,[],ri⟩ (jO st))=true):FOk P w K mg base c x (lv+1) ps (fnM N.length (dB fs t)) :=
 def_ok t T (sc_of (of_decide_eq_true (Bool.and_eq_true_iff.mp h).1)) rfl hcs hfs hbs hcl hri (Bool.and_eq_true_iff.mp h).2
def def_atB{x:Str}{st:Stmt}{ps:List Str}{lv:Nat}{cs:List (Str×D)}{fs:List FI}{bs:List Str}{cl rs:List Str}(t:Bx)(N:List Str){a:Addr}{fd:FuncData}(F:Fun K x x st a fd)
  (hcs:zC9 K mg cs) (hfs:FsOk P w K mg base fs) (hbs:BsOk mg bs) (hcl:ClOk K mg cl rs) {ri:List Str} (hri:zC8 P w K mg base ri) (h:(decide (scP N ps (zn st))&&chkB t ⟨N,zn st,true,cs,fs,bs,lv,true,cl,rs,[],ri⟩ (jO st))=true):FnOk P w K mg base (CXx P w) (lv+1) a fd ps (spM K mg ps.length (fnM N.length (dB fs t))) :=
 def_at t F (sc_of (of_decide_eq_true (Bool.and_eq_true_iff.mp h).1)) rfl hcs hfs hbs hcl hri (Bool.and_eq_true_iff.mp h).2
def zDB{c:Str}{C T:Addr}(h:xIn K c C T=true):XCls K c C T/\C≠T:=by
 unfold xIn at h;simp only[Bool.and_eq_true,beq_iff_eq,Bool.not_eq_true']at h;obtain⟨⟨⟨⟨⟨⟨⟨h1,h2⟩,h3⟩,h4⟩,h5⟩,h6⟩,h7⟩,h8⟩:=h;refine⟨⟨?_,h2,h3,h4,h5,h6,h7⟩,by simpa using h8⟩;cases e:clsIn K C with
 |none=>rw[e]at h1;cases h1
 |some cd =>
  rw[e]at h1;simp only[Bool.and_eq_true,beq_iff_eq]at h1;exact⟨cd,rfl,h1.1,h1.2⟩
def tcls_of{T:Addr}(h:tIn K T=true):TCls K T:=by
 unfold tIn at h;simp only[Bool.and_eq_true,beq_iff_eq]at h;obtain⟨h1,h2⟩:=h;refine⟨?_,h2⟩;cases e:clsIn K T with
 |none=>rw[e]at h1;cases h1|some cd=>rw[e]at h1;exact⟨cd,rfl,by simpa using h1⟩
def spLaw(K:qH):Sp:=λvs H Q _=>∃(a:Addr) (ns:List Int),vs=[.ref a]/\SqL K H a (ns.map V.int)/\ns.length<=63/\∀H',Q (.bl true) H'
theorem QH{H:Hp}:∀ns:List Int,Reps K mg H (ns.map D.int) (ns.map V.int)
 | []=>Reps.nil|n::ns=>Reps.cons (by simp only[Rep]) (QH ns)
def law_imp{F:MF}(hm:∀ns:List Int,ns.length<=63->∃outs,F [.v (.l (ns.map D.int))]=.ok (.v (.bl true),outs))(vs:List V)(H:Hp)(Q:VK)(E:XK)(h:spLaw K vs H Q E):spM K mg 1 F vs H Q E:=by
 obtain⟨a,ns,rfl,hS,hl,k⟩:=h;obtain⟨outs,hF⟩:=hm ns hl;have em:∀b,¬Mo (λ_=>False) [(some (V.ref a),Slot.v (.l (ns.map D.int)))] b:=by
  intro b q;rcases q with q|q
  ·exact q
  ·rw[zb]at q;cases q
 have sm:ZA H (Hm (Mo (λ_=>False) [(some (V.ref a),Slot.v (.l (ns.map D.int)))]) H):=λb o q=>zu.mpr ⟨em b,q⟩
 refine⟨rfl,λ_=>False,[.v (.l (ns.map D.int))],rfl,⟨?_,?_,?_,?_⟩,?_⟩
 ·intro o d q
  have q':=mem_singleton.mp q
  cases q';refine⟨_,rfl,?_⟩;simp only[Rep];exact⟨a,_,rfl,sm.seq hS,QH ns⟩
 ·intro o s ds q e
  have q':=mem_singleton.mp q
  cases q';cases e
 ·show(yI [(some (V.ref a),Slot.v (.l (ns.map D.int)))]).Nodup
  rw[zb];exact List.nodup_nil
 ·intro b q;cases q
 ·rw[hF]
  intro v H' _ fr _;obtain⟨v',e,r⟩:=fr.val (some v) (.bl true) qE;cases e;simp only[Rep]at r;subst r;exact k H'
end
def JK{E:zM}:zk [] E=[]:=rfl
def YB{ds:List D}{ss:List Slot}{s:Slot}{E:zM}:zk (.par ds::ss) (s::E)=s::zk ss E:=rfl
def JL{d:D}{ss:List Slot}{s:Slot}{E:zM}:zk (.v d::ss) (s::E)=.e::zk ss E:=rfl
def YC{d:List D}{ss:List Slot}{s:Slot}{E:zM}:zk (.own d::ss) (s::E)=.e::zk ss E:=rfl
def YD{ss:List Slot}{s:Slot}{E:zM}:zk (.e::ss) (s::E)=.e::zk ss E:=rfl
theorem Yo{tg:MG}{tt:MT}{el:ME}(I:Nat->zM->List D->Prop):∀(ds:List D) (k:Nat) (E:zM) (acc:List D),I k E acc->acc.length+ds.length<=cap ->
  (∀i d,ds[i]?=some d->∀E acc,I (k+i) E acc->acc.length<cap->∃E1 E2 r E3,tg d E=.ok E1/\tt E1=.ok (true,E2)/\el E2=.ok (r,E3)/\I (k+i+1) E3 (acc++[r.d])) ->
  ∃res E',Jg tg tt el ds E acc=.ok (res,E')/\I (k+ds.length) E' res
 | [],k,E,acc,h,hc,step=>⟨acc,E,rfl,h⟩
 |d::ds,k,E,acc,h,hc,step=>by
  simp only[length_cons]at hc;obtain⟨E1,E2,r,E3,h1,h2,h3,h4⟩:=step 0 d rfl E acc h (by omega);obtain⟨res,E',q1,q2⟩:=Yo I ds (k+1) E3 (acc++[r.d]) h4 (by simp;omega) λi d' e E acc h hl=>by
   have:=step (i+1) d' (by simpa using e) E acc (by rw[show k+(i+1)=k+1+i by omega];exact h) hl;rw[show k+(i+1)=k+1+i by omega]at this;exact this
  refine⟨res,E',?_,?_⟩
  ·simp only[Jg,h1,h2,h3]
   rw[if_pos (by omega)];exact q1
  ·rw[length_cons,show k+(ds.length+1)=k+1+ds.length by omega];exact q2
theorem jG{tg:MG}{body:MS}(I:Nat->zM->Prop):∀(ds:List D) (k:Nat) (E:zM),I k E ->
  (∀i d,ds[i]?=some d->∀E,I (k+i) E->∃E1 E2,tg d E=.ok E1/\body E1=.ok (.nx,E2)/\I (k+i+1) E2) ->
  ∃E',vq tg body ds E=.ok (.nx,E')/\I (k+ds.length) E'
 | [],k,E,h,step=>⟨E,rfl,h⟩
 |d::ds,k,E,h,step=>by
  obtain⟨E1,E2,h1,h2,h4⟩:=step 0 d rfl E h;obtain⟨E',q1,q2⟩:=jG I ds (k+1) E2 h4 λi d' e E h=>by
   have:=step (i+1) d' (by simpa using e) E (by rw[show k+(i+1)=k+1+i by omega];exact h);rw[show k+(i+1)=k+1+i by omega]at this;exact this
  refine⟨E',?_,?_⟩
  ·simp only[vq,h1,h2]
   exact q1
  ·rw[length_cons,show k+(ds.length+1)=k+1+ds.length by omega];exact q2
theorem uo:∀(n:Nat) (lo:Int) (i:Nat) (d:D),(zJ lo n)[i]?=some d->i<n/\d=.int (lo+i)
 |0,_,_,_,h=>by simp[zJ]at h
 |n+1,lo,0,d,h=>by
  simp[zJ]at h;exact⟨by omega,by rw[<- h];simp⟩
 |n+1,lo,i+1,d,h=>by
  simp only[zJ,List.getElem?_cons_succ]at h;obtain⟨h1,h2⟩:=uo n (lo+1) i d h;refine⟨by omega,?_⟩;rw[h2];congr 1
  push_cast
  omega
theorem jZ:∀(n:Nat) (lo:Int),(zJ lo n).length=n
 |0,_=>rfl|n+1,lo=>by simp[zJ,jZ n]
def jS:Slot->Bool
 | .par _=>false|_=>true
theorem zAv:∀(vs:List D) (E:zM),zK (vs.map AR.tmp) E=.ok (vs.map Slot.v,E)
 | [],_=>rfl|d::vs,E=>by simp only[map_cons,zK,zAv vs E]
theorem zAw:∀(vs:List D) (outs:List Slot) (E0 E:zM),outs.length=vs.length->zH (vs.map AR.tmp) outs E0 E=.ok E
 | [],[],_,_,_=>rfl| [],_::_,_,_,h=>by cases h|_::_,[],_,_,h=>by cases h|d::vs,s::outs,E0,E,h=>by simp only[map_cons,zH];exact zAw vs outs E0 E (by simpa using h)
theorem QI{vs:List D}{tg:MG}{tt:MT}{el:ME}{nl:Nat}(pat:D->List DV.Slot)(f:D->Bool)(g:D->D):∀(ds:List D),
  (∀d∈ds,∀S:List DV.Slot,S.length=nl->(∀s∈S,jS s=true)->tg d (S++vs.map Slot.v)=.ok (pat d++vs.map Slot.v)) ->
  (∀d∈ds,(pat d).length=nl/\∀s∈pat d,jS s=true) ->
  (∀d∈ds,tt (pat d++vs.map Slot.v)=.ok (f d,pat d++vs.map Slot.v)) ->
  (∀d∈ds,f d=true->∃r,el (pat d++vs.map Slot.v)=.ok (r,pat d++vs.map Slot.v)/\r.d=g d) ->
  ∀(S:List DV.Slot) (acc:List D),S.length=nl->(∀s∈S,jS s=true)->acc.length+ds.length<=cap->∃S',S'.length=nl/\Jg tg tt el ds (S++vs.map Slot.v) acc=.ok (acc++(ds.filter f).map g,S'++vs.map Slot.v)
 | [],_,_,_,_,S,acc,hS,_,_=>⟨S,hS,by simp[Jg]⟩
 |d::ds,h1,h2,h3,h4,S,acc,hS,hn,hc=>by
  have m:=qE (a:=d) (l:=ds);have r1:=h1 d m S hS hn;have r3:=h3 d m;have r2:=h2 d m;simp only[length_cons]at hc;have go:=QI pat f g ds (λz hz=>h1 z (qD _ hz)) (λz hz=>h2 z (qD _ hz)) (λz hz=>h3 z (qD _ hz)) (λz hz=>h4 z (qD _ hz)) (pat d);cases hf:f d with
  |false =>
   rw[hf]at r3;obtain⟨S',l',e'⟩:=go acc r2.1 r2.2 (by omega);refine⟨S',l',?_⟩;simp only[Jg,r1,r3,e',List.filter_cons,hf];simp
  |true =>
   rw[hf]at r3;obtain⟨r,r4,r5⟩:=h4 d m hf;obtain⟨S',l',e'⟩:=go (acc++[r.d]) r2.1 r2.2 (by simp;omega);refine⟨S',l',?_⟩;simp only[Jg,r1,r3,r4];rw[if_pos (by omega),e',r5];simp[List.filter_cons,hf]
def zE4{vs:List D}{tg:MG}{tt:MT}{el:ME}{nl:Nat}{caps:List Nat}(pat:D->List DV.Slot)(f:D->Bool)(g:D->D)(ds:List D)
  (h1:∀d∈ds,∀S:List DV.Slot,S.length=nl->(∀s∈S,jS s=true)->tg d (S++vs.map Slot.v)=.ok (pat d++vs.map Slot.v))
  (h2:∀d∈ds,(pat d).length=nl/\∀s∈pat d,jS s=true)
  (h3:∀d∈ds,tt (pat d++vs.map Slot.v)=.ok (f d,pat d++vs.map Slot.v))
  (h4:∀d∈ds,f d=true->∃r,el (pat d++vs.map Slot.v)=.ok (r,pat d++vs.map Slot.v)/\r.d=g d) (hc:ds.length<=cap)
  {mi:MI} {E E1:zM} (hi:mi E=.ok (ds,E1)) (hcap:wz E1 caps=.ok (vs.map AR.tmp)):ZJ nl caps mi tg tt el E=.ok (.own ((ds.filter f).map g),E1):=by
 obtain⟨S',l',e'⟩:=QI (vs:=vs) (tg:=tg) (tt:=tt) (el:=el) (nl:=nl) pat f g ds h1 h2 h3 h4 (replicate nl .e) [] (by simp) (λs hs=>by rw[(List.mem_replicate.mp hs).2];rfl) (by simpa using hc);simp only[ZJ,hi,hcap,zAv,e'];rw[zAw vs _ _ _ (by rw[List.length_drop,zj];simp)];simp
def gN_ok1{a:D}{S:List DV.Slot}{R:List DV.Slot}(hS:S.length=1)(hn:∀s∈S,jS s=true):gN 0 a (S++R)=.ok ([.v a]++R):=by
 match S,hS,hn with
 | [x],_,hn =>
  have hx:=hn x (by simp);cases x<;>first|(cases hx;done)|rfl
theorem zAx:∀(l:List Obj) (i:Nat) (as:List Addr) (a:Addr) (o:Obj),(GT l i as).lookup a=some o->∃j,a=i+j/\l[j]?=some o/\isFr o=false
 | [],_,_,a,o,e=>by cases e|_::_,_,[],a,o,e=>by cases e
 |x::os,i,b::as,a,o,e=>by
  have up:∀{as:List Addr},(GT os (i+1) as).lookup a=some o->∃j,a=i+j/\(x::os)[j]?=some o/\isFr o=false:=λe=>by
   obtain⟨j,h1,h2,h3⟩:=zAx os (i+1) _ a o e;exact⟨j+1,h1.trans ((Nat.add_assoc i 1 j).trans (congrArg (i+·) (add_comm 1 j))),by simpa using h2,h3⟩
  unfold GT at e;cases hb:Nat.beq i b with
  |false=>rw[hb]at e;exact up e
  |true =>
   rw[hb]at e;cases hf:isFr x with
   |true=>rw[hf]at e;exact up e
   |false =>
    rw[hf]at e;replace e:(match a==i with|true=>some x|false=>List.lookup a (GT os (i+1) as))=some o:=e
    cases ha:a==i with
    |true =>
     rw[ha]at e;cases e;exact⟨0,beq_iff_eq.mp ha,rfl,hf⟩
    |false=>rw[ha]at e;exact up e
def zDC{h:Heap}(as:List Addr):(YL h as).In h:=λa o e=>by
 obtain⟨j,h1,h2,h3⟩:=zAx _ _ _ _ _ e;rw[zero_add]at h1;subst h1;have h4:h.objs[a]?=some o:=by rw[<- Array.getElem?_toList];exact h2
 unfold Heap.get?;rw[h4];obtain⟨c,d,dt,sl⟩:=o;cases dt<;>first|rfl|(cases h3)
def zAy(as:List Addr)(α:Type)(L:qH->α)(v:α):PySem.W.Hook :=
 ⟨α,λs=>L (YL s.heap as),λ_=>v,λ_ h=>∃K:qH,K.In h/\L K=v,λ_ s e=>⟨_,zDC as,e⟩,λ_ _ _ ⟨K,x,e⟩ k=>⟨K,x.keeps k,e⟩⟩
def zE5{K:qH}{n:Str}{st:Stmt}(e:yL K n=yM n st):∃(f:Addr) (oc:Value) (od:Option Addr) (kV dc pm:Value) (an:Option Addr) (cd ct:Value) (sl:Array (Option Value)),
  nsIn K mainGlobals n=some (some (.ref f))/\K.lookup f=some ⟨oc,od,.func (fnOf n n (J3 st) (jO st) (zn st) .none kV dc pm an cd ct),sl⟩/\codeIn K cd n=true/\keepIn K (.ref f)=true:=by
 unfold yL at e;split at e
 ·rename_i a ha
  split at e
  ·rename_i oc od fd sl hl
   have e:=qJ e;unfold fvOf at e;injection e with e1 e
   injection e with e2 e
   injection e with e3 e
   injection e with e4 e
   injection e with e5 e
   injection e with e6 e
   injection e with e7 e
   injection e with e8 e
   injection e with e9 e10
   obtain⟨k,p⟩:=zI e1;cases fd;simp only at e2 e3 e4 e5 e6 e7 e8 e9 e10;subst e2 e3 e4 e5 e6 e7 e8 e9 e10;exact⟨_,_,_,_,_,_,_,_,_,_,ha,hl,k,p⟩
  ·cases e
 ·cases e
def nth{α:Type}:List α->Nat->Option α
 | [],_=>none|a::_,0=>some a|_::l,n+1=>nth l n
def ix{α:Type}{l l':List α}(n:Nat)(h:l=l'):nth l n=nth l' n:=congrArg (λl=>nth l n) h
section
variable{K:qH}{h:Heap}{mg:Str->Option Value}
def ar0{P:List Value->Prop}(h:P []):∀us:List Value,us.length=0->P us
 | [],_=>h
def ar1{P:List Value->Prop}(h:∀a:Value,P [a]):∀us:List Value,us.length=1->P us
 | [a],_=>h a
def ar2{P:List Value->Prop}(h:∀a b:Value,P [a,b]):∀us:List Value,us.length=2->P us
 | [a,b],_=>h a b
def ar3{P:List Value->Prop}(h:∀a b c:Value,P [a,b,c]):∀us:List Value,us.length=3->P us
 | [a,b,c],_=>h a b c
def yT{n:Str}{st:Stmt}{ps:List Str}(X:K.In h)(G:h.Ns mainGlobals mg)(e:some (yL K n)=some (yM n st))
  (b:∀(kV doc pm:Value) (an:Option Addr) (cdv ct:Value) (us:List Value),us.length=ps.length->bindArgs (fnOf n n (J3 st) (jO st) (zn st) .none kV doc pm an cdv ct) ⟨us,[]⟩=pure (ps.zip us):=by intro _ _ _ _ _ _;first|exact ar1 (λ_=>rfl)|exact ar2 (λ_ _=>rfl)|exact ar3 (λ_ _ _=>rfl)|exact ar0 rfl):wK K mg n st ps:=by
 obtain⟨f,oc,od,kV,dc,pm,an,cd,ct,sl,a,l,k,p⟩:=zE5 (qJ e);exact⟨_,_,mg_of X G a,zFZ (st:=st) l k p,(zFZ (st:=st) l k p).binds b⟩
def Q0{n:Str}{i:Int}(X:K.In h)(G:h.Ns mainGlobals mg)(e:some (YM K n)=some (some i)):∃t,mg n=some (.int i t):=by
 have e:=qJ e;unfold YM at e;split at e
 ·rename_i j t hj
  cases e;exact⟨_,mg_of X G hj⟩
 ·cases e
def tt_at{n:Str}{i j:Int}(X:K.In h)(G:h.Ns mainGlobals mg)(e:some (zAL K n i j)=some true):∃a,mg n=some (.ref a)/\∀H,Rep K mg H (.t [.int i,.int j]) (.ref a):=by
 have e:=qJ e;unfold zAL at e;split at e
 ·rename_i a ha
  split at e
  ·rename_i t od its k sl hl
   obtain⟨e1,e2⟩:=zI e;have:=beq_iff_eq.mp e1;subst this;split at e2
   ·rename_i x t1 y t2 hi
    obtain⟨e3,e4⟩:=zI e2;have:=beq_iff_eq.mp e3;have:=beq_iff_eq.mp e4
    subst_vars
    refine⟨a,mg_of X G ha,λH=>?_⟩;simp only[Rep,Reps];refine⟨a,[.int x,.int y],rfl,.inr ⟨_,its,k,hl,rfl,rfl,?_,?_⟩,.int x,_,rfl,rfl,.int y,_,rfl,rfl,rfl⟩
    ·have:its.size=2:=by rw[<- Array.length_toList,hi];rfl
     rw[this];decide
    ·rw[hi];exact .cons ⟨_,rfl⟩ (.cons ⟨_,rfl⟩ .nil)
   ·cases e2
  ·cases e
 ·cases e
def tn_at{n:Str}{j:Int}(X:K.In h)(G:h.Ns mainGlobals mg)(e:some (zBk K n j)=some true):∃a,mg n=some (.ref a)/\∀H,Rep K mg H (.t [.non,.int j]) (.ref a):=by
 have e:=qJ e;unfold zBk at e;split at e
 ·rename_i a ha
  split at e
  ·rename_i t od its k sl hl
   obtain⟨e1,e2⟩:=zI e;have:=beq_iff_eq.mp e1;subst this;split at e2
   ·rename_i y t2 hi
    have:=beq_iff_eq.mp e2
    subst_vars
    refine⟨a,mg_of X G ha,λH=>?_⟩;simp only[Rep,Reps];refine⟨a,[.non,.int y],rfl,.inr ⟨_,its,k,hl,rfl,rfl,?_,?_⟩,.non,_,rfl,rfl,.int y,_,rfl,rfl,rfl⟩
    ·have:its.size=2:=by rw[<- Array.length_toList,hi];rfl
     rw[this];decide
    ·rw[hi];exact .cons rfl (.cons ⟨_,rfl⟩ .nil)
   ·cases e2
  ·cases e
 ·cases e
def ZR{n:Str}(X:K.In h)(G:h.Ns mainGlobals mg)(e:some (jl K n)=some true):mg n=none:=by
 have e:=qJ e;unfold jl at e;split at e
 ·rename_i hj
  exact PySem.W.mg_none_of X G hj
 ·cases e
def Q1{n:Str}{a:Addr}(X:K.In h)(G:h.Ns mainGlobals mg)(e:Ji K n=some a):mg n=some (.ref a):=by
 unfold Ji at e;split at e
 ·rename_i b hb
  cases e;exact mg_of X G hb
 ·cases e
def sm_at(e:zBl K=true):SmOk K:=by
 unfold zBl at e;cases h:K.lookup sysModules with
 |none=>rw[h]at e;cases e
 |some o =>
  rw[h]at e;dsimp only at e;cases hd:o.data with
  |dict es n=>exact⟨o,es,n,h,hd⟩|_=>rw[hd]at e;cases e
def cl_at{cl rs:List Str}(X:K.In h)(G:h.Ns mainGlobals mg)(e:zFR K cl rs=true):ClOk K mg cl rs:=by
 obtain⟨e,e3⟩:=zI e;obtain⟨e1,e2⟩:=zI e;refine⟨λhc=>?_,λc hc=>?_,sm_at e3⟩
 ·cases cl with
  |nil=>exact absurd rfl hc
  |cons c0 cs =>
   replace e1:(match Ji K "ThrowError" with
    |some T=>tIn K T&&(c0::cs).all λc=>(match Ji K c with|some C=>xIn K c C T|none=>false)
    |none=>false)=true:=e1
   cases hT:Ji K "ThrowError" with
   |none=>rw[hT]at e1;cases e1
   |some T =>
    rw[hT]at e1;obtain⟨t1,t2⟩:=zI e1;refine⟨T,Q1 X G hT,tcls_of t1,λc hc=>?_⟩;have q:=all_eq_true.mp t2 c hc;cases hC:Ji K c with
    |none=>rw[hC]at q;cases q
    |some C =>
     rw[hC]at q;exact⟨C,Q1 X G hC,(zDB q).1,(zDB q).2⟩
 ·have q:=all_eq_true.mp e2 c hc
  cases hC:Ji K c with
  |none=>rw[hC]at q;cases q
  |some C =>
   rw[hC]at q;exact⟨C,Q1 X G hC,q⟩
end
def walkE{l:PySem.W.OpenLaw}{q:Program}{loose:List Str}{XP:(Str->Option Value)->Heap->Prop}{d:DefRec}{as:List Addr}{α:Type}{L:qH->α}{v:α}{x:Str}{F:MF}(hm:∀ns:List Int,ns.length<=63->∃outs,F [.v (.l (ns.map D.int))]=.ok (.v (.bl true),outs))
  (hn:l.most=some 63) (hdf:d.params.defaults=[])
  (Gk:∀(w:World) (K:qH) (mg:Str->Option Value) (fa:Addr) (h:Heap),K.In h->L K=v->h.Ns mainGlobals mg->mg d.name=some (.ref fa) ->
   ∃fd:FuncData,(∀(s:Shared) (u:Value),BindsTo s fd ⟨[u],[]⟩ [(x,u)])/\∀base:Heap,FnOk l.prog w K mg base (CXx l.prog w) 40 fa fd [x] (spM K mg 1 F)) :
  PySem.W.WalkO q loose XP (zAy as α L v).says l.row.toRowW d [] (λf vs=>PySem.call f vs):=by
 refine Att.attach_call hn hdf λw s₀ s₁ mg mb fa o pm cd doc a vs ns G Y ho hd hcd hmg hobj hints hlen hg=>?_
 obtain⟨K,KX,e⟩:=Y;obtain⟨fd,hb,hF⟩:=Gk w K mg fa _ KX e G.T.g hmg;exact zD4 (sp:=spLaw K) (k:=40) KX G.T.g G.T.b G.T.builtins G.T.nolimit hg hobj hints (le_trans hlen (by decide)) ⟨rfl,rfl,by decide,by decide⟩ (λbase _ _=>(hF base).imp (law_imp hm)) hb (λH hO hS=>⟨a,ns,rfl,hS,hlen,λ_=>rfl⟩) λH e s' ⟨_,_,_,_,_,_,_,_,_,_,_,_,z⟩=>z
end DV
namespace My
open PySem L2 DV
def cs_:List (Str×D):=[("ALL",.t [.int 1,.int 1]),("LEAST_SIGNS",.int 2),("LEAST_WEIGHT",.int 1),("MOST_AWAITED",.int 8),("MOST_MATCHED",.int 6),("MOST_PLAYED",.int 30),("MOST_SIGNS",.int 3),("MOST_WEIGHT",.int 9),("NOTHING",.t [.int 0,.int 1]),("NO_STAND",.t [.non,.int 0])]
def bs_:List Str:=["abs","all","bool","dict","enumerate","int","isinstance","len","max","range","sum","tuple","zip"]
def ri_:List Str:=[]
def v6:Bx :=
  (.bOne (.sRet (.and (.is .int (.var 0)) (.not (.is .bool (.var 0))))))
def Q2:List FI:=[]
def jk:MF:=fnM 1 (dB Q2 v6)
def ye:Bx :=
  (.bOne (.sRet (.and (.call 0 (.ev (.var 0) .nil)) (.chain .le .le (.var 1) (.var 0) (.var 2)))))
def y3:List FI:=[⟨"is_whole",1,1,false,jk⟩]
def zW:MF:=fnM 3 (dB y3 ye)
abbrev jT:Bx :=
  (.bOne (.sPar 0 1 (.cons (.var 1) (.cons (.bin .mod (.var 0) (.var 1)) .nil))))
def jz:Bx :=
  (.bSeq (.sPar 0 1 (.cons (.cB .abs (.cons (.var 0) .nil)) (.cons (.cB .abs (.cons (.var 1) .nil)) .nil)))
  (.bSeq (.sWhile (.tE (.cmp .ne (.var 1) (.c (.int 0))))
  jT)
  (.bOne (.sRet (.var 0)))))
def z9:List FI:=[]
def zf:MF:=fnM 2 (dB z9 jz)
abbrev Wu:Bx :=
  (.bOne (.sAug 2 .mul (.var 0)))
def Yp:Bx :=
  (.bSeq (.sSet 2 (.c (.int 1)))
  (.bSeq (.sForR1 (.cons (.var 1) .nil) (.n 3)
  Wu)
  (.bOne (.sRet (.var 2)))))
def Jr:List FI:=[]
def ja:MF:=fnM 4 (dB Jr Yp)
def Zo:Bx :=
  (.bSeq (.sIf (.tOr (.tNot (.tE (.is .tuple (.var 0)))) (.tE (.cmp .ne (.cB .len (.cons (.var 0) .nil)) (.c (.int 2))))) (.bOne (.sRet (.c (.bl false)))) .bNil)
  (.bSeq (.sTup [1,2] (.var 0))
  (.bSeq (.sIf (.tOr (.tNot (.tE (.call 1 (.ev (.var 1) .nil)))) (.tNot (.tE (.call 1 (.ev (.var 2) .nil))))) (.bOne (.sRet (.c (.bl false)))) .bNil)
  (.bOne (.sRet (.and (.cmp .gt (.var 2) (.c (.int 0))) (.cmp .eq (.call 0 (.ev (.var 1) (.ev (.var 2) .nil))) (.c (.int 1)))))))))
def uq:List FI:=[⟨"greatest_divisor",2,1,false,zf⟩,⟨"is_whole",1,1,false,jk⟩]
def j0:MF:=fnM 3 (dB uq Zo)
def v7:Bx :=
  (.bSeq (.sIf (.tE (.cmp .eq (.var 1) (.c (.int 0)))) (.bOne .sAny) .bNil)
  (.bSeq (.sSet 2 (.call 0 (.ev (.var 0) (.ev (.var 1) .nil))))
  (.bSeq (.sIf (.tE (.cmp .lt (.var 1) (.c (.int 0)))) (.bOne (.sSet 2 (.neg (.var 2)))) .bNil)
  (.bOne (.sRet (.t (.cons (.bin .fdiv (.var 0) (.var 2)) (.cons (.bin .fdiv (.var 1) (.var 2)) .nil))))))))
def Q3:List FI:=[⟨"greatest_divisor",2,1,false,zf⟩]
def zS:MF:=fnM 3 (dB Q3 v7)
def Zq:Bx :=
  (.bOne (.sRet (.call 0 (.ev (.bin .add (.bin .mul (.ix (.var 0) (.c (.int 0))) (.ix (.var 1) (.c (.int 1)))) (.bin .mul (.ix (.var 1) (.c (.int 0))) (.ix (.var 0) (.c (.int 1))))) (.ev (.bin .mul (.ix (.var 0) (.c (.int 1))) (.ix (.var 1) (.c (.int 1)))) .nil)))))
def ur:List FI:=[⟨"share_of",2,2,false,zS⟩]
def yF:MF:=fnM 2 (dB ur Zq)
def Zr:Bx :=
  (.bOne (.sRet (.call 0 (.ev (.bin .sub (.bin .mul (.ix (.var 0) (.c (.int 0))) (.ix (.var 1) (.c (.int 1)))) (.bin .mul (.ix (.var 1) (.c (.int 0))) (.ix (.var 0) (.c (.int 1))))) (.ev (.bin .mul (.ix (.var 0) (.c (.int 1))) (.ix (.var 1) (.c (.int 1)))) .nil)))))
def ut:List FI:=[⟨"share_of",2,2,false,zS⟩]
def j5:MF:=fnM 2 (dB ut Zr)
def Yq:Bx :=
  (.bOne (.sRet (.call 0 (.ev (.bin .mul (.ix (.var 0) (.c (.int 0))) (.ix (.var 1) (.c (.int 0)))) (.ev (.bin .mul (.ix (.var 0) (.c (.int 1))) (.ix (.var 1) (.c (.int 1)))) .nil)))))
def vK:List FI:=[⟨"share_of",2,2,false,zS⟩]
def zo:MF:=fnM 2 (dB vK Yq)
def v8:Bx :=
  (.bOne (.sRet (.call 0 (.ev (.bin .mul (.ix (.var 0) (.c (.int 0))) (.ix (.var 1) (.c (.int 1)))) (.ev (.bin .mul (.ix (.var 0) (.c (.int 1))) (.ix (.var 1) (.c (.int 0)))) .nil)))))
def Q4:List FI:=[⟨"share_of",2,2,false,zS⟩]
def yp:MF:=fnM 2 (dB Q4 v8)
abbrev JM:Bx :=
  (.bOne (.sSet 2 (.call 0 (.ev (.var 2) (.ev (.var 0) .nil)))))
def Yr:Bx :=
  (.bSeq (.sSet 2 (.gl (.t [.int 1,.int 1])))
  (.bSeq (.sForR1 (.cons (.var 1) .nil) (.n 3)
  JM)
  (.bOne (.sRet (.var 2)))))
def Js:List FI:=[⟨"share_times",2,3,false,zo⟩]
def jb:MF:=fnM 4 (dB Js Yr)
abbrev wb:Bx :=
  (.bOne (.sSet 1 (.call 0 (.ev (.var 1) (.ev (.var 2) .nil)))))
def Wv:Bx :=
  (.bSeq (.sSet 1 (.gl (.t [.int 0,.int 1])))
  (.bSeq (.sForL (.var 0) (.n 2)
  wb)
  (.bOne (.sRet (.var 1)))))
def JN:List FI:=[⟨"share_plus",2,3,false,yF⟩]
def ym:MF:=fnM 3 (dB JN Wv)
def v9:Bx :=
  (.bSeq (.sIf (.tOr (.tNot (.tE (.is .tuple (.var 0)))) (.tNot (.tE (.chain .le .le (.gl (.int 2)) (.cB .len (.cons (.var 0) .nil)) (.gl (.int 3)))))) (.bOne (.sRet (.c (.bl false)))) .bNil)
  (.bOne (.sRet (.cB .all (.cons (.comp 1 ["weight"] [] [] (.iT (.var 0)) (.n 0) .tTr (.call 0 (.ev (.var 0) (.ev (.gl (.int 1)) (.ev (.gl (.int 9)) .nil))))) .nil)))))
def YE:List FI:=[⟨"is_whole_within",3,2,false,zW⟩]
def yq:MF:=fnM 1 (dB YE v9)
def uA:Bx :=
  (.bOne (.sIf (.tNot (.tE (.call 0 (.ev (.var 0) .nil)))) (.bOne .sAny) .bNil))
def Q5:List FI:=[⟨"die_good",1,3,false,yq⟩]
def Ja:MF:=fnM 1 (dB Q5 uA)
def Ys:Bx :=
  (.bOne (.sIf (.tNot (.tE (.call 0 (.ev (.var 0) (.ev (.var 1) (.ev (.var 2) .nil)))))) (.bOne .sAny) .bNil))
def vL:List FI:=[⟨"is_whole_within",3,2,false,zW⟩]
def yU:MF:=fnM 3 (dB vL Ys)
def Ww:Bx :=
  (.bOne (.sDrop (.call 0 (.ev (.var 0) (.ev (.c (.int 0)) (.ev (.bin .sub (.var 1) (.c (.int 1))) .nil))))))
def QJ:List FI:=[⟨"need_number",3,3,false,yU⟩]
def wc:MF:=fnM 2 (dB QJ Ww)
def Jt:Bx :=
  (.bOne (.sRet (.call 0 (.ev (.var 2) (.ev (.call 1 (.ev (.cB .sum (.cons (.var 0) .nil)) (.ev (.var 1) .nil))) .nil)))))
def Wx:List FI:=[⟨"share_of",2,2,false,zS⟩,⟨"whole_power",2,1,false,ja⟩]
def jH:MF:=fnM 3 (dB Wx Jt)
def Ju:Bx :=
  (.bSeq (.sDrop (.call 2 (.ev (.var 0) .nil)))
  (.bSeq (.sDrop (.call 1 (.ev (.var 1) (.ev (.cB .len (.cons (.var 0) .nil)) .nil))))
  (.bOne (.sDrop (.call 0 (.ev (.var 2) (.ev (.c (.int 1)) (.ev (.gl (.int 8)) .nil))))))))
def Wy:List FI:=[⟨"need_number",3,3,false,yU⟩,⟨"need_sign",2,4,false,wc⟩,⟨"need_die",1,4,false,Ja⟩]
def jI:MF:=fnM 3 (dB Wy Ju)
def Zs:Bx :=
  (.bSeq (.sDrop (.call 3 (.ev (.var 0) (.ev (.var 1) (.ev (.var 2) .nil)))))
  (.bSeq (.sSet 3 (.frz (.comp 1 ["i"] ["die","sign"] [0,1] (.iR1 (.cons (.bin .add (.var 2) (.c (.int 1))) .nil)) (.n 0) .tTr (.call 1 (.ev (.call 2 (.ev (.cB .sum (.cons (.var 1) .nil)) (.ev (.ix (.var 1) (.var 2)) .nil))) (.ev (.var 0) .nil))))))
  (.bOne (.sRet (.comp 1 ["j"] ["powers"] [3] (.iR1 (.cons (.var 2) .nil)) (.n 0) .tTr (.call 0 (.ev (.sl (.var 1) (.oS (.bin .add (.var 0) (.c (.int 1)))) .oN) .nil)))))))
def Yt:List FI:=[⟨"share_sum",1,4,false,ym⟩,⟨"share_power",2,4,false,jb⟩,⟨"share_of",2,2,false,zS⟩,⟨"need_awaited",3,5,false,jI⟩]
def yc:MF:=fnM 4 (dB Yt Zs)
def Zt:Bx :=
  (.bOne (.sRet (.ix (.call 0 (.ev (.var 0) (.ev (.var 1) (.ev (.var 2) .nil)))) (.c (.int 0)))))
def uu:List FI:=[⟨"waits_list",3,6,false,yc⟩]
def j6:MF:=fnM 3 (dB uu Zt)
def Zu:Bx :=
  (.bSeq (.sIf (.tOr (.tNot (.tE (.is .tuple (.var 0)))) (.tE (.cmp .ne (.cB .len (.cons (.var 0) .nil)) (.c (.int 5))))) (.bOne (.sRet (.c (.bl false)))) .bNil)
  (.bSeq (.sTup [1,2,3,4,5] (.var 0))
  (.bSeq (.sIf (.tNot (.tE (.call 1 (.ev (.var 1) .nil)))) (.bOne (.sRet (.c (.bl false)))) .bNil)
  (.bSeq (.sIf (.tNot (.tE (.cB .all (.cons (.comp 1 ["thrown"] ["die"] [1] (.iT (.t (.cons (.var 2) (.cons (.var 4) .nil)))) (.n 0) .tTr (.call 0 (.ev (.var 0) (.ev (.c (.int 0)) (.ev (.bin .sub (.cB .len (.cons (.var 1) .nil)) (.c (.int 1))) .nil))))) .nil)))) (.bOne (.sRet (.c (.bl false)))) .bNil)
  (.bOne (.sRet (.and (.cmp .ne (.var 2) (.var 4)) (.cB .all (.cons (.comp 1 ["wanted"] [] [] (.iT (.t (.cons (.var 3) (.cons (.var 5) .nil)))) (.n 0) .tTr (.call 0 (.ev (.var 0) (.ev (.c (.int 1)) (.ev (.gl (.int 6)) .nil))))) .nil)))))))))
def y4:List FI:=[⟨"is_whole_within",3,2,false,zW⟩,⟨"die_good",1,3,false,yq⟩]
def yr:MF:=fnM 6 (dB y4 Zu)
def Zv:Bx :=
  (.bOne (.sIf (.tNot (.tE (.call 0 (.ev (.var 0) .nil)))) (.bOne .sAny) .bNil))
def uv:List FI:=[⟨"match_good",1,4,false,yr⟩]
def zy:MF:=fnM 1 (dB uv Zv)
def Yu:Bx :=
  (.bSeq (.sDrop (.call 0 (.ev (.var 0) .nil)))
  (.bSeq (.sTup [1,2,3,4,5] (.var 0))
  (.bSeq (.sSet 6 (.comp 1 ["many"] ["sign"] [2] (.iR2 (.cons (.c (.int 1)) (.cons (.var 3) .nil))) (.n 0) .tTr (.t (.cons (.var 1) (.cons (.var 0) .nil)))))
  (.bSeq (.sSet 7 (.comp 1 ["many"] ["other"] [4] (.iR2 (.cons (.c (.int 1)) (.cons (.var 5) .nil))) (.n 0) .tTr (.t (.cons (.var 1) (.cons (.var 0) .nil)))))
  (.bOne (.sRet (.bin .add (.bin .add (.l (.cons (.gl (.t [.non,.int 0])) .nil)) (.var 6)) (.var 7))))))))
def wB:List FI:=[⟨"need_match",1,5,false,zy⟩]
def yG:MF:=fnM 8 (dB wB Yu)
def Jv:Bx :=
  (.bSeq (.sTup [3,4,5,6,7] (.var 0))
  (.bSeq (.sIf (.tE (.cmp .nin (.var 2) (.t (.cons (.var 4) (.cons (.var 6) .nil))))) (.bOne (.sRet (.gl (.t [.non,.int 0])))) .bNil)
  (.bOne (.sRet (.ifx (.tE (.cmp .eq (.var 2) (.ix (.var 1) (.c (.int 0))))) (.t (.cons (.var 2) (.cons (.bin .add (.ix (.var 1) (.c (.int 1))) (.c (.int 1))) .nil))) (.t (.cons (.var 2) (.cons (.c (.int 1)) .nil))))))))
def JO:List FI:=[]
def yZ:MF:=fnM 8 (dB JO Jv)
def Yv:Bx :=
  (.bSeq (.sDrop (.call 4 (.ev (.var 0) .nil)))
  (.bSeq (.sTup [1,2,3,4,5] (.var 0))
  (.bSeq (.sPar 6 7 (.cons (.call 3 (.ev (.var 1) (.ev (.var 2) (.ev (.var 3) .nil)))) (.cons (.call 3 (.ev (.var 1) (.ev (.var 4) (.ev (.var 5) .nil)))) .nil)))
  (.bSeq (.sSet 8 (.call 2 (.ev (.ix (.var 6) (.c (.int 0))) (.ev (.ix (.var 7) (.c (.int 0))) .nil))))
  (.bSeq (.sSet 9 (.l (.cons (.call 0 (.ev (.ix (.var 7) (.c (.int 0))) (.ev (.var 8) .nil))) .nil)))
  (.bSeq (.sSet 10 (.comp 1 ["wait"] ["together"] [8] (.iL (.sl (.var 6) (.oS (.c (.int 1))) .oN)) (.n 0) .tTr (.call 1 (.ev (.gl (.t [.int 1,.int 1])) (.ev (.call 0 (.ev (.var 0) (.ev (.var 1) .nil))) .nil)))))
  (.bSeq (.sSet 11 (.comp 1 ["wait"] ["together"] [8] (.iL (.sl (.var 7) (.oS (.c (.int 1))) .oN)) (.n 0) .tTr (.call 0 (.ev (.var 0) (.ev (.var 1) .nil)))))
  (.bOne (.sRet (.cB .tuple (.cons (.bin .add (.bin .add (.var 9) (.var 10)) (.var 11)) .nil)))))))))))
def wC:List FI:=[⟨"share_by",2,3,false,yp⟩,⟨"share_less",2,3,false,j5⟩,⟨"share_plus",2,3,false,yF⟩,⟨"waits_list",3,6,false,yc⟩,⟨"need_match",1,5,false,zy⟩]
def yf:MF:=fnM 12 (dB wC Yv)
def Yw:Bx :=
  (.bOne (.sRet (.ix (.call 0 (.ev (.var 0) .nil)) (.c (.int 0)))))
def vM:List FI:=[⟨"share_paper",1,7,false,yf⟩]
def yH:MF:=fnM 1 (dB vM Yw)
abbrev wD:Bx :=
  (.bSeq (.sSet 11 (.comp 1 ["thrown"] ["shares","match","stand"] [8,0,10] (.iR1 (.cons (.frd 8 (.cB .len (.cons (.var 3) .nil))) .nil)) (.n 0) .tTr (.dgO 1 (.call 2 (.ev (.var 2) (.ev (.var 3) (.ev (.var 0) .nil)))))))
  (.bOne (.sIf (.tE (.cmp .ne (.dgO 8 (.var 10)) (.call 0 (.ev (.comp 2 ["chance","share"] [] [] (.iZ false false (.cons (.var 9) (.cons (.var 11) .nil))) (.t [0,1]) .tTr (.call 1 (.ev (.var 0) (.ev (.var 1) .nil)))) .nil)))) (.bOne (.sRet (.c (.bl false)))) .bNil)))
def Zw:Bx :=
  (.bSeq (.sSet 2 (.call 5 (.ev (.var 0) .nil)))
  (.bSeq (.sIf (.tOr (.tNot (.tE (.is .tuple (.var 1)))) (.tE (.cmp .ne (.cB .len (.cons (.var 1) .nil)) (.cB .len (.cons (.var 2) .nil))))) (.bOne (.sRet (.c (.bl false)))) .bNil)
  (.bSeq (.sIf (.tNot (.tE (.cB .all (.cons (.comp 1 ["share"] [] [] (.iT (.var 1)) (.n 0) .tTr (.call 4 (.ev (.var 0) .nil))) .nil)))) (.bOne (.sRet (.c (.bl false)))) .bNil)
  (.bSeq (.sTup [3,4,5,6,7] (.var 0))
  (.bSeq (.sSet 8 (.dzip false true (.cons (.var 2) (.cons (.var 1) .nil))))
  (.bSeq (.sDput 8 (.t (.cons (.var 4) (.cons (.var 5) .nil))) (.gl (.t [.int 1,.int 1])))
  (.bSeq (.sDput 8 (.t (.cons (.var 6) (.cons (.var 7) .nil))) (.gl (.t [.int 0,.int 1])))
  (.bSeq (.sSet 9 (.comp 1 ["weight"] ["die"] [3] (.iT (.var 3)) (.n 0) .tTr (.call 3 (.ev (.var 0) (.ev (.cB .sum (.cons (.var 1) .nil)) .nil)))))
  (.bSeq (.sForL (.var 2) (.n 10)
  wD)
  (.bOne (.sRet (.c (.bl true)))))))))))))
def zg:List FI:=[⟨"share_sum",1,4,false,ym⟩,⟨"share_times",2,3,false,zo⟩,⟨"stand_behind",3,1,false,yZ⟩,⟨"share_of",2,2,false,zS⟩,⟨"share_good",1,2,false,j0⟩,⟨"stands_list",1,6,false,yG⟩]
def j7:MF:=fnM 12 (dB zg Zw)
def Yx:Bx :=
  (.bSeq (.sDrop (.call 3 (.ev (.var 0) .nil)))
  (.bSeq (.sTup [1,2,3,4,5] (.var 0))
  (.bOne (.sRet (.call 0 (.ev (.call 2 (.ev (.var 1) (.ev (.var 2) (.ev (.var 3) .nil)))) (.ev (.call 1 (.ev (.var 0) .nil)) .nil)))))))
def vN:List FI:=[⟨"share_times",2,3,false,zo⟩,⟨"first_share",1,8,false,yH⟩,⟨"mean_first",3,7,false,j6⟩,⟨"need_match",1,5,false,zy⟩]
def yg:MF:=fnM 6 (dB vN Yx)
abbrev wd:Bx :=
  (.bOne (.sDaug 12 (.call 1 (.ev (.var 0) (.ev (.var 13) (.ev (.var 14) .nil)))) (.bin .mul (.var 15) (.dgO 10 (.var 13)))))
abbrev jc:Bx :=
  (.bOne (.sForI (.iE true (.cons (.var 2) .nil)) (.t [14,15])
  wd))
abbrev jd:Bx :=
  (.bSeq (.sSet 12 (.dcomp 1 ["stand"] [] [] (.iL (.var 7)) (.n 0) .tTr (.var 0) (.c (.int 0))))
  (.bSeq (.sDput 12 (.var 8) (.bin .mul (.dgO 10 (.var 8)) (.cB .sum (.cons (.var 2) .nil))))
  (.bSeq (.sDput 12 (.var 9) (.bin .mul (.dgO 10 (.var 9)) (.cB .sum (.cons (.var 2) .nil))))
  (.bSeq (.sForL (.var 7) (.n 13)
  jc)
  (.bOne (.sSet 10 (.mov 12)))))))
def YF:Bx :=
  (.bSeq (.sDrop (.call 4 (.ev (.var 0) .nil)))
  (.bSeq (.sDrop (.call 3 (.ev (.var 1) (.ev (.c (.int 0)) (.ev (.gl (.int 30)) .nil)))))
  (.bSeq (.sTup [2,3,4,5,6] (.var 0))
  (.bSeq (.sSet 7 (.call 2 (.ev (.var 0) .nil)))
  (.bSeq (.sPar 8 9 (.cons (.t (.cons (.var 3) (.cons (.var 4) .nil))) (.cons (.t (.cons (.var 5) (.cons (.var 6) .nil))) .nil)))
  (.bSeq (.sSet 10 (.dcomp 1 ["stand"] [] [] (.iL (.bin .add (.var 7) (.l (.cons (.var 8) (.cons (.var 9) .nil))))) (.n 0) .tTr (.var 0) (.c (.int 0))))
  (.bSeq (.sDput 10 (.gl (.t [.non,.int 0])) (.c (.int 1)))
  (.bSeq (.sForR1 (.cons (.var 1) .nil) (.n 11)
  jd)
  (.bSeq (.sSet 16 (.cB .sum (.cons (.frd 10 (.comp 1 ["stand"] ["ends"] [10] (.iL (.var 7)) (.n 0) .tTr (.dgO 1 (.var 0)))) .nil)))
  (.bOne (.sRet (.cB .tuple (.cons (.comp 1 ["weight"] ["die","n"] [2,1] (.iT (.t (.cons (.dgO 10 (.var 8)) (.cons (.dgO 10 (.var 9)) (.cons (.var 16) .nil))))) (.n 0) .tTr (.call 0 (.ev (.var 1) (.ev (.var 2) (.ev (.var 0) .nil))))) .nil)))))))))))))
def zY:List FI:=[⟨"share_in_all",3,3,false,jH⟩,⟨"stand_behind",3,1,false,yZ⟩,⟨"stands_list",1,6,false,yG⟩,⟨"need_number",3,3,false,yU⟩,⟨"need_match",1,5,false,zy⟩]
def jE:MF:=fnM 17 (dB zY YF)
def wE:Bx :=
  (.bSeq (.sIf (.tE (.cmp .lt (.var 1) (.cB .len (.cons (.var 0) .nil)))) (.bOne (.sRet (.ix (.var 0) (.var 1)))) .bNil)
  (.bOne (.sRet (.c (.int 0)))))
def JP:List FI:=[]
def yk:MF:=fnM 2 (dB JP wE)
def YG:Bx :=
  (.bSeq (.sSet 0 (.bin .mod (.bin .add (.var 0) (.c (.int 7919))) (.c (.int 2147483647))))
  (.bOne (.sRet (.bin .mod (.bin .add (.bin .add (.bin .mul (.var 0) (.var 0)) (.bin .mul (.c (.int 48271)) (.var 0))) (.c (.int 12345))) (.c (.int 2147483629))))))
def Zx:List FI:=[]
def we:MF:=fnM 1 (dB Zx YG)
def wf:Bx :=
  (.bSeq (.sSet 1 (.cB .max (.cons (.var 0) (.cons (.bin .sub (.c (.int 0)) (.var 0)) .nil))))
  (.bOne (.sRet (.l (.cons (.var 1) (.cons (.cB .int (.cons (.cmp .ge (.var 1) (.bin .pow (.c (.int 10)) (.c (.int 18)))) .nil)) (.cons (.bin .mod (.var 1) (.c (.int 1000003))) .nil)))))))
def Jw:List FI:=[]
def y6:MF:=fnM 2 (dB Jw wf)
def wg:Bx :=
  (.bSeq (.sIf (.tE (.cmp .eq (.ixO 0 (.c (.int 1))) (.c (.int 1)))) (.bSeq (.sSet 2 (.bin .mod (.ixO 0 (.c (.int 0))) (.var 1)))
  (.bSeq (.sIx 0 (.c (.int 0)) (.bin .fdiv (.ixO 0 (.c (.int 0))) (.var 1)))
  (.bOne (.sRet (.var 2))))) .bNil)
  (.bSeq (.sIx 0 (.c (.int 2)) (.call 0 (.ev (.bin .add (.call 0 (.ev (.ixO 0 (.c (.int 2))) .nil)) (.c (.int 7))) .nil)))
  (.bOne (.sRet (.bin .mod (.bin .fdiv (.ixO 0 (.c (.int 2))) (.c (.int 64))) (.var 1))))))
def JQ:List FI:=[⟨"_law_next",1,1,false,we⟩]
def zm:MF:=fnM 3 (dB JQ wg)
abbrev Jx:Bx :=
  (.bOne (.sPar 2 3 (.cons (.var 3) (.cons (.bin .mod (.var 2) (.var 3)) .nil))))
def Zy:Bx :=
  (.bSeq (.sPar 2 3 (.cons (.cB .abs (.cons (.var 0) .nil)) (.cons (.cB .abs (.cons (.var 1) .nil)) .nil)))
  (.bSeq (.sWhile (.tE (.cmp .ne (.var 3) (.c (.int 0))))
  Jx)
  (.bSeq (.sIf (.tE (.cmp .lt (.var 1) (.c (.int 0)))) (.bOne (.sSet 2 (.bin .sub (.c (.int 0)) (.var 2)))) .bNil)
  (.bOne (.sRet (.t (.cons (.bin .fdiv (.var 0) (.var 2)) (.cons (.bin .fdiv (.var 1) (.var 2)) .nil))))))))
def wj:List FI:=[]
def yu:MF:=fnM 4 (dB wj Zy)
def uB:Bx :=
  (.bOne (.sRet (.call 0 (.ev (.bin .add (.bin .mul (.ix (.var 0) (.c (.int 0))) (.ix (.var 1) (.c (.int 1)))) (.bin .mul (.ix (.var 1) (.c (.int 0))) (.ix (.var 0) (.c (.int 1))))) (.ev (.bin .mul (.ix (.var 0) (.c (.int 1))) (.ix (.var 1) (.c (.int 1)))) .nil)))))
def Q6:List FI:=[⟨"_law_share",2,1,false,yu⟩]
def yh:MF:=fnM 2 (dB Q6 uB)
def Yy:Bx :=
  (.bSeq (.sSet 1 (.ix (.l (.cons (.c (.int 1)) (.cons (.c (.int 3)) (.cons (.c (.int 9)) .nil)))) (.call 0 (.lend 0 (.ev (.c (.int 3)) .nil)))))
  (.bOne (.sRet (.cB .tuple (.cons (.comp 1 ["_law_sign"] ["_law_pen","_law_top"] [0,1] (.iR1 (.cons (.bin .add (.c (.int 2)) (.call 0 (.lend 0 (.ev (.c (.int 2)) .nil)))) .nil)) (.n 0) .tTr (.bin .add (.c (.int 1)) (.call 0 (.lend 1 (.ev (.var 2) .nil))))) .nil)))))
def jJ:List FI:=[⟨"_law_draw",2,2,false,zm⟩]
def je:MF:=fnM 2 (dB jJ Yy)
def JR:Bx :=
  (.bSeq (.sSet 1 (.call 1 (.lend 0 .nil)))
  (.bSeq (.sSet 2 (.call 0 (.lend 0 (.ev (.cB .len (.cons (.var 1) .nil)) .nil))))
  (.bSeq (.sSet 3 (.bin .mod (.bin .add (.bin .add (.var 2) (.c (.int 1))) (.call 0 (.lend 0 (.ev (.bin .sub (.cB .len (.cons (.var 1) .nil)) (.c (.int 1))) .nil)))) (.cB .len (.cons (.var 1) .nil))))
  (.bOne (.sRet (.t (.cons (.var 1) (.cons (.var 2) (.cons (.bin .add (.c (.int 1)) (.call 0 (.lend 0 (.ev (.c (.int 6)) .nil)))) (.cons (.var 3) (.cons (.bin .add (.c (.int 1)) (.call 0 (.lend 0 (.ev (.c (.int 6)) .nil)))) .nil)))))))))))
def ww:List FI:=[⟨"_law_draw",2,2,false,zm⟩,⟨"_law_die_by",1,3,false,je⟩]
def y8:MF:=fnM 4 (dB ww JR)
def Wz:Bx :=
  (.bOne (.sRet (.cmp .le (.bin .mul (.ix (.var 0) (.c (.int 0))) (.ix (.var 1) (.c (.int 1)))) (.bin .mul (.ix (.var 1) (.c (.int 0))) (.ix (.var 0) (.c (.int 1)))))))
def QK:List FI:=[]
def zq:MF:=fnM 2 (dB QK Wz)
abbrev Q7:Bx :=
  (.bSeq (.sSet 2 (.call 12 (.ev (.var 1) .nil)))
  (.bSeq (.sSet 3 (.call 11 (.lend 2 .nil)))
  (.bSeq (.sTup [4,5,6,7,8] (.var 3))
  (.bSeq (.sSet 9 (.t (.cons (.var 4) (.cons (.var 7) (.cons (.var 8) (.cons (.var 5) (.cons (.var 6) .nil)))))))
  (.bSeq (.sSet 10 (.call 9 (.ev (.var 3) .nil)))
  (.bSeq (.sIf (.tOr (.tNot (.tE (.call 10 (.ev (.var 3) .nil)))) (.tE (.cmp .ne (.call 4 (.ev (.var 10) (.ev (.call 9 (.ev (.var 9) .nil)) .nil))) (.t (.cons (.c (.int 1)) (.cons (.c (.int 1)) .nil)))))) (.bOne (.sRet (.c (.bl false)))) .bNil)
  (.bSeq (.sIf (.tE (.cmp .ne (.call 0 (.ev (.var 3) .nil)) (.call 0 (.ev (.var 9) .nil)))) (.bOne (.sRet (.c (.bl false)))) .bNil)
  (.bSeq (.sIf (.tAnd (.tE (.cmp .lt (.var 6) (.c (.int 6)))) (.tNot (.tE (.call 3 (.ev (.call 9 (.ev (.t (.cons (.var 4) (.cons (.var 5) (.cons (.bin .add (.var 6) (.c (.int 1))) (.cons (.var 7) (.cons (.var 8) .nil)))))) .nil)) (.ev (.var 10) .nil)))))) (.bOne (.sRet (.c (.bl false)))) .bNil)
  (.bSeq (.sSet 11 (.call 8 (.ev (.var 3) .nil)))
  (.bSeq (.sIf (.tOr (.tE (.cmp .isn (.call 7 (.ev (.var 3) (.ev (.var 11) .nil))) (.c (.bl true)))) (.tOr (.tE (.cmp .ne (.ix (.var 11) (.c (.int 0))) (.var 10))) (.tE (.cmp .ne (.cB .len (.cons (.var 11) .nil)) (.cB .len (.cons (.call 6 (.ev (.var 3) .nil)) .nil)))))) (.bOne (.sRet (.c (.bl false)))) .bNil)
  (.bSeq (.sSet 12 (.call 5 (.lend 2 (.ev (.c (.int 30)) .nil))))
  (.bSeq (.sPar 13 14 (.cons (.call 2 (.ev (.var 3) (.ev (.var 12) .nil))) (.cons (.call 2 (.ev (.var 3) (.ev (.bin .add (.var 12) (.c (.int 1))) .nil))) .nil)))
  (.bSeq (.sIf (.tOr (.tE (.cmp .ne (.call 4 (.ev (.call 4 (.ev (.ix (.var 13) (.c (.int 0))) (.ev (.ix (.var 13) (.c (.int 1))) .nil))) (.ev (.ix (.var 13) (.c (.int 2))) .nil))) (.t (.cons (.c (.int 1)) (.cons (.c (.int 1)) .nil))))) (.tNot (.tE (.call 3 (.ev (.ix (.var 14) (.c (.int 2))) (.ev (.ix (.var 13) (.c (.int 2))) .nil)))))) (.bOne (.sRet (.c (.bl false)))) .bNil)
  (.bSeq (.sIf (.tOr (.tNot (.tE (.call 3 (.ev (.ix (.var 13) (.c (.int 0))) (.ev (.ix (.var 14) (.c (.int 0))) .nil))))) (.tOr (.tNot (.tE (.call 3 (.ev (.ix (.var 14) (.c (.int 0))) (.ev (.var 10) .nil))))) (.tNot (.tE (.call 3 (.ev (.ix (.var 13) (.c (.int 1))) (.ev (.ix (.var 14) (.c (.int 1))) .nil))))))) (.bOne (.sRet (.c (.bl false)))) .bNil)
  (.bSeq (.sIf (.tE (.cmp .ne (.call 2 (.ev (.var 9) (.ev (.var 12) .nil))) (.t (.cons (.ix (.var 13) (.c (.int 1))) (.cons (.ix (.var 13) (.c (.int 0))) (.cons (.ix (.var 13) (.c (.int 2))) .nil)))))) (.bOne (.sRet (.c (.bl false)))) .bNil)
  (.bOne (.sIf (.tE (.cmp .ne (.call 0 (.ev (.t (.cons (.var 4) (.cons (.var 5) (.cons (.c (.int 1)) (.cons (.var 7) (.cons (.c (.int 1)) .nil)))))) .nil)) (.call 1 (.ev (.cB .sum (.cons (.var 4) .nil)) (.ev (.bin .add (.ix (.var 4) (.var 5)) (.ix (.var 4) (.var 7))) .nil))))) (.bOne (.sRet (.c (.bl false)))) .bNil)))))))))))))))))
def t_law:Bx :=
  (.bSeq (.sForL (.bin .add (.l (.cons (.call 13 (.ev (.var 0) (.ev (.c (.int 0)) .nil))) .nil)) (.sl (.var 0) (.oS (.c (.int 1))) (.oS (.c (.int 3))))) (.n 1)
  Q7)
  (.bOne (.sRet (.c (.bl true)))))
def zAz:List FI:=[⟨"mean_throws",1,9,false,yg⟩,⟨"_law_share",2,1,false,yu⟩,⟨"shares_by",2,7,false,jE⟩,⟨"_law_upto",2,1,false,zq⟩,⟨"_law_add",2,2,false,yh⟩,⟨"_law_draw",2,2,false,zm⟩,⟨"stands_list",1,6,false,yG⟩,⟨"paper_good",2,7,false,j7⟩,⟨"share_paper",1,7,false,yf⟩,⟨"first_share",1,8,false,yH⟩,⟨"match_good",1,4,false,yr⟩,⟨"_law_match_by",1,4,false,y8⟩,⟨"_law_pen_of",1,1,false,y6⟩,⟨"_law_cell_at",2,1,false,yk⟩]
def m_law:MF:=fnM 15 (dB zAz t_law)
structure Txt(K:qH)(mg:Str->Option Value):Prop where
 n_abs:mg "abs"=none
 n_all:mg "all"=none
 n_bool:mg "bool"=none
 n_dict:mg "dict"=none
 n_enumerate:mg "enumerate"=none
 n_int:mg "int"=none
 n_isinstance:mg "isinstance"=none
 n_len:mg "len"=none
 n_max:mg "max"=none
 n_range:mg "range"=none
 n_sum:mg "sum"=none
 n_tuple:mg "tuple"=none
 n_zip:mg "zip"=none
 c_ALL:∃a,mg "ALL"=some (.ref a)/\∀H,Rep K mg H (.t [.int 1,.int 1]) (.ref a)
 c_LEAST_SIGNS:∃t,mg "LEAST_SIGNS"=some (.int 2 t)
 c_LEAST_WEIGHT:∃t,mg "LEAST_WEIGHT"=some (.int 1 t)
 c_MOST_AWAITED:∃t,mg "MOST_AWAITED"=some (.int 8 t)
 c_MOST_MATCHED:∃t,mg "MOST_MATCHED"=some (.int 6 t)
 c_MOST_PLAYED:∃t,mg "MOST_PLAYED"=some (.int 30 t)
 c_MOST_SIGNS:∃t,mg "MOST_SIGNS"=some (.int 3 t)
 c_MOST_WEIGHT:∃t,mg "MOST_WEIGHT"=some (.int 9 t)
 c_NOTHING:∃a,mg "NOTHING"=some (.ref a)/\∀H,Rep K mg H (.t [.int 0,.int 1]) (.ref a)
 c_NO_STAND:∃a,mg "NO_STAND"=some (.ref a)/\∀H,Rep K mg H (.t [.non,.int 0]) (.ref a)
 f_is_whole:wK K mg "is_whole" vV ["thing"]
 f_is_whole_within:wK K mg "is_whole_within" wL ["thing","low","high"]
 f_greatest_divisor:wK K mg "greatest_divisor" jw ["one","other"]
 f_whole_power:wK K mg "whole_power" YN ["base","exponent"]
 f_share_good:wK K mg "share_good" ZY ["thing"]
 f_share_of:wK K mg "share_of" vW ["top","bottom"]
 f_share_plus:wK K mg "share_plus" ZZ ["one","other"]
 f_share_less:wK K mg "share_less" Za ["one","other"]
 f_share_times:wK K mg "share_times" YO ["one","other"]
 f_share_by:wK K mg "share_by" vX ["one","other"]
 f_share_power:wK K mg "share_power" YQ ["share","exponent"]
 f_share_sum:wK K mg "share_sum" WM ["shares"]
 f_die_good:wK K mg "die_good" vY ["thing"]
 f_need_die:wK K mg "need_die" vZ ["thing"]
 f_need_number:wK K mg "need_number" YR ["thing","low","high"]
 f_need_sign:wK K mg "need_sign" WN ["thing","signs"]
 f_share_in_all:wK K mg "share_in_all" Jj ["die","n","weight"]
 f_need_awaited:wK K mg "need_awaited" Jk ["die","sign","k"]
 f_waits_list:wK K mg "waits_list" Zb ["die","sign","k"]
 f_mean_first:wK K mg "mean_first" Zc ["die","sign","k"]
 f_match_good:wK K mg "match_good" Zd ["thing"]
 f_need_match:wK K mg "need_match" Ze ["thing"]
 f_stands_list:wK K mg "stands_list" YS ["match"]
 f_stand_behind:wK K mg "stand_behind" Jl ["match","stand","thrown"]
 f_share_paper:wK K mg "share_paper" YT ["match"]
 f_first_share:wK K mg "first_share" YU ["match"]
 f_paper_good:wK K mg "paper_good" Zf ["match","thing"]
 f_mean_throws:wK K mg "mean_throws" YV ["match"]
 f_shares_by:wK K mg "shares_by" WO ["match","n"]
 f__law_cell_at:wK K mg "_law_cell_at" Jm ["_law_script","_law_k"]
 f__law_next:wK K mg "_law_next" WP ["_law_seed"]
 f__law_pen_of:wK K mg "_law_pen_of" YW ["_law_cell"]
 f__law_draw:wK K mg "_law_draw" WQ ["_law_pen","_law_many"]
 f__law_share:wK K mg "_law_share" Zg ["_law_top","_law_bottom"]
 f__law_add:wK K mg "_law_add" vb ["_law_one","_law_other"]
 f__law_die_by:wK K mg "_law_die_by" YX ["_law_pen"]
 f__law_match_by:wK K mg "_law_match_by" w6 ["_law_pen"]
 f__law_upto:wK K mg "_law_upto" WR ["_law_one","_law_other"]
 f_law:wK K mg "law" s_law ["_law_script"]
 cl:ClOk K mg cl_ rs_
section
variable{P:Program}{w:World}{K:qH}{mg:Str->Option Value}{base:Heap}
def yV(T:Txt K mg):zC9 K mg cs_:=(zDA T.c_ALL (YA T.c_LEAST_SIGNS (YA T.c_LEAST_WEIGHT (YA T.c_MOST_AWAITED (YA T.c_MOST_MATCHED (YA T.c_MOST_PLAYED (YA T.c_MOST_SIGNS (YA T.c_MOST_WEIGHT (zDA T.c_NOTHING (zDA T.c_NO_STAND cs_nil))))))))))
def yW(T:Txt K mg):zC8 P w K mg base ri_:=ris_nil
def yX(T:Txt K mg):BsOk mg bs_:=(jD T.n_abs (jD T.n_all (jD T.n_bool (jD T.n_dict (jD T.n_enumerate (jD T.n_int (jD T.n_isinstance (jD T.n_len (jD T.n_max (jD T.n_range (jD T.n_sum (jD T.n_tuple (jD T.n_zip bs_nil)))))))))))))
def W0(T:Txt K mg):FOk P w K mg base true "is_whole" 1 ["thing"] jk:=zR v6 ["thing"] T.f_is_whole (yV T) ze (yX T) T.cl (yW T) (by decide +kernel)
def y9(T:Txt K mg):FOk P w K mg base true "is_whole_within" 2 ["thing","low","high"] zW:=zR ye ["thing","low","high"] T.f_is_whole_within (yV T) (zE (W0 T) rfl ze) (yX T) T.cl (yW T) (by decide +kernel)
def jt(T:Txt K mg):FOk P w K mg base true "greatest_divisor" 1 ["one","other"] zf:=zR jz ["one","other"] T.f_greatest_divisor (yV T) ze (yX T) T.cl (yW T) (by decide +kernel)
def vO(T:Txt K mg):FOk P w K mg base true "whole_power" 1 ["base","exponent"] ja:=zR Yp ["base","exponent","power","step"] T.f_whole_power (yV T) ze (yX T) T.cl (yW T) (by decide +kernel)
def uw(T:Txt K mg):FOk P w K mg base true "share_good" 2 ["thing"] j0:=zR Zo ["thing","top","bottom"] T.f_share_good (yV T) (zE (jt T) rfl (zE (W0 T) rfl ze)) (yX T) T.cl (yW T) (by decide +kernel)
def yn(T:Txt K mg):FOk P w K mg base true "share_of" 2 ["top","bottom"] zS:=zR v7 ["top","bottom","divisor"] T.f_share_of (yV T) (zE (jt T) rfl ze) (yX T) T.cl (yW T) (by decide +kernel)
def Yz(T:Txt K mg):FOk P w K mg base true "share_plus" 3 ["one","other"] yF:=zR Zq ["one","other"] T.f_share_plus (yV T) (zE (yn T) rfl ze) (yX T) T.cl (yW T) (by decide +kernel)
def ux(T:Txt K mg):FOk P w K mg base true "share_less" 3 ["one","other"] j5:=zR Zr ["one","other"] T.f_share_less (yV T) (zE (yn T) rfl ze) (yX T) T.cl (yW T) (by decide +kernel)
def wF(T:Txt K mg):FOk P w K mg base true "share_times" 3 ["one","other"] zo:=zR Yq ["one","other"] T.f_share_times (yV T) (zE (yn T) rfl ze) (yX T) T.cl (yW T) (by decide +kernel)
def Q8(T:Txt K mg):FOk P w K mg base true "share_by" 3 ["one","other"] yp:=zR v8 ["one","other"] T.f_share_by (yV T) (zE (yn T) rfl ze) (yX T) T.cl (yW T) (by decide +kernel)
def vQ(T:Txt K mg):FOk P w K mg base true "share_power" 4 ["share","exponent"] jb:=zR Yr ["share","exponent","power","step"] T.f_share_power (yV T) (zE (wF T) rfl ze) (yX T) T.cl (yW T) (by decide +kernel)
def Zz(T:Txt K mg):FOk P w K mg base true "share_sum" 4 ["shares"] ym:=zR Wv ["shares","total","share"] T.f_share_sum (yV T) (zE (Yz T) rfl ze) (yX T) T.cl (yW T) (by decide +kernel)
def W1(T:Txt K mg):FOk P w K mg base true "die_good" 3 ["thing"] yq:=zR v9 ["thing"] T.f_die_good (yV T) (zE (y9 T) rfl ze) (yX T) T.cl (yW T) (by decide +kernel)
def Q9(T:Txt K mg):FOk P w K mg base true "need_die" 4 ["thing"] Ja:=zR uA ["thing"] T.f_need_die (yV T) (zE (W1 T) rfl ze) (yX T) T.cl (yW T) (by decide +kernel)
def wG(T:Txt K mg):FOk P w K mg base true "need_number" 3 ["thing","low","high"] yU:=zR Ys ["thing","low","high"] T.f_need_number (yV T) (zE (y9 T) rfl ze) (yX T) T.cl (yW T) (by decide +kernel)
def QL(T:Txt K mg):FOk P w K mg base true "need_sign" 4 ["thing","signs"] wc:=zR Ww ["thing","signs"] T.f_need_sign (yV T) (zE (wG T) rfl ze) (yX T) T.cl (yW T) (by decide +kernel)
def W2(T:Txt K mg):FOk P w K mg base true "share_in_all" 3 ["die","n","weight"] jH:=zR Jt ["die","n","weight"] T.f_share_in_all (yV T) (zE (yn T) rfl (zE (vO T) rfl ze)) (yX T) T.cl (yW T) (by decide +kernel)
def W3(T:Txt K mg):FOk P w K mg base true "need_awaited" 5 ["die","sign","k"] jI:=zR Ju ["die","sign","k"] T.f_need_awaited (yV T) (zE (wG T) rfl (zE (QL T) rfl (zE (Q9 T) rfl ze))) (yX T) T.cl (yW T) (by decide +kernel)
def Y0(T:Txt K mg):FOk P w K mg base true "waits_list" 6 ["die","sign","k"] yc:=zR Zs ["die","sign","k","powers"] T.f_waits_list (yV T) (zE (Zz T) rfl (zE (vQ T) rfl (zE (yn T) rfl (zE (W3 T) rfl ze)))) (yX T) T.cl (yW T) (by decide +kernel)
def uy(T:Txt K mg):FOk P w K mg base true "mean_first" 7 ["die","sign","k"] j6:=zR Zt ["die","sign","k"] T.f_mean_first (yV T) (zE (Y0 T) rfl ze) (yX T) T.cl (yW T) (by decide +kernel)
def Y1(T:Txt K mg):FOk P w K mg base true "match_good" 4 ["thing"] yr:=zR Zu ["thing","die","sign","k","other","length"] T.f_match_good (yV T) (zE (y9 T) rfl (zE (W1 T) rfl ze)) (yX T) T.cl (yW T) (by decide +kernel)
def jf(T:Txt K mg):FOk P w K mg base true "need_match" 5 ["thing"] zy:=zR Zv ["thing"] T.f_need_match (yV T) (zE (Y1 T) rfl ze) (yX T) T.cl (yW T) (by decide +kernel)
def wH(T:Txt K mg):FOk P w K mg base true "stands_list" 6 ["match"] yG:=zR Yu ["match","die","sign","k","other","length","of_one","of_other"] T.f_stands_list (yV T) (zE (jf T) rfl ze) (yX T) T.cl (yW T) (by decide +kernel)
def JS(T:Txt K mg):FOk P w K mg base true "stand_behind" 1 ["match","stand","thrown"] yZ:=zR Jv ["match","stand","thrown","die","sign","k","other","length"] T.f_stand_behind (yV T) ze (yX T) T.cl (yW T) (by decide +kernel)
def Jy(T:Txt K mg):FOk P w K mg base true "share_paper" 7 ["match"] yf:=zR Yv ["match","die","sign","k","other","length","ones","others","together","nothing","of_one","of_other"] T.f_share_paper (yV T) (zE (Q8 T) rfl (zE (ux T) rfl (zE (Yz T) rfl (zE (Y0 T) rfl (zE (jf T) rfl ze))))) (yX T) T.cl (yW T) (by decide +kernel)
def Jz(T:Txt K mg):FOk P w K mg base true "first_share" 8 ["match"] yH:=zR Yw ["match"] T.f_first_share (yV T) (zE (Jy T) rfl ze) (yX T) T.cl (yW T) (by decide +kernel)
def uz(T:Txt K mg):FOk P w K mg base true "paper_good" 7 ["match","thing"] j7:=zR Zw ["match","thing","stands","die","sign","k","other","length","shares","chances","stand","follows"] T.f_paper_good (yV T) (zE (Zz T) rfl (zE (wF T) rfl (zE (JS T) rfl (zE (yn T) rfl (zE (uw T) rfl (zE (wH T) rfl ze)))))) (yX T) T.cl (yW T) (by decide +kernel)
def vR(T:Txt K mg):FOk P w K mg base true "mean_throws" 9 ["match"] yg:=zR Yx ["match","die","sign","k","other","length"] T.f_mean_throws (yV T) (zE (wF T) rfl (zE (Jz T) rfl (zE (uy T) rfl (zE (jf T) rfl ze)))) (yX T) T.cl (yW T) (by decide +kernel)
def QM(T:Txt K mg):FOk P w K mg base true "shares_by" 7 ["match","n"] jE:=zR YF ["match","n","die","sign","k","other","length","stands","one_there","other_there","ends","throw","grown","stand","thrown","weight","none"] T.f_shares_by (yV T) (zE (W2 T) rfl (zE (JS T) rfl (zE (wH T) rfl (zE (wG T) rfl (zE (jf T) rfl ze))))) (yX T) T.cl (yW T) (by decide +kernel)
def W4(T:Txt K mg):FOk P w K mg base true "_law_cell_at" 1 ["_law_script","_law_k"] yk:=zR wE ["_law_script","_law_k"] T.f__law_cell_at (yV T) ze (yX T) T.cl (yW T) (by decide +kernel)
def QN(T:Txt K mg):FOk P w K mg base true "_law_next" 1 ["_law_seed"] we:=zR YG ["_law_seed"] T.f__law_next (yV T) ze (yX T) T.cl (yW T) (by decide +kernel)
def vS(T:Txt K mg):FOk P w K mg base true "_law_pen_of" 1 ["_law_cell"] y6:=zR wf ["_law_cell","_law_left"] T.f__law_pen_of (yV T) ze (yX T) T.cl (yW T) (by decide +kernel)
def JT(T:Txt K mg):FOk P w K mg base true "_law_draw" 2 ["_law_pen","_law_many"] zm:=zR wg ["_law_pen","_law_many","_law_found"] T.f__law_draw (yV T) (zE (QN T) rfl ze) (yX T) T.cl (yW T) (by decide +kernel)
def Y2(T:Txt K mg):FOk P w K mg base true "_law_share" 1 ["_law_top","_law_bottom"] yu:=zR Zy ["_law_top","_law_bottom","_law_one","_law_other"] T.f__law_share (yV T) ze (yX T) T.cl (yW T) (by decide +kernel)
def zAA(T:Txt K mg):FOk P w K mg base true "_law_add" 2 ["_law_one","_law_other"] yh:=zR uB ["_law_one","_law_other"] T.f__law_add (yV T) (zE (Y2 T) rfl ze) (yX T) T.cl (yW T) (by decide +kernel)
def vT(T:Txt K mg):FOk P w K mg base true "_law_die_by" 3 ["_law_pen"] je:=zR Yy ["_law_pen","_law_top"] T.f__law_die_by (yV T) (zE (JT T) rfl ze) (yX T) T.cl (yW T) (by decide +kernel)
def Z6(T:Txt K mg):FOk P w K mg base true "_law_match_by" 4 ["_law_pen"] y8:=zR JR ["_law_pen","_law_die","_law_sign","_law_other"] T.f__law_match_by (yV T) (zE (JT T) rfl (zE (vT T) rfl ze)) (yX T) T.cl (yW T) (by decide +kernel)
def QO(T:Txt K mg):FOk P w K mg base true "_law_upto" 1 ["_law_one","_law_other"] zq:=zR Wz ["_law_one","_law_other"] T.f__law_upto (yV T) ze (yX T) T.cl (yW T) (by decide +kernel)
end
def law_fd{P:Program}{w:World}{K:qH}{mg:Str->Option Value}{fa:Addr}(hfa:mg "law"=some (.ref fa))(T:Txt K mg):∃fd:FuncData,(∀(s:Shared) (u:Value),BindsTo s fd ⟨[u],[]⟩ [("_law_script",u)])/\∀base:Heap,FnOk P w K mg base (CXx P w) 40 fa fd ["_law_script"] (spM K mg 1 m_law):=by
 obtain⟨a,fd,hm,F,bnd⟩:=T.f_law;have e:=hfa.symm.trans hm;cases e;refine⟨fd,?_,λbase=>(def_atB (P:=P) (w:=w) (base:=base) (fs:=zAz) (lv:=9) t_law ["_law_script","_law_cell","_law_pen","_law_match","_law_die","_law_sign","_law_k","_law_other","_law_most","_law_contrary_match","_law_here","_law_paper","_law_n","_law_now","_law_later"] F (yV T) (zE (vR T) rfl (zE (Y2 T) rfl (zE (QM T) rfl (zE (QO T) rfl (zE (zAA T) rfl (zE (JT T) rfl (zE (wH T) rfl (zE (uz T) rfl (zE (Jy T) rfl (zE (Jz T) rfl (zE (Y1 T) rfl (zE (Z6 T) rfl (zE (vS T) rfl (zE (W4 T) rfl ze)))))))))))))) (yX T) T.cl (yW T) (by decide +kernel)).mono (by decide)⟩;obtain⟨oc,od,kV,doc,pm,an,cdv,ct,osl,rfl,lk,hcd⟩:=F.ex;exact λs u=>.of_eq rfl
end My
namespace DV
open PySem L2
section
variable{fs:List FI}{E E1 E2 E3:zM}
def x_c{d:D}:dE fs (.c d) E=.ok (.v d,E):=by simp only[rE_c,eC]
def GA{d:D}:dE fs (.gl d) E=.ok (.v d,E):=by simp only[rE_gl,eC]
def zA{i:Nat}{d:D}(h:E[i]?=some (.v d)):dE fs (.var i) E=.ok (.v d,E):=by simp only[Jo,zBK,h]
def Y3{i:Nat}{ds:List D}(h:E[i]?=some (.own ds))(h':E.set i (.v (.l ds))=E1):dE fs (.var i) E=.ok (.v (.l ds),E1):=by simp only[Jo,QC,zBK,h,h']
def zh{o:Op2}{a b:_}{r1 r2 r:R}(h1:dE fs a E=.ok (r1,E1))(h2:dE fs b E1=.ok (r2,E2))(h3:o.f r1.d r2.d=some r):dE fs (.bin o a b) E=.ok (r,E2):=by simp only[v5,Z5,h1,h2,h3]
def yl{o:Cp}{a b:_}{r1 r2 r:R}(h1:dE fs a E=.ok (r1,E1))(h2:dE fs b E1=.ok (r2,E2))(h3:o.f r1.d r2.d=some r):dE fs (.cmp o a b) E=.ok (r,E2):=by simp only[QB,Z5,h1,h2,h3]
def yj{a b:_}{r1 r2 r:R}(h1:dE fs a E=.ok (r1,E1))(h2:dE fs b E1=.ok (r2,E2))(h3:ixD r1.d r2.d=some r):dE fs (.ix a b) E=.ok (r,E2):=by simp only[rE_ix,Z5,h1,h2,h3]
def Jb{b:Bi}{as:_}{rs:List R}{r:R}(h1:dA fs as E=.ok (rs,E1))(h2:b.f (rs.map R.d)=some r):dE fs (.cB b as) E=.ok (r,E1):=by simp only[zEu,eCB,h1,h2]
def jg{as:_}{rs:List R}{ds:List D}(h1:dA fs as E=.ok (rs,E1))(h2:rs.map R.d=ds)(h3:ds.length<=cap):dE fs (.t as) E=.ok (.v (.t ds),E1):=by
 subst h2;simp only[zF1,zCP,eCB,h1];rw[if_pos h3]
def zDD{as:_}{rs:List R}{ds:List D}(h1:dA fs as E=.ok (rs,E1))(h2:rs.map R.d=ds)(h3:ds.length<=cap):dE fs (.l as) E=.ok (.own ds,E1):=by
 subst h2;simp only[QC,zCQ,eCB,h1];rw[if_pos h3]
def x_sl{a l u:_}{r r':R}{lo hi:Option Int}{E3:zM}(h1:dE fs a E=.ok (r,E1))(h2:dO fs l E1=.ok (lo,E2))(h3:dO fs u E2=.ok (hi,E3))(h4:slD r.d lo hi=some r'):dE fs (.sl a l u) E=.ok (r',E3):=by simp only[rE_sl,eSl,h1,h2,h3,h4]
def zd{k:Nat}{a:_}{F:MF}{r r':R}{o:Slot}(h0:fiF fs k=F)(h1:dE fs a E=.ok (r,E1))(h2:F [.v r.d]=.ok (r',[o])):dE fs (.call k (.ev a .nil)) E=.ok (r',E1):=by
 subst h0;simp only[jR,uf,wP,wO,yB,h1,zK,h2,zH]
def zP{k:Nat}{a b:_}{F:MF}{r r2 r':R}{o o2:Slot}(h0:fiF fs k=F)(h1:dE fs a E=.ok (r,E1))(h1':dE fs b E1=.ok (r2,E2))(h2:F [.v r.d,.v r2.d]=.ok (r',[o,o2])):dE fs (.call k (.ev a (.ev b .nil))) E=.ok (r',E2):=by
 subst h0;simp only[jR,uf,wP,wO,yB,h1,h1',zK,h2,zH]
def zDE{o o':Cp}{a b c:_}{i j k:Int}{E3:zM}{v:Bool}(h1:dE fs a E=.ok (.v (.int i),E1))(h2:dE fs b E1=.ok (.v (.int j),E2))(h3:o.b i j=true)(h4:dE fs c E2=.ok (.v (.int k),E3))(h5:o'.b j k=v):dE fs (.chain o o' a b c) E=.ok (.v (.bl v),E3):=by
 subst h5;simp only[WF,jq,h1,h2,h4];rw[if_pos h3]
def zE6{o o':Cp}{a b c:_}{i j:Int}(h1:dE fs a E=.ok (.v (.int i),E1))(h2:dE fs b E1=.ok (.v (.int j),E2))(h3:o.b i j=false):dE fs (.chain o o' a b c) E=.ok (.v (.bl false),E2):=by
 simp only[WF,jq,h1,h2];rw[if_neg (by rw[h3];decide)]
def zE7{k i:Nat}{a:_}{F:MF}{r r':R}{p p':List D}{o:Slot}(h0:fiF fs k=F)(hE:E[i]?=some (.own p))(h1:dE fs a E=.ok (r,E))(h2:F [.par p,.v r.d]=.ok (r',[.par p',o]))(h3:E.set i (.own p')=E1):dE fs (.call k (.lend i (.ev a .nil))) E=.ok (r',E1):=by
 subst h0 h3;have hi:i<E.length:=(qG.mp hE).1;have hs:(E.set i .e)[i]?=some .e:=by simp[hi]
 simp only[jR,uf,ug,wP,wO,yB,hE,jX,Bool.false_eq_true,if_false,h1,zK,Slot.list?,h2,zH,hs,Slot.put,set_set]
def yo{k:Nat}{a b c:_}{F:MF}{r r2 r3 r':R}{o o2 o3:Slot}(h0:fiF fs k=F)(h1:dE fs a E=.ok (r,E1))(h1':dE fs b E1=.ok (r2,E2))(h1'':dE fs c E2=.ok (r3,E3))(h2:F [.v r.d,.v r2.d,.v r3.d]=.ok (r',[o,o2,o3])):dE fs (.call k (.ev a (.ev b (.ev c .nil)))) E=.ok (r',E3):=by
 subst h0;simp only[jR,uf,wP,wO,yB,h1,h1',h1'',zK,h2,zH]
def yO{n:Nat}{body:MS}{ss o:List Slot}{r:R}(h:body (ss++replicate (n-ss.length) .e)=.ok (.ret r,E1))(ho:zk ss E1=o):fnM n body ss=.ok (r,o):=by
 subst ho;simp only[fnM,h]
def f_nx{n:Nat}{body:MS}{ss o:List Slot}(h:body (ss++replicate (n-ss.length) .e)=.ok (.nx,E1))(ho:zk ss E1=o):fnM n body ss=.ok (.v .non,o):=by
 subst ho;simp only[fnM,h]
def zN:dA fs .nil E=.ok ([],E):=by simp only[Wr,zCO]
def zB{a as:_}{r:R}{rs:List R}(h1:dE fs a E=.ok (r,E1))(h2:dA fs as E1=.ok (rs,E2)):dA fs (.cons a as) E=.ok (r::rs,E2):=by simp only[Qx,ZF,h1,h2]
def o_N:dO fs .oN E=.ok (none,E):=by simp only[rO_oN,zEK]
def o_S{a:_}{i:Int}(h:dE fs a E=.ok (.v (.int i),E1)):dO fs (.oS a) E=.ok (some i,E1):=by simp only[rO_oS,zCW,h]
def t_E{a:_}{b:Bool}(h:dE fs a E=.ok (.v (.bl b),E1)):dT fs (.tE a) E=.ok (b,E1):=by simp only[zEw,tT,h]
def zBX{a b:_}{c:Bool}(h1:dT fs a E=.ok (false,E1))(h2:dT fs b E1=.ok (c,E2)):dT fs (.tOr a b) E=.ok (c,E2):=by simp only[rT_tOr,zBN,h1,h2]
def jN{a:_}{b c:Bool}(h1:dT fs a E=.ok (b,E1))(h2:(!b)=c):dT fs (.tNot a) E=.ok (c,E1):=by subst h2;simp only[rT_tNot,ZE,h1]
def yd{i:Nat}{a:_}{r:R}(h1:dE fs a E=.ok (r,E1))(h2:Z9 i r E1=.ok E2):dS fs (.sSet i a) E=.ok (.nx,E2):=by simp only[Ws,sSet,h1,h2]
def yw{t a b:_}{o:Out (Fl×zM)}(h1:dT fs t E=.ok (false,E1))(h2:dB fs b E1=o):dS fs (.sIf t a b) E=o:=by subst h2;simp only[QD,sIf,h1]
def zBY{t a b:_}{o:Out (Fl×zM)}(h1:dT fs t E=.ok (true,E1))(h2:dB fs a E1=o):dS fs (.sIf t a b) E=o:=by subst h2;simp only[QD,sIf,h1]
def yP{a:_}{r:R}(h1:dE fs a E=.ok (r,E1)):dS fs (.sRet a) E=.ok (.ret r,E1):=by simp only[JI,sRet,h1]
def J0{a:_}{r:R}(h1:dE fs a E=.ok (r,E1)):dS fs (.sDrop a) E=.ok (.nx,E1):=by simp only[zEx,sDrop,h1]
def zAB{is:List Nat}{a:_}{r:R}(h1:dE fs a E=.ok (r,E1))(h2:gT is r.d E1=.ok E2):dS fs (.sTup is a) E=.ok (.nx,E2):=by simp only[rS_sTup,sTup,h1,h2]
def GB{i j:Nat}{as:_}{r1 r2:R}(h1:dA fs as E=.ok ([r1,r2],E1))(h2:gNs [i,j] [r1.d,r2.d] E1=.ok E2):dS fs (.sPar i j as) E=.ok (.nx,E2):=by simp only[rS_sPar,sPar,h1,h2]
def QP{a b:_}{tg:Tg}{r:R}{ds:List D}{p:Fl×zM}(h1:dE fs a E=.ok (r,E1))(h2:r.d=.l ds)(h3:vq tg.m (dB fs b) ds E1=.ok p):dS fs (.sForL a tg b) E=.ok p:=by simp only[zE0];exact ud (by simp only[sForL,h1,h2,h3])
def zAC{a b:_}{tg:Tg}{r:R}{j:Int}{p:Fl×zM}(h1:dA fs a E=.ok ([r],E1))(h2:r.d=.int j)(hj:-1000000<=j/\j<=1000000)(h3:vq tg.m (dB fs b) (zJ 0 j.toNat) E1=.ok p):dS fs (.sForR1 a tg b) E=.ok p:=by
 simp only[zC3];refine ud ?_;simp only[sForR1,h1,h2];rw[if_pos ⟨by omega,by omega⟩,h3]
def i_L{a:_}{r:R}{ds:List D}(h1:dE fs a E=.ok (r,E1))(h2:r.d=.l ds):dI fs (.iL a) E=.ok (ds,E1):=by simp only[rI_iL,iL,h1,h2]
def i_T{a:_}{r:R}{ds:List D}(h1:dE fs a E=.ok (r,E1))(h2:r.d=.t ds):dI fs (.iT a) E=.ok (ds,E1):=by simp only[rI_iT,iT,h1,h2]
def i_R1{a:_}{r:R}{j:Int}(h1:dA fs a E=.ok ([r],E1))(h2:r.d=.int j)(hj:-1000000<=j/\j<=1000000):dI fs (.iR1 a) E=.ok (zJ 0 j.toNat,E1):=by
 simp only[rI_iR1,iR1,h1,h2];rw[if_pos ⟨by omega,by omega⟩]
def yx:dB fs .bNil E=.ok (.nx,E):=by simp only[uh,zCX]
def zi{s:_}{o:Out (Fl×zM)}(h:dS fs s E=o):dB fs (.bOne s) E=o:=by simp only[JJ,h]
def zG{s b:_}{o:Out (Fl×zM)}(h:dS fs s E=.ok (.nx,E1))(h2:dB fs b E1=o):dB fs (.bSeq s b) E=o:=by simp only[J8,zAZ,h,h2]
def zBZ{s b:_}{r:R}(h:dS fs s E=.ok (.ret r,E1)):dB fs (.bSeq s b) E=.ok (.ret r,E1):=by simp only[J8,zAZ,h]
def zAD{d:D}:[d].length<=cap:=by simp only[List.length_singleton,cap];omega
def yJ{d e:D}:[d,e].length<=cap:=by simp only[length_cons,length_nil,cap];omega
def x_comp{nl:Nat}{xs ys:List Str}{caps:List Nat}{it tt el:_}{tg:Tg}{ds rs:List D}{vs:List D}(pat:D->List DV.Slot)(f:D->Bool)(g:D->D)(hi:dI fs it E=.ok (ds,E1))(hcap:wz E1 caps=.ok (vs.map AR.tmp))
  (h1:∀d∈ds,∀S:List DV.Slot,S.length=nl->(∀s∈S,jS s=true)->tg.m d (S++vs.map Slot.v)=.ok (pat d++vs.map Slot.v))
  (h2:∀d∈ds,(pat d).length=nl/\∀s∈pat d,jS s=true)
  (h3:∀d∈ds,dT fs tt (pat d++vs.map Slot.v)=.ok (f d,pat d++vs.map Slot.v))
  (h4:∀d∈ds,f d=true->∃r,dE fs el (pat d++vs.map Slot.v)=.ok (r,pat d++vs.map Slot.v)/\r.d=g d) (hc:ds.length<=cap) (hr:(ds.filter f).map g=rs):dE fs (.comp nl xs ys caps it tg tt el) E=.ok (.own rs,E1):=by
 subst hr;simp only[ue];exact Wq <| zE4 pat f g ds h1 h2 h3 h4 hc hi hcap
def wI{xs ys:List Str}{caps:List Nat}{it el:_}{ds rs:List D}{vs:List D}(g:D->D)(hi:dI fs it E=.ok (ds,E1))(hcap:wz E1 caps=.ok (vs.map AR.tmp))
  (h4:∀d∈ds,∃r,dE fs el (.v d::vs.map Slot.v)=.ok (r,.v d::vs.map Slot.v)/\r.d=g d) (hc:ds.length<=cap) (hr:ds.map g=rs):dE fs (.comp 1 xs ys caps it (.n 0) .tTr el) E=.ok (.own rs,E1):=by
 refine x_comp (λd=>[.v d]) (λ_=>true) g hi hcap (λd hd S hS hn=>gN_ok1 hS hn) (λd hd=>⟨rfl,λs hs=>?_⟩) (λd hd=>?_) (λd hd _=>h4 d hd) hc ?_
 ·rw[mem_singleton]at hs;subst hs;rfl
 ·simp only[zAt,uU]
 ·rw[List.filter_eq_self.mpr (λ_ _=>rfl),hr]
end
end DV
namespace SM
open PySem L2 DV
def ends(w o k:Nat):Nat->List Nat
 |0=>1::replicate k 0|n+1=>(o*(ends w o k n).sum)::((ends w o k n).dropLast.map (w*·))
def U(w o k n:Nat):Nat:=(ends w o k n).sum
def F(w o k m:Nat):Nat->Nat
 |0=>0|r+1=>F w o k m r+w^r*o*U w o k (m-1-r)
def fE(w o k n j:Nat):Nat:=if j<n then w^j*o*U w o k (n-1-j)else if j=n then w^n else 0
def rsum(f:Nat->Nat)(n:Nat):((List.range (n+1)).map f).sum=((List.range n).map f).sum+f n:=by
 rw[range_succ,map_append,sum_append];simp
theorem zDF(w:Nat):∀l:List Nat,(l.map (w*·)).sum=w*l.sum
 | []=>by simp|a::l=>by simp[zDF w l,mul_add]
def w4(m:Nat):Nat->List (List Nat)
 |0=>[[]]|n+1=>(w4 m n).flatMap λr=>(List.range m).map λx=>r++[x]
def wt(die:List Nat)(row:List Nat):Nat:=row.foldl (λa x=>a*die.getD x 0) 1
theorem WH(g:List Nat->Nat)(f:List Nat->List (List Nat)):∀l:List (List Nat),((l.flatMap f).map g).sum=(l.map λx=>((f x).map g).sum).sum
 | []=>rfl|a::l=>by simp[List.flatMap_cons,WH g f l]
theorem wR(c:Nat)(f:List Nat->Nat):∀l:List (List Nat),(l.map λx=>f x*c).sum=(l.map f).sum*c
 | []=>by simp|a::l=>by simp[wR c f l,add_mul]
def Die(die:List Nat):Prop:=(die.length=2\/die.length=3)/\∀x∈die,1<=x/\x<=9
def wk{die:List Nat}(hd:Die die):((List.range die.length).map λx=>die.getD x 0).sum=die.sum:=by
 match die,hd with
 | [a,b],hd=>simp[range_succ]| [a,b,c],hd=>simp[range_succ]| [],hd=>simp[Die]at hd| [_],hd=>simp[Die]at hd|_::_::_::_::_,hd=>simp[Die]at hd
theorem zE8{die:List Nat}(hd:Die die):∀n,((w4 die.length n).map (wt die)).sum=die.sum^n
 |0=>by simp[w4,wt]
 |n+1=>by
  simp only[w4];rw[WH,pow_succ,<- zE8 hd n];rw[<- wR];congr 1;refine map_congr_left λr _=>?_
  rw[map_map];have:(wt die ∘ λx=>r++[x])=λx=>wt die r*die.getD x 0:=by funext x;simp[wt]
  rw[this];have e:=zDF (wt die r) ((List.range die.length).map λx=>die.getD x 0);rw[map_map,wk hd]at e;exact e
def red(t u B b:Nat)(hB:0<B)(hb:0<b)(h:t*b=u*B):t/t.gcd B=u/u.gcd b/\B/t.gcd B=b/u.gcd b:=by
 have g0:0<t.gcd B:=gcd_pos_of_pos_right _ hB;have h0:0<u.gcd b:=gcd_pos_of_pos_right _ hb;have c1:=Nat.coprime_div_gcd_div_gcd (m:=t) (n:=B) g0;have c2:=Nat.coprime_div_gcd_div_gcd (m:=u) (n:=b) h0;have t1:t=t.gcd B*(t/t.gcd B):=(Nat.mul_div_cancel' (gcd_dvd_left t B)).symm;have B1:B=t.gcd B*(B/t.gcd B):=(Nat.mul_div_cancel' (gcd_dvd_right t B)).symm;have u1:u=u.gcd b*(u/u.gcd b):=(Nat.mul_div_cancel' (gcd_dvd_left u b)).symm;have b1:b=u.gcd b*(b/u.gcd b):=(Nat.mul_div_cancel' (gcd_dvd_right u b)).symm;generalize t.gcd B=g at *;generalize u.gcd b=k at *;generalize t/g=x at *;generalize B/g=y at *;generalize u/k=z at *;generalize b/k=v at *;have e:x*v=z*y:=by
  have:(g*k)*(x*v)=(g*k)*(z*y):=by
   calc (g*k)*(x*v)=(g*x)*(k*v):=by grind
    _=t*b:=by rw[<- t1,<- b1]
    _=u*B:=h
    _=(k*z)*(g*y):=by rw[<- u1,<- B1]
    _=(g*k)*(z*y):=by grind
  exact Nat.eq_of_mul_eq_mul_left (mul_pos g0 h0) this
 have d1:y∣v:=c1.symm.dvd_of_dvd_mul_left ⟨z,by rw[e,mul_comm]⟩;have d2:v∣y:=c2.symm.dvd_of_dvd_mul_left ⟨x,by rw[<- e,mul_comm]⟩;have yv:y=v:=Nat.dvd_antisymm d1 d2;refine⟨?_,yv⟩;subst yv;have y0:0<y:=by
  rcases Nat.eq_zero_or_pos y with h'|h'
  ·rw[h',mul_zero]at B1;omega
  ·exact h'
 exact Nat.eq_of_mul_eq_mul_right y0 e
def Jh(t:Int)(b:Nat):Int:=t/(t.natAbs.gcd b:Nat)
def wT(t:Int)(b:Nat):Nat:=b/t.natAbs.gcd b
def nrm(t:Int)(b:Nat):D:=.t [.int (Jh t b),.int (wT t b:Nat)]
def YH(n b:Nat):Jh (n:Int) b=((n/n.gcd b:Nat):Int):=by
 simp[Jh]
def zDG{T W:Int}{B b:Nat}(hB:0<B)(hb:0<b)(h:T*b=W*B):nrm T B=nrm W b:=by
 have hn:T.natAbs*b=W.natAbs*B:=by
  have:=congrArg Int.natAbs h;simpa[Int.natAbs_mul]using this
 obtain⟨r1,r2⟩:=red T.natAbs W.natAbs B b hB hb hn;have e2:wT T B=wT W b:=r2;have e1:Jh T B=Jh W b:=by
  by_cases c:0<=T
  ·have cw:0<=W:=by
    have h1:0<=T*b:=Int.mul_nonneg c (by omega);rw[h]at h1;exact Int.nonneg_of_mul_nonneg_left h1 (by omega)
   obtain⟨n,rfl⟩:=Int.eq_ofNat_of_zero_le c;obtain⟨m,rfl⟩:=Int.eq_ofNat_of_zero_le cw;rw[YH,YH];simp only[Int.natAbs_natCast]at r1;rw[r1]
  ·have cw:¬0<=W:=λq=>by
    have h1:0<=W*B:=Int.mul_nonneg q (by omega);rw[<- h]at h1;exact c (Int.nonneg_of_mul_nonneg_left h1 (by omega))
   obtain⟨n,hn'⟩:=Int.eq_ofNat_of_zero_le (a:=-T) (by omega);obtain⟨m,hm'⟩:=Int.eq_ofNat_of_zero_le (a:=-W) (by omega);have f1:T=-(n:Int):=by omega
   have f2:W=-(m:Int):=by omega
   subst f1;subst f2;simp only[Int.natAbs_neg,Int.natAbs_natCast]at r1;have f:∀n b:Nat,Jh (-(n:Int)) b=-((n/n.gcd b:Nat):Int):=λn b=>by
    unfold Jh;rw[Int.natAbs_neg,Int.natAbs_natCast,Int.neg_ediv_of_dvd (by exact_mod_cast gcd_dvd_left n b)];simp
   rw[f,f,r1]
 unfold nrm;rw[e1,e2]
theorem WI{c:MT}{bd:MS}(mk:Nat->Nat->zM)(hc:∀a b,c (mk a b)=.ok (decide (b≠0),mk a b))(hb:∀a b,b≠0->bd (mk a b)=.ok (.nx,mk b (a%b))) :
  ∀(k n a b:Nat),b<2^k->2*k+1<=n->whN c bd n (mk a b)=.ok (.nx,mk (a.gcd b) 0)
 |0,n,a,b,h,hn=>by
  have:b=0:=by omega
  subst this;obtain⟨m,rfl⟩:∃m,n=m+1:=⟨n-1,by omega⟩;simp only[whN,hc,ne_eq,not_true_eq_false,decide_false,Nat.gcd_zero_right]
 |k+1,n,a,b,h,hn=>by
  obtain⟨m,rfl⟩:∃m,n=m+2:=⟨n-2,by omega⟩;by_cases b0:b=0
  ·subst b0
   simp only[whN,hc,ne_eq,not_true_eq_false,decide_false,Nat.gcd_zero_right]
  ·by_cases r0:a%b=0
   ·simp only[whN,hc,hb a b b0,ne_eq,b0,not_false_eq_true,decide_true,r0,not_true_eq_false,decide_false]
    rw[gcd_comm,gcd_rec,r0,Nat.gcd_zero_left]
   ·have lt:a%b<b:=mod_lt _ (by omega)
    have lt2:b%(a%b)<a%b:=mod_lt _ (by omega);have half:b%(a%b)<2^k:=by
     have:2*(b%(a%b))<b:=by
      by_cases q:2*(a%b)<=b
      ·omega
      ·have:b%(a%b)=b-a%b:=by
        rw[Nat.mod_eq_sub_mod (by omega),Nat.mod_eq_of_lt (by omega)]
       omega
     rw[pow_succ]at h;omega
    have ih:=WI mk hc hb k m (a%b) (b%(a%b)) half (by omega);simp only[whN,hc,hb a b b0,hb b (a%b) r0,ne_eq,b0,r0,not_false_eq_true,decide_true];rw[ih];rw[gcd_comm a b,gcd_rec b a,gcd_comm (a%b) b,gcd_comm (a%b),<- gcd_rec,gcd_comm b]
def tot(es:List (List Nat)):Nat:=(es.map List.sum).sum
def al(ws:List Nat)(k:Nat):Nat->List (List Nat)
 |0=>ws.map λw=>w::replicate (k-1) 0|n+1=>zipWith (λw e=>(w*(tot (al ws k n)-e.sum))::e.dropLast.map (w*·)) ws (al ws k n)
def A(ws:List Nat)(n k:Nat):Nat:=if n=0 then 1 else if k=0 then 0 else tot (al ws k (n-1))
def zDH(t:Int)(b:Nat):Jh t b*b=t*(wT t b:Nat):=by
 unfold Jh wT;have h1:((t.natAbs.gcd b:Nat):Int)∣t:=by
  have:=gcd_dvd_left t.natAbs b;exact Int.ofNat_dvd_left.mpr this
 have h2:t.natAbs.gcd b∣b:=gcd_dvd_right _ _;obtain⟨x,hx⟩:=h1;obtain⟨y,hy⟩:=h2;generalize hg:t.natAbs.gcd b=g at *;by_cases c:g=0
 ·subst c
  simp at hx hy
  subst hx;subst hy;simp
 ·have e1:t/(g:Int)=x:=by rw[hx];exact Int.mul_ediv_cancel_left _ (by omega)
  have e2:b/g=y:=by rw[hy];exact Nat.mul_div_cancel_left _ (by omega)
  rw[e1,e2,hx,hy,Int.natCast_mul]
  grind
def JU(t:Int){b:Nat}(h:0<b):0<wT t b:=by
 unfold wT;exact div_pos (le_of_dvd h (gcd_dvd_right _ _)) (gcd_pos_of_pos_right _ h)
def zDI{t1 t2 T:Int}{b1 b2 B:Nat}(h1:0<b1)(h2:0<b2)(hB:0<B)(h:(t1*b2+t2*b1)*B=T*(b1*b2:Nat)) :
  nrm (Jh t1 b1*(wT t2 b2:Nat)+Jh t2 b2*(wT t1 b1:Nat)) (wT t1 b1*wT t2 b2)=nrm T B:=by
 have c1:=zDH t1 b1;have c2:=zDH t2 b2;have p1:=JU t1 h1;have p2:=JU t2 h2;generalize Jh t1 b1=x1 at *;generalize wT t1 b1=y1 at *;generalize Jh t2 b2=x2 at *;generalize wT t2 b2=y2 at *;refine zDG (mul_pos p1 p2) hB ?_;rw[Int.natCast_mul]at h ⊢;have hb:((b1:Int)*b2)≠0:=by
  have:0<(b1:Int)*b2:=Int.mul_pos (by omega) (by omega);omega
 apply Int.eq_of_mul_eq_mul_right hb;have e1:(x1*(y2:Int)+x2*y1)*B*(b1*b2)=((x1*b1)*b2*y2+(x2*b2)*b1*y1)*B:=by grind
 have e2:T*((y1:Int)*y2)*(b1*b2)=T*(b1*b2)*(y1*y2):=by grind
 rw[e1,e2,c1,c2,<- h]
 grind
end SM
namespace DV
open PySem L2
section
variable{fs:List FI}{E E1 E2 E3 E4 E5:zM}
def wm{k i:Nat}{a:_}{F:MF}{r r':R}{p p':List D}{o:DV.Slot}(h0:fiF fs k=F)(hE:E[i]?=some (.par p))(h1:dE fs a E=.ok (r,E))(h2:F [.par p,.v r.d]=.ok (r',[.par p',o]))(h3:E.set i (.par p')=E1):dE fs (.call k (.lend i (.ev a .nil))) E=.ok (r',E1):=by
 subst h0 h3;have hi:i<E.length:=(qG.mp hE).1;have hs:(E.set i .e)[i]?=some .e:=by simp[hi]
 simp only[jR,uf,ug,wP,wO,yB,hE,jX,Bool.false_eq_true,if_false,h1,zK,Slot.list?,h2,zH,hs,Slot.put,set_set]
def zGC{a b:_}{o:Out (R×zM)}(h:dE fs a E=.ok (.v (.bl true),E1))(h1:dE fs b E1=o):dE fs (.and a b) E=o:=by subst h1;simp only[zAs,zAW,h]
def x_and0{a b:_}(h:dE fs a E=.ok (.v (.bl false),E1)):dE fs (.and a b) E=.ok (.v (.bl false),E1):=by simp only[zAs,zAW,h]
def x_is{T:Ty}{a:_}{r:R}{t:String}{v:Bool}(h:dE fs a E=.ok (r,E1))(ht:tyD r.d=some t)(hv:Gp t T.s=v):dE fs (.is T a) E=.ok (.v (.bl v),E1):=by subst hv;simp only[rE_is,eIs,h,ht]
def x_ifx1{t a b:_}{o:Out (R×zM)}(h:dT fs t E=.ok (true,E1))(h1:dE fs a E1=o):dE fs (.ifx t a b) E=o:=by subst h1;simp only[zF0,eIf,h]
def x_ifx0{t a b:_}{o:Out (R×zM)}(h:dT fs t E=.ok (false,E1))(h1:dE fs b E1=o):dE fs (.ifx t a b) E=o:=by subst h1;simp only[zF0,eIf,h]
def t_and1{a b:_}{o:Out (Bool×zM)}(h1:dT fs a E=.ok (true,E1))(h2:dT fs b E1=o):dT fs (.tAnd a b) E=o:=by subst h2;simp only[zC2,Yg,h1]
def t_and0{a b:_}(h1:dT fs a E=.ok (false,E1)):dT fs (.tAnd a b) E=.ok (false,E1):=by simp only[zC2,Yg,h1]
def i_R2{a:_}{r1 r2:R}{i j:Int}(h1:dA fs a E=.ok ([r1,r2],E1))(h2:r1.d=.int i)(h2':r2.d=.int j)(hi:-1000000<=i/\i<=1000000)(hj:-1000000<=j/\j<=1000000):dI fs (.iR2 a) E=.ok (zJ i (j-i).toNat,E1):=by
 simp only[rI_iR2,iR2,h1,h2,h2'];rw[if_pos ⟨by omega,by omega,by omega,by omega⟩]
def i_Z{t1 t2:Bool}{as:_}{r1 r2:R}{ds es:List D}(h1:dA fs as E=.ok ([r1,r2],E1))(h2:Qt t1 r1.d=some ds)(h3:Qt t2 r2.d=some es):dI fs (.iZ t1 t2 as) E=.ok (zipWith zCw ds es,E1):=by
 simp only[rI_iZ,iZ,h1,h2,h3]
end
def put_ok{i:Nat}{E:zM}{s:DV.Slot}(r:R)(h:E[i]?=some s)(hs:jS s=true):Z9 i r E=.ok (E.set i r.slot):=by
 simp only[Z9,h];cases s<;>first|rfl|(cases hs)
def ju{i:Nat}{E E1:zM}{s:DV.Slot}{r:R}(h:E[i]?=some s)(hs:jS s=true)(e:E.set i r.slot=E1):Z9 i r E=.ok E1:=by
 rw[put_ok r h hs,e]
def ne_int(x y:Int):neG (.int x) (.int y)=some (.v (.bl (!decide (x=y)))):=by simp[neG,neF]
def eq_int(x y:Int):eqG (.int x) (.int y)=some (.v (.bl (decide (x=y)))):=by simp[eqG,eqF]
def eq_str(t:Str):eqG (.str t) (.str t)=some (.v (.bl true)):=by simp[eqG,eqF]
def ne_str(t:Str):neG (.str t) (.str t)=some (.v (.bl false)):=by simp[neG,neF]
def ZT(a b:List D)(h:a.length+b.length<=100000):zBO (.l a) (.l b)=some (.own (a++b)):=by
 simp only[zBO];rw[if_pos (by simp only[cap];omega)]
def zDJ{x y:D}{r:R}(e:vG x y=some r):vx x y=some r:=by simp only[vx,e]
def zDK{ds:List D}{k:Nat}{d:D}(h:ds[k]?=some d):atI ds (k:Int)=some d:=by
 obtain⟨hk,e⟩:=qG.mp h;have:(k:Int)<ds.length:=by omega
 simp[atI,ixN,this,h]
def ixD_lst(ds:List D)(i:Int):ixD (.l ds) (.int i)=(atI ds i).map .v:=rfl
def zDL(ds:List D)(i:Int):ixD (.t ds) (.int i)=(atI ds i).map .v:=rfl
theorem QR(f:D->Bool):∀ds:List D,JF (ds.map λd=>D.bl (f d))=some (ds.map f)
 | []=>rfl|d::ds=>by simp only[map_cons,JF,QR f ds];rfl
theorem all_map(f:D->Bool)(ds:List D):(ds.map f).all id=ds.all f:=by simp[List.all_map]
def zA0{f:D->Bool}{ds:List D}{b:Bool}(h:ds.all f=b):allD [.l (ds.map λd=>D.bl (f d))]=some (.v (.bl b)):=by
 subst h;simp[allD,QR,all_map]
def zA1(ds:List D)(k:Nat)(h:k<=ds.length):zBQ ds (some (k:Int)) none=ds.drop k:=by
 unfold zBQ;rw[HT.sIx_nat];simp only[HT.sIx];rw[show min k ds.length=k by omega,List.take_of_length_le (by simp)]
mutual
theorem zA2:∀(n:Nat) (d:D),eqb n d=true->deq d d=true
 |n,.non,_=>by simp[deq,eqV,flV]|n,.bl b,_=>by simp[deq,eqV,flV]|n,.int i,_=>by simp[deq,eqV,flV]|n,.str x,_=>by simp[deq,eqV,flV]|n+1,.t ds,h=>by simp only[deq];exact deqs_refl n ds (all_eq_true.mp h)|n+1,.l ds,h=>by simp only[deq];exact deqs_refl n ds (all_eq_true.mp h)|0,.t ds,h=>by cases h|0,.l ds,h=>by cases h|0,.fn _,h=>by cases h|0,.dic,h=>by cases h|0,.exn _ _,h=>by cases h|n+1,.fn _,h=>by cases h|n+1,.dic,h=>by cases h|n+1,.exn _ _,h=>by cases h|0,.dct _ _,h=>by cases h|n+1,.dct _ _,h=>by cases h
theorem deqs_refl:∀(n:Nat) (ds:List D),(∀d∈ds,eqb n d=true)->deqs ds ds=true
 |n,[],_=>by simp[deqs]
 |n,d::ds,h=>by
  simp only[deqs,Bool.and_eq_true];exact⟨zA2 n d (h d qE),deqs_refl n ds λe he=>h e (qD _ he)⟩
end
def N(l:List Nat):List D:=l.map λn:Nat=>D.int (n:Int)
def GC(l:List Nat):(N l).length=l.length:=by simp[N]
def zE9{l:List Nat}{d:D}(h:d∈N l):∃n∈l,d=.int (n:Nat):=by
 obtain⟨n,hn,rfl⟩:=mem_map.mp h;exact⟨n,hn,rfl⟩
def N_get{l:List Nat}{k n:Nat}(h:l[k]?=some n):(N l)[k]?=some (.int (n:Nat)):=by simp[N,h]
def N_app(a b:List Nat):N (a++b)=N a++N b:=by simp[N]
def zGD(n:Nat):zJ 0 n=N (List.range n):=by
 have key:∀n k:Nat,zJ (k:Int) n=N (range' k n):=by
  intro n
  induction n with
  |zero=>intro k;rfl
  |succ n ih =>
   intro k;have:=ih (k+1);rw[List.range'_succ];show D.int (k:Int)::zJ ((k:Int)+1) n=D.int (k:Int)::N (range' (k+1) n);rw[<- this];simp
 rw[List.range_eq_range'];exact key n 0
section
variable{fs:List FI}{E E1 E2 E3:zM}
def x_vA{i:Nat}{s:DV.Slot}{ds:List D}(hs:s=.own ds\/s=.v (.l ds))(h:E[i]?=some s)(h':E.set i (.v (.l ds))=E1):dE fs (.var i) E=.ok (.v (.l ds),E1):=by
 rcases hs with rfl|rfl
 ·exact Y3 h h'
 ·rw[zA h]
  have:E.set i (.v (.l ds))=E:=by
   obtain⟨hi,e⟩:=qG.mp h;rw[<- e,List.set_getElem_self]
  rw[<- h',this]
def s_forI{it b:_}{tg:Tg}{ds:List D}{p:Fl×zM}(h1:dI fs it E=.ok (ds,E1))(h3:vq tg.m (dB fs b) ds E1=.ok p):dS fs (.sForI it tg b) E=.ok p:=by
 simp only[zE1,zCy,h1,sForI,h3]
def i_E{t:Bool}{as:_}{r:R}{ds:List D}(h1:dA fs as E=.ok ([r],E1))(h2:Qt t r.d=some ds):dI fs (.iE t as) E=.ok (G2 0 ds,E1):=by
 simp only[rI_iE,iE,h1,h2]
end
section
variable{fs:List FI}{E E1 E2 E3 E4 E5 E6:zM}
def GE{xs ys:List Str}{caps:List Nat}{it el:_}{ds rs:List D}{ars:List AR}{ss:List DV.Slot}(hi:dI fs it E=.ok (ds,E1))(hcap:wz E1 caps=.ok ars)(hl:zK ars E1=.ok (ss,E2))
  (h4:∀(i:Nat) (d:D),ds[i]?=some d->∃r,dE fs el (.v d::ss)=.ok (r,.v d::ss)/\rs[i]?=some r.d) (hn:rs.length=ds.length) (hc:ds.length<=cap) (hb:∀x:DV.Slot,zH ars ((zk (.e::ss) (x::ss)).drop 1) E1 E2=.ok E1):dE fs (.comp 1 xs ys caps it (.n 0) .tTr el) E=.ok (.own rs,E1):=by
 obtain⟨res,E',e1,e2,x,e3,_⟩:=Yo (tg:=gN 0) (tt:=uU) (el:=dE fs el) (λk E acc=>acc=rs.take k/\∃x,E=x::ss/\jS x=true) ds 0 (.e::ss) [] ⟨rfl,.e,rfl,rfl⟩ (by simpa using hc) (λi d q E acc ⟨ha,x,hE,hx⟩ _=>by
  rw[zero_add]at ha ⊢;obtain⟨r,e,er⟩:=h4 i d q;refine⟨.v d::ss,.v d::ss,r,.v d::ss,?_,rfl,e,?_,.v d,rfl,rfl⟩
  ·subst hE;cases x<;>first|rfl|(cases hx)
  ·rw[ha,take_add_one,er];rfl)
 rw[zero_add,<- hn,take_length]at e2;subst e2 e3;simp only[ue];refine Wq ?_;have e1':Jg (gN 0) uU (dE fs el) ds (replicate 1 .e++ss) []=.ok (res,x::ss):=e1;have hb':zH ars ((zk (replicate 1 .e++ss) (x::ss)).drop 1) E1 E2=.ok E1:=hb x;simp only[ZJ,hi,hcap,hl,Tg.m,zAt,e1',hb']
end
section
variable{fs:List FI}{E E1 E2:zM}
def x_dgO{i:Nat}{b:_}{r:R}{ks:List (List KN)}{vs:List D}{q:List KN}{d:D}(h:E[i]?=some (.dct ks vs))(h1:dE fs b E=.ok (r,E))(h2:G4 r.d=some q)(h3:WC ks vs q=some d):dE fs (.dgO i b) E=.ok (.v d,E):=by
 have e:jX E[i]?=false:=by rw[h];rfl
 simp only[zF4,eDgO,h1,h,ctD,h2,h3];rfl
def x_movD{i:Nat}{ks:List (List KN)}{vs:List D}(h:E[i]?=some (.dct ks vs))(h':E.set i .e=E1):dE fs (.mov i) E=.ok (.dct ks vs,E1):=by simp only[rE_mov,zCZ,h,h']
def x_frz{a:_}{r:R}(h:dE fs a E=.ok (r,E1)):dE fs (.frz a) E=.ok (.v r.d,E1):=by simp only[zF3,eFrz,h]
def GF{t b:_}{p:Fl×zM}(h:DV.whN (dT fs t) (dB fs b) 1000000 E=.ok p):dS fs (.sWhile t b) E=.ok p:=by
 simp only[QE];exact ud (by simp only[DV.sWhile];exact h)
end
theorem zDM:∀{ks:List (List KN)} {vs:List D} {q:List KN},q∉ks->WC ks vs q=none
 | [],_,_,_=>rfl|k::ks,[],_,_=>rfl
 |k::ks,v::vs,q,h=>by
  simp only[WC];have:¬k=q:=λe=>h (by rw[e];exact qE)
  rw[if_neg this,zDM λh'=>h (qD _ h')]
section
variable{fs:List FI}{E E1 E2:zM}
def zGE{i:Nat}{a:_}{ks:List (List KN)}{vs:List D}{o:Out (R×zM)}(h:E[i]?=some (.dct ks vs))(he:E.set i (.v (.dct ks vs))=E1)(h1:dE fs a E1=o):dE fs (.frd i a) E=o:=by
 subst he h1;simp only[zF5,eFrd,h,Option.bind_some,slR,R.d]
def x_frdV{i:Nat}{a:_}{d:D}{o:Out (R×zM)}(h:E[i]?=some (.v d))(h1:dE fs a E=o):dE fs (.frd i a) E=o:=by
 subst h1;simp only[zF5,eFrd,h,Option.bind_some,slR]
def QS{i:Nat}{b:_}{s:DV.Slot}{r:R}{ks:List (List KN)}{vs:List D}{q:List KN}{d:D}(h:E[i]?=some s)(hs:s=.dct ks vs\/s=.v (.dct ks vs))(h1:dE fs b E=.ok (r,E))(h2:G4 r.d=some q)(h3:WC ks vs q=some d):dE fs (.dgO i b) E=.ok (.v d,E):=by
 rcases hs with rfl|rfl
 ·exact x_dgO h h1 h2 h3
 ·have e:jX E[i]?=false:=by rw[h];rfl
  simp only[zF4,eDgO,h1,h,ctD,h2,h3];rfl
def W5{i:Nat}{a b:_}{r r2:R}{ks:List (List KN)}{vs:List D}{q:List KN}{p:List (List KN)×List D}(h:E[i]?=some (.dct ks vs))(h1:dE fs a E=.ok (r,E))(h2:dE fs b E=.ok (r2,E))(h3:G4 r2.d=some q)(hl:ks.length<1000000)(hp:GS ks vs q r.d=p)(he:E.set i (.dct p.1 p.2)=E1):dS fs (.sDput i b a) E=.ok (.nx,E1):=by
 have e:jX E[i]?=false:=by rw[h];rfl
 subst hp he;simp only[zEy,DV.sDput,h1,h2,h,h3,if_pos hl];rfl
def s_daug{i:Nat}{a b:_}{r:R}{ks:List (List KN)}{vs:List D}{q:List KN}{x y:Int}{p:List (List KN)×List D}(h:E[i]?=some (.dct ks vs))(h1:dE fs b E=.ok (r,E))(h3:G4 r.d=some q)(h4:WC ks vs q=some (.int x))(h2:dE fs a E=.ok (.v (.int y),E))(hl:ks.length<1000000)(hp:GS ks vs q (.int (x+y))=p)(he:E.set i (.dct p.1 p.2)=E1):dS fs (.sDaug i b a) E=.ok (.nx,E1):=by
 have e:jX E[i]?=false:=by rw[h];rfl
 subst hp he;simp only[zEz,DV.sDaug,h1,h,h3,h4,h2,if_pos hl];rfl
theorem QT{tg:MG}{tt:MT}{ma:MCD}(I:Nat->zM->Acc->Prop):∀(ds:List D) (k:Nat) (E:zM) (acc:Acc),I k E acc ->
  (∀i d,ds[i]?=some d->∀E acc,I (k+i) E acc->∃E1 E2 E3 acc',tg d E=.ok E1/\tt E1=.ok (true,E2)/\ma E2 acc=.ok (acc',E3)/\I (k+i+1) E3 acc') ->
  ∃E' acc',ZP tg tt ma ds E acc=.ok (acc',E')/\I (k+ds.length) E' acc'
 | [],k,E,acc,h,step=>⟨E,acc,rfl,h⟩
 |d::ds,k,E,acc,h,step=>by
  obtain⟨E1,E2,E3,acc',h1,h2,h3,h4⟩:=step 0 d rfl E acc h;obtain⟨E',acc2,q1,q2⟩:=QT I ds (k+1) E3 acc' h4 λi d' e E acc h=>by
   have:=step (i+1) d' (by simpa using e) E acc (by rw[show k+(i+1)=k+1+i by omega];exact h);rw[show k+(i+1)+1=k+1+i+1 by omega]at this;exact this
  exact⟨E',acc2,by simp only[ZP,h1,h2,h3,q1],by rw[length_cons,show k+(ds.length+1)=k+1+ds.length by omega];exact q2⟩
def zFA{xs ys:List Str}{it tt ka va:_}{tg:Tg}{ds:List D}{res:Acc}{Eb:zM}(hi:dI fs it E=.ok (ds,E1))(h:ZP tg.m (dT fs tt) (maD (dE fs ka) (dE fs va)) ds [.e] ([],[])=.ok (res,Eb)):dE fs (.dcomp 1 xs ys [] it tg tt ka va) E=.ok (.dct res.1 res.2,E1):=by
 simp only[zEv];refine Wq ?_;have e:(zk (replicate 1 DV.Slot.e++[]) Eb).drop 1=[]:=by
  match Eb with
  | []=>rfl|_::_=>rfl
 have h':ZP tg.m (dT fs tt) (maD (dE fs ka) (dE fs va)) ds (replicate 1 .e++[]) ([],[])=.ok (res,Eb):=h;simp only[Wo,hi,wz,zK,h',e,zH]
end
end DV
namespace My
open PySem L2 DV SM
def isFn:D->Bool
 | .fn _=>true| .exn _ _=>true| .dct _ _=>true|_=>false
def isW:D->Bool
 | .int _=>true|_=>false
def J1(lo hi:Int):D->Bool
 | .int i=>decide (lo<=i)&&decide (i<=hi)|_=>false
def okD:D->Prop
 | .t ds=>ds.length<=cap/\∀d∈ds,isFn d=false| .fn _=>False| .exn _ _=>False| .dct _ _=>False|_=>True
def zA3:D->Bool
 | .t ds=>decide (2<=ds.length)&&decide (ds.length<=3)&&ds.all (J1 1 9)|_=>false
def ZU(d:D)(h:isFn d=false):jk [.v d]=.ok (.v (.bl (isW d)),[.e]):=by
 cases d<;>first|rfl|(cases h)
def yi(d:D)(lo hi:Int)(h:isFn d=false):zW [.v d,.v (.int lo),.v (.int hi)]=.ok (.v (.bl (J1 lo hi d)),[.e,.e,.e]):=by
 have e:=ZU d h;cases d with
 |int i =>
  simp[zW,ye,y3,fnM,JJ,JI,Jo,WF,zAs,jR,uf,wP,Wr,sRet,sIf,zAZ,zCX,sSet,Z9,R.slot,zAW,eOr,zCN,wO,yB,zBK,eC,zK,fiF,fiX,R.d,zH,jq,Cp.b,Cp.f,Op2.f,Bi.f,Ty.s,JL,JK,YB,YC,YD,zBN,Yg,ZE,tT,Z5,eCB,ZF,zCO,zCP,zCQ,v4,QA,Tg.m,eqG,eqF,neG,neF,maxG,zCU,vx,vG,e,isW,J1];by_cases h1:lo<=i<;>simp[h1,JL,JK]
 |_=>first|(cases h;done)|simp[zW,ye,y3,fnM,JJ,JI,Jo,WF,zAs,jR,uf,wP,Wr,sRet,sIf,zAZ,zCX,sSet,Z9,R.slot,zAW,eOr,zCN,wO,yB,zBK,eC,zK,fiF,fiX,R.d,zH,jq,Cp.b,Cp.f,Op2.f,Bi.f,Ty.s,JL,JK,YB,YC,YD,zBN,Yg,ZE,tT,Z5,eCB,ZF,zCO,zCP,zCQ,v4,QA,Tg.m,eqG,eqF,neG,neF,maxG,zCU,vx,vG,e,isW,J1]
def nxt(s:Int):Int:=((s+7919)%2147483647*((s+7919)%2147483647)+48271*((s+7919)%2147483647)+12345)%2147483629
def zAE(s:Int):we [.v (.int s)]=.ok (.v (.int (nxt s)),[.e]):=by
 have h1:0<=(s+7919)%2147483647:=Int.emod_nonneg _ (by decide);have h2:(s+7919)%2147483647<2147483647:=Int.emod_lt_of_pos _ (by decide);have h3:-18446744073709551616<(s+7919)%2147483647/\(s+7919)%2147483647<18446744073709551616:=by omega
 simp[we,YG,Zx,fnM,JJ,J8,Ws,JI,rE_c,Jo,v5,sRet,sIf,zAZ,zCX,sSet,Z9,R.slot,zAW,eOr,zCN,wO,yB,zBK,eC,zK,fiF,fiX,R.d,zH,jq,Cp.b,Cp.f,Op2.f,Bi.f,Ty.s,JL,JK,YB,YC,YD,zBN,Yg,ZE,tT,Z5,eCB,ZF,zCO,zCP,zCQ,v4,QA,Tg.m,eqG,eqF,neG,neF,maxG,zCU,vx,vG,zBO,vG,zFi,zBh,nxt,h3]
def Pen(p:List D):Prop:=∃l f s:Int,p=[.int l,.int f,.int s]
def jv(p:List D)(hp:Pen p)(m:Int)(h0:0<m)(h1:m<1073741824):∃r p',zm [.par p,.v (.int m)]=.ok (.v (.int r),[.par p',.e])/\0<=r/\r<m/\Pen p':=by
 obtain⟨l,f,s,rfl⟩:=hp;by_cases hf:f=1
 ·refine⟨l%m,[.int (l/m),.int f,.int s],?_,Int.emod_nonneg _ (by omega),Int.emod_lt_of_pos _ h0,_,_,_,rfl⟩
  simp[zm,wg,JQ,fnM,uh,JJ,J8,QD,Ws,JI,zF6,rE_c,Jo,v5,QB,zF2,jR,uf,wP,zEw,Wr,sRet,sIf,zAZ,zCX,sSet,Z9,R.slot,zAW,eOr,zCN,wO,yB,zBK,eC,zK,fiF,fiX,R.d,zH,jq,Cp.b,Cp.f,Op2.f,Bi.f,Ty.s,JL,JK,YB,YC,YD,zBN,Yg,ZE,tT,Z5,eCB,ZF,zCO,zCP,zCQ,v4,QA,Tg.m,eqG,eqF,neG,neF,maxG,zCU,vx,vG,eIxO,jX,ixS,atI,ixN,eqF,hf,zFi,Go,zBh,h0,h1,Wg,Slot.list?,Slot.put]
 ·refine⟨nxt (nxt s+7)/64%m,[.int l,.int f,.int (nxt (nxt s+7))],?_,Int.emod_nonneg _ (by omega),Int.emod_lt_of_pos _ h0,_,_,_,rfl⟩
  simp[zm,wg,JQ,fnM,uh,JJ,J8,QD,Ws,JI,zF6,rE_c,Jo,v5,QB,zF2,jR,uf,wP,zEw,Wr,sRet,sIf,zAZ,zCX,sSet,Z9,R.slot,zAW,eOr,zCN,wO,yB,zBK,eC,zK,fiF,fiX,R.d,zH,jq,Cp.b,Cp.f,Op2.f,Bi.f,Ty.s,JL,JK,YB,YC,YD,zBN,Yg,ZE,tT,Z5,eCB,ZF,zCO,zCP,zCQ,v4,QA,Tg.m,eqG,eqF,neG,neF,maxG,zCU,vx,vG,eIxO,jX,ixS,atI,ixN,eqF,hf,zFi,Go,zBO,zBh,h0,h1,Wg,Slot.list?,Slot.put,zAE]
def GG(c:Int):∃p,y6 [.v (.int c)]=.ok (.own p,[.e])/\Pen p:=by
 refine⟨[.int (if 0-c > c then 0-c else c),.int (if decide (10^18<=(if 0-c > c then 0-c else c))=true then 1 else 0),.int ((if 0-c > c then 0-c else c)%1000003)],?_,_,_,_,rfl⟩;simp[y6,wf,Jw,fnM,JJ,J8,Ws,JI,rE_c,Jo,v5,QB,QC,zEu,wP,Wr,Qx,sRet,sIf,zAZ,zCX,sSet,Z9,R.slot,zAW,eOr,zCN,wO,yB,zBK,eC,zK,fiF,fiX,R.d,zH,jq,Cp.b,Cp.f,Op2.f,Bi.f,Ty.s,JL,JK,YB,YC,YD,zBN,Yg,ZE,tT,Z5,eCB,ZF,zCO,zCP,zCQ,v4,QA,Tg.m,eqG,eqF,neG,neF,maxG,zCU,vx,vG,zCU,subD,zBi,intF,geD,powD,zFi,zBh,cap]
def vU(ns:List Int):∃c,yk [.v (.l (ns.map .int)),.v (.int 0)]=.ok (.v (.int c),[.e,.e]):=by
 cases ns with
 |nil=>exact⟨0,rfl⟩
 |cons n ns => 
  refine⟨n,?_⟩;have:(0:Int)<ns.length+1:=by omega
  simp[yk,wE,JP,fnM,uh,JJ,J8,QD,JI,rE_c,Jo,QB,QC,rE_ix,zEu,wP,zEw,Wr,Qx,sRet,sIf,zAZ,zCX,sSet,Z9,R.slot,zAW,eOr,zCN,wO,yB,zBK,eC,zK,fiF,fiX,R.d,zH,jq,Cp.b,Cp.f,Op2.f,Bi.f,Ty.s,JL,JK,YB,YC,YD,zBN,Yg,ZE,tT,Z5,eCB,ZF,zCO,zCP,zCQ,v4,QA,Tg.m,eqG,eqF,neG,neF,maxG,zCU,vx,vG,zBP,ltD,zBi,ixD,atI,ixN,this]
def uC(d:D)(h:okD d):yq [.v d]=.ok (.v (.bl (zA3 d)),[.e]):=by
 cases d with
 |t ds =>
  have t1:dT YE (.tNot (.tE (.is .tuple (.var 0)))) [.v (.t ds)]=.ok (false,[.v (.t ds)]):=jN (t_E (b:=true) rfl) rfl;have l1:dE YE (.cB .len (.cons (.var 0) .nil)) [.v (.t ds)]=.ok (.v (.int ds.length),[.v (.t ds)]):=Jb (zB (zA rfl) zN) rfl;by_cases h2:2<=ds.length
  ·have b1:Cp.le.b 2 (ds.length:Int)=true:=decide_eq_true (by omega)
   by_cases h3:ds.length<=3
   ·have b2:Cp.le.b (ds.length:Int) 3=true:=decide_eq_true (by omega)
    have e:zA3 (.t ds)=ds.all (J1 1 9):=by simp[zA3,h2,h3]
    rw[e];exact yO (zG (yw (zBX t1 (jN (t_E (zDE GA l1 b1 GA b2)) rfl)) yx) (zi (yP (Jb (zB (wI (vs:=[]) (λd=>.bl (J1 1 9 d)) (i_T (zA rfl) rfl) rfl (λd hd=>⟨_,yo rfl (zA rfl) GA GA (yi d 1 9 (h.2 d hd)),rfl⟩) h.1 rfl) zN) (zA0 rfl))))) rfl
   ·have b2:Cp.le.b (ds.length:Int) 3=false:=decide_eq_false (by omega)
    have e:zA3 (.t ds)=false:=by simp[zA3,h3]
    rw[e];exact yO (zBZ (zBY (zBX t1 (jN (t_E (zDE GA l1 b1 GA b2)) rfl)) (zi (yP x_c)))) rfl
  ·have b1:Cp.le.b 2 (ds.length:Int)=false:=decide_eq_false (by omega)
   have e:zA3 (.t ds)=false:=by simp[zA3,h2]
   rw[e];exact yO (zBZ (zBY (zBX t1 (jN (t_E (zE6 GA l1 b1)) rfl)) (zi (yP x_c)))) rfl
 |fn x=>cases h|exn x y=>cases h|dct x y=>cases h|_=>rfl
abbrev O1:List DV.Slot:=[.e]
abbrev O2:List DV.Slot:=[.e,.e]
def okM:D->Prop
 | .t ds=>ds.length<=cap/\∀d∈ds,okD d| .fn _=>False| .exn _ _=>False| .dct _ _=>False|_=>True
def tl:D->Int
 | .t as=>as.length|_=>0
def neB:D->D->Bool
 | .int i,.int j=>!decide (i=j)|_,_=>false
def zDN:D->Bool
 | .t [a,b,c,d,e]=>zA3 a&&(J1 0 (tl a-1) b&&J1 0 (tl a-1) d)&&neB b d&&(J1 1 6 c&&J1 1 6 e)|_=>false
def zA4{d:D}(h:okD d):isFn d=false:=by cases d<;>first|rfl|(cases h)
def zDO(f:D->Bool)(b d:D):[b,d].all f=(f b&&f d):=by simp
def zA5{lo hi:Int}{d:D}(h:J1 lo hi d=true):∃i,d=.int i:=by cases d<;>first|exact⟨_,rfl⟩|(cases h)
def zFB{ds:List D}(h:ds.length≠5):zDN (.t ds)=false:=by
 match ds,h with
 | [],_=>rfl| [_],_=>rfl| [_,_],_=>rfl| [_,_,_],_=>rfl| [_,_,_,_],_=>rfl| [_,_,_,_,_],h=>exact absurd rfl h|_::_::_::_::_::_::_,_=>rfl
def ne5{ds:List D}(h:ds.length≠5):neG (.int (ds.length:Nat)) (.int 5)=some (.v (.bl true)):=by
 rw[ne_int,decide_eq_false (by omega)];rfl
def zFC{a:D}(h:zA3 a=true):∃as,a=.t as/\as.length<=3:=by
 cases a with
 |t as=>simp[zA3]at h;exact⟨as,rfl,h.1.2⟩|_=>cases h
def Z0(th:D)(h:okM th):yr [.v th]=.ok (.v (.bl (zDN th)),O1):=by
 cases th with
 |t ds =>
  by_cases h5:ds.length=5
  ·match ds,h5,h with
   | [a,b,c,d,e],_,h =>
    have ha:=h.2 a (by simp);have hb:=zA4 (h.2 b (by simp));have hc:=zA4 (h.2 c (by simp));have hd:=zA4 (h.2 d (by simp));have he:=zA4 (h.2 e (by simp));have eg:=uC a ha;have s0:dS y4 (.sIf (.tOr (.tNot (.tE (.is .tuple (.var 0)))) (.tE (.cmp .ne (.cB .len (.cons (.var 0) .nil)) (.c (.int 5))))) (.bOne (.sRet (.c (.bl false)))) .bNil) [.v (.t [a,b,c,d,e]),.e,.e,.e,.e,.e]=.ok (.nx,[.v (.t [a,b,c,d,e]),.e,.e,.e,.e,.e]):=rfl;have s1:dS y4 (.sTup [1,2,3,4,5] (.var 0)) [.v (.t [a,b,c,d,e]),.e,.e,.e,.e,.e]=.ok (.nx,[.v (.t [a,b,c,d,e]),.v a,.v b,.v c,.v d,.v e]):=rfl;by_cases da:zA3 a=true
    ·obtain⟨as,rfl,hl⟩:=zFC da
     rw[da]at eg;have c1:dE y4 (.cB .all (.cons (.comp 1 ["thrown"] ["die"] [1] (.iT (.t (.cons (.var 2) (.cons (.var 4) .nil)))) (.n 0) .tTr (.call 0 (.ev (.var 0) (.ev (.c (.int 0)) (.ev (.bin .sub (.cB .len (.cons (.var 1) .nil)) (.c (.int 1))) .nil))))) .nil)) [.v (.t [.t as,b,c,d,e]),.v (.t as),.v b,.v c,.v d,.v e]=.ok (.v (.bl (J1 0 ((as.length:Int)-1) b&&J1 0 ((as.length:Int)-1) d)),[.v (.t [.t as,b,c,d,e]),.v (.t as),.v b,.v c,.v d,.v e]) :=
      Jb (zB (wI (ds:=[b,d]) (vs:=[.t as]) (λx=>.bl (J1 0 ((as.length:Int)-1) x)) (i_T (jg (zB (zA rfl) (zB (zA rfl) zN)) rfl yJ) rfl) rfl (λx hx=>⟨_,yo (F:=zW) rfl (zA rfl) x_c (zh (Jb (zB (zA rfl) zN) rfl) x_c rfl) (yi x 0 ((as.length:Int)-1) (by
       simp only[mem_cons,mem_nil_iff,or_false]at hx;rcases hx with rfl|rfl<;>assumption)),rfl⟩) yJ rfl) zN) (zA0 (zDO _ _ _))
     by_cases q:(J1 0 ((as.length:Int)-1) b&&J1 0 ((as.length:Int)-1) d)=true
     ·rw[q]at c1
      obtain⟨q1,q2⟩:=Bool.and_eq_true_iff.mp q;obtain⟨i,rfl⟩:=zA5 q1;obtain⟨j,rfl⟩:=zA5 q2;have c2:dE y4 (.cB .all (.cons (.comp 1 ["wanted"] [] [] (.iT (.t (.cons (.var 3) (.cons (.var 5) .nil)))) (.n 0) .tTr (.call 0 (.ev (.var 0) (.ev (.c (.int 1)) (.ev (.gl (.int 6)) .nil))))) .nil)) [.v (.t [.t as,.int i,c,.int j,e]),.v (.t as),.v (.int i),.v c,.v (.int j),.v e]=.ok (.v (.bl (J1 1 6 c&&J1 1 6 e)),[.v (.t [.t as,.int i,c,.int j,e]),.v (.t as),.v (.int i),.v c,.v (.int j),.v e]) :=
       Jb (zB (wI (ds:=[c,e]) (vs:=[]) (λx=>.bl (J1 1 6 x)) (i_T (jg (zB (zA rfl) (zB (zA rfl) zN)) rfl yJ) rfl) rfl (λx hx=>⟨_,yo (F:=zW) rfl (zA rfl) x_c GA (yi x 1 6 (by
        simp only[mem_cons,mem_nil_iff,or_false]at hx;rcases hx with rfl|rfl<;>assumption)),rfl⟩) yJ rfl) zN) (zA0 (zDO _ _ _))
      have k:zDN (.t [.t as,.int i,c,.int j,e])=(!decide (i=j)&&(J1 1 6 c&&J1 1 6 e)):=by
       simp only[zDN,tl,da,q,neB,Bool.true_and]
      rw[k];by_cases ij:i=j
      ·rw[decide_eq_true ij]
       exact yO (zG s0 (zG s1 (zG (yw (jN (t_E (zd (F:=yq) rfl (zA rfl) eg)) rfl) yx) (zG (yw (jN (t_E c1) rfl) yx) (zi (yP (x_and0 (yl (zA rfl) (zA rfl) (by
        show neG (.int i) (.int j)=_
        rw[ne_int,decide_eq_true ij];rfl))))))))) rfl
      ·rw[decide_eq_false ij]
       exact yO (zG s0 (zG s1 (zG (yw (jN (t_E (zd (F:=yq) rfl (zA rfl) eg)) rfl) yx) (zG (yw (jN (t_E c1) rfl) yx) (zi (yP (zGC (yl (zA rfl) (zA rfl) (by
        show neG (.int i) (.int j)=_
        rw[ne_int,decide_eq_false ij];rfl)) c2))))))) rfl
     ·have q:=Bool.eq_false_iff.mpr q
      rw[q]at c1;have k:zDN (.t [.t as,b,c,d,e])=false:=by simp only[zDN,tl,da,q,Bool.true_and,Bool.false_and]
      rw[k];exact yO (zG s0 (zG s1 (zG (yw (jN (t_E (zd (F:=yq) rfl (zA rfl) eg)) rfl) yx) (zBZ (zBY (jN (t_E c1) rfl) (zi (yP x_c))))))) rfl
    ·have da:=Bool.eq_false_iff.mpr da
     rw[da]at eg;have k:zDN (.t [a,b,c,d,e])=false:=by simp only[zDN,da,Bool.false_and]
     rw[k];exact yO (zG s0 (zG s1 (zBZ (zBY (jN (t_E (zd (F:=yq) rfl (zA rfl) eg)) rfl) (zi (yP x_c)))))) rfl
  ·rw[zFB h5]
   exact yO (zBZ (zBY (zBX (jN (t_E (x_is (zA rfl) rfl rfl)) rfl) (t_E (yl (Jb (zB (zA rfl) zN) rfl) x_c (ne5 h5)))) (zi (yP x_c)))) rfl
 |fn x=>cases h|exn x y=>cases h|dct x y=>cases h|_=>rfl
abbrev ZB(die:List Nat):D:=.t (N die)
def N_fn{l:List Nat}:∀d∈N l,isFn d=false:=λd hd=>by
 obtain⟨n,_,rfl⟩:=zE9 hd;rfl
def jA(a b:Nat):zBO (.int a) (.int b)=some (.v (.int ((a+b:Nat):Int))):=by simp[zBO]
def zGF{die:List Nat}(h:Die die):okD (ZB die):=⟨by rw[GC];rcases h.1 with e|e<;>rw[e]<;>simp[cap],N_fn⟩
def die_B{die:List Nat}(h:Die die):zA3 (ZB die)=true:=by
 have hl:2<=die.length/\die.length<=3:=by rcases h.1 with e|e<;>omega
 have ha:(N die).all (J1 1 9)=true:=by
  rw[all_eq_true];intro d hd;obtain⟨n,hn,rfl⟩:=zE9 hd;have:=h.2 n hn;simp only[J1,Bool.and_eq_true,decide_eq_true_eq];omega
 simp only[zA3,GC,ha,decide_eq_true hl.1,decide_eq_true hl.2,Bool.and_self]
def ZV(die:List Nat):zBP [ZB die]=some (.v (.int die.length)):=by simp only[zBP,GC]
structure Mt(die:List Nat)(s k o l:Nat):Prop where
 d:Die die
 hs:s<die.length
 ho:o<die.length
 ne:s≠o
 hk:1<=k/\k<=6
 hl:1<=l/\l<=6
abbrev ZW(die:List Nat)(s k o l:Nat):D:=.t [ZB die,.int (s:Nat),.int (k:Nat),.int (o:Nat),.int (l:Nat)]
def W6{die:List Nat}{s k o l:Nat}(h:Mt die s k o l):zDN (ZW die s k o l)=true:=by
 have:=h.hs;have:=h.ho;have:=h.ne;have:=h.hk;have:=h.hl;simp only[zDN,die_B h.d,tl,GC,J1,neB,Bool.true_and,Bool.and_eq_true,decide_eq_true_eq,Bool.not_eq_true',decide_eq_false_iff_not];omega
def W7{die:List Nat}{s k o l:Nat}(h:Mt die s k o l):okM (ZW die s k o l):=by
 refine⟨by simp[cap],λd hd=>?_⟩;simp only[mem_cons,mem_nil_iff,or_false]at hd;rcases hd with rfl|rfl|rfl|rfl|rfl
 ·exact zGF h.d
 all_goals exact trivial
def GH{th:D}(h:okM th)(hb:zDN th=true):zy [.v th]=.ok (.v .non,O1):=by
 have e:=Z0 th h;rw[hb]at e;exact f_nx (zi (yw (jN (t_E (zd (F:=yr) rfl (zA rfl) e)) rfl) yx)) rfl
def SP(s:Nat)(n:Nat):List D:=(zJ 1 n).map λd=>.t [.int (s:Nat),d]
def SL(s k o l:Nat):List D:=[.t [.non,.int 0]]++SP s (k-1)++SP o (l-1)
def zDP(s n:Nat):(SP s n).length=n:=by rw[SP,length_map,jZ]
def rng{fs:List FI}{E:zM}{a:_}{k:Nat}(hk:k<=6)(h:dE fs a E=.ok (.v (.int (k:Nat)),E)):dI fs (.iR2 (.cons (.c (.int 1)) (.cons a .nil))) E=.ok (zJ 1 (k-1),E):=by
 have:=i_R2 (fs:=fs) (E:=E) (a:=.cons (.c (.int 1)) (.cons a .nil)) (zB x_c (zB h zN)) rfl rfl ⟨by decide,by decide⟩ ⟨by omega,by omega⟩;rw[show((k:Int)-1).toNat=k-1 by omega]at this;exact this
def GI{die:List Nat}{s k o l:Nat}(h:Mt die s k o l):yG [.v (ZW die s k o l)]=.ok (.own (SL s k o l),O1):=by
 have hk:=h.hk;have hl:=h.hl;have c1:dE wB (.comp 1 ["many"] ["sign"] [2] (.iR2 (.cons (.c (.int 1)) (.cons (.var 3) .nil))) (.n 0) .tTr (.t (.cons (.var 1) (.cons (.var 0) .nil)))) [.v (ZW die s k o l),.v (ZB die),.v (.int (s:Nat)),.v (.int (k:Nat)),.v (.int (o:Nat)),.v (.int (l:Nat)),.e,.e]=.ok (.own (SP s (k-1)),[.v (ZW die s k o l),.v (ZB die),.v (.int (s:Nat)),.v (.int (k:Nat)),.v (.int (o:Nat)),.v (.int (l:Nat)),.e,.e]) :=
  wI (ds:=zJ 1 (k-1)) (vs:=[.int (s:Nat)]) (λd=>.t [.int (s:Nat),d]) (rng hk.2 (zA rfl)) rfl (λd _=>⟨_,jg (zB (zA rfl) (zB (zA rfl) zN)) rfl yJ,rfl⟩) (by rw[jZ];simp only[cap];omega) rfl
 have c2:dE wB (.comp 1 ["many"] ["other"] [4] (.iR2 (.cons (.c (.int 1)) (.cons (.var 5) .nil))) (.n 0) .tTr (.t (.cons (.var 1) (.cons (.var 0) .nil)))) [.v (ZW die s k o l),.v (ZB die),.v (.int (s:Nat)),.v (.int (k:Nat)),.v (.int (o:Nat)),.v (.int (l:Nat)),.own (SP s (k-1)),.e]=.ok (.own (SP o (l-1)),[.v (ZW die s k o l),.v (ZB die),.v (.int (s:Nat)),.v (.int (k:Nat)),.v (.int (o:Nat)),.v (.int (l:Nat)),.own (SP s (k-1)),.e]) :=
  wI (ds:=zJ 1 (l-1)) (vs:=[.int (o:Nat)]) (λd=>.t [.int (o:Nat),d]) (rng hl.2 (zA rfl)) rfl (λd _=>⟨_,jg (zB (zA rfl) (zB (zA rfl) zN)) rfl yJ,rfl⟩) (by rw[jZ];simp only[cap];omega) rfl
 have a1:=ZT [D.t [.non,.int 0]] (SP s (k-1)) (by rw[zDP];simp;omega);have a2:=ZT ([D.t [.non,.int 0]]++SP s (k-1)) (SP o (l-1)) (by rw[length_append,zDP,zDP];simp;omega);exact yO (zG (J0 (zd (F:=zy) rfl (zA rfl) (GH (W7 h) (W6 h)))) (zG (zAB (zA rfl) rfl) (zG (yd c1 rfl) (zG (yd c2 rfl) (zi (yP (zh (zh (zDD (zB GA zN) rfl zAD) (Y3 rfl rfl) a1) (Y3 rfl rfl) a2))))))) rfl
def GJ(p:List D)(hp:Pen p):∃die p',je [.par p]=.ok (.v (ZB die),[.par p'])/\Pen p'/\Die die:=by
 obtain⟨r1,p1,e1,l1,u1,hp1⟩:=jv p hp 3 (by decide) (by decide);have ht:∃t:Nat,ixD (.l [.int 1,.int 3,.int 9]) (.int r1)=some (.v (.int (t:Nat)))/\0<t/\t<=9:=by
  have:r1=0\/r1=1\/r1=2:=by omega
  rcases this with rfl|rfl|rfl
  ·exact⟨1,rfl,by decide,by decide⟩
  ·exact⟨3,rfl,by decide,by decide⟩
  ·exact⟨9,rfl,by decide,by decide⟩
 obtain⟨t,ht,t0,t1⟩:=ht;obtain⟨r2,p2,e2,l2,u2,hp2⟩:=jv p1 hp1 2 (by decide) (by decide);obtain⟨q2,rfl⟩:=Int.eq_ofNat_of_zero_le l2;obtain⟨res,E',h1,h2,s,p3,l,hE,hs,hp3,hl,hn⟩:=Yo (tg:=gN 0) (tt:=uU) (el:=dE jJ (.bin .add (.c (.int 1)) (.call 0 (.lend 1 (.ev (.var 2) .nil))))) (λk E acc=>acc.length=k/\∃s p l,E=[s,.par p,.v (.int (t:Nat))]/\jS s=true/\Pen p/\acc=N l/\∀x∈l,1<=x/\x<=9) (DV.zJ 0 (2+q2)) 0 [.e,.par p2,.v (.int (t:Nat))] [] ⟨rfl,.e,p2,[],rfl,rfl,hp2,rfl,λx hx=>by cases hx⟩ (by rw[jZ];simp only[length_nil,cap];omega)
  (λi d e E acc ⟨ha,s,p,l,hE,hs,hp,hl,hn⟩ hlt=>by
   obtain⟨r,p',e',l',u',hp'⟩:=jv p hp (t:Nat) (by omega) (by omega);obtain⟨r,rfl⟩:=Int.eq_ofNat_of_zero_le l';refine⟨[.v d,.par p,.v (.int (t:Nat))],[.v d,.par p,.v (.int (t:Nat))],.v (.int ((1+r:Nat):Int)),[.v d,.par p',.v (.int (t:Nat))],?_,rfl,?_,by simp[ha],.v d,p',l++[1+r],rfl,rfl,hp',?_,?_⟩
   ·subst hE;cases s<;>first|rfl|(cases hs)
   ·exact zh x_c (wm rfl rfl (zA rfl) e' rfl) (jA 1 r)
   ·rw[hl,N_app];rfl
   ·intro x hx
    rcases mem_append.mp hx with hx|hx
    ·exact hn x hx
    ·simp at hx;omega)
 subst hE;have cp:dE jJ (.comp 1 ["_law_sign"] ["_law_pen","_law_top"] [0,1] (.iR1 (.cons (.bin .add (.c (.int 2)) (.call 0 (.lend 0 (.ev (.c (.int 2)) .nil)))) .nil)) (.n 0) .tTr (.bin .add (.c (.int 1)) (.call 0 (.lend 1 (.ev (.var 2) .nil))))) [.par p1,.v (.int (t:Nat))]=.ok (.own (N l),[.par p3,.v (.int (t:Nat))]):=by
  have hi:=i_R1 (fs:=jJ) (E:=[.par p1,.v (.int (t:Nat))]) (E1:=[.par p2,.v (.int (t:Nat))]) (a:=.cons (.bin .add (.c (.int 2)) (.call 0 (.lend 0 (.ev (.c (.int 2)) .nil)))) .nil) (zB (zh x_c (wm rfl rfl x_c e2 rfl) (jA 2 q2)) zN) (j:=((2+q2:Nat):Int)) rfl ⟨by omega,by omega⟩;rw[show(((2+q2:Nat):Int)).toNat=2+q2 by omega]at hi;simp only[rE_c,Jo,v5,QC,rE_ix,ue,zEu,jR]at h1 ⊢;refine Wq ?_;simp only[Tg.m,zAt];rw[<- hl];simp[ZJ,hi,wz,Slot.list?,zK,h1,zk,zH,Slot.put]
 have hl2:l.length=2+q2:=by
  have:=congrArg length hl;rw[GC]at this;rw[<- this,h2,jZ];omega
 refine⟨l,p3,?_,hp3,⟨by omega,hn⟩⟩;exact yO (zG (yd (yj (zDD (zB x_c (zB x_c (zB x_c zN))) rfl (by simp[cap])) (wm rfl rfl x_c e1 rfl) ht) rfl) (zi (yP (Jb (zB cp zN) rfl)))) rfl
def zFD{fs:List FI}{E E1:zM}{k i:Nat}{F:MF}{r':R}{p p':List D}(h0:fiF fs k=F)(hE:E[i]?=some (.par p))(h2:F [.par p]=.ok (r',[.par p']))(h3:E.set i (.par p')=E1):dE fs (.call k (.lend i .nil)) E=.ok (r',E1):=by
 subst h0 h3;have hi:i<E.length:=(qG.mp hE).1;have hs:(E.set i .e)[i]?=some .e:=by simp[hi]
 have hp:(E.set i (.par p))[i]?=some (.par p):=by simp[hi]
 simp only[jR,ug,wP,wO,yB,hE,jX,Bool.false_eq_true,if_false,zK,Slot.list?,h2,zH,hs,hp,Slot.put,set_set]
def zFE{fs:List FI}{E E1:zM}{k i:Nat}{F:MF}{r':R}{p p':List D}(h0:fiF fs k=F)(hE:E[i]?=some (.own p))(h2:F [.par p]=.ok (r',[.par p']))(h3:E.set i (.own p')=E1):dE fs (.call k (.lend i .nil)) E=.ok (r',E1):=by
 subst h0 h3;have hi:i<E.length:=(qG.mp hE).1;have hs:(E.set i .e)[i]?=some .e:=by simp[hi]
 simp only[jR,ug,wP,wO,yB,hE,jX,Bool.false_eq_true,if_false,zK,Slot.list?,h2,zH,hs,Slot.put,set_set]
def GK(a b:Nat)(h:b≠0):zFi (.int a) (.int b)=some (.v (.int ((a%b:Nat):Int))):=by
 have:(0:Int)<b:=by omega
 simp only[zFi,zBh];rw[if_pos (decide_eq_true this)];rfl
def Jc(p:List D)(hp:Pen p)(m:Nat)(h0:0<m)(h1:m<1000):∃(r:Nat) (p':List D),zm [.par p,.v (.int (m:Nat))]=.ok (.v (.int (r:Nat)),[.par p',.e])/\r<m/\Pen p':=by
 obtain⟨r,p',e,l,u,h⟩:=jv p hp m (by omega) (by omega);obtain⟨r,rfl⟩:=Int.eq_ofNat_of_zero_le l;exact⟨r,p',e,by omega,h⟩
def zBa(p:List D)(hp:Pen p):∃die s k o l p',y8 [.par p]=.ok (.v (ZW die s k o l),[.par p'])/\Pen p'/\Mt die s k o l:=by
 obtain⟨die,p1,e1,hp1,hd⟩:=GJ p hp;have hl:2<=die.length/\die.length<=3:=by rcases hd.1 with e|e<;>omega
 obtain⟨s,p2,e2,u2,hp2⟩:=Jc p1 hp1 die.length (by omega) (by omega);obtain⟨r,p3,e3,u3,hp3⟩:=Jc p2 hp2 (die.length-1) (by omega) (by omega);obtain⟨a,p4,e4,u4,hp4⟩:=Jc p3 hp3 6 (by decide) (by decide);obtain⟨b,p5,e5,u5,hp5⟩:=Jc p4 hp4 6 (by decide) (by decide);have sb:subD (.int (die.length:Nat)) (.int 1)=some (.v (.int ((die.length-1:Nat):Int))):=by
  rw[show((die.length-1:Nat):Int)=(die.length:Int)-1 by omega];rfl
 refine⟨die,s,1+a,(s+1+r)%die.length,1+b,p5,?_,hp5,hd,u2,mod_lt _ (by omega),?_,by omega,by omega⟩
 ·have x3:dE ww (.call 0 (.lend 0 (.ev (.bin .sub (.cB .len (.cons (.var 1) .nil)) (.c (.int 1))) .nil))) [.par p2,.v (ZB die),.v (.int (s:Nat)),.e]=.ok (.v (.int (r:Nat)),[.par p3,.v (ZB die),.v (.int (s:Nat)),.e]):=wm (F:=zm) rfl rfl (zh (Jb (zB (zA rfl) zN) (ZV die)) x_c sb) e3 rfl
  exact yO (zG (yd (zFD (F:=je) rfl rfl e1 rfl) rfl) (zG (yd (wm (F:=zm) rfl rfl (Jb (zB (zA rfl) zN) (ZV die)) e2 rfl) rfl) (zG (yd (zh (zh (zh (zA rfl) x_c (jA s 1)) x3 (jA (s+1) r)) (Jb (zB (zA rfl) zN) (ZV die)) (GK (s+1+r) die.length (by omega))) rfl) (zi (yP (jg (zB (zA rfl) (zB (zA rfl) (zB (zh x_c (wm (F:=zm) rfl rfl x_c e4 rfl) (jA 1 a)) (zB (zA rfl) (zB (zh x_c (wm (F:=zm) rfl rfl x_c e5 rfl) (jA 1 b)) zN))))) rfl (by simp only[length_cons,length_nil,cap];omega))))))) rfl
 ·rcases hd.1 with e|e<;>rw[e]at u2 u3 ⊢<;>omega
section
variable{fs:List FI}{E E1 E2 E3 E4:zM}
def GF{t b:_}{p:Fl×zM}(h:DV.whN (dT fs t) (dB fs b) 1000000 E=.ok p):dS fs (.sWhile t b) E=.ok p:=by
 simp only[QE];exact ud (by simp only[DV.sWhile];exact h)
def s_aug{i:Nat}{o:Op2}{a:_}{x y z:Int}(h:E[i]?=some (.v (.int x)))(h1:dE fs a E=.ok (.v (.int y),E))(hz:o.aug x y=some z)(h2:E.set i (.v (.int z))=E1):dS fs (.sAug i o a) E=.ok (.nx,E1):=by
 subst h2;simp only[rS_sAug,DV.sAug,h,h1,R.d,hz,if_true]
end
def QU{n:Nat}(h:n<2^800):n<Big:=lt_trans h (by decide +kernel)
def GL{i j:Int}(h1:i.natAbs<2^800)(h2:j.natAbs<2^800):vx (.int i) (.int j)=some (.v (.int (i*j))):=by
 unfold vx;have:vG (.int i) (.int j)=some (.v (.int (i*j))):=by
  simp only[vG];exact if_pos (.inr ⟨QU h1,QU h2⟩)
 rw[this]
def W8(a b:Nat)(h1:a<2^800)(h2:b<2^800):vx (.int a) (.int b)=some (.v (.int ((a*b:Nat):Int))):=by
 rw[GL (by simpa using h1) (by simpa using h2)];simp
def zAF(t:Int):absG [.int t]=some (.v (.int (t.natAbs:Nat))):=by
 have:(if t<0 then -t else t)=((t.natAbs:Nat):Int):=by split<;>omega
 simp only[absG,this]
def GM(t:Nat):absG [.int t]=some (.v (.int (t:Nat))):=by
 rw[zAF];simp
def WJ(a:Int)(b:Nat)(h:0<b)(h2:b<2^800):Go (.int a) (.int b)=some (.v (.int (a/b))):=by
 simp only[Go,zBh];rw[if_pos (decide_eq_true ⟨by omega,.inr (QU (by simpa using h2))⟩)]
def wn(d:D)(lo hi:Int)(h:isFn d=false)(hb:J1 lo hi d=true):yU [.v d,.v (.int lo),.v (.int hi)]=.ok (.v .non,[.e,.e,.e]):=by
 have e:=yi d lo hi h;rw[hb]at e;exact f_nx (zi (yw (jN (t_E (yo rfl (zA rfl) (zA rfl) (zA rfl) e)) rfl) yx)) rfl
def zBb(d:D)(h:okD d)(hb:zA3 d=true):Ja [.v d]=.ok (.v .non,[.e]):=by
 have e:=uC d h;rw[hb]at e;exact f_nx (zi (yw (jN (t_E (zd rfl (zA rfl) e)) rfl) yx)) rfl
def zAG(d:D)(m:Int)(h:isFn d=false)(hb:J1 0 (m-1) d=true):wc [.v d,.v (.int m)]=.ok (.v .non,[.e,.e]) :=
 f_nx (zi (J0 (yo rfl (zA rfl) x_c (zh (zA rfl) x_c rfl) (wn d 0 (m-1) h hb)))) rfl
def e_gcd(t:Int)(b:Nat)(hb:b<2^800):zf [.v (.int t),.v (.int b)]=.ok (.v (.int (t.natAbs.gcd b:Nat)),[.e,.e]):=by
 have w:=WI (c:=dT z9 (.tE (.cmp .ne (.var 1) (.c (.int 0))))) (bd:=dB z9 (.bOne (.sPar 0 1 (.cons (.var 1) (.cons (.bin .mod (.var 0) (.var 1)) .nil))))) (λa b=>[.v (.int (a:Nat)),.v (.int (b:Nat))])
  (λa b=>t_E (yl (zA rfl) x_c (by
   show neG (.int (b:Int)) (.int 0)=_
   rw[ne_int];by_cases z:b=0
   ·subst z;rfl
   ·have:¬(b:Int)=0:=by omega
    simp[z])))
  (λa b h=>zi (GB (zB (zA rfl) (zB (zh (zA rfl) (zA rfl) (GK a b h)) zN)) rfl)) 800 1000000 t.natAbs b hb (by omega)
 exact yO (zG (GB (zB (Jb (zB (zA rfl) zN) (zAF t)) (zB (Jb (zB (zA rfl) zN) (GM b)) zN)) rfl) (zG (GF w) (zi (yP (zA rfl))))) rfl
def zGG{t b:Nat}(h0:0<b)(hb:b<2^800):0<t.gcd b/\t.gcd b<2^800:=by
 refine⟨gcd_pos_of_pos_right _ h0,?_⟩;have:=le_of_dvd h0 (gcd_dvd_right t b);exact lt_of_le_of_lt this hb
def GN(b g:Nat):((b:Int)/(g:Int))=((b/g:Nat):Int):=by simp
def Jd(t:Int)(b:Nat)(h0:0<b)(hb:b<2^800):zS [.v (.int t),.v (.int b)]=.ok (.v (nrm t b),[.e,.e]):=by
 obtain⟨g0,g1⟩:=zGG (t:=t.natAbs) h0 hb;have q:eqG (.int (b:Int)) (.int 0)=some (.v (.bl false)):=by
  rw[eq_int,decide_eq_false (by omega)]
 have l:ltD (.int (b:Int)) (.int 0)=some (.v (.bl false)):=by
  simp[ltD,zBi]
 have d1:=WJ t _ g0 g1;have d2:=WJ b _ g0 g1;rw[GN]at d2;exact yO (zG (yw (t_E (yl (zA rfl) x_c q)) yx) (zG (yd (zP rfl (zA rfl) (zA rfl) (e_gcd t b hb)) rfl) (zG (yw (t_E (yl (zA rfl) x_c l)) yx) (zi (yP (jg (zB (zh (zA rfl) (zA rfl) d1) (zB (zh (zA rfl) (zA rfl) d2) zN)) rfl yJ)))))) rfl
abbrev O3:List DV.Slot:=[.e,.e,.e]
def sub_nn{a b:Nat}(h:b<=a):subD (.int (a:Int)) (.int (b:Int))=some (.v (.int ((a-b:Nat):Int))):=by
 simp only[subD,zBi];rw[Int.ofNat_sub h]
def mul_sm0{i j:Int}(h0:0<=i)(h:i<=100000):vG (.int i) (.int j)=some (.v (.int (i*j))):=by
 simp only[vG];exact if_pos (.inl (.inl ⟨by omega,by omega⟩))
def mul_sm1{i j:Int}(h0:0<=j)(h:j<=100000):vG (.int i) (.int j)=some (.v (.int (i*j))):=by
 simp only[vG];exact if_pos (.inl (.inr ⟨by omega,by omega⟩))
def QV(a b:Nat)(h:a<=100000):vx (.int a) (.int b)=some (.v (.int ((a*b:Nat):Int))):=by
 have:=zDJ (mul_sm0 (i:=(a:Int)) (j:=(b:Int)) (by omega) (by omega));rw[this,Int.natCast_mul]
def ZX(a b:Nat)(h:b<=100000):vx (.int a) (.int b)=some (.v (.int ((a*b:Nat):Int))):=by
 have:=zDJ (mul_sm1 (i:=(a:Int)) (j:=(b:Int)) (by omega) (by omega));rw[this,Int.natCast_mul]
def gt_nat(a b:Nat):gtD (.int (a:Int)) (.int (b:Int))=some (.v (.bl (decide (b<a)))):=by
 show some (R.v (D.bl (decide ((b:Int)<a))))=_
 congr 3;simp
def zGH(a b:Nat):ltD (.int (a:Int)) (.int (b:Int))=some (.v (.bl (decide (a<b)))):=by
 show some (R.v (D.bl (decide ((a:Int)<b))))=_
 congr 3;simp
def le_nat(a b:Nat):leD (.int (a:Int)) (.int (b:Int))=some (.v (.bl (decide (a<=b)))):=by
 show some (R.v (D.bl (decide ((a:Int)<=b))))=_
 congr 3;simp
def eq_nat(a b:Nat):eqG (.int (a:Int)) (.int (b:Int))=some (.v (.bl (decide (a=b)))):=by
 rw[eq_int];congr 3;simp[Int.natCast_inj]
def zDQ(l:List Int):ZL (l.map D.int)=some l:=by
 induction l with
 |nil=>rfl|cons a l ih=>simp only[map_cons,ZL,ih];rfl
def zDR(l:List Nat):ZL (N l)=some (l.map λ(n:Nat)=>(n:Int)):=by
 have:N l=(l.map λ(n:Nat)=>(n:Int)).map D.int:=by simp[N]
 rw[this,zDQ]
def zBc(l:List Nat):zFv [.t (N l)]=some (.v (.int (l.sum:Nat))):=by
 have sc:∀l:List Nat,(l.map λ(n:Nat)=>(n:Int)).sum=((l.sum:Nat):Int):=λl=>by
  induction l with
  |nil=>rfl|cons a l ih=>simp[ih]
 simp only[zFv,zDR,Option.map_some,sc]
theorem zA6:∀l:List Nat,(l.map λ(n:Nat)=>(n:Int)).sum=((l.sum:Nat):Int)
 | []=>rfl|a::l=>by simp[zA6 l]
def sum_N(l:List Nat):zFv [.l (N l)]=some (.v (.int (l.sum:Nat))):=by
 simp only[zFv,zDR,Option.map_some,zA6]
def p27{n:Nat}(h:n<=80):27^n<2^400:=lt_of_le_of_lt (Nat.pow_le_pow_right (by omega) h) (by decide +kernel)
def QW{n:Nat}(h:n<2^400):n<2^800:=lt_trans h (by decide +kernel)
theorem zAH:∀{l:List Nat} {x:Nat},x∈l->x<=l.sum
 |a::l,x,h=>by
  rw[sum_cons];rcases mem_cons.mp h with rfl|h
  ·omega
  ·have:=zAH h;omega
def GO{S n:Nat}(h:S<=27)(hn:n<=80):ja [.v (.int S),.v (.int n)]=.ok (.v (.int (S^n:Nat)),[.e,.e]):=by
 obtain⟨E1,f1,s3,hE,h3⟩:=jG (tg:=gN 3) (body:=dB Jr (.bOne (.sAug 2 .mul (.var 0)))) (λi E=>∃s3,E=[.v (.int S),.v (.int n),.v (.int (S^i:Nat)),s3]/\jS s3=true) (DV.zJ 0 n) 0 [.v (.int S),.v (.int n),.v (.int 1),.e] ⟨.e,by simp,rfl⟩ (λi d q E ⟨s3,hE,h3⟩=>by
  obtain⟨hi,rfl⟩:=uo _ _ _ _ q;rw[zero_add]at hE ⊢;refine⟨[.v (.int S),.v (.int n),.v (.int (S^i:Nat)),.v (.int (0+(i:Int)))],[.v (.int S),.v (.int n),.v (.int (S^(i+1):Nat)),.v (.int (0+(i:Int)))],?_,?_,_,rfl,rfl⟩
  ·subst hE;cases s3<;>first|rfl|(cases h3)
  ·have b1:S^i<2^800:=QW (lt_of_le_of_lt (pow_le_pow_left h i) (p27 (by omega)))
   have m:G0 ((S^i:Nat):Int) (S:Int)=some ((S^(i+1):Nat):Int):=by
    unfold G0;rw[if_pos (.inr ⟨QU (by rw[Int.natAbs_natCast];exact b1),QU (by rw[Int.natAbs_natCast];exact lt_of_le_of_lt h (by decide +kernel))⟩),pow_succ,Int.natCast_mul]
   exact zi (s_aug rfl (zA rfl) m rfl))
 rw[jZ,zero_add]at hE;subst hE;have tn:((n:Nat):Int).toNat=n:=by omega
 exact yO (zG (yd x_c rfl) (zG (zAC (zB (zA rfl) zN) rfl ⟨by omega,by omega⟩ (by rw[tn];exact f1)) (zi (yP (zA rfl))))) rfl
end My
namespace SM
end SM
namespace My
open PySem L2 DV SM
def zGI{a b:Nat}(h1:a<2^400)(h2:b<2^400):a*b<2^800:=by
 have:2^400*2^400=2^800:=by decide +kernel
 rw[<- this];exact Nat.mul_lt_mul'' h1 h2
def w_pow{w r:Nat}(h:w<=27)(hr:r<=80):w^r<2^400:=lt_of_le_of_lt (pow_le_pow_left h r) (p27 hr)
def s27{x:Nat}(h:x<=2000):x<2^400:=lt_of_le_of_lt h (by decide +kernel)
theorem QX{c:Nat}:∀{l:List Nat},(∀x∈l,1<=x/\x<=c)->l.length<=l.sum/\l.sum<=l.length*c
 | [],_=>by simp
 |a::l,h=>by
  have h1:=h a qE;have ih:=QX (l:=l) (λx hx=>h x (qD _ hx));rw[sum_cons,length_cons,Nat.succ_mul];omega
structure DS(die:List Nat)(s:Nat):Prop where
 ok:Die die
 lt:s<die.length
namespace DS
variable{die:List Nat}{s:Nat}
def S27(h:DS die s):2<=die.sum/\die.sum<=27:=by
 have:=QX h.ok.2;rcases h.ok.1 with e|e<;>rw[e]at this<;>omega
def get(h:DS die s):die[s]?=some (die.getD s 0):=by
 rw[getD_eq_getElem?_getD,getElem?_eq_getElem h.lt];rfl
def le(h:DS die s):die.getD s 0<=die.sum:=zAH (mem_of_getElem? h.get)
end DS
def zDS{die:List Nat}{s x:Nat}(h:die[s]?=some x):ixD (ZB die) (.int s)=some (.v (.int (x:Nat))):=by
 rw[zDL,zDK (N_get h)];rfl
def S_pow{die:List Nat}{s:Nat}(h:DS die s){n:Nat}(hn:n<=80):0<die.sum^n/\die.sum^n<2^400 :=
 ⟨pow_pos (by have:=h.S27;omega),lt_of_le_of_lt (pow_le_pow_left h.S27.2 n) (p27 hn)⟩
def in_nat{n hi:Nat}(h:n<=hi):J1 0 (hi:Int) (.int n)=true:=by
 simp[J1];omega
def sign_in{m sg:Nat}(h:sg<m):J1 0 ((m:Int)-1) (.int (sg:Nat))=true:=by
 simp[J1];omega
def zFF{die:List Nat}{s:Nat}(h:DS die s){n:Nat}(hn:n<=80)(t:Int):jH [.v (ZB die),.v (.int n),.v (.int t)]=.ok (.v (nrm t (die.sum^n)),O3):=by
 have sp:=S_pow h hn;exact yO (zi (yP (zP (F:=zS) rfl (zA rfl) (zP (F:=ja) rfl (Jb (zB (zA rfl) zN) (zBc die)) (zA rfl) (GO h.S27.2 hn)) (Jd _ _ sp.1 (QW sp.2))))) rfl
def in_k{k:Nat}(h:1<=k/\k<=8):J1 1 8 (.int k)=true:=by simp[J1];omega
def zDT{die:List Nat}{s:Nat}(h:DS die s){k:Nat}(hk:1<=k/\k<=8):jI [.v (ZB die),.v (.int s),.v (.int k)]=.ok (.v .non,O3) :=
 f_nx (zG (J0 (zd (F:=Ja) rfl (zA rfl) (zBb _ (zGF h.ok) (die_B h.ok)))) (zG (J0 (zP (F:=wc) rfl (zA rfl) (Jb (zB (zA rfl) zN) (ZV die)) (zAG _ _ rfl (sign_in h.lt)))) (zi (J0 (yo (F:=yU) rfl (zA rfl) x_c GA (wn _ 1 8 rfl (in_k hk))))))) rfl
abbrev dw(die:List Nat)(s:Nat):Nat:=die.getD s 0
def zA7(f:Nat->D){i n:Nat}(h:i<n):ixD (.l ((List.range n).map f)) (.int (i:Nat))=some (.v (f i)):=by
 rw[ixD_lst,zDK (d:=f i) (by simp[h])];rfl
end My
namespace DV
open PySem L2
end DV
namespace My
open PySem L2 DV SM
end My
namespace SM
open PySem L2 DV
def mul_nrm{t1 t2 T:Int}{b1 b2 B:Nat}(h1:0<b1)(h2:0<b2)(hB:0<B)(h:t1*t2*B=T*(b1*b2:Nat)):nrm (Jh t1 b1*Jh t2 b2) (wT t1 b1*wT t2 b2)=nrm T B:=by
 have c1:=zDH t1 b1;have c2:=zDH t2 b2;have p1:=JU t1 h1;have p2:=JU t2 h2;generalize Jh t1 b1=x1 at *;generalize wT t1 b1=y1 at *;generalize Jh t2 b2=x2 at *;generalize wT t2 b2=y2 at *;refine zDG (mul_pos p1 p2) hB ?_;rw[Int.natCast_mul]at h ⊢;have hb:((b1:Int)*b2)≠0:=by
  have:0<(b1:Int)*b2:=Int.mul_pos (by omega) (by omega);omega
 apply Int.eq_of_mul_eq_mul_right hb;have e1:x1*x2*(B:Int)*(b1*b2)=(x1*b1)*(x2*b2)*B:=by grind
 have e2:T*((y1:Int)*y2)*(b1*b2)=T*(b1*b2)*(y1*y2):=by grind
 rw[e1,e2,c1,c2,<- h]
 grind
def WK{B:Nat}(h:0<B):nrm 0 B=.t [.int 0,.int 1]:=by
 simp[nrm,Jh,wT,div_self h]
def Pt(S w:Nat):Nat->Nat
 |0=>0|t+1=>(Pt S w t+w^t)*S
theorem zDU(S w:Nat):∀t,Pt S w (t+1)=Pt S w t*w+S^(t+1)
 |0=>by simp[Pt]
 |t+1=>by
  have ih:=zDU S w t;have e:Pt S w (t+1+1)=(Pt S w (t+1)+w^(t+1))*S:=rfl;rw[e];have e2:Pt S w (t+1)=(Pt S w t+w^t)*S:=rfl;have:(Pt S w (t+1)+w^(t+1))*S=(Pt S w t+w^t)*S*w+S^(t+1+1):=by
   rw[ih]
   grind
  rw[this,<- e2]
def Rt(S w j:Nat):Nat->Nat
 |0=>0|m+1=>Rt S w j m*w+S^(j+m+1)
theorem Pt_Rt(S w j:Nat):∀m,Pt S w (j+m)=Pt S w j*w^m+Rt S w j m
 |0=>by simp[Rt]
 |m+1=>by
  rw[show j+(m+1)=j+m+1 from rfl,zDU,Pt_Rt S w j m];simp only[Rt]
  grind
theorem Pt_le{S w:Nat}(hS:S<=27)(hw:w<=S):∀t,Pt S w t<=t*27^t
 |0=>by simp[Pt]
 |t+1=>by
  have ih:=Pt_le hS hw t;have h1:w^t<=27^t:=pow_le_pow_left (by omega) t;have h2:Pt S w t+w^t<=(t+1)*27^t:=by rw[add_mul];omega
  have:=mul_le_mul h2 hS;rw[pow_succ,<- mul_assoc];exact this
end SM
namespace My
open PySem L2 DV SM
def zA8{t:Int}{b:Nat}(h:t.natAbs<2^800):(Jh t b).natAbs<2^800:=lt_of_le_of_lt (Int.natAbs_ediv_le_natAbs _ _) h
def uD{t:Int}{b L:Nat}(h:b<L):wT t b<L:=lt_of_le_of_lt (div_le_self _ _) h
def zDV{t1 t2:Int}{b1 b2:Nat}(h:b1*b2<2^800):wT t1 b1*wT t2 b2<2^800:=lt_of_le_of_lt (mul_le_mul (div_le_self _ _) (div_le_self _ _)) h
def f_mul{b1 b2 L:Nat}(h:b1*b2<L)(h2:0<b2):b1<L:=lt_of_le_of_lt (Nat.le_mul_of_pos_right b1 h2) h
def zDW{b1 b2 L:Nat}(h:b1*b2<L)(h1:0<b1):b2<L:=lt_of_le_of_lt (Nat.le_mul_of_pos_left b2 h1) h
def e_plus{t1 t2 T:Int}{b1 b2 B:Nat}(h1:0<b1)(h2:0<b2)(hB:0<B)(a1:t1.natAbs<2^800)(a2:t2.natAbs<2^800)(hb:b1*b2<2^800)(h:(t1*b2+t2*b1)*B=T*(b1*b2:Nat)) :
  yF [.v (nrm t1 b1),.v (nrm t2 b2)]=.ok (.v (nrm T B),O2):=by
 have p1:=JU t1 h1;have p2:=JU t2 h2;have m1:=GL (i:=Jh t1 b1) (j:=((wT t2 b2:Nat):Int)) (zA8 a1) (by rw[Int.natAbs_natCast];exact uD (zDW hb h1));have m2:=GL (i:=Jh t2 b2) (j:=((wT t1 b1:Nat):Int)) (zA8 a2) (by rw[Int.natAbs_natCast];exact uD (f_mul hb h2));have m3:=W8 (wT t1 b1) (wT t2 b2) (uD (f_mul hb h2)) (uD (zDW hb h1));have ad:zBO (.int (Jh t1 b1*((wT t2 b2:Nat):Int))) (.int (Jh t2 b2*((wT t1 b1:Nat):Int)))=some (.v (.int (Jh t1 b1*((wT t2 b2:Nat):Int)+Jh t2 b2*((wT t1 b1:Nat):Int)))):=rfl;have sh:=Jd (Jh t1 b1*((wT t2 b2:Nat):Int)+Jh t2 b2*((wT t1 b1:Nat):Int)) (wT t1 b1*wT t2 b2) (mul_pos p1 p2) (zDV hb);rw[zDI h1 h2 hB h]at sh;exact yO (zi (yP (zP (F:=zS) rfl (zh (zh (yj (zA rfl) x_c rfl) (yj (zA rfl) x_c rfl) m1) (zh (yj (zA rfl) x_c rfl) (yj (zA rfl) x_c rfl) m2) ad) (zh (yj (zA rfl) x_c rfl) (yj (zA rfl) x_c rfl) m3) sh))) rfl
def zFG{t1 t2 T:Int}{b1 b2 B:Nat}(h1:0<b1)(h2:0<b2)(hB:0<B)(a1:t1.natAbs<2^800)(a2:t2.natAbs<2^800)(hb:b1*b2<2^800)(h:t1*t2*B=T*(b1*b2:Nat)) :
  zo [.v (nrm t1 b1),.v (nrm t2 b2)]=.ok (.v (nrm T B),O2):=by
 have p1:=JU t1 h1;have p2:=JU t2 h2;have m1:=GL (i:=Jh t1 b1) (j:=Jh t2 b2) (zA8 a1) (zA8 a2);have m3:=W8 (wT t1 b1) (wT t2 b2) (uD (f_mul hb h2)) (uD (zDW hb h1));have sh:=Jd (Jh t1 b1*Jh t2 b2) (wT t1 b1*wT t2 b2) (mul_pos p1 p2) (zDV hb);rw[mul_nrm h1 h2 hB h]at sh;exact yO (zi (yP (zP (F:=zS) rfl (zh (yj (zA rfl) x_c rfl) (yj (zA rfl) x_c rfl) m1) (zh (yj (zA rfl) x_c rfl) (yj (zA rfl) x_c rfl) m3) sh))) rfl
abbrev pS(S w i:Nat):D:=nrm ((S^i:Nat):Int) (w^i)
def wU{x i:Nat}(hx:x<=27)(hi:i<=40):x^i<2^400:=w_pow hx (by omega)
def zBd{x y i j:Nat}(hx:x<=27)(hi:i<=40)(hy:y<=27)(hj:j<=40):x^i*y^j<2^800:=zGI (wU hx hi) (wU hy hj)
def e_spow{S w:Nat}(hS:S<=27)(hw:0<w/\w<=27){i:Nat}(hi:i<=20):jb [.v (nrm (S:Int) w),.v (.int (i:Nat))]=.ok (.v (pS S w i),O2):=by
 obtain⟨E1,f1,s3,hE,h3⟩:=jG (tg:=gN 3) (body:=dB Js JM) (λj E=>∃s3,E=[.v (nrm (S:Int) w),.v (.int (i:Nat)),.v (pS S w j),s3]/\jS s3=true) (DV.zJ 0 i) 0 [.v (nrm (S:Int) w),.v (.int (i:Nat)),.v (.t [.int 1,.int 1]),.e] ⟨.e,by simp[pS,nrm,Jh,wT],rfl⟩ (λj d q E ⟨s3,hE,h3⟩=>by
  obtain⟨hj,rfl⟩:=uo _ _ _ _ q;rw[zero_add]at hE ⊢;have et:=zFG (t1:=((S^j:Nat):Int)) (b1:=w^j) (t2:=(S:Int)) (b2:=w) (T:=((S^(j+1):Nat):Int)) (B:=w^(j+1)) (pow_pos hw.1) hw.1 (pow_pos hw.1) (by rw[Int.natAbs_natCast];exact QW (wU hS (by omega))) (by rw[Int.natAbs_natCast];exact QW (s27 (by omega))) (by rw[<- pow_succ];exact QW (wU hw.2 (by omega))) (by rw[pow_succ,pow_succ];simp only[Int.natCast_mul]);refine⟨[.v (nrm (S:Int) w),.v (.int (i:Nat)),.v (pS S w j),.v (.int (0+(j:Int)))],[.v (nrm (S:Int) w),.v (.int (i:Nat)),.v (pS S w (j+1)),.v (.int (0+(j:Int)))],?_,?_,_,rfl,rfl⟩
  ·subst hE;cases s3<;>first|rfl|(cases h3)
  ·exact zi (yd (zP (F:=zo) rfl (zA rfl) (zA rfl) et) rfl))
 rw[jZ,zero_add]at hE;subst hE;exact yO (zG (yd GA rfl) (zG (zAC (j:=(i:Int)) (zB (zA rfl) zN) rfl ⟨by omega,by omega⟩ (by rw[Int.toNat_natCast];exact f1)) (zi (yP (zA rfl))))) rfl
abbrev rS(S w j m:Nat):D:=nrm ((Rt S w j m:Nat):Int) (w^(j+m))
def Rt_lt{S w j:Nat}(hS:S<=27)(hw:w<=S){m:Nat}(h:j+m<=20):Rt S w j m<2^800:=by
 have e:=Pt_Rt S w j m;have l:=Pt_le hS hw (j+m);have l2:(j+m)*27^(j+m)<2^800:=zGI (s27 (by omega)) (wU (by omega) (by omega));omega
def e_ssum{S w j k:Nat}(hS:S<=27)(hw:0<w/\w<=S)(hj:j<k)(hk:k<=8):ym [.v (.l (((List.range (k+1)).map (pS S w)).drop (j+1)))]=.ok (.v (rS S w j (k-j)),O1):=by
 have len:(((List.range (k+1)).map (pS S w)).drop (j+1)).length=k-j:=by simp
 obtain⟨E1,f1,s2,hE,h2⟩:=jG (tg:=gN 2) (body:=dB JN wb) (λm E=>∃s2,E=[.v (.l (((List.range (k+1)).map (pS S w)).drop (j+1))),.v (rS S w j m),s2]/\jS s2=true) (((List.range (k+1)).map (pS S w)).drop (j+1)) 0 [.v (.l (((List.range (k+1)).map (pS S w)).drop (j+1))),.v (.t [.int 0,.int 1]),.e] ⟨.e,by rw[show rS S w j 0=.t [.int 0,.int 1]from WK (pow_pos hw.1)],rfl⟩ (λm d q E ⟨s2,hE,h2⟩=>by
  have hm:m<k-j:=by rw[<- len];exact(qG.mp q).1
  rw[zero_add]at hE ⊢;have ed:d=pS S w (j+m+1):=by
   rw[List.getElem?_drop,getElem?_map,getElem?_range (by omega),Option.map_some]at q;rw[<- qJ q,show j+1+m=j+m+1 by omega]
  subst ed;have et:=e_plus (t1:=((Rt S w j m:Nat):Int)) (b1:=w^(j+m)) (t2:=((S^(j+m+1):Nat):Int)) (b2:=w^(j+m+1)) (T:=((Rt S w j (m+1):Nat):Int)) (B:=w^(j+(m+1))) (pow_pos hw.1) (pow_pos hw.1) (pow_pos hw.1) (by rw[Int.natAbs_natCast];exact Rt_lt hS hw.2 (by omega)) (by rw[Int.natAbs_natCast];exact QW (wU hS (by omega))) (zBd (by omega) (by omega) (by omega) (by omega)) (by
   have e:((Rt S w j (m+1):Nat):Int)=(Rt S w j m:Nat)*(w:Int)+((S^(j+m+1):Nat):Int):=by simp only[Rt,Int.natCast_add,Int.natCast_mul]
   rw[e,show j+(m+1)=j+m+1 from rfl,pow_succ w (j+m)];simp only[Int.natCast_mul]
   grind)
  refine⟨[.v (.l (((List.range (k+1)).map (pS S w)).drop (j+1))),.v (rS S w j m),.v (pS S w (j+m+1))],[.v (.l (((List.range (k+1)).map (pS S w)).drop (j+1))),.v (rS S w j (m+1)),.v (pS S w (j+m+1))],?_,?_,_,rfl,rfl⟩
  ·subst hE;cases s2<;>first|rfl|(cases h2)
  ·exact zi (yd (zP (F:=yF) rfl (zA rfl) (zA rfl) et) rfl))
 rw[len,zero_add]at hE;subst hE;exact yO (zG (yd GA rfl) (zG (QP (zA rfl) rfl f1) (zi (yP (zA rfl))))) rfl
abbrev wS(die:List Nat)(s k j:Nat):D:=nrm ((Rt die.sum (dw die s) j (k-j):Nat):Int) (dw die s^(j+(k-j)))
def x_frz{fs:List FI}{E E1:zM}{a:_}{r:R}(h:dE fs a E=.ok (r,E1)):dE fs (.frz a) E=.ok (.v r.d,E1):=by simp only[zF3,eFrz,h]
def zA9{fs:List FI}{E:zM}{a:_}{n:Nat}(hn:n<=1000)(h:dE fs a E=.ok (.v (.int (n:Nat)),E)):dI fs (.iR1 (.cons a .nil)) E=.ok (N (List.range n),E):=by
 have:=i_R1 (fs:=fs) (E:=E) (a:=.cons a .nil) (j:=(n:Int)) (zB h zN) rfl ⟨by omega,by omega⟩;rw[Int.toNat_natCast,zGD]at this;exact this
def map_N(f:Nat->D)(n:Nat):(N (List.range n)).map (λd=>match d with | .int i=>f i.toNat|d=>d)=(List.range n).map f:=by
 simp only[N,map_map];refine map_congr_left λi _=>?_
 simp
def JV{die:List Nat}{s:Nat}(h:DS die s){k:Nat}(hk:1<=k/\k<=8):yc [.v (ZB die),.v (.int s),.v (.int k)]=.ok (.own ((List.range k).map (wS die s k)),O3):=by
 have hS:=h.S27;have w1:=(h.ok.2 _ (mem_of_getElem? h.get));have hwS:dw die s<=die.sum:=h.le;have hw:0<dw die s/\dw die s<=9:=⟨w1.1,w1.2⟩;have a1:zBO (.int (k:Nat)) (.int 1)=some (.v (.int ((k+1:Nat):Int))):=jA k 1;have c1:dE Yt (.comp 1 ["i"] ["die","sign"] [0,1] (.iR1 (.cons (.bin .add (.var 2) (.c (.int 1))) .nil)) (.n 0) .tTr (.call 1 (.ev (.call 2 (.ev (.cB .sum (.cons (.var 1) .nil)) (.ev (.ix (.var 1) (.var 2)) .nil))) (.ev (.var 0) .nil)))) [.v (ZB die),.v (.int s),.v (.int k),.e]=.ok (.own ((List.range (k+1)).map (pS die.sum (dw die s))),[.v (ZB die),.v (.int s),.v (.int k),.e]):=by
  refine wI (vs:=[ZB die,.int s]) (λd=>match d with | .int i=>pS die.sum (dw die s) i.toNat|d=>d) (zA9 (n:=k+1) (by omega) (zh (zA rfl) x_c a1)) rfl (λd hd=>?_) (by rw[GC];simp[cap];omega) (map_N _ _)
  obtain⟨i,hi,rfl⟩:=zE9 hd;have hi:=mem_range.mp hi;exact⟨_,zP (F:=jb) rfl (zP (F:=zS) rfl (Jb (zB (zA rfl) zN) (zBc die)) (yj (zA rfl) (zA rfl) (zDS h.get)) (Jd (die.sum:Int) (dw die s) hw.1 (QW (s27 (by omega))))) (zA rfl) (e_spow hS.2 ⟨hw.1,by omega⟩ (by omega)),by simp[R.d]⟩
 refine yO (E1:=[.v (ZB die),.v (.int s),.v (.int k),.v (.l ((List.range (k+1)).map (pS die.sum (dw die s))))]) ?_ rfl;refine zG (J0 (yo (F:=jI) rfl (zA rfl) (zA rfl) (zA rfl) (zDT h hk))) (zG (yd (x_frz c1) rfl) ?_);refine zi (yP (wI (vs:=[.l ((List.range (k+1)).map (pS die.sum (dw die s)))]) (λd=>match d with | .int i=>wS die s k i.toNat|d=>d) (zA9 (n:=k) (by omega) (zA rfl)) rfl (λd hd=>?_) (by rw[GC];simp[cap];omega) (map_N _ _)))
 obtain⟨j,hj,rfl⟩:=zE9 hd;have hj:=mem_range.mp hj;have aj:zBO (.int (j:Nat)) (.int 1)=some (.v (.int ((j+1:Nat):Int))):=jA j 1;have sl:slD (.l ((List.range (k+1)).map (pS die.sum (dw die s)))) (some ((j+1:Nat):Int)) none=some (.own (((List.range (k+1)).map (pS die.sum (dw die s))).drop (j+1))):=by
  simp only[slD];rw[zA1 _ (j+1) (by simp;omega)]
 exact⟨_,zd (F:=ym) rfl (x_sl (zA rfl) (o_S (zh (zA rfl) x_c aj)) o_N sl) (e_ssum hS.2 ⟨hw.1,hwS⟩ hj hk.2),rfl⟩
def e_mean{die:List Nat}{s:Nat}(h:DS die s){k:Nat}(hk:1<=k/\k<=8):j6 [.v (ZB die),.v (.int s),.v (.int k)]=.ok (.v (wS die s k 0),O3) :=
 yO (zi (yP (yj (yo (F:=yc) rfl (zA rfl) (zA rfl) (zA rfl) (JV h hk)) x_c (zA7 (wS die s k) (i:=0) hk.1)))) rfl
def zGJ:Big=2^4000:=by unfold Big;exact rfl
def mul_Big{i j:Int}(h1:i.natAbs<Big)(h2:j.natAbs<Big):vx (.int i) (.int j)=some (.v (.int (i*j))):=by
 unfold vx;have:vG (.int i) (.int j)=some (.v (.int (i*j))):=by
  simp only[vG];exact if_pos (.inr ⟨h1,h2⟩)
 rw[this]
def jh{a b:Nat}(h1:a<Big)(h2:b<Big):vx (.int (a:Nat)) (.int (b:Nat))=some (.v (.int ((a*b:Nat):Int))):=by
 rw[mul_Big (by rw[Int.natAbs_natCast];exact h1) (by rw[Int.natAbs_natCast];exact h2),Int.natCast_mul]
def zBA(a:Int)(b:Nat)(h:0<b)(h2:b<Big):Go (.int a) (.int b)=some (.v (.int (a/b))):=by
 simp only[Go,zBh];rw[if_pos (decide_eq_true ⟨by omega,.inr (by rw[Int.natAbs_natCast];exact h2)⟩)]
def zGK(t:Int)(b:Nat)(hb:b<Big):zf [.v (.int t),.v (.int b)]=.ok (.v (.int (t.natAbs.gcd b:Nat)),[.e,.e]):=by
 rw[zGJ]at hb;have w:=WI (c:=dT z9 (.tE (.cmp .ne (.var 1) (.c (.int 0))))) (bd:=dB z9 jT) (λa b=>[.v (.int (a:Nat)),.v (.int (b:Nat))])
  (λa b=>t_E (yl (zA rfl) x_c (by
   show neG (.int (b:Int)) (.int 0)=_
   rw[ne_int];by_cases z:b=0
   ·subst z;rfl
   ·have:¬(b:Int)=0:=by omega
    simp[z])))
  (λa b h=>zi (GB (zB (zA rfl) (zB (zh (zA rfl) (zA rfl) (GK a b h)) zN)) rfl)) 4000 1000000 t.natAbs b hb (by decide)
 exact yO (zG (GB (zB (Jb (zB (zA rfl) zN) (zAF t)) (zB (Jb (zB (zA rfl) zN) (GM b)) zN)) rfl) (zG (GF w) (zi (yP (zA rfl))))) rfl
def zAI(t:Int)(b:Nat)(h0:0<b)(hb:b<Big):zS [.v (.int t),.v (.int b)]=.ok (.v (nrm t b),[.e,.e]):=by
 have g0:0<t.natAbs.gcd b:=gcd_pos_of_pos_right _ h0;have g1:t.natAbs.gcd b<Big:=lt_of_le_of_lt (le_of_dvd h0 (gcd_dvd_right _ _)) hb;have q:eqG (.int (b:Int)) (.int 0)=some (.v (.bl false)):=by
  rw[eq_int,decide_eq_false (by omega)]
 have l:ltD (.int (b:Int)) (.int 0)=some (.v (.bl false)):=by
  simp[ltD,zBi]
 have d1:=zBA t _ g0 g1;have d2:=zBA b _ g0 g1;rw[GN]at d2;exact yO (zG (yw (t_E (yl (zA rfl) x_c q)) yx) (zG (yd (zP (F:=zf) rfl (zA rfl) (zA rfl) (zGK t b hb)) rfl) (zG (yw (t_E (yl (zA rfl) x_c l)) yx) (zi (yP (jg (zB (zh (zA rfl) (zA rfl) d1) (zB (zh (zA rfl) (zA rfl) d2) zN)) rfl yJ)))))) rfl
abbrev nn(a b:Nat):D:=nrm ((a:Nat):Int) b
abbrev tp(a b:Nat):Nat:=a/a.gcd b
abbrev bt(a b:Nat):Nat:=b/a.gcd b
def W9(a b:Nat):nn a b=.t [.int (tp a b:Nat),.int (bt a b:Nat)]:=by
 show D.t [.int (Jh (a:Int) b),.int (wT (a:Int) b:Nat)]=_
 rw[YH];rfl
def Y4{a b:Nat}(h:0<b):0<bt a b:=div_pos (le_of_dvd h (gcd_dvd_right _ _)) (gcd_pos_of_pos_right _ h)
def tp_pos{a b:Nat}(h:0<a):0<tp a b:=div_pos (le_of_dvd h (gcd_dvd_left _ _)) (Nat.gcd_pos_of_pos_left _ h)
def GP(a b:Nat):tp a b<=a:=div_le_self _ _
def YI(a b:Nat):bt a b<=b:=div_le_self _ _
def crn(a b:Nat):tp a b*b=a*bt a b:=by
 have c:=zDH (a:Int) b;rw[YH]at c;have c':((tp a b*b:Nat):Int)=((a*bt a b:Nat):Int):=by rw[Int.natCast_mul,Int.natCast_mul];exact c
 exact Int.ofNat.inj c'
def zBe{T B W b:Nat}(hB:0<B)(hb:0<b)(h:T*b=W*B):nn T B=nn W b:=zDG hB hb (by rw[<- Int.natCast_mul,<- Int.natCast_mul,h])
def nn_co(a:Nat){b:Nat}(h:0<b):(tp a b).gcd (bt a b)=1:=by
 have hg:0<a.gcd b:=gcd_pos_of_pos_right _ h;rw[Nat.gcd_div (gcd_dvd_left _ _) (gcd_dvd_right _ _),div_self hg]
def lt_cr{a b c d:Nat}(hb:0<b)(hd:0<d):tp a b*bt c d<tp c d*bt a b↔a*d<c*b:=by
 have c1:=crn a b;have c2:=crn c d;have p1:=Y4 (a:=a) hb;have p2:=Y4 (a:=c) hd;generalize tp a b=x at *;generalize bt a b=y at *;generalize tp c d=u at *;generalize bt c d=v at *;have pp:0<b*d:=mul_pos hb hd;have pq:0<y*v:=mul_pos p1 p2;have e1:x*v*(b*d)=a*d*(y*v):=by rw[show x*v*(b*d)=(x*b)*(v*d)by grind,c1];grind
 have e2:u*y*(b*d)=c*b*(y*v):=by rw[show u*y*(b*d)=(u*d)*(y*b)by grind,c2];grind
 constructor
 ·intro h
  have:=Nat.mul_lt_mul_of_pos_right h pp;rw[e1,e2]at this;exact Nat.lt_of_mul_lt_mul_right this
 ·intro h
  have:=Nat.mul_lt_mul_of_pos_right h pq;rw[<- e1,<- e2]at this;exact Nat.lt_of_mul_lt_mul_right this
def le_cr{a b c d:Nat}(hb:0<b)(hd:0<d):tp a b*bt c d<=tp c d*bt a b↔a*d<=c*b:=by
 have:=lt_cr (a:=c) (b:=d) (c:=a) (d:=b) hd hb;omega
def Y5(t b:Nat)(h0:0<b)(hb:b<Big):zS [.v (.int (t:Nat)),.v (.int (b:Nat))]=.ok (.v (nn t b),O2):=zAI _ b h0 hb
def by_nn{a b c d T B:Nat}(hb:0<b)(hc:0<c)(hd:0<d)(hB:0<B)(l1:a<Big)(l2:d<Big)(l3:b*c<Big)(h:a*d*B=T*(b*c)):yp [.v (nn a b),.v (nn c d)]=.ok (.v (nn T B),O2):=by
 rw[W9 a b,W9 c d];have y1:=Y4 (a:=a) hb;have x2:=tp_pos (b:=d) hc;have m1:=jh (a:=tp a b) (b:=bt c d) (lt_of_le_of_lt (GP _ _) l1) (lt_of_le_of_lt (YI _ _) l2);have m2:=jh (a:=bt a b) (b:=tp c d) (lt_of_le_of_lt (YI _ _) (lt_of_le_of_lt (Nat.le_mul_of_pos_right b hc) l3)) (lt_of_le_of_lt (GP _ _) (lt_of_le_of_lt (Nat.le_mul_of_pos_left c hb) l3));have sh:=Y5 (tp a b*bt c d) (bt a b*tp c d) (mul_pos y1 x2) (lt_of_le_of_lt (mul_le_mul (YI _ _) (GP _ _)) l3);have en:nn (tp a b*bt c d) (bt a b*tp c d)=nn T B:=by
  refine zBe (mul_pos y1 x2) hB ?_;have c1:=crn a b;have c2:=crn c d;generalize tp a b=x at *;generalize bt a b=y at *;generalize tp c d=u at *;generalize bt c d=v at *;have pos:0<b*c:=mul_pos hb hc;apply Nat.eq_of_mul_eq_mul_right pos;have e1:x*v*B*(b*c)=(x*b)*(c*v)*B:=by grind
  rw[e1,c1,<- c2];have e2:a*y*(u*d)*B=(a*d*B)*(y*u):=by grind
  rw[e2,h];grind
 rw[en]at sh;exact yO (zi (yP (zP (F:=zS) rfl (zh (yj (zA rfl) x_c rfl) (yj (zA rfl) x_c rfl) m1) (zh (yj (zA rfl) x_c rfl) (yj (zA rfl) x_c rfl) m2) sh))) rfl
def zBB{a b c d T B:Nat}(hb:0<b)(hd:0<d)(hB:0<B)(l1:a<Big)(l2:c<Big)(l3:b*d<Big)(h:a*c*B=T*(b*d)):zo [.v (nn a b),.v (nn c d)]=.ok (.v (nn T B),O2):=by
 rw[W9 a b,W9 c d];have y1:=Y4 (a:=a) hb;have y2:=Y4 (a:=c) hd;have m1:=jh (a:=tp a b) (b:=tp c d) (lt_of_le_of_lt (GP _ _) l1) (lt_of_le_of_lt (GP _ _) l2);have m2:=jh (a:=bt a b) (b:=bt c d) (lt_of_le_of_lt (YI _ _) (lt_of_le_of_lt (Nat.le_mul_of_pos_right b hd) l3)) (lt_of_le_of_lt (YI _ _) (lt_of_le_of_lt (Nat.le_mul_of_pos_left d hb) l3));have sh:=Y5 (tp a b*tp c d) (bt a b*bt c d) (mul_pos y1 y2) (lt_of_le_of_lt (mul_le_mul (YI _ _) (YI _ _)) l3);have en:nn (tp a b*tp c d) (bt a b*bt c d)=nn T B:=by
  refine zBe (mul_pos y1 y2) hB ?_;have c1:=crn a b;have c2:=crn c d;generalize tp a b=x at *;generalize bt a b=y at *;generalize tp c d=u at *;generalize bt c d=v at *;have pos:0<b*d:=mul_pos hb hd;apply Nat.eq_of_mul_eq_mul_right pos;have e1:x*u*B*(b*d)=(x*b)*(u*d)*B:=by grind
  rw[e1,c1,c2];have e2:a*y*(c*v)*B=(a*c*B)*(y*v):=by grind
  rw[e2,h];grind
 rw[en]at sh;exact yO (zi (yP (zP (F:=zS) rfl (zh (yj (zA rfl) x_c rfl) (yj (zA rfl) x_c rfl) m1) (zh (yj (zA rfl) x_c rfl) (yj (zA rfl) x_c rfl) m2) sh))) rfl
def zDX{a b c d T B:Nat}(hb:0<b)(hd:0<d)(hB:0<B)(l1:a<Big)(l2:c<Big)(l3:b*d<Big)(h:(a*d+c*b)*B=T*(b*d)):yF [.v (nn a b),.v (nn c d)]=.ok (.v (nn T B),O2):=by
 rw[W9 a b,W9 c d];have y1:=Y4 (a:=a) hb;have y2:=Y4 (a:=c) hd;have b1:bt a b<Big:=lt_of_le_of_lt (YI _ _) (lt_of_le_of_lt (Nat.le_mul_of_pos_right b hd) l3);have b2:bt c d<Big:=lt_of_le_of_lt (YI _ _) (lt_of_le_of_lt (Nat.le_mul_of_pos_left d hb) l3);have m1:=jh (a:=tp a b) (b:=bt c d) (lt_of_le_of_lt (GP _ _) l1) b2;have m2:=jh (a:=tp c d) (b:=bt a b) (lt_of_le_of_lt (GP _ _) l2) b1;have m3:=jh (a:=bt a b) (b:=bt c d) b1 b2;have ad:=jA (tp a b*bt c d) (tp c d*bt a b);have sh:=Y5 (tp a b*bt c d+tp c d*bt a b) (bt a b*bt c d) (mul_pos y1 y2) (lt_of_le_of_lt (mul_le_mul (YI _ _) (YI _ _)) l3);have en:nn (tp a b*bt c d+tp c d*bt a b) (bt a b*bt c d)=nn T B:=by
  refine zBe (mul_pos y1 y2) hB ?_;have c1:=crn a b;have c2:=crn c d;generalize tp a b=x at *;generalize bt a b=y at *;generalize tp c d=u at *;generalize bt c d=v at *;have pos:0<b*d:=mul_pos hb hd;apply Nat.eq_of_mul_eq_mul_right pos;have e1:(x*v+u*y)*B*(b*d)=((x*b)*d*v+(u*d)*b*y)*B:=by grind
  rw[e1,c1,c2];have e2:(a*y*d*v+c*v*b*y)*B=((a*d+c*b)*B)*(y*v):=by grind
  rw[e2,h];grind
 rw[en]at sh;exact yO (zi (yP (zP (F:=zS) rfl (zh (zh (yj (zA rfl) x_c rfl) (yj (zA rfl) x_c rfl) m1) (zh (yj (zA rfl) x_c rfl) (yj (zA rfl) x_c rfl) m2) ad) (zh (yj (zA rfl) x_c rfl) (yj (zA rfl) x_c rfl) m3) sh))) rfl
def less_nn{a b:Nat}(hb:0<b)(l:b<Big)(h:a<=b):j5 [.v (.t [.int 1,.int 1]),.v (nn a b)]=.ok (.v (nn (b-a) b),O2):=by
 rw[W9 a b];have y1:=Y4 (a:=a) hb;have le:tp a b<=bt a b:=by
  have c:=crn a b;have:tp a b*b<=bt a b*b:=by rw[c,mul_comm];exact Nat.mul_le_mul_left _ h
  exact Nat.le_of_mul_le_mul_right this hb
 have m1:=QV 1 (bt a b) (by omega);have m2:=ZX (tp a b) 1 (by omega);have sb:subD (.int ((1*bt a b:Nat):Int)) (.int ((tp a b*1:Nat):Int))=some (.v (.int ((1*bt a b-tp a b*1:Nat):Int))):=sub_nn (by omega);have sh:=Y5 (1*bt a b-tp a b*1) (1*bt a b) (by omega) (by rw[Nat.one_mul];exact lt_of_le_of_lt (YI _ _) l);have en:nn (1*bt a b-tp a b*1) (1*bt a b)=nn (b-a) b:=by
  refine zBe (by omega) hb ?_;have c:=crn a b;rw[Nat.one_mul,Nat.mul_one,Nat.sub_mul,Nat.sub_mul,c,mul_comm (bt a b)]
 rw[en]at sh;exact yO (zi (yP (zP (F:=zS) rfl (zh (zh (yj (zA rfl) x_c rfl) (yj (zA rfl) x_c rfl) m1) (zh (yj (zA rfl) x_c rfl) (yj (zA rfl) x_c rfl) m2) sb) (zh (yj (zA rfl) x_c rfl) (yj (zA rfl) x_c rfl) m1) sh))) rfl
def good_nn(a:Nat){b:Nat}(hb:0<b)(lb:b<Big):j0 [.v (nn a b)]=.ok (.v (.bl true),O1):=by
 rw[W9 a b];have g:=zGK ((tp a b:Nat):Int) (bt a b) (lt_of_le_of_lt (YI _ _) lb);rw[Int.natAbs_natCast,nn_co a hb]at g;have gt:=gt_nat (bt a b) 0;rw[decide_eq_true (Y4 hb)]at gt;exact yO (zG (yw (zBX (jN (t_E (x_is (zA rfl) rfl rfl)) rfl) (t_E (yl (Jb (zB (zA rfl) zN) rfl) x_c rfl))) yx) (zG (zAB (zA rfl) rfl) (zG (yw (zBX (jN (t_E (zd (F:=jk) rfl (zA rfl) (ZU _ rfl))) rfl) (jN (t_E (zd (F:=jk) rfl (zA rfl) (ZU _ rfl))) rfl)) yx) (zi (yP (zGC (yl (zA rfl) x_c gt) (yl (zP (F:=zf) rfl (zA rfl) (zA rfl) g) x_c rfl))))))) rfl
abbrev St:=Option (Nat×Nat)
def ln(q:St)(t:Nat):Nat:=match q with
 |some (u,j)=>if u=t then j+1 else 1|none=>1
def nx(s o:Nat)(q:St)(t:Nat):St:=if t=s\/t=o then some (t,ln q t)else none
abbrev En(s k o l:Nat)(q:St):Prop:=q=some (s,k)\/q=some (o,l)
def go(s k o l:Nat)(q:St)(t:Nat):St:=if En s k o l q then q else nx s o q t
def st(s k o l:Nat)(r:List Nat):St:=r.foldl (go s k o l) none
def A(die:List Nat)(s k o l n:Nat)(x:St):Nat:=((w4 die.length n).map λr=>if st s k o l r=x then wt die r else 0).sum
def RR(die:List Nat)(s k o l n:Nat):Nat:=((w4 die.length n).map λr=>if En s k o l (st s k o l r)then 0 else wt die r).sum
def ru(t n:Nat):List St:=(List.range n).map λj=>some (t,j+1)
def L0(s k o l:Nat):List St:=none::(ru s (k-1)++ru o (l-1))
def JW{t n:Nat}{q:St}:q∈ru t n↔∃j,1<=j/\j<=n/\q=some (t,j):=by
 simp only[ru,mem_map,mem_range];constructor
 ·rintro ⟨j,h,rfl⟩;exact⟨j+1,by omega,by omega,rfl⟩
 ·rintro ⟨j,h1,h2,rfl⟩;exact⟨j-1,by omega,by rw[show j-1+1=j by omega]⟩
def ru_nd(t n:Nat):(ru t n).Nodup:=by
 refine List.Pairwise.map _ (λa b h e=>h ?_) (List.nodup_range (n:=n));simp at e;exact e
theorem vA(f g:List Nat->Nat):∀l:List (List Nat),(l.map f).sum+(l.map g).sum=(l.map λx=>f x+g x).sum
 | []=>rfl|a::l=>by simp only[map_cons,sum_cons,<- vA f g l];omega
theorem Y6{α:Type}(c:Nat)(f:α->Nat):∀l:List α,(l.map λx=>c*f x).sum=c*(l.map f).sum
 | []=>rfl|a::l=>by simp only[map_cons,sum_cons,Y6 c f l,mul_add]
theorem sumL(R:List (List Nat))(w:List Nat->Nat)(f:List Nat->St)(c:St->Nat):∀L:List St,L.Nodup->(L.map λy=>(R.map λr=>if f r=y then w r else 0).sum*c y).sum=(R.map λr=>if f r∈L then w r*c (f r)else 0).sum
 | [],_=>by
  have:(R.map λr=>if f r∈([]:List St)then w r*c (f r)else 0)=R.map λ_=>0:=map_congr_left λr _=>by simp
  rw[this];have z:∀R:List (List Nat),(R.map λ_=>0).sum=0:=λR=>by induction R with|nil=>rfl|cons a R ih=>simpa using ih
  rw[z];rfl
 |y::L,h=>by
  have hy:=(nodup_cons.mp h).1;rw[map_cons,sum_cons,sumL R w f c L (nodup_cons.mp h).2,<- wR (c y),vA];congr 1;refine map_congr_left λr _=>?_
  by_cases e:f r=y
  ·have:¬f r∈L:=by rw[e];exact hy
   rw[if_pos e,if_neg this,if_pos (by rw[e];exact qE),e,add_zero]
  ·rw[if_neg e,zero_mul,zero_add]
   have:f r∈y::L↔f r∈L:=by simp[e]
   simp only[this]
section
variable{die:List Nat}{s k o l:Nat}
def ccT(die:List Nat)(s o t:Nat)(x y:St):Nat:=((List.range t).map λt=>if nx s o y t=x then die.getD t 0 else 0).sum
def zFH(x y:St):ccT die s o 0 x y=0:=rfl
def zFI(t:Nat)(x y:St):ccT die s o (t+1) x y=ccT die s o t x y+if nx s o y t=x then die.getD t 0 else 0:=by
 unfold ccT;rw[rsum]
def zFJ(h:Mt die s k o l):(L0 s k o l).Nodup:=by
 refine nodup_cons.mpr ⟨?_,nodup_append.mpr ⟨ru_nd _ _,ru_nd _ _,?_⟩⟩
 ·intro m
  rcases mem_append.mp m with m|m<;>(obtain⟨j,_,_,e⟩:=JW.mp m;cases e)
 ·intro a ha b hb e
  obtain⟨j,_,_,e1⟩:=JW.mp ha;obtain⟨i,_,_,e2⟩:=JW.mp hb;subst e1 e2;cases e;exact h.ne rfl
def GQ(h:Mt die s k o l){q:St}(hq:q∈L0 s k o l):¬En s k o l q:=by
 rcases mem_cons.mp hq with rfl|hq
 ·intro z;rcases z with z|z<;>cases z
 ·have:=h.hk;have:=h.hl
  rcases mem_append.mp hq with m|m<;>(obtain⟨j,h1,h2,rfl⟩:=JW.mp m;intro z;rcases z with z|z<;>cases z)
  ·omega
  ·exact h.ne rfl
  ·exact h.ne rfl
  ·omega
def zFK(h:Mt die s k o l){q:St}(hq:q∈L0 s k o l)(t:Nat):nx s o q t∈L0 s k o l\/En s k o l (nx s o q t):=by
 have hk:=h.hk;have hl:=h.hl;unfold nx;by_cases c:t=s\/t=o
 ·rw[if_pos c]
  have b:1<=ln q t/\(t=s->ln q t<=k)/\(t=o->ln q t<=l):=by
   rcases mem_cons.mp hq with rfl|hq
   ·exact⟨le_refl _,λ_=>hk.1,λ_=>hl.1⟩
   ·rcases mem_append.mp hq with m|m<;>(obtain⟨j,h1,h2,rfl⟩:=JW.mp m;unfold ln;simp only;split)
    all_goals first
     | (rename_i e;subst e;exact⟨by omega,λ_=>by omega,λe=>absurd e h.ne⟩)| (rename_i e;subst e;exact⟨by omega,λe=>absurd e.symm h.ne,λ_=>by omega⟩)|exact⟨by omega,λ_=>by omega,λ_=>by omega⟩
  rcases c with rfl|rfl
  ·by_cases e:ln q t=k
   ·exact .inr (.inl (by rw[e]))
   ·have:=b.2.1 rfl
    exact .inl (qD _ (mem_append_left _ (JW.mpr ⟨_,b.1,by omega,rfl⟩)))
  ·by_cases e:ln q t=l
   ·exact .inr (.inr (by rw[e]))
   ·have:=b.2.2 rfl
    exact .inl (qD _ (qK _ (JW.mpr ⟨_,b.1,by omega,rfl⟩)))
 ·rw[if_neg c];exact .inl qE
def zGL(r:List Nat)(t:Nat):st s k o l (r++[t])=go s k o l (st s k o l r) t:=by simp[st]
def go_in(h:Mt die s k o l){q:St}(hq:q∈L0 s k o l\/En s k o l q)(t:Nat):go s k o l q t∈L0 s k o l\/En s k o l (go s k o l q t):=by
 unfold go;by_cases e:En s k o l q
 ·rw[if_pos e];exact .inr e
 ·rw[if_neg e]
  rcases hq with hq|hq
  ·exact zFK h hq t
  ·exact absurd hq e
def st_in(h:Mt die s k o l)(r:List Nat):st s k o l r∈L0 s k o l\/En s k o l (st s k o l r):=by
 have gen:∀(r:List Nat) (q:St),(q∈L0 s k o l\/En s k o l q)->r.foldl (go s k o l) q∈L0 s k o l\/En s k o l (r.foldl (go s k o l) q):=by
  intro r
  induction r with
  |nil=>exact λq h=>h|cons t r ih=>exact λq hq=>ih _ (go_in h hq t)
 exact gen r none (.inl qE)
def Aw_succ(n:Nat)(x:St):A die s k o l (n+1) x=((w4 die.length n).map λr=>((List.range die.length).map λt=>if go s k o l (st s k o l r) t=x then wt die r*die.getD t 0 else 0).sum).sum:=by
 show(((w4 die.length n).flatMap λr=>(List.range die.length).map λx=>r++[x]).map λr=>if st s k o l r=x then wt die r else 0).sum=_
 rw[WH];congr 1;refine map_congr_left λr _=>?_
 rw[map_map];congr 1;refine map_congr_left λt _=>?_
 simp only[Function.comp,zGL];rw[show wt die (r++[t])=wt die r*die.getD t 0 by simp[wt]]
structure Cov(die:List Nat)(s k o l n:Nat)(L:List St):Prop where
 nd:L.Nodup
 live:∀y∈L,y∈L0 s k o l
 all:∀r∈w4 die.length n,¬En s k o l (st s k o l r)->st s k o l r∈L
def step(h:Mt die s k o l){n:Nat}{L:List St}(c:Cov die s k o l n L)(x:St):A die s k o l (n+1) x=(if En s k o l x then A die s k o l n x*die.sum else 0)+(L.map λy=>A die s k o l n y*ccT die s o die.length x y).sum:=by
 rw[Aw_succ];unfold A;rw[sumL _ _ _ _ L c.nd];have e1:(if En s k o l x then((w4 die.length n).map λr=>if st s k o l r=x then wt die r else 0).sum*die.sum else 0)=((w4 die.length n).map λr=>if En s k o l x then(if st s k o l r=x then wt die r else 0)*die.sum else 0).sum:=by
  by_cases e:En s k o l x
  ·simp only[if_pos e];rw[wR]
  ·simp only[if_neg e]
   generalize w4 die.length n=R
   induction R with|nil=>rfl|cons a R ih=>simpa using ih
 rw[e1,vA];congr 1;refine map_congr_left λr hr=>?_
 by_cases e:En s k o l (st s k o l r)
 ·have n1:¬st s k o l r∈L:=λm=>GQ h (c.live _ m) e
  rw[if_neg n1,add_zero];simp only[go,if_pos e];by_cases ex:st s k o l r=x
  ·simp only[if_pos ex,if_pos (show En s k o l x from ex▸e)]
   rw[Y6,wk h.d]
  ·simp only[if_neg ex,zero_mul]
   have z:∀m,((List.range m).map λ_=>0).sum=0:=λm=>by induction (List.range m)with|nil=>rfl|cons a R ih=>simpa using ih
   rw[z];split<;>rfl
 ·have n1:st s k o l r∈L:=c.all r hr e
  rw[if_pos n1];simp only[go,if_neg e];have z:(if En s k o l x then(if st s k o l r=x then wt die r else 0)*die.sum else 0)=0:=by
   by_cases ex:En s k o l x
   ·have:¬st s k o l r=x:=λq=>e (q▸ex)
    rw[if_pos ex,if_neg this,zero_mul]
   ·rw[if_neg ex]
  rw[z,zero_add,ccT,<- Y6];congr 1;refine map_congr_left λt _=>?_
  split<;>simp
def Y9(h:Mt die s k o l){n:Nat}{L:List St}(c:Cov die s k o l n L):(L.map (A die s k o l n)).sum=RR die s k o l n:=by
 have e:=sumL (w4 die.length n) (wt die) (st s k o l) (λ_=>1) L c.nd;simp only[Nat.mul_one]at e;show(L.map λy=>A die s k o l n y).sum=_;unfold A RR;rw[e];congr 1;refine map_congr_left λr hr=>?_
 by_cases e:En s k o l (st s k o l r)
 ·rw[if_pos e,if_neg λm=>GQ h (c.live _ m) e]
 ·rw[if_neg e,if_pos (c.all r hr e)]
def cov0(h:Mt die s k o l)(n:Nat):Cov die s k o l n (L0 s k o l):=⟨zFJ h,λ_ m=>m,λr _ e=>(st_in h r).resolve_right e⟩
def zDY(h:Mt die s k o l)(n:Nat)(x:St):A die s k o l n x<=die.sum^n:=by
 rw[<- zE8 h.d n];unfold A;generalize w4 die.length n=R
 induction R with
 |nil=>exact le_refl _
 |cons a R ih=>simp only[map_cons,sum_cons];split<;>omega
def RR_le(h:Mt die s k o l)(n:Nat):RR die s k o l n<=die.sum^n:=by
 rw[<- zE8 h.d n];unfold RR;generalize w4 die.length n=R
 induction R with
 |nil=>exact le_refl _
 |cons a R ih=>simp only[map_cons,sum_cons];split<;>omega
def A_zero(x:St):A die s k o l 0 x=if x=none then 1 else 0:=by
 have:A die s k o l 0 x=(if(none:St)=x then 1 else 0)+0:=rfl;rw[this];by_cases e:x=none
 ·subst e;rfl
 ·rw[if_neg e,if_neg λz=>e z.symm]
def three(h:Mt die s k o l)(n:Nat):A die s k o l n (some (s,k))+A die s k o l n (some (o,l))+RR die s k o l n=die.sum^n:=by
 rw[<- zE8 h.d n];unfold A RR;rw[vA,vA];congr 1;refine map_congr_left λr _=>?_
 have hn:¬(some (s,k):St)=some (o,l):=λe=>by cases e;exact h.ne rfl
 by_cases e1:st s k o l r=some (s,k)
 ·have e2:¬st s k o l r=some (o,l):=λe=>hn (e1.symm.trans e)
  rw[if_pos e1,if_neg e2,if_pos (.inl e1)];omega
 ·by_cases e2:st s k o l r=some (o,l)
  ·rw[if_neg e1,if_pos e2,if_pos (.inr e2)];omega
  ·rw[if_neg e1,if_neg e2,if_neg λz=>z.elim e1 e2];omega
end
def kS:St->D
 |none=>.t [.non,.int 0]|some (t,j)=>.t [.int (t:Nat),.int (j:Nat)]
def kK:St->List KN
 |none=>[none,some 0]|some (t,j)=>[some (t:Int),some (j:Int)]
def j8(q:St):G4 (kS q)=some (kK q):=by
 match q with
 |none=>rfl|some (t,j)=>rfl
def zDZ{p q:St}(h:kK p=kK q):p=q:=by
 match p,q with
 |none,none=>rfl|none,some (t,j)=>simp[kK]at h|some (t,j),none=>simp[kK]at h|some (t,j),some (u,i)=>simp[kK]at h;rw[show t=u by omega,show j=i by omega]
theorem wx(v:St->D){q:St}:∀{L:List St},q∈L->WC (L.map kK) (L.map v) (kK q)=some (v q)
 | [],h=>by cases h
 |p::L,h=>by
  simp only[map_cons,WC];by_cases e:p=q
  ·subst e;rw[if_pos rfl]
  ·rw[if_neg λz=>e (zDZ z)]
   exact wx v ((mem_cons.mp h).resolve_left λz=>e z.symm)
def gV_not(v:St->D){q:St}{L:List St}(h:q∉L):WC (L.map kK) (L.map v) (kK q)=none :=
 zDM λm=>by
  obtain⟨p,hp,e⟩:=mem_map.mp m;rw[zDZ e]at hp;exact h hp
theorem zGM(v:St->D)(q:St)(d:D):∀L:List St,setV (L.map kK) (L.map v) (kK q) d=L.map λx=>if x=q then d else v x
 | []=>rfl
 |p::L=>by
  simp only[map_cons,setV,zGM v q d L];by_cases e:p=q
  ·rw[if_pos (congrArg kK e),if_pos e]
  ·rw[if_neg λz=>e (zDZ z),if_neg e]
def zBf(L:List St)(q:St):List St:=if q∈L then L else L++[q]
def vC(v:St->D)(q:St)(d:D)(L:List St):GS (L.map kK) (L.map v) (kK q) d=((zBf L q).map kK,(zBf L q).map λx=>if x=q then d else v x):=by
 unfold GS zBf;by_cases h:q∈L
 ·rw[wx v h,if_pos h,zGM]
 ·rw[gV_not v h,if_neg h]
  simp only[map_append,map_cons,map_nil,if_true];have:(L.map λx=>if x=q then d else v x)=L.map v:=map_congr_left λx hx=>if_neg λ(e:x=q)=>h (by rw[<- e];exact hx)
  rw[this]
def zDa{L:List St}{q:St}(h:q∈L):zBf L q=L:=if_pos h
def WL{L:List St}{q:St}(h:q∉L):zBf L q=L++[q]:=if_neg h
def zDb{L:List St}{q:St}(h:L.Nodup):(zBf L q).Nodup:=by
 unfold zBf;by_cases m:q∈L
 ·rw[if_pos m];exact h
 ·rw[if_neg m]
  refine nodup_append.mpr ⟨h,by simp,λa ha b hb e=>?_⟩;rw[mem_singleton]at hb;subst hb e;exact m ha
def QY{fs:List FI}{E E1:zM}{xs ys:List Str}{it:_}{L:List St}(nd:L.Nodup)(hl:L.length<=1000)(hi:dI fs it E=.ok (L.map kS,E1)):dE fs (.dcomp 1 xs ys [] it (.n 0) .tTr (.var 0) (.c (.int 0))) E=.ok (.dct (L.map kK) (L.map λ_=>.int 0),E1):=by
 obtain⟨Eb,acc,q1,⟨q2,_⟩⟩:=QT (tg:=gN 0) (tt:=dT fs .tTr) (ma:=maD (dE fs (.var 0)) (dE fs (.c (.int 0)))) (λi E acc=>acc=((L.take i).map kK,(L.take i).map λ_=>D.int 0)/\∃s,E=[s]/\jS s=true) (L.map kS) 0 [.e] ([],[]) ⟨rfl,_,rfl,rfl⟩
  (λi d e E acc ⟨ha,s,hE,hs⟩=>by
   rw[zero_add]at ha ⊢;obtain⟨q,eq,rfl⟩:∃q,L[i]?=some q/\d=kS q:=by
    rw[getElem?_map,Option.map_eq_some_iff]at e;obtain⟨q,e1,e2⟩:=e;exact⟨q,e1,e2.symm⟩
   have hi:i<L.length:=(qG.mp eq).1;have et:L.take (i+1)=L.take i++[q]:=by rw[take_add_one,eq];rfl
   have nq:q∉L.take i:=by
    have:=nd;rw[<- List.take_append_drop (i+1) L,et]at this;have:=(nodup_append.mp this).1;intro m;exact(nodup_append.mp this).2.2 q m q (by simp) rfl
   refine⟨[.v (kS q)],[.v (kS q)],[.v (kS q)],_,?_,rfl,?_,⟨rfl,_,rfl,rfl⟩⟩
   ·subst hE;cases s<;>first|rfl|(cases hs)
   ·subst ha
    have k:=vC (λ_=>D.int 0) q (.int 0) (L.take i);rw[WL nq,<- et]at k;have k2:((L.take (i+1)).map λx=>if x=q then D.int 0 else D.int 0)=(L.take (i+1)).map λ_=>D.int 0:=map_congr_left λx _=>by split<;>rfl
    rw[k2]at k;have x1:dE fs (.var 0) [.v (kS q)]=.ok (.v (kS q),[.v (kS q)]):=zA rfl;have x2:dE fs (.c (.int 0)) [.v (kS q)]=.ok (.v (.int 0),[.v (kS q)]):=x_c;have hl2:((L.take i).map kK).length<1000000:=by simp;omega
    simp only[maD,x1,x2,R.d,j8,if_pos hl2,k])
 rw[length_map,zero_add,take_length]at q2;subst q2;exact zFA (tg:=.n 0) (tt:=.tTr) (ka:=.var 0) (va:=.c (.int 0)) hi q1
abbrev O5:List DV.Slot:=[.e,.e,.e]
def nin_two(t s o:Nat):Cp.f .nin (.int (t:Nat)) (.t [.int (s:Nat),.int (o:Nat)])=some (.v (.bl (!decide (t=s\/t=o)))):=by
 by_cases h2:t=s
 ·subst h2
  have b2:eqV (.int (t:Nat)) (.int ((t:Nat):Int))=true:=by simp[eqV]
  simp[Cp.f,inG,inF,flat,flV,inV,b2]
 ·by_cases h3:t=o
  ·subst h3
   have b2:eqV (.int (t:Nat)) (.int ((t:Nat):Int))=true:=by simp[eqV]
   simp[Cp.f,inG,inF,flat,flV,inV,b2]
  ·have b2:eqV (.int (s:Nat)) (.int ((t:Nat):Int))=false:=by simp[eqV];omega
   have b3:eqV (.int (o:Nat)) (.int ((t:Nat):Int))=false:=by simp[eqV];omega
   simp[Cp.f,inG,inF,flat,flV,inV,b2,b3,h2,h3]
def fst':St->D
 |none=>.non|some (t,_)=>.int (t:Nat)
def snd':St->Nat
 |none=>0|some (_,j)=>j
def kS_0(q:St):ixD (kS q) (.int 0)=some (.v (fst' q)):=by cases q<;>rfl
def kS_1(q:St):ixD (kS q) (.int 1)=some (.v (.int (snd' q:Nat))):=by cases q<;>rfl
def isT(q:St)(t:Nat):Bool:=match q with
 |none=>false|some (u,_)=>decide (u=t)
def eq_fst(q:St)(t:Nat):eqG (.int (t:Nat)) (fst' q)=some (.v (.bl (isT q t))):=by
 match q with
 |none=>rfl
 |some (u,j) =>
  show eqG (.int (t:Nat)) (.int (u:Nat))=some (.v (.bl (decide (u=t))))
  rw[eq_nat];by_cases e:t=u
  ·subst e;rfl
  ·rw[decide_eq_false e,decide_eq_false λz=>e z.symm]
def ln_T(q:St)(t:Nat):ln q t=if isT q t then snd' q+1 else 1:=by
 match q with
 |none=>rfl|some (u,j)=>simp[ln,isT,snd']
section
variable{die:List Nat}{s k o l:Nat}
def J2(q:St)(t:Nat):yZ [.v (ZW die s k o l),.v (kS q),.v (.int (t:Nat))]=.ok (.v (kS (nx s o q t)),O5):=by
 have s1:dS JO (.sTup [3,4,5,6,7] (.var 0)) [.v (ZW die s k o l),.v (kS q),.v (.int (t:Nat)),.e,.e,.e,.e,.e]=.ok (.nx,[.v (ZW die s k o l),.v (kS q),.v (.int (t:Nat)),.v (ZB die),.v (.int (s:Nat)),.v (.int (k:Nat)),.v (.int (o:Nat)),.v (.int (l:Nat))]):=rfl;have t1:=nin_two t s o;by_cases c:t=s\/t=o
 ·rw[decide_eq_true c]at t1
  have e:nx s o q t=some (t,ln q t):=if_pos c;rw[e,ln_T];have x1:=eq_fst q t;cases b:isT q t with
  |true =>
   rw[b]at x1;exact yO (zG s1 (zG (yw (t_E (yl (zA rfl) (jg (zB (zA rfl) (zB (zA rfl) zN)) rfl yJ) t1)) yx) (zi (yP (x_ifx1 (t_E (yl (zA rfl) (yj (zA rfl) x_c (kS_0 q)) x1)) (jg (zB (zA rfl) (zB (zh (yj (zA rfl) x_c (kS_1 q)) x_c (jA _ 1)) zN)) rfl yJ)))))) rfl
  |false =>
   rw[b]at x1;exact yO (zG s1 (zG (yw (t_E (yl (zA rfl) (jg (zB (zA rfl) (zB (zA rfl) zN)) rfl yJ) t1)) yx) (zi (yP (x_ifx0 (t_E (yl (zA rfl) (yj (zA rfl) x_c (kS_0 q)) x1)) (jg (zB (zA rfl) (zB x_c zN)) rfl yJ)))))) rfl
 ·rw[decide_eq_false c]at t1
  have e:nx s o q t=none:=if_neg c;rw[e];exact yO (zG s1 (zBZ (zBY (t_E (yl (zA rfl) (jg (zB (zA rfl) (zB (zA rfl) zN)) rfl yJ) t1)) (zi (yP GA))))) rfl
end
section
variable{die:List Nat}{s k o l:Nat}
def KS(s k o l:Nat):List St:=L0 s k o l++[some (s,k)]++[some (o,l)]
def ints_ru(t n:Nat):∀j:Nat,(DV.zJ ((j+1:Nat):Int) n).map (λd=>D.t [.int (t:Nat),d])=((range' j n).map λi=>(some (t,i+1):St)).map kS:=by
 induction n with
 |zero=>intro j;rfl
 |succ n ih =>
  intro j;have:=ih (j+1);simp only[DV.zJ,map_cons,List.range'_succ];rw[<- this];rfl
def SL_eq:SL s k o l=(L0 s k o l).map kS:=by
 have e:∀t n,SP t n=(ru t n).map kS:=λt n=>by
  have:=ints_ru t n 0;rw[<- List.range_eq_range']at this;exact this
 simp only[SL,L0,e,map_cons,map_append,List.singleton_append,List.cons_append];rfl
def QZ(h:Mt die s k o l):(L0 s k o l).length<=11:=by
 have:=h.hk;have:=h.hl;simp[L0,ru];omega
def vD{x:St}:x∈KS s k o l↔x∈L0 s k o l\/En s k o l x:=by
 simp[KS,or_assoc]
def E_ne(h:Mt die s k o l):¬(some (o,l):St)=some (s,k):=λe=>by cases e;exact h.ne rfl
def add1(h:Mt die s k o l):zBf (L0 s k o l) (some (s,k))=L0 s k o l++[some (s,k)]:=WL λm=>GQ h m (.inl rfl)
def add2(h:Mt die s k o l):zBf (L0 s k o l++[some (s,k)]) (some (o,l))=KS s k o l:=WL λm=>by
 rcases mem_append.mp m with m|m
 ·exact GQ h m (.inr rfl)
 ·exact E_ne h (mem_singleton.mp m)
def KS_nd(h:Mt die s k o l):(KS s k o l).Nodup:=by rw[<- add2 h,<- add1 h];exact zDb (zDb (zFJ h))
def zDc(h:Mt die s k o l):(KS s k o l).length<=13:=by
 have:=QZ h;simp[KS];omega
abbrev dS'(L:List St)(f:St->Nat):DV.Slot:=.dct (L.map kK) (L.map λx=>.int (f x:Nat))
def kl{L:List St}(h:L.length<=1000):(L.map kK).length<1000000:=by rw[length_map];omega
abbrev frS(die:List Nat)(s k o l n:Nat)(e s11 s12 s13 s14 s15 s16:DV.Slot):zM:=[.v (ZW die s k o l),.v (.int (n:Nat)),.v (ZB die),.v (.int (s:Nat)),.v (.int (k:Nat)),.v (.int (o:Nat)),.v (.int (l:Nat)),.v (.l ((L0 s k o l).map kS)),.v (kS (some (s,k))),.v (kS (some (o,l))),e,s11,s12,s13,s14,s15,s16]
def zFL(L:List St)(f:St->Nat)(q:St)(m:Nat):GS (L.map kK) (L.map λx=>.int (f x:Nat)) (kK q) (.int (m:Nat))=((zBf L q).map kK,(zBf L q).map λx=>.int ((if x=q then m else f x:Nat):Int)):=by
 rw[vC];have:((zBf L q).map λx=>if x=q then D.int (m:Nat)else D.int (f x:Nat))=(zBf L q).map λx=>.int ((if x=q then m else f x:Nat):Int):=map_congr_left λx _=>by split<;>rfl
 rw[this]
def one_add(h:Mt die s k o l){n:Nat}(f g:St->Nat){y:St}(hy:y∈L0 s k o l)(t w:Nat)(hw:w<=9)(s11 s16:DV.Slot) :
  dB zY wd (frS die s k o l n (dS' (KS s k o l) f) s11 (dS' (KS s k o l) g) (.v (kS y)) (.v (.int (t:Nat))) (.v (.int (w:Nat))) s16)=.ok (.nx,frS die s k o l n (dS' (KS s k o l) f) s11 (dS' (KS s k o l) λx=>g x+f y*(if nx s o y t=x then w else 0)) (.v (kS y)) (.v (.int (t:Nat))) (.v (.int (w:Nat))) s16):=by
 have hin:nx s o y t∈KS s k o l:=vD.mpr (zFK h hy t);have hyk:y∈KS s k o l:=vD.mpr (.inl hy);have g1:=wx (λx=>.int (g x:Nat)) hin;have g2:=wx (λx=>.int (f x:Nat)) hyk;have m1:=QV w (f y) (by omega);have p:=zFL (KS s k o l) g (nx s o y t) (g (nx s o y t)+w*f y);rw[zDa hin]at p;have e:((KS s k o l).map λx=>D.int ((if x=nx s o y t then g (nx s o y t)+w*f y else g x:Nat):Int))=(KS s k o l).map λx=>D.int ((g x+f y*(if nx s o y t=x then w else 0):Nat):Int):=map_congr_left λx _=>by
  by_cases c:x=nx s o y t
  ·rw[if_pos c,if_pos c.symm,c,mul_comm]
  ·rw[if_neg c,if_neg λz=>c z.symm,mul_zero,add_zero]
 rw[e]at p;have ci:((g (nx s o y t):Int)+((w*f y:Nat):Int))=((g (nx s o y t)+w*f y:Nat):Int):=by omega
 rw[<- ci]at p;exact zi (s_daug (q:=kK (nx s o y t)) (x:=g (nx s o y t)) (y:=((w*f y:Nat):Int)) rfl (yo (F:=yZ) rfl (zA rfl) (zA rfl) (zA rfl) (J2 y t)) (j8 _) g1 (zh (zA rfl) (QS (q:=kK y) rfl (.inl rfl) (zA rfl) (j8 y) g2) m1) (kl (le_trans (zDc h) (by decide))) p rfl)
theorem zDd:∀(l:List Nat) (n i:Nat) {d:D},(G2 n (N l))[i]?=some d->∃x,l[i]?=some x/\d=.t [.int ((n+i:Nat):Int),.int (x:Nat)]
 | [],_,_,_,h=>by simp[N,G2]at h|e::l,n,0,d,h=>by simp[N,G2]at h;exact⟨e,rfl,h.symm⟩
 |e::l,n,i+1,d,h=>by
  have h':(G2 (n+1) (N l))[i]?=some d:=by simpa[N,G2]using h
  obtain⟨x,h1,h2⟩:=zDd l (n+1) i h';exact⟨x,by simpa using h1,by rw[h2,show n+1+i=n+(i+1)by omega]⟩
theorem zDe:∀(l:List D) (n:Nat),(G2 n l).length=l.length
 | [],_=>rfl|_::l,n=>by simp[G2,zDe l]
def zDf(h:Mt die s k o l){n:Nat}(f g:St->Nat){y:St}(hy:y∈L0 s k o l)(s11 s14 s15 s16:DV.Slot)(h14:jS s14=true)(h15:jS s15=true) :
  ∃t14 t15,jS t14=true/\jS t15=true/\dB zY jc (frS die s k o l n (dS' (KS s k o l) f) s11 (dS' (KS s k o l) g) (.v (kS y)) s14 s15 s16)=.ok (.nx,frS die s k o l n (dS' (KS s k o l) f) s11 (dS' (KS s k o l) λx=>g x+f y*ccT die s o die.length x y) (.v (kS y)) t14 t15 s16):=by
 obtain⟨E',f1,t14,t15,hE,q14,q15⟩:=jG (tg:=gT [14,15]) (body:=dB zY wd) (λi E=>∃t14 t15,E=frS die s k o l n (dS' (KS s k o l) f) s11 (dS' (KS s k o l) λx=>g x+f y*ccT die s o i x y) (.v (kS y)) t14 t15 s16/\jS t14=true/\jS t15=true) (G2 0 (N die)) 0 (frS die s k o l n (dS' (KS s k o l) f) s11 (dS' (KS s k o l) g) (.v (kS y)) s14 s15 s16) ⟨s14,s15,by simp only[zFH,mul_zero,add_zero],h14,h15⟩
  (λi d q E ⟨t14,t15,hE,q14,q15⟩=>by
   rw[zero_add]at hE ⊢;obtain⟨w,hw,rfl⟩:=zDd die 0 i q;rw[zero_add];have b:=one_add h (n:=n) f (λx=>g x+f y*ccT die s o i x y) hy i w ((h.d.2 w (mem_of_getElem? hw)).2) s11 s16;have ew:die.getD i 0=w:=by rw[getD_eq_getElem?_getD,hw];rfl
   have e:(λx=>g x+f y*ccT die s o i x y+f y*(if nx s o y i=x then w else 0))=λx=>g x+f y*ccT die s o (i+1) x y:=by
    funext x
    rw[zFI,ew,mul_add,Nat.add_assoc]
   rw[e]at b;refine⟨_,_,?_,b,_,_,rfl,rfl,rfl⟩;subst hE;cases t14<;>first|(cases q14;done)|(cases t15<;>first|rfl|(cases q15)))
 rw[zDe,GC,zero_add]at hE;subst hE;exact⟨t14,t15,q14,q15,zi (s_forI (tg:=.t [14,15]) (i_E (zB (zA rfl) zN) rfl) f1)⟩
def zBg(h:Mt die s k o l){n:Nat}(f g:St->Nat)(s11 s13 s14 s15 s16:DV.Slot)(h13:jS s13=true)(h14:jS s14=true)(h15:jS s15=true) :
  ∃t13 t14 t15,jS t13=true/\jS t14=true/\jS t15=true/\DV.vq (gN 13) (dB zY jc) ((L0 s k o l).map kS) (frS die s k o l n (dS' (KS s k o l) f) s11 (dS' (KS s k o l) g) s13 s14 s15 s16)=.ok (.nx,frS die s k o l n (dS' (KS s k o l) f) s11 (dS' (KS s k o l) λx=>g x+((L0 s k o l).map λy=>f y*ccT die s o die.length x y).sum) t13 t14 t15 s16):=by
 obtain⟨E',f1,t13,t14,t15,hE,q13,q14,q15⟩:=jG (tg:=gN 13) (body:=dB zY jc) (λi E=>∃t13 t14 t15,E=frS die s k o l n (dS' (KS s k o l) f) s11 (dS' (KS s k o l) λx=>g x+(((L0 s k o l).take i).map λy=>f y*ccT die s o die.length x y).sum) t13 t14 t15 s16/\jS t13=true/\jS t14=true/\jS t15=true) ((L0 s k o l).map kS) 0 (frS die s k o l n (dS' (KS s k o l) f) s11 (dS' (KS s k o l) g) s13 s14 s15 s16) ⟨s13,s14,s15,by simp only[List.take_zero,map_nil,List.sum_nil,add_zero],h13,h14,h15⟩
  (λi d q E ⟨t13,t14,t15,hE,q13,q14,q15⟩=>by
   rw[zero_add]at hE ⊢;obtain⟨y,ey,rfl⟩:∃y,(L0 s k o l)[i]?=some y/\d=kS y:=by
    rw[getElem?_map,Option.map_eq_some_iff]at q;obtain⟨y,e1,e2⟩:=q;exact⟨y,e1,e2.symm⟩
   have et:(L0 s k o l).take (i+1)=(L0 s k o l).take i++[y]:=by rw[take_add_one,ey];rfl
   obtain⟨u14,u15,p14,p15,b⟩:=zDf h (n:=n) f (λx=>g x+(((L0 s k o l).take i).map λy=>f y*ccT die s o die.length x y).sum) (mem_of_getElem? ey) s11 t14 t15 s16 q14 q15;have e:(λx=>g x+(((L0 s k o l).take i).map λy=>f y*ccT die s o die.length x y).sum+f y*ccT die s o die.length x y)=λx=>g x+(((L0 s k o l).take (i+1)).map λy=>f y*ccT die s o die.length x y).sum:=by
    funext x
    rw[et,map_append,sum_append];simp[Nat.add_assoc]
   rw[e]at b;refine⟨_,_,?_,b,_,_,_,rfl,rfl,p14,p15⟩;subst hE;cases t13<;>first|rfl|(cases q13))
 rw[length_map,zero_add,take_length]at hE;subst hE;exact⟨t13,t14,t15,q13,q14,q15,f1⟩
end
section
variable{die:List Nat}{s k o l:Nat}
def Mt.ds(h:Mt die s k o l):DS die s:=⟨h.d,h.hs⟩
abbrev AF(die:List Nat)(s k o l n:Nat):St->Nat:=A die s k o l n
def e_turn(h:Mt die s k o l){n i:Nat}(s11 s12 s13 s14 s15 s16:DV.Slot)(h12:jS s12=true)(h13:jS s13=true)(h14:jS s14=true)(h15:jS s15=true) :
  ∃t13 t14 t15,jS t13=true/\jS t14=true/\jS t15=true/\dB zY jd (frS die s k o l n (dS' (KS s k o l) (AF die s k o l i)) s11 s12 s13 s14 s15 s16)=.ok (.nx,frS die s k o l n (dS' (KS s k o l) (AF die s k o l (i+1))) s11 .e t13 t14 t15 s16):=by
 have S27:=h.ds.S27
 let g0:St->Nat:=λx=>if En s k o l x then A die s k o l i x*die.sum else 0
 obtain⟨t13,t14,t15,q13,q14,q15,f1⟩:=zBg h (n:=n) (AF die s k o l i) g0 s11 s13 s14 s15 s16 h13 h14 h15;refine⟨t13,t14,t15,q13,q14,q15,?_⟩;have e:(λx=>g0 x+((L0 s k o l).map λy=>AF die s k o l i y*ccT die s o die.length x y).sum)=AF die s k o l (i+1):=by
  funext x
  exact(step h (cov0 h i) x).symm
 rw[e]at f1;have z:dE zY (.dcomp 1 ["stand"] [] [] (.iL (.var 7)) (.n 0) .tTr (.var 0) (.c (.int 0))) (frS die s k o l n (dS' (KS s k o l) (AF die s k o l i)) s11 s12 s13 s14 s15 s16)=.ok (.dct ((L0 s k o l).map kK) ((L0 s k o l).map λ_=>.int 0),frS die s k o l n (dS' (KS s k o l) (AF die s k o l i)) s11 s12 s13 s14 s15 s16) :=
  QY (zFJ h) (le_trans (QZ h) (by decide)) (i_L (zA rfl) rfl)
 have p1:=zFL (L0 s k o l) (λ_=>0) (some (s,k)) (A die s k o l i (some (s,k))*die.sum);rw[add1 h]at p1;have p2:=zFL (L0 s k o l++[some (s,k)]) (λx=>if x=some (s,k)then A die s k o l i (some (s,k))*die.sum else 0) (some (o,l)) (A die s k o l i (some (o,l))*die.sum);rw[add2 h]at p2;have e2:((KS s k o l).map λx=>D.int ((if x=some (o,l)then A die s k o l i (some (o,l))*die.sum else if x=some (s,k)then A die s k o l i (some (s,k))*die.sum else 0:Nat):Int))=(KS s k o l).map λx=>D.int (g0 x:Nat):=map_congr_left λx _=>by
  show _=D.int ((if En s k o l x then A die s k o l i x*die.sum else 0:Nat):Int)
  by_cases c1:x=some (o,l)
  ·rw[if_pos c1,if_pos (.inr c1),c1]
  ·by_cases c2:x=some (s,k)
   ·rw[if_neg c1,if_pos c2,if_pos (.inl c2),c2]
   ·rw[if_neg c1,if_neg c2,if_neg λz=>z.elim c2 c1]
 rw[e2]at p2;have k1:(some (s,k):St)∈KS s k o l:=vD.mpr (.inr (.inl rfl));have k2:(some (o,l):St)∈KS s k o l:=vD.mpr (.inr (.inr rfl));have g1:=wx (λx=>.int (A die s k o l i x:Nat)) k1;have g2:=wx (λx=>.int (A die s k o l i x:Nat)) k2;have m1:=ZX (A die s k o l i (some (s,k))) die.sum (by omega);have m2:=ZX (A die s k o l i (some (o,l))) die.sum (by omega);have hl:=QZ h;refine zG (E1:=frS die s k o l n (dS' (KS s k o l) (AF die s k o l i)) s11 (.dct ((L0 s k o l).map kK) ((L0 s k o l).map λ_=>.int 0)) s13 s14 s15 s16) (yd z (ju rfl h12 rfl)) ?_;refine zG (E1:=frS die s k o l n (dS' (KS s k o l) (AF die s k o l i)) s11 (dS' (L0 s k o l++[some (s,k)]) λx=>if x=some (s,k)then A die s k o l i (some (s,k))*die.sum else 0) s13 s14 s15 s16) (W5 (q:=kK (some (s,k))) (p:=(_,_)) rfl (zh (QS (q:=kK (some (s,k))) rfl (.inl rfl) (zA rfl) (j8 (some (s,k))) g1) (Jb (zB (zA rfl) zN) (zBc die)) m1) (zA rfl) (j8 (some (s,k))) (kl (by omega)) p1 rfl) ?_;refine zG (E1:=frS die s k o l n (dS' (KS s k o l) (AF die s k o l i)) s11 (dS' (KS s k o l) g0) s13 s14 s15 s16) (W5 (q:=kK (some (o,l))) (p:=(_,_)) rfl (zh (QS (q:=kK (some (o,l))) rfl (.inl rfl) (zA rfl) (j8 (some (o,l))) g2) (Jb (zB (zA rfl) zN) (zBc die)) m2) (zA rfl) (j8 (some (o,l))) (kl (by simp;omega)) p2 rfl) ?_;refine zG (QP (tg:=.n 13) (zA rfl) rfl f1) ?_;exact zi (yd (x_movD rfl rfl) rfl)
def e_turns(h:Mt die s k o l){n:Nat}:∃t11 t12 t13 t14 t15,DV.vq (gN 11) (dB zY jd) (DV.zJ 0 n) (frS die s k o l n (dS' (KS s k o l) (AF die s k o l 0)) .e .e .e .e .e .e)=.ok (.nx,frS die s k o l n (dS' (KS s k o l) (AF die s k o l n)) t11 t12 t13 t14 t15 .e):=by
 obtain⟨E',f1,t11,t12,t13,t14,t15,hE,_⟩:=jG (tg:=gN 11) (body:=dB zY jd) (λi E=>∃t11 t12 t13 t14 t15,E=frS die s k o l n (dS' (KS s k o l) (AF die s k o l i)) t11 t12 t13 t14 t15 .e/\jS t11=true/\jS t12=true/\jS t13=true/\jS t14=true/\jS t15=true) (DV.zJ 0 n) 0 (frS die s k o l n (dS' (KS s k o l) (AF die s k o l 0)) .e .e .e .e .e .e) ⟨_,_,_,_,_,rfl,rfl,rfl,rfl,rfl,rfl⟩
  (λi d q E ⟨t11,t12,t13,t14,t15,hE,q11,q12,q13,q14,q15⟩=>by
   rw[zero_add]at hE ⊢;obtain⟨u13,u14,u15,p13,p14,p15,b⟩:=e_turn h (n:=n) (i:=i) (.v d) t12 t13 t14 t15 .e q12 q13 q14 q15;refine⟨_,_,?_,b,_,_,_,_,_,rfl,rfl,rfl,p13,p14,p15⟩;subst hE;cases t11<;>first|rfl|(cases q11))
 rw[jZ,zero_add]at hE;subst hE;exact⟨_,_,_,_,_,f1⟩
def ans(die:List Nat)(s k o l n:Nat):D:=.t [nrm (A die s k o l n (some (s,k)):Nat) (die.sum^n),nrm (A die s k o l n (some (o,l)):Nat) (die.sum^n),nrm (RR die s k o l n:Nat) (die.sum^n)]
def ival':D->Int
 | .int i=>i|_=>0
def YJ(h:Mt die s k o l){n:Nat}(hn:n<=30):jE [.v (ZW die s k o l),.v (.int (n:Nat))]=.ok (.v (ans die s k o l n),O2):=by
 obtain⟨t11,t12,t13,t14,t15,f1⟩:=e_turns h (n:=n);have es:=GI h;rw[SL_eq]at es;have hl:=QZ h;have a1:=ZT ((L0 s k o l).map kS) [kS (some (s,k)),kS (some (o,l))] (by simp;omega);have ek:(L0 s k o l).map kS++[kS (some (s,k)),kS (some (o,l))]=(KS s k o l).map kS:=by simp[KS]
 rw[ek]at a1
 let fr0:DV.Slot->DV.Slot->zM:=λs7 e=>[.v (ZW die s k o l),.v (.int (n:Nat)),.v (ZB die),.v (.int (s:Nat)),.v (.int (k:Nat)),.v (.int (o:Nat)),.v (.int (l:Nat)),s7,.v (kS (some (s,k))),.v (kS (some (o,l))),e,.e,.e,.e,.e,.e,.e]
 have z:dE zY (.dcomp 1 ["stand"] [] [] (.iL (.bin .add (.var 7) (.l (.cons (.var 8) (.cons (.var 9) .nil))))) (.n 0) .tTr (.var 0) (.c (.int 0))) (fr0 (.own ((L0 s k o l).map kS)) .e)=.ok (.dct ((KS s k o l).map kK) ((KS s k o l).map λ_=>.int 0),fr0 (.v (.l ((L0 s k o l).map kS))) .e) :=
  QY (KS_nd h) (le_trans (zDc h) (by decide)) (i_L (zh (Y3 rfl rfl) (zDD (zB (zA rfl) (zB (zA rfl) zN)) rfl yJ) a1) rfl)
 have k0:(none:St)∈KS s k o l:=vD.mpr (.inl qE);have p0:=zFL (KS s k o l) (λ_=>0) none 1;rw[zDa k0]at p0;have e0:((KS s k o l).map λx=>D.int ((if x=none then 1 else 0:Nat):Int))=(KS s k o l).map λx=>D.int (A die s k o l 0 x:Nat):=map_congr_left λx _=>by rw[A_zero]
 rw[e0]at p0;have k1:(some (s,k):St)∈KS s k o l:=vD.mpr (.inr (.inl rfl));have k2:(some (o,l):St)∈KS s k o l:=vD.mpr (.inr (.inr rfl));have g1:=wx (λx=>.int (A die s k o l n x:Nat)) k1;have g2:=wx (λx=>.int (A die s k o l n x:Nat)) k2
 let dn:D:=.dct ((KS s k o l).map kK) ((KS s k o l).map λx=>.int (A die s k o l n x:Nat))
 have cs:dE zY (.comp 1 ["stand"] ["ends"] [10] (.iL (.var 7)) (.n 0) .tTr (.dgO 1 (.var 0))) (frS die s k o l n (.v dn) t11 t12 t13 t14 t15 .e)=.ok (.own (N ((L0 s k o l).map (A die s k o l n))),frS die s k o l n (.v dn) t11 t12 t13 t14 t15 .e):=by
  let un:D->Nat:=λd=>(ival' (((G4 d).bind (WC ((KS s k o l).map kK) ((KS s k o l).map λx=>.int (A die s k o l n x:Nat)))).getD .non)).toNat
  have hu:∀y∈L0 s k o l,un (kS y)=A die s k o l n y:=λy hy=>by
   show(ival' (((G4 (kS y)).bind (WC ((KS s k o l).map kK) ((KS s k o l).map λx=>.int (A die s k o l n x:Nat)))).getD .non)).toNat=_
   rw[j8,Option.bind_some,wx (λx=>.int (A die s k o l n x:Nat)) (vD.mpr (.inl hy))];rfl
  refine wI (ds:=(L0 s k o l).map kS) (vs:=[dn]) (λd=>.int (un d:Nat)) (i_L (zA rfl) rfl) rfl (λd hd=>?_) (by rw[length_map];simp only[cap];omega) ?_
  ·obtain⟨y,hy,rfl⟩:=mem_map.mp hd
   refine⟨_,QS (q:=kK y) rfl (.inr rfl) (zA rfl) (j8 y) (wx _ (vD.mpr (.inl hy))),?_⟩;show D.int _=D.int _;rw[hu y hy]
  ·rw[map_map,N,map_map]
   exact map_congr_left λy hy=>by simp only[Function.comp,hu y hy]
 have su:=sum_N ((L0 s k o l).map (A die s k o l n));rw[Y9 h (cov0 h n)]at su;have c3:∀a b c:D,[a,b,c].length<=cap:=λa b c=>by simp[cap]
 have cw:dE zY (.comp 1 ["weight"] ["die","n"] [2,1] (.iT (.t (.cons (.dgO 10 (.var 8)) (.cons (.dgO 10 (.var 9)) (.cons (.var 16) .nil))))) (.n 0) .tTr (.call 0 (.ev (.var 1) (.ev (.var 2) (.ev (.var 0) .nil))))) (frS die s k o l n (.v dn) t11 t12 t13 t14 t15 (.v (.int (RR die s k o l n:Nat))))=.ok (.own [nrm (A die s k o l n (some (s,k)):Nat) (die.sum^n),nrm (A die s k o l n (some (o,l)):Nat) (die.sum^n),nrm (RR die s k o l n:Nat) (die.sum^n)],frS die s k o l n (.v dn) t11 t12 t13 t14 t15 (.v (.int (RR die s k o l n:Nat)))):=by
  refine wI (ds:=[.int (A die s k o l n (some (s,k)):Nat),.int (A die s k o l n (some (o,l)):Nat),.int (RR die s k o l n:Nat)]) (vs:=[ZB die,.int (n:Nat)]) (λd=>nrm (ival' d) (die.sum^n)) (i_T (jg (zB (QS (q:=kK (some (s,k))) rfl (.inr rfl) (zA rfl) (j8 (some (s,k))) g1) (zB (QS (q:=kK (some (o,l))) rfl (.inr rfl) (zA rfl) (j8 (some (o,l))) g2) (zB (zA rfl) zN))) rfl (c3 _ _ _)) rfl) rfl (λd hd=>?_) (c3 _ _ _) rfl;simp only[mem_cons,mem_nil_iff,or_false]at hd;have:∃m:Nat,d=.int (m:Nat):=by rcases hd with rfl|rfl|rfl<;>exact⟨_,rfl⟩
  obtain⟨m,rfl⟩:=this;exact⟨_,yo (F:=jH) rfl (zA rfl) (zA rfl) (zA rfl) (zFF h.ds (by omega) (m:Int)),rfl⟩
 refine yO (r:=.v (ans die s k o l n)) (E1:=frS die s k o l n (.v dn) t11 t12 t13 t14 t15 (.v (.int (RR die s k o l n:Nat)))) ?_ rfl;show dB zY YF ([.v (ZW die s k o l),.v (.int (n:Nat))]++replicate 15 .e)=_;refine zG (J0 (zd (F:=zy) rfl (zA rfl) (GH (W7 h) (W6 h)))) ?_;refine zG (J0 (yo (F:=yU) rfl (zA rfl) x_c GA (wn _ 0 30 rfl (in_nat (hi:=30) hn)))) ?_;refine zG (zAB (zA rfl) rfl) ?_;refine zG (yd (zd (F:=yG) rfl (zA rfl) es) rfl) ?_;refine zG (E1:=fr0 (.own ((L0 s k o l).map kS)) .e) (GB (zB (jg (zB (zA rfl) (zB (zA rfl) zN)) rfl yJ) (zB (jg (zB (zA rfl) (zB (zA rfl) zN)) rfl yJ) zN)) rfl) ?_;refine zG (E1:=fr0 (.v (.l ((L0 s k o l).map kS))) (.dct ((KS s k o l).map kK) ((KS s k o l).map λ_=>.int 0))) (yd z rfl) ?_;refine zG (E1:=frS die s k o l n (dS' (KS s k o l) (AF die s k o l 0)) .e .e .e .e .e .e) (W5 (q:=kK none) (p:=(_,_)) rfl x_c GA rfl (kl (le_trans (zDc h) (by decide))) p0 rfl) ?_;refine zG (zAC (tg:=.n 11) (j:=(n:Int)) (zB (zA rfl) zN) rfl ⟨by omega,by omega⟩ (by rw[Int.toNat_natCast];exact f1)) ?_;refine zG (E1:=frS die s k o l n (.v dn) t11 t12 t13 t14 t15 (.v (.int (RR die s k o l n:Nat)))) (yd (Jb (zB (zGE rfl rfl cs) zN) su) rfl) ?_;exact zi (yP (Jb (zB cw zN) rfl))
end
def vE(t b:Nat)(h0:0<b)(hb:b<2^400):yu [.v (.int t),.v (.int b)]=.ok (.v (nrm t b),O2):=by
 have w:=WI (c:=dT wj (.tE (.cmp .ne (.var 3) (.c (.int 0))))) (bd:=dB wj Jx) (λa c=>[.v (.int (t:Nat)),.v (.int (b:Nat)),.v (.int (a:Nat)),.v (.int (c:Nat))])
  (λa b=>t_E (yl (zA rfl) x_c (by
   show neG (.int (b:Int)) (.int 0)=_
   rw[ne_int];by_cases z:b=0
   ·subst z;rfl
   ·have:¬(b:Int)=0:=by omega
    simp[z])))
  (λa b h=>zi (GB (zB (zA rfl) (zB (zh (zA rfl) (zA rfl) (GK a b h)) zN)) rfl)) 400 1000000 t b hb (by omega)
 obtain⟨g0,g1⟩:=zGG (t:=t) h0 (QW hb);have l:ltD (.int (b:Int)) (.int 0)=some (.v (.bl false)):=by simp[ltD,zBi]
 have d1:=WJ t _ g0 g1;have d2:=WJ b _ g0 g1;rw[GN]at d2;exact yO (zG (E1:=[.v (.int (t:Nat)),.v (.int (b:Nat)),.v (.int (t:Nat)),.v (.int (b:Nat))]) (GB (zB (Jb (zB (zA rfl) zN) (GM t)) (zB (Jb (zB (zA rfl) zN) (GM b)) zN)) rfl) (zG (E1:=[.v (.int (t:Nat)),.v (.int (b:Nat)),.v (.int ((t.gcd b:Nat):Int)),.v (.int ((0:Nat):Int))]) (GF w) (zG (yw (t_E (yl (zA rfl) x_c l)) yx) (zi (yP (jg (zB (zh (zA rfl) (zA rfl) d1) (zB (zh (zA rfl) (zA rfl) d2) zN)) rfl yJ)))))) rfl
def zAJ(a B:Nat):nrm (a:Int) B=.t [.int ((a/a.gcd B:Nat):Int),.int ((B/a.gcd B:Nat):Int)]:=by
 simp only[nrm,YH,wT,Int.natAbs_natCast]
def m2{a b:Nat}(h1:a<2^200)(h2:b<2^200):a*b<2^400:=by
 have:a*b<2^200*2^200:=Nat.mul_lt_mul'' h1 h2;rw[<- pow_add]at this;exact this
def l8{a:Nat}(h:a<2^200):a<2^800:=lt_trans h (by decide +kernel)
def dv{a g:Nat}(h:a<2^200):a/g<2^200:=lt_of_le_of_lt (div_le_self _ _) h
def bpos{a B:Nat}(h:0<B):0<B/a.gcd B:=div_pos (le_of_dvd h (gcd_dvd_right _ _)) (gcd_pos_of_pos_right _ h)
def vF{a c B:Nat}(hB:0<B)(vB:B<2^200)(ua:a<2^200)(uc:c<2^200):yh [.v (nrm (a:Int) B),.v (nrm (c:Int) B)]=.ok (.v (nrm ((a+c:Nat):Int) B),O2):=by
 have k:=zDI (t1:=(a:Int)) (t2:=(c:Int)) (T:=((a+c:Nat):Int)) hB hB hB (by rw[Int.natCast_add,Int.natCast_mul];grind);rw[YH,YH]at k;simp only[wT,Int.natAbs_natCast]at k;rw[zAJ a B,zAJ c B];have q1:=dv (g:=a.gcd B) ua;have q2:=dv (g:=a.gcd B) vB;have q3:=dv (g:=c.gcd B) uc;have q4:=dv (g:=c.gcd B) vB;have r2:=bpos (a:=a) hB;have r4:=bpos (a:=c) hB;generalize a/a.gcd B=x1 at *;generalize B/a.gcd B=y1 at *;generalize c/c.gcd B=x2 at *;generalize B/c.gcd B=y2 at *;have m1:=W8 x1 y2 (l8 q1) (l8 q4);have m2':=W8 x2 y1 (l8 q3) (l8 q2);have m3:=W8 y1 y2 (l8 q2) (l8 q4);have es:=vE (x1*y2+x2*y1) (y1*y2) (mul_pos r2 r4) (m2 q2 q4);have ek:nrm ((x1*y2+x2*y1:Nat):Int) (y1*y2)=nrm ((a+c:Nat):Int) B:=by
  rw[<- k,Int.natCast_add,Int.natCast_mul,Int.natCast_mul]
 rw[ek]at es;exact yO (zi (yP (zP (F:=yu) rfl (zh (zh (yj (r:=.v (.int (x1:Nat))) (zA rfl) x_c rfl) (yj (r:=.v (.int (y2:Nat))) (zA rfl) x_c rfl) m1) (zh (yj (r:=.v (.int (x2:Nat))) (zA rfl) x_c rfl) (yj (r:=.v (.int (y1:Nat))) (zA rfl) x_c rfl) m2') (jA _ _)) (zh (yj (r:=.v (.int (y1:Nat))) (zA rfl) x_c rfl) (yj (r:=.v (.int (y2:Nat))) (zA rfl) x_c rfl) m3) es))) rfl
def WK{B:Nat}(h:0<B):nrm ((0:Nat):Int) B=.t [.int 0,.int 1]:=by
 rw[zAJ];have:B/Nat.gcd 0 B=1:=by rw[Nat.gcd_zero_left,div_self h]
 rw[this];simp
def Pn(S w k j:Nat):Nat:=Rt S w j (k-j)
theorem Rt_E3(S w:Nat):∀(m j:Nat),S*Rt S w j (m+1)=w*Rt S w (j+1) m+S^(j+m+2)
 |0,j=>by simp only[Rt,zero_mul,zero_add,mul_zero,add_zero];rw[pow_succ S (j+1)];rw[mul_comm]
 |m+1,j=>by
  have ih:=Rt_E3 S w m j;have e1:Rt S w j (m+2)=Rt S w j (m+1)*w+S^(j+(m+1)+1):=rfl;have e2:Rt S w (j+1) (m+1)=Rt S w (j+1) m*w+S^(j+1+m+1):=rfl;rw[e1,e2,show j+1+m+1=j+m+2 by omega,show j+(m+1)+1=j+m+2 by omega,show j+(m+1)+2=(j+m+2)+1 by omega,pow_succ S (j+m+2)]
  grind
def Pn_E3(S w:Nat){k j:Nat}(h:j<k):S*Pn S w k j=w*Pn S w k (j+1)+S^(k+1):=by
 have:=Rt_E3 S w (k-j-1) j;unfold Pn;rw[show k-j-1+1=k-j by omega,show j+(k-j-1)+2=k+1 by omega]at this;rw[this,show k-(j+1)=k-j-1 by omega]
theorem Rt_E1(S w:Nat):∀m:Nat,S*Rt S w 0 m+S*w^m=w*Rt S w 0 m+S^(m+1)
 |0=>by simp[Rt]
 |m+1=>by
  have ih:=Rt_E1 S w m;have e1:Rt S w 0 (m+1)=Rt S w 0 m*w+S^(0+m+1):=rfl;rw[e1,zero_add,pow_succ w m,pow_succ S (m+1)]
  grind
def Pn_E1(S w k:Nat):S*Pn S w k 0+S*w^k=w*Pn S w k 0+S^(k+1):=Rt_E1 S w k
def zGN(S w k:Nat):Pn S w k k=0:=by unfold Pn;rw[Nat.sub_self];rfl
theorem Rt_le(S w:Nat):∀(m j:Nat),Rt S w (j+1) m<=Rt S w j (m+1)
 |0,j=>by simp[Rt]
 |m+1,j=>by
  have ih:=Rt_le S w m j;have e1:Rt S w j (m+2)=Rt S w j (m+1)*w+S^(j+(m+1)+1):=rfl;have e2:Rt S w (j+1) (m+1)=Rt S w (j+1) m*w+S^(j+1+m+1):=rfl;rw[e1,e2,show j+1+m+1=j+(m+1)+1 by omega];have:=Nat.mul_le_mul_right w ih;omega
theorem zFM(S w k:Nat):∀{j:Nat},j<=k->Pn S w k j<=Pn S w k 0
 |0,_=>le_refl _
 |j+1,h=>by
  have ih:=zFM S w k (j:=j) (by omega);have:=Rt_le S w (k-j-1) j;unfold Pn at ih ⊢;rw[show k-j-1+1=k-j by omega]at this;rw[show k-(j+1)=k-j-1 by omega];exact le_trans this ih
def Rt_pos{S w j m:Nat}(hS:0<S)(hm:0<m):0<Rt S w j m:=by
 cases m with
 |zero=>omega|succ m=>have:0<S^(j+m+1):=pow_pos hS;show 0<Rt S w j m*w+S^(j+m+1);omega
def Pn_lt{S w k:Nat}(hS:S<=27)(hw:w<=S)(hk:k<=7):Pn S w k 0<2^60:=by
 have gen:∀m,m<=7->Rt S w 0 m<=m*27^m:=by
  intro m
  induction m with
  |zero=>intro _;exact le_refl _
  |succ m ih =>
   intro hm;have i:=ih (by omega);have p1:Rt S w 0 m*w<=m*27^m*27:=mul_le_mul i (by omega);have p2:S^(0+m+1)<=27^(m+1):=by rw[zero_add];exact pow_le_pow_left hS _
   show Rt S w 0 m*w+S^(0+m+1)<=_
   rw[Nat.succ_mul,pow_succ 27 m]at *;rw[mul_assoc]at p1;omega
 have g:=gen k hk;have:k*27^k<=7*27^7:=mul_le_mul hk (Nat.pow_le_pow_right (by omega) hk);exact lt_of_le_of_lt (le_trans g this) (by decide +kernel)
section
variable{die:List Nat}{s k o l:Nat}
abbrev wN(die:List Nat)(s:Nat):Nat:=die.getD s 0
def Xn(die:List Nat)(s k o l:Nat):Nat:=Pn die.sum (wN die s) k 0*wN die o^l
def Yn(die:List Nat)(s k o l:Nat):Nat:=Pn die.sum (wN die o) l 0*wN die s^k
def Nn(die:List Nat)(s k o l:Nat):Nat:=Xn die s k o l+Yn die s k o l
def pn(die:List Nat)(s k o l:Nat):St->Nat
 |none=>Yn die s k o l|some (t,j)=>if t=s then Nn die s k o l-Pn die.sum (wN die s) k j*wN die o^l else Pn die.sum (wN die o) l j*wN die s^k
def Qa(h:Mt die s k o l){t:Nat}(ht:t<die.length):0<wN die t/\wN die t<=9/\wN die t<=die.sum:=by
 have hw:die[t]?=some (die.getD t 0):=by rw[getD_eq_getElem?_getD,getElem?_eq_getElem ht];rfl
 have:=h.d.2 _ (mem_of_getElem? hw);exact⟨this.1,this.2,zAH (mem_of_getElem? hw)⟩
def zDg(h:Mt die s k o l)(f:Nat->Nat)(c:Nat)(hf:∀t,t<die.length->t≠s->t≠o->f t=c):((List.range die.length).map λt=>wN die t*f t).sum+(wN die s+wN die o)*c=wN die s*f s+wN die o*f o+die.sum*c:=by
 have hs:=h.hs;have ho:=h.ho;have hne:=h.ne;rcases h.d.1 with e|e
 ·match die,e with
  | [a,b],_ =>
   simp only[length_cons,length_nil]at hs ho;have c1:(s=0/\o=1)\/(s=1/\o=0):=by omega
   rcases c1 with⟨rfl,rfl⟩|⟨rfl,rfl⟩<;>simp[range_succ,wN]<;>grind
 ·match die,e with
  | [a,b,d],_ =>
   simp only[length_cons,length_nil]at hs ho hf;have c1:(s=0/\o=1)\/(s=1/\o=0)\/(s=0/\o=2)\/(s=2/\o=0)\/(s=1/\o=2)\/(s=2/\o=1):=by omega
   rcases c1 with⟨rfl,rfl⟩|⟨rfl,rfl⟩|⟨rfl,rfl⟩|⟨rfl,rfl⟩|⟨rfl,rfl⟩|⟨rfl,rfl⟩
   ·have:=hf 2 (by omega) (by omega) (by omega);simp[range_succ,wN,this];grind
   ·have:=hf 2 (by omega) (by omega) (by omega);simp[range_succ,wN,this];grind
   ·have:=hf 1 (by omega) (by omega) (by omega);simp[range_succ,wN,this];grind
   ·have:=hf 1 (by omega) (by omega) (by omega);simp[range_succ,wN,this];grind
   ·have:=hf 0 (by omega) (by omega) (by omega);simp[range_succ,wN,this];grind
   ·have:=hf 0 (by omega) (by omega) (by omega);simp[range_succ,wN,this];grind
end
def baseB{S w v W V p0 p1 q0 q1 Sk Sl u1:Nat}(h1:u1+p1*V=p0*V+q0*W)(e3:S*p0=w*p1+Sk)(e1:S*p0+S*W=w*p0+Sk)(f3:S*q0=v*q1+Sl)(f1:S*q0+S*V=v*q0+Sl):w*u1+v*(q1*W)=(w+v)*(q0*W):=by
 have a:w*p0=w*p1+S*W:=by omega
 have b:v*q0=v*q1+S*V:=by omega
 have c:w*u1+w*p1*V=w*p0*V+w*q0*W:=by
  have:=congrArg (w*·) h1;simp only[mul_add,<- mul_assoc]at this;exact this
 rw[a,add_mul]at c;have d:v*q0*W=v*q1*W+S*V*W:=by rw[b,add_mul]
 have e:S*W*V=S*V*W:=by grind
 rw[<- mul_assoc v q1 W,add_mul,<- mul_assoc w q0 W,<- mul_assoc v q0 W];omega
def baseS{S w V W p0 p1 pj pk q0 Sk N uj uk u1:Nat}(hN:N=p0*V+q0*W)(h1:u1+p1*V=N)(hj:uj+pj*V=N)(hk:uk+pk*V=N)(e3:S*p0=w*p1+Sk)(ej:S*pj=w*pk+Sk):w*uk+S*(q0*W)=S*uj+w*u1:=by
 have a:w*u1+w*p1*V=w*N:=by rw[<- h1,mul_add,mul_assoc]
 have b:S*uj+S*pj*V=S*N:=by rw[<- hj,mul_add,mul_assoc]
 have c:w*uk+w*pk*V=w*N:=by rw[<- hk,mul_add,mul_assoc]
 have d:S*N=S*p0*V+S*(q0*W):=by rw[hN,mul_add,mul_assoc]
 rw[ej,add_mul]at b;rw[e3,add_mul]at d;omega
def baseO{S v W q0 q1 qj qk Sl:Nat}(f3:S*q0=v*q1+Sl)(fj:S*qj=v*qk+Sl):v*(qk*W)+S*(q0*W)=S*(qj*W)+v*(q1*W):=by
 rw[<- mul_assoc,<- mul_assoc,<- mul_assoc,<- mul_assoc,f3,fj,add_mul,add_mul];omega
section
variable{die:List Nat}{s k o l:Nat}
def PV_le{j:Nat}(hj:j<=k):Pn die.sum (wN die s) k j*wN die o^l<=Nn die s k o l :=
 le_trans (Nat.mul_le_mul_right _ (zFM _ _ _ hj)) (le_add_right _ _)
def pn_s(j:Nat):pn die s k o l (some (s,j))=Nn die s k o l-Pn die.sum (wN die s) k j*wN die o^l:=if_pos rfl
def pn_o(hne:s≠o)(j:Nat):pn die s k o l (some (o,j))=Pn die.sum (wN die o) l j*wN die s^k:=if_neg λe=>hne e.symm
def zDh:pn die s k o l none=Yn die s k o l:=rfl
def pn_le(h:Mt die s k o l){x:St}(hx:x∈L0 s k o l\/En s k o l x):pn die s k o l x<=Nn die s k o l:=by
 match x,hx with
 |none,_=>exact le_add_left _ _
 |some (t,j),hx =>
  show(if t=s then _ else _)<=_
  split
  ·exact Nat.sub_le _ _
  ·rename_i hts
   have hj:j<=l:=by
    rcases hx with hx|hx
    ·rcases mem_cons.mp hx with e|hx
     ·cases e
     ·rcases mem_append.mp hx with m|m
      ·obtain⟨_,_,_,e⟩:=JW.mp m;cases e;exact absurd rfl hts
      ·obtain⟨_,_,_,e⟩:=JW.mp m;cases e;omega
    ·rcases hx with e|e<;>cases e
     ·exact absurd rfl hts
     ·exact le_refl _
   exact le_trans (Nat.mul_le_mul_right _ (zFM _ _ _ hj)) (le_add_left _ _)
def lin1{a b c d e f g:Nat}(h1:a+b=c+d+e)(h2:c+e=f+g)(h3:g+d=b):a=f:=by omega
def lin2{a b c d e f g:Nat}(h1:a+b=c+d+e)(h2:d+e=f+g)(h3:c+g=b):a=f:=by omega
def lin3{a b c d e:Nat}(h1:a+b=c+d+e)(h2:c+d=b):a=e:=by omega
def eqn(h:Mt die s k o l){x:St}(hx:x∈L0 s k o l):((List.range die.length).map λt=>wN die t*pn die s k o l (nx s o x t)).sum=die.sum*pn die s k o l x:=by
 have hk:=h.hk;have hl:=h.hl;have sp:=zDg h (λt=>pn die s k o l (nx s o x t)) (Yn die s k o l) (λt _ h1 h2=>by
  have:nx s o x t=none:=if_neg λz=>z.elim h1 h2
  rw[this];rfl)
 have es:nx s o x s=some (s,ln x s):=if_pos (.inl rfl);have eo:nx s o x o=some (o,ln x o):=if_pos (.inr rfl);rw[es,eo,pn_s,pn_o h.ne]at sp;have e3:=λ(j:Nat) (hj:j<k)=>Pn_E3 die.sum (wN die s) hj
 have f3:=λ(j:Nat) (hj:j<l)=>Pn_E3 die.sum (wN die o) hj
 have e1:=Pn_E1 die.sum (wN die s) k;have f1:=Pn_E1 die.sum (wN die o) l;have u:=λ(j:Nat) (hj:j<=k)=>Nat.sub_add_cancel (PV_le (die:=die) (s:=s) (o:=o) (l:=l) hj)
 have hN:Nn die s k o l=Pn die.sum (wN die s) k 0*wN die o^l+Pn die.sum (wN die o) l 0*wN die s^k:=rfl;have hY:Yn die s k o l=Pn die.sum (wN die o) l 0*wN die s^k:=rfl;have B:wN die s*(Nn die s k o l-Pn die.sum (wN die s) k 1*wN die o^l)+wN die o*(Pn die.sum (wN die o) l 1*wN die s^k)=(wN die s+wN die o)*Yn die s k o l:=baseB (u 1 hk.1) (e3 0 (by omega)) e1 (f3 0 (by omega)) f1;rcases mem_cons.mp hx with rfl|hx
 ·have q1:ln none s=1:=rfl
  have q2:ln none o=1:=rfl;rw[q1,q2]at sp;exact lin3 sp B
 ·rcases mem_append.mp hx with m|m
  ·obtain⟨j,j1,j2,rfl⟩:=JW.mp m
   have q1:ln (some (s,j)) s=j+1:=if_pos rfl;have q2:ln (some (s,j)) o=1:=if_neg h.ne;rw[q1,q2]at sp;have C:=baseS hN (u 1 hk.1) (u j (by omega)) (u (j+1) (by omega)) (e3 0 (by omega)) (e3 j (by omega));rw[pn_s];exact lin1 sp C B
  ·obtain⟨j,j1,j2,rfl⟩:=JW.mp m
   have q1:ln (some (o,j)) s=1:=if_neg λe=>h.ne e.symm
   have q2:ln (some (o,j)) o=j+1:=if_pos rfl;rw[q1,q2]at sp;have C:=baseO (W:=wN die s^k) (f3 0 (by omega)) (f3 j (by omega));rw[pn_o h.ne];exact lin2 sp C B
end
section
variable{die:List Nat}{s k o l:Nat}
def pn_E1:pn die s k o l (some (s,k))=Nn die s k o l:=by rw[pn_s,zGN,zero_mul,Nat.sub_zero]
def pn_E0(hne:s≠o):pn die s k o l (some (o,l))=0:=by rw[pn_o hne,zGN,zero_mul]
theorem mart(h:Mt die s k o l):∀n,((w4 die.length n).map λr=>wt die r*pn die s k o l (st s k o l r)).sum=Yn die s k o l*die.sum^n
 |0=>by
  show wt die []*pn die s k o l none+0=_
  rw[Nat.pow_zero,zDh];simp[wt]
 |n+1=>by
  show(((w4 die.length n).flatMap λr=>(List.range die.length).map λx=>r++[x]).map λr=>wt die r*pn die s k o l (st s k o l r)).sum=_
  rw[WH,pow_succ,<- mul_assoc,<- mart h n,<- wR];congr 1;refine map_congr_left λr _=>?_
  rw[map_map];have e:((List.range die.length).map ((λr=>wt die r*pn die s k o l (st s k o l r)) ∘ λx=>r++[x]))=(List.range die.length).map λt=>wt die r*(wN die t*pn die s k o l (go s k o l (st s k o l r) t)):=map_congr_left λt _=>by
   simp only[Function.comp,zGL];rw[show wt die (r++[t])=wt die r*die.getD t 0 by simp[wt],mul_assoc]
  rw[e,Y6,mul_assoc];congr 1;by_cases c:En s k o l (st s k o l r)
  ·simp only[go,if_pos c]
   have e2:((List.range die.length).map λt=>wN die t*pn die s k o l (st s k o l r))=(List.range die.length).map λt=>pn die s k o l (st s k o l r)*wN die t:=map_congr_left λt _=>mul_comm _ _
   rw[e2,Y6,wk h.d]
  ·simp only[go,if_neg c]
   rw[eqn h ((st_in h r).resolve_right c),mul_comm]
def A_first(h:Mt die s k o l)(n:Nat):A die s k o l n (some (s,k))*Nn die s k o l<=Yn die s k o l*die.sum^n:=by
 rw[<- mart h n];unfold A;rw[<- wR];generalize w4 die.length n=R
 induction R with
 |nil=>exact le_refl _
 |cons r R ih =>
  simp only[map_cons,sum_cons];refine Nat.add_le_add ?_ ih;by_cases e:st s k o l r=some (s,k)
  ·rw[if_pos e,e,pn_E1];exact le_refl _
  ·rw[if_neg e,zero_mul];exact zero_le _
def A_up(h:Mt die s k o l)(n:Nat){x:St}(e:En s k o l x):A die s k o l n x*die.sum<=A die s k o l (n+1) x:=by
 rw[step h (cov0 h n) x,if_pos e];exact le_add_right _ _
def RR_down(h:Mt die s k o l)(n:Nat):RR die s k o l (n+1)<=RR die s k o l n*die.sum:=by
 have a:=three h n;have b:=three h (n+1);have c:=A_up h n (x:=some (s,k)) (.inl rfl);have d:=A_up h n (x:=some (o,l)) (.inr rfl);have e:=congrArg (·*die.sum) a;simp only[add_mul]at e;rw[pow_succ]at b;omega
def go_sw:go o l s k=go s k o l:=by
 funext q t
 have e1:En o l s k q↔En s k o l q:=Or.comm;have e2:nx o s q t=nx s o q t:=by
  unfold nx;by_cases c:t=s\/t=o
  ·rw[if_pos c,if_pos c.symm]
  ·rw[if_neg c,if_neg λz=>c z.symm]
 unfold go;rw[e2];by_cases c:En s k o l q
 ·rw[if_pos c,if_pos (e1.mpr c)]
 ·rw[if_neg c,if_neg λz=>c (e1.mp z)]
def st_sw(r:List Nat):st o l s k r=st s k o l r:=by unfold st;rw[go_sw]
def A_sw(n:Nat)(x:St):A die o l s k n x=A die s k o l n x:=by
 unfold A;congr 1;exact map_congr_left λr _=>by rw[st_sw]
def RR_sw(n:Nat):RR die o l s k n=RR die s k o l n:=by
 unfold RR;congr 1;refine map_congr_left λr _=>?_
 rw[st_sw];by_cases c:En s k o l (st s k o l r)
 ·rw[if_pos c,if_pos c.symm]
 ·rw[if_neg c,if_neg λz=>c z.symm]
def Mt.sw(h:Mt die s k o l):Mt die o l s k:=⟨h.d,h.ho,h.hs,λe=>h.ne e.symm,h.hl,h.hk⟩
def N_sw:Nn die o l s k=Nn die s k o l:=add_comm _ _
def Y_pos(h:Mt die s k o l):0<Yn die s k o l:=mul_pos (Rt_pos (by have:=h.ds.S27;omega) (by have:=h.hl;omega)) (pow_pos (Qa h h.hs).1)
def Y7(h:Mt die s k o l):0<Nn die s k o l:=lt_of_lt_of_le (Y_pos h) (le_add_left _ _)
def w20(h:Mt die s k o l){t i:Nat}(ht:t<die.length)(hi:i<=7):wN die t^i<2^40/\0<wN die t^i :=
 ⟨lt_of_le_of_lt (pow_le_pow_left (Qa h ht).2.1 i) (lt_of_le_of_lt (Nat.pow_le_pow_right (by omega) hi) (by decide)),pow_pos (Qa h ht).1⟩
def P60(h:Mt die s k o l){t i j:Nat}(ht:t<die.length)(hi:i<=7)(hj:j<=i):Pn die.sum (wN die t) i j<2^60 :=
 lt_of_le_of_lt (zFM _ _ _ hj) (Pn_lt h.ds.S27.2 (Qa h ht).2.2 hi)
def m100{a b:Nat}(h1:a<2^60)(h2:b<2^40):a*b<2^100:=by
 have:a*b<2^60*2^40:=Nat.mul_lt_mul'' h1 h2;rw[<- pow_add]at this;exact this
def zDn(h:Mt die s k o l):Nn die s k o l<2^101:=by
 have a:Xn die s k o l<2^100:=m100 (P60 h h.hs (by have:=h.hk;omega) (zero_le _)) (w20 h h.ho (by have:=h.hl;omega)).1;have b:Yn die s k o l<2^100:=m100 (P60 h h.ho (by have:=h.hl;omega) (zero_le _)) (w20 h h.hs (by have:=h.hk;omega)).1;have:Nn die s k o l<2^100+2^100:=Nat.add_lt_add a b;exact lt_of_lt_of_le this (by decide)
def lB{n m:Nat}(h:n<2^m)(hm:m<=3000):n<Big:=by
 rw[zGJ];exact lt_of_lt_of_le h (Nat.pow_le_pow_right (by omega) (by omega))
def mB{a b:Nat}{m n:Nat}(h1:a<2^m)(h2:b<2^n):a*b<2^(m+n):=by
 rw[pow_add];exact Nat.mul_lt_mul'' h1 h2
end
def cut_one(ds:List D):zBQ ds (some 1) none=ds.drop 1:=by
 cases ds with
 |nil=>rfl|cons a l=>exact zA1 (a::l) 1 (by simp)
def zAK{d:D}(hf:neF d d=none)(h:eqb 20 d=true):neG d d=some (.v (.bl false)):=by
 simp only[neG,hf,eqDD];rw[if_pos ⟨h,h⟩,zA2 20 _ h];rfl
def zBC(t:Int)(b:Nat):neG (nrm t b) (nrm t b)=some (.v (.bl false)):=zAK rfl rfl
def ix_at{ds:List D}{k:Nat}{d:D}(h:ds[k]?=some d):ixD (.t ds) (.int (k:Nat))=some (.v d):=by rw[zDL,zDK h];rfl
section
variable{die:List Nat}{s k o l:Nat}
def Mt.do(h:Mt die s k o l):DS die o:=⟨h.d,h.ho⟩
def wS_nn{t i j:Nat}(hj:j<i):wS die t i j=nn (Pn die.sum (wN die t) i j) (wN die t^i):=by
 show nrm ((Rt die.sum (dw die t) j (i-j):Nat):Int) (dw die t^(j+(i-j)))=_
 rw[show j+(i-j)=i by omega];rfl
def ws_list(t i:Nat):(List.range i).map (wS die t i)=(List.range i).map λj=>nn (Pn die.sum (wN die t) i j) (wN die t^i):=map_congr_left λj hj=>wS_nn (mem_range.mp hj)
abbrev wl(die:List Nat)(t i:Nat):List D:=(List.range i).map λj=>nn (Pn die.sum (wN die t) i j) (wN die t^i)
def wl_0{t i:Nat}(h:1<=i):ixD (.l (wl die t i)) (.int 0)=some (.v (nn (Pn die.sum (wN die t) i 0) (wN die t^i))):=zA7 (λj=>nn (Pn die.sum (wN die t) i j) (wN die t^i)) (i:=0) (n:=i) (by omega)
def wl_sl(t i:Nat):slD (.l (wl die t i)) (some 1) none=some (.own ((List.range (i-1)).map λj=>nn (Pn die.sum (wN die t) i (j+1)) (wN die t^i))):=by
 simp only[slD,cut_one];congr 2;cases i with
 |zero=>rfl
 |succ i =>
  show List.drop 1 ((List.range (i+1)).map _)=_
  rw[List.range_succ_eq_map];simp[Function.comp_def]
abbrev TT(die:List Nat)(s k o l:Nat):D:=nn (Nn die s k o l) (wN die s^k*wN die o^l)
def by_one(h:Mt die s k o l){j:Nat}(hj:j<=k):yp [.v (nn (Pn die.sum (wN die s) k j) (wN die s^k)),.v (TT die s k o l)]=.ok (.v (nn (Pn die.sum (wN die s) k j*wN die o^l) (Nn die s k o l)),O2):=by
 have hk:=h.hk;have hl:=h.hl;have a:=w20 h h.hs (i:=k) (by omega);have b:=w20 h h.ho (i:=l) (by omega);have c:=zDn h;refine by_nn a.2 (Y7 h) (mul_pos a.2 b.2) (Y7 h) (lB (P60 h h.hs (by omega) hj) (by omega)) (lB (mB a.1 b.1) (by omega)) (lB (mB a.1 c) (by omega)) ?_
 grind
def zGO(h:Mt die s k o l){j:Nat}(hj:j<=l):yp [.v (nn (Pn die.sum (wN die o) l j) (wN die o^l)),.v (TT die s k o l)]=.ok (.v (nn (Pn die.sum (wN die o) l j*wN die s^k) (Nn die s k o l)),O2):=by
 have hk:=h.hk;have hl:=h.hl;have a:=w20 h h.hs (i:=k) (by omega);have b:=w20 h h.ho (i:=l) (by omega);have c:=zDn h;refine by_nn b.2 (Y7 h) (mul_pos a.2 b.2) (Y7 h) (lB (P60 h h.ho (by omega) hj) (by omega)) (lB (mB a.1 b.1) (by omega)) (lB (mB b.1 c) (by omega)) ?_
 grind
abbrev pap(die:List Nat)(s k o l:Nat):List D:=(L0 s k o l).map λx=>nn (pn die s k o l x) (Nn die s k o l)
def pap_is(h:Mt die s k o l):pap die s k o l=[nn (Yn die s k o l) (Nn die s k o l)]++((List.range (k-1)).map λj=>nn (Nn die s k o l-Pn die.sum (wN die s) k (j+1)*wN die o^l) (Nn die s k o l))++(List.range (l-1)).map λj=>nn (Pn die.sum (wN die o) l (j+1)*wN die s^k) (Nn die s k o l):=by
 simp only[pap,L0,ru,map_cons,map_append,map_map,Function.comp_def,pn_s,pn_o h.ne,zDh,List.singleton_append,List.cons_append,nil_append]
abbrev frP(die:List Nat)(s k o l:Nat)(s8 s9 s10 s11:DV.Slot):zM:=[.v (ZW die s k o l),.v (ZB die),.v (.int (s:Nat)),.v (.int (k:Nat)),.v (.int (o:Nat)),.v (.int (l:Nat)),.v (.l (wl die s k)),.v (.l (wl die o l)),s8,s9,s10,s11]
def Y8(h:Mt die s k o l):yf [.v (ZW die s k o l)]=.ok (.v (.t (pap die s k o l)),O1):=by
 have hk:=h.hk;have hl:=h.hl;have a:=w20 h h.hs (i:=k) (by omega);have b:=w20 h h.ho (i:=l) (by omega);have c:=zDn h;have e1:=JV h.ds (k:=k) (by omega);have e2:=JV h.do (k:=l) (by omega);rw[ws_list]at e1 e2;have pl:yF [.v (nn (Pn die.sum (wN die s) k 0) (wN die s^k)),.v (nn (Pn die.sum (wN die o) l 0) (wN die o^l))]=.ok (.v (TT die s k o l),O2) :=
  zDX a.2 b.2 (mul_pos a.2 b.2) (lB (P60 h h.hs (by omega) (zero_le _)) (by omega)) (lB (P60 h h.ho (by omega) (zero_le _)) (by omega)) (lB (mB a.1 b.1) (by omega)) rfl
 have c1:dE wC (.comp 1 ["wait"] ["together"] [8] (.iL (.sl (.var 6) (.oS (.c (.int 1))) .oN)) (.n 0) .tTr (.call 1 (.ev (.gl (.t [.int 1,.int 1])) (.ev (.call 0 (.ev (.var 0) (.ev (.var 1) .nil))) .nil)))) (frP die s k o l (.v (TT die s k o l)) (.own [nn (Yn die s k o l) (Nn die s k o l)]) .e .e)=.ok (.own ((List.range (k-1)).map λj=>nn (Nn die s k o l-Pn die.sum (wN die s) k (j+1)*wN die o^l) (Nn die s k o l)),frP die s k o l (.v (TT die s k o l)) (.own [nn (Yn die s k o l) (Nn die s k o l)]) .e .e):=by
  refine GE (ss:=[.v (TT die s k o l)]) (i_L (x_sl (zA rfl) (o_S x_c) o_N (wl_sl s k)) rfl) rfl rfl (λi d hd=>?_) (by simp) (by simp[cap];omega) (λx=>rfl);rw[getElem?_map,Option.map_eq_some_iff]at hd;obtain⟨j,hj,rfl⟩:=hd;obtain⟨hi,e⟩:=qG.mp hj;rw[List.getElem_range]at e;subst e;rw[length_range]at hi;exact⟨_,zP (F:=j5) rfl GA (zP (F:=yp) rfl (zA rfl) (zA rfl) (by_one h (j:=i+1) (by omega))) (less_nn (Y7 h) (lB c (by omega)) (PV_le (by omega))),by rw[getElem?_map,getElem?_range hi];rfl⟩
 have c2:dE wC (.comp 1 ["wait"] ["together"] [8] (.iL (.sl (.var 7) (.oS (.c (.int 1))) .oN)) (.n 0) .tTr (.call 0 (.ev (.var 0) (.ev (.var 1) .nil)))) (frP die s k o l (.v (TT die s k o l)) (.own [nn (Yn die s k o l) (Nn die s k o l)]) (.own ((List.range (k-1)).map λj=>nn (Nn die s k o l-Pn die.sum (wN die s) k (j+1)*wN die o^l) (Nn die s k o l))) .e)=.ok (.own ((List.range (l-1)).map λj=>nn (Pn die.sum (wN die o) l (j+1)*wN die s^k) (Nn die s k o l)),frP die s k o l (.v (TT die s k o l)) (.own [nn (Yn die s k o l) (Nn die s k o l)]) (.own ((List.range (k-1)).map λj=>nn (Nn die s k o l-Pn die.sum (wN die s) k (j+1)*wN die o^l) (Nn die s k o l))) .e):=by
  refine GE (ss:=[.v (TT die s k o l)]) (i_L (x_sl (zA rfl) (o_S x_c) o_N (wl_sl o l)) rfl) rfl rfl (λi d hd=>?_) (by simp) (by simp[cap];omega) (λx=>rfl);rw[getElem?_map,Option.map_eq_some_iff]at hd;obtain⟨j,hj,rfl⟩:=hd;obtain⟨hi,e⟩:=qG.mp hj;rw[List.getElem_range]at e;subst e;rw[length_range]at hi;exact⟨_,zP (F:=yp) rfl (zA rfl) (zA rfl) (zGO h (j:=i+1) (by omega)),by rw[getElem?_map,getElem?_range hi];rfl⟩
 have a1:=ZT [nn (Yn die s k o l) (Nn die s k o l)] ((List.range (k-1)).map λj=>nn (Nn die s k o l-Pn die.sum (wN die s) k (j+1)*wN die o^l) (Nn die s k o l)) (by simp;omega);have a2:=ZT ([nn (Yn die s k o l) (Nn die s k o l)]++((List.range (k-1)).map λj=>nn (Nn die s k o l-Pn die.sum (wN die s) k (j+1)*wN die o^l) (Nn die s k o l))) ((List.range (l-1)).map λj=>nn (Pn die.sum (wN die o) l (j+1)*wN die s^k) (Nn die s k o l)) (by simp;omega);rw[<- pap_is h]at a2;refine yO (r:=.v (.t (pap die s k o l))) (E1:=frP die s k o l (.v (TT die s k o l)) (.v (.l [nn (Yn die s k o l) (Nn die s k o l)])) (.v (.l ((List.range (k-1)).map λj=>nn (Nn die s k o l-Pn die.sum (wN die s) k (j+1)*wN die o^l) (Nn die s k o l)))) (.v (.l ((List.range (l-1)).map λj=>nn (Pn die.sum (wN die o) l (j+1)*wN die s^k) (Nn die s k o l))))) ?_ rfl;refine zG (J0 (zd (F:=zy) rfl (zA rfl) (GH (W7 h) (W6 h)))) ?_;refine zG (zAB (zA rfl) rfl) ?_;refine zG (E1:=frP die s k o l .e .e .e .e) (GB (zB (yo (F:=yc) rfl (zA rfl) (zA rfl) (zA rfl) e1) (zB (yo (F:=yc) rfl (zA rfl) (zA rfl) (zA rfl) e2) zN)) rfl) ?_;refine zG (E1:=frP die s k o l (.v (TT die s k o l)) .e .e .e) (yd (zP (F:=yF) rfl (yj (zA rfl) x_c (wl_0 hk.1)) (yj (zA rfl) x_c (wl_0 hl.1)) pl) rfl) ?_;refine zG (E1:=frP die s k o l (.v (TT die s k o l)) (.own [nn (Yn die s k o l) (Nn die s k o l)]) .e .e) (yd (zDD (zB (zP (F:=yp) rfl (yj (zA rfl) x_c (wl_0 hl.1)) (zA rfl) (zGO h (j:=0) (zero_le _))) zN) rfl zAD) rfl) ?_;refine zG (yd c1 rfl) (zG (yd c2 rfl) ?_);exact zi (yP (Jb (zB (zh (zh (Y3 rfl rfl) (Y3 rfl rfl) a1) (Y3 rfl rfl) a2) zN) rfl))
def ji(h:Mt die s k o l):yH [.v (ZW die s k o l)]=.ok (.v (nn (Yn die s k o l) (Nn die s k o l)),O1) :=
 yO (zi (yP (yj (zd (F:=yf) rfl (zA rfl) (Y8 h)) x_c (ix_at (k:=0) rfl)))) rfl
abbrev MT(die:List Nat)(s k o l:Nat):D:=nn (Pn die.sum (wN die s) k 0*Pn die.sum (wN die o) l 0) (Nn die s k o l)
def wo(h:Mt die s k o l):yg [.v (ZW die s k o l)]=.ok (.v (MT die s k o l),O1):=by
 have hk:=h.hk;have hl:=h.hl;have a:=w20 h h.hs (i:=k) (by omega);have c:=zDn h;have em:=e_mean h.ds (k:=k) (by omega);rw[wS_nn (by omega)]at em;have y:Yn die s k o l<2^101:=lt_of_le_of_lt (le_add_left _ _) c;have et:zo [.v (nn (Pn die.sum (wN die s) k 0) (wN die s^k)),.v (nn (Yn die s k o l) (Nn die s k o l))]=.ok (.v (MT die s k o l),O2) :=
  zBB a.2 (Y7 h) (Y7 h) (lB (P60 h h.hs (by omega) (zero_le _)) (by omega)) (lB y (by omega)) (lB (mB a.1 c) (by omega)) (by unfold Yn;grind)
 exact yO (zG (J0 (zd (F:=zy) rfl (zA rfl) (GH (W7 h) (W6 h)))) (zG (zAB (zA rfl) rfl) (zi (yP (zP (F:=zo) rfl (yo (F:=j6) rfl (zA rfl) (zA rfl) (zA rfl) em) (zd (F:=yH) rfl (zA rfl) (ji h)) et))))) rfl
end
def N_at{r:List Nat}{i:Nat}{d:D}(h:(N r)[i]?=some d):∃t,r[i]?=some t/\d=.int (t:Nat):=by
 simp only[N,getElem?_map,Option.map_eq_some_iff]at h;obtain⟨t,e,rfl⟩:=h;exact⟨t,e,rfl⟩
def x_dzip{fs:List FI}{E E1:zM}{t1 t2:Bool}{as:_}{rs:List R}{r:R}(h1:dA fs as E=.ok (rs,E1))(h2:G9 t1 t2 (rs.map R.d)=some r):dE fs (.dzip t1 t2 as) E=.ok (r,E1):=by simp only[rE_dzip,eCB,h1,h2]
def zFN{fs:List FI}{E E1:zM}{xs ys:List Str}{it el:_}{ds rs:List D}(hi:dI fs it E=.ok (ds,E1))
  (h4:∀(i:Nat) (d:D),ds[i]?=some d->∃a b r,d=.t [a,b]/\dE fs el [.v a,.v b]=.ok (r,[.v a,.v b])/\rs[i]?=some r.d) (hn:rs.length=ds.length) (hc:ds.length<=cap):dE fs (.comp 2 xs ys [] it (.t [0,1]) .tTr el) E=.ok (.own rs,E1):=by
 obtain⟨res,E',e1,e2,x,y,e3,_⟩:=Yo (tg:=gT [0,1]) (tt:=uU) (el:=dE fs el) (λk E acc=>acc=rs.take k/\∃x y,E=[x,y]/\jS x=true/\jS y=true) ds 0 [.e,.e] [] ⟨rfl,.e,.e,rfl,rfl,rfl⟩ (by simpa using hc) (λi d q E acc ⟨ha,x,y,hE,hx,hy⟩ _=>by
  rw[zero_add]at ha ⊢;obtain⟨a,b,r,rfl,e,er⟩:=h4 i d q;refine⟨[.v a,.v b],[.v a,.v b],r,[.v a,.v b],?_,rfl,e,?_,_,_,rfl,rfl,rfl⟩
  ·subst hE;cases x<;>first|(cases hx;done)|(cases y<;>first|rfl|(cases hy))
  ·rw[ha,take_add_one,er];rfl)
 rw[zero_add,<- hn,take_length]at e2;subst e2 e3;simp only[zF1,ue];refine Wq ?_;have e1':Jg (gT [0,1]) uU (dE fs el) ds (replicate 2 .e++[]) []=.ok (res,[x,y]):=e1;have hb':(zk (replicate 2 DV.Slot.e++[]) [x,y]).drop 2=[]:=rfl;simp only[ZJ,hi,wz,zK,Tg.m,zAt,e1',hb',zH]
def e_sum{ts:List Nat}{B:Nat}(hB:0<B)(hb:B*B<Big)(ht:ts.sum<Big):ym [.v (.l (ts.map λa=>nn a B))]=.ok (.v (nn ts.sum B),O1):=by
 obtain⟨E',f1,t2,hE,_⟩:=jG (tg:=gN 2) (body:=dB JN wb) (λi E=>∃t2,E=[.v (.l (ts.map λa=>nn a B)),.v (nn (ts.take i).sum B),t2]/\jS t2=true) (ts.map λa=>nn a B) 0 [.v (.l (ts.map λa=>nn a B)),.v (.t [.int 0,.int 1]),.e] ⟨.e,by rw[<- WK hB];rfl,rfl⟩
  (λi d q E ⟨t2,hE,q2⟩=>by
   rw[zero_add]at hE ⊢;rw[getElem?_map,Option.map_eq_some_iff]at q;obtain⟨a,ea,rfl⟩:=q;have et:ts.take (i+1)=ts.take i++[a]:=by rw[take_add_one,ea];rfl
   have hs:(ts.take (i+1)).sum=(ts.take i).sum+a:=by rw[et,sum_append];simp
   have hle:(ts.take i).sum+a<=ts.sum:=by
    have:=congrArg List.sum (List.take_append_drop (i+1) ts);rw[sum_append,hs]at this;omega
   have pl:=zDX (a:=(ts.take i).sum) (b:=B) (c:=a) (d:=B) (T:=(ts.take i).sum+a) (B:=B) hB hB hB (by omega) (by omega) hb (by grind);rw[<- hs]at pl;refine⟨[.v (.l (ts.map λa=>nn a B)),.v (nn (ts.take i).sum B),.v (nn a B)],_,?_,zi (yd (zP (F:=yF) rfl (zA rfl) (zA rfl) pl) rfl),_,rfl,rfl⟩;subst hE;cases t2<;>first|rfl|(cases q2))
 rw[length_map,zero_add,take_length]at hE;subst hE;exact yO (zG (yd GA rfl) (zG (QP (tg:=.n 2) (zA rfl) rfl f1) (zi (yP (zA rfl))))) rfl
theorem zDi:∀L:List St,G8 (L.map kS)=some (L.map kK)
 | []=>rfl|q::L=>by simp only[map_cons,G8,j8,zDi L]
theorem zDj(v:St->D):∀(L A:List St),(A++L).Nodup->zAq (L.map kK) (L.map v) (A.map kK,A.map v)=((A++L).map kK,(A++L).map v)
 | [],A,_=>by simp[zAq]
 |q::L,A,h=>by
  have hq:q∉A:=λm=>(nodup_append.mp h).2.2 q m q qE rfl
  have p:=vC v q (v q) A;rw[WL hq]at p;have e:((A++[q]).map λx=>if x=q then v q else v x)=(A++[q]).map v:=map_congr_left λx _=>by
   split
   ·rename_i c;rw[c]
   ·rfl
  rw[e]at p;have ih:=zDj v L (A++[q]) (by simpa using h);simp only[map_cons,zAq,p];rw[ih];simp
section
variable{die:List Nat}{s k o l:Nat}
def zDk{N:Nat}(h:0<N):nn N N=.t [.int 1,.int 1]:=by
 rw[W9,tp,bt,Nat.gcd_self,div_self h];rfl
abbrev vP(die:List Nat)(s k o l:Nat)(x:St):D:=nn (pn die s k o l x) (Nn die s k o l)
abbrev frG(die:List Nat)(s k o l:Nat)(s8 s9 s10 s11:DV.Slot):zM:=[.v (ZW die s k o l),.v (.t (pap die s k o l)),.v (.l ((L0 s k o l).map kS)),.v (ZB die),.v (.int (s:Nat)),.v (.int (k:Nat)),.v (.int (o:Nat)),.v (.int (l:Nat)),s8,s9,s10,s11]
abbrev dG'(die:List Nat)(s k o l:Nat):D:=.dct ((KS s k o l).map kK) ((KS s k o l).map (vP die s k o l))
abbrev chs(die:List Nat):List D:=die.map λw=>nn w die.sum
def get_w{t:Nat}(ht:t<die.length):die[t]?=some (wN die t):=by
 show die[t]?=some (die.getD t 0)
 rw[getD_eq_getElem?_getD,getElem?_eq_getElem ht];rfl
def zFO(h:Mt die s k o l){x:St}(hx:x∈L0 s k o l)(s8 s9 s11:DV.Slot)(h8:s8=.dct ((KS s k o l).map kK) ((KS s k o l).map (vP die s k o l))\/s8=.v (dG' die s k o l))(h9:s9=.own (chs die)\/s9=.v (.l (chs die)))(h11:jS s11=true) :
  dB zg wD (frG die s k o l s8 s9 (.v (kS x)) s11)=.ok (.nx,frG die s k o l (.v (dG' die s k o l)) (.v (.l (chs die))) (.v (kS x)) (.v (.l ((List.range die.length).map λt=>vP die s k o l (nx s o x t))))):=by
 have S27:=h.ds.S27;have hN:=Y7 h;have c:=zDn h;have hm:die.length<=3:=by rcases h.d.1 with e|e<;>omega
 have xl:dE zg (.frd 8 (.cB .len (.cons (.var 3) .nil))) (frG die s k o l s8 s9 (.v (kS x)) s11)=.ok (.v (.int (die.length:Nat)),frG die s k o l (.v (dG' die s k o l)) s9 (.v (kS x)) s11):=by
  rcases h8 with rfl|rfl
  ·exact zGE rfl rfl (Jb (zB (zA rfl) zN) (ZV die))
  ·exact x_frdV rfl (Jb (zB (zA rfl) zN) (ZV die))
 have hi:dI zg (.iR1 (.cons (.frd 8 (.cB .len (.cons (.var 3) .nil))) .nil)) (frG die s k o l s8 s9 (.v (kS x)) s11)=.ok (N (List.range die.length),frG die s k o l (.v (dG' die s k o l)) s9 (.v (kS x)) s11):=by
  have:=i_R1 (fs:=zg) (a:=.cons (.frd 8 (.cB .len (.cons (.var 3) .nil))) .nil) (j:=(die.length:Int)) (zB xl zN) rfl ⟨by omega,by omega⟩;rw[Int.toNat_natCast,zGD]at this;exact this
 have cf:dE zg (.comp 1 ["thrown"] ["shares","match","stand"] [8,0,10] (.iR1 (.cons (.frd 8 (.cB .len (.cons (.var 3) .nil))) .nil)) (.n 0) .tTr (.dgO 1 (.call 2 (.ev (.var 2) (.ev (.var 3) (.ev (.var 0) .nil)))))) (frG die s k o l s8 s9 (.v (kS x)) s11)=.ok (.own ((List.range die.length).map λt=>vP die s k o l (nx s o x t)),frG die s k o l (.v (dG' die s k o l)) s9 (.v (kS x)) s11):=by
  refine GE (ss:=[.v (dG' die s k o l),.v (ZW die s k o l),.v (kS x)]) hi rfl rfl (λi d hd=>?_) (by simp[N]) (by simp[N,cap];omega) (λx=>rfl);obtain⟨t,ht,rfl⟩:=N_at hd;obtain⟨hl,e⟩:=qG.mp ht;rw[List.getElem_range]at e;subst e;rw[length_range]at hl;refine⟨_,QS (q:=kK (nx s o x i)) rfl (.inr rfl) (yo (F:=yZ) rfl (zA rfl) (zA rfl) (zA rfl) (J2 x i)) (j8 (nx s o x i)) (wx (vP die s k o l) (vD.mpr (zFK h hx i))),?_⟩;rw[getElem?_map,getElem?_range hl];rfl
 have hz:dI zg (.iZ false false (.cons (.var 9) (.cons (.var 11) .nil))) (frG die s k o l (.v (dG' die s k o l)) s9 (.v (kS x)) (.own ((List.range die.length).map λt=>vP die s k o l (nx s o x t))))=.ok (zipWith zCw (chs die) ((List.range die.length).map λt=>vP die s k o l (nx s o x t)),frG die s k o l (.v (dG' die s k o l)) (.v (.l (chs die))) (.v (kS x)) (.v (.l ((List.range die.length).map λt=>vP die s k o l (nx s o x t))))) :=
  i_Z (zB (x_vA h9 rfl rfl) (zB (Y3 rfl rfl) zN)) rfl rfl
 have bS:die.sum<2^10:=lt_of_le_of_lt S27.2 (by decide);have ct:dE zg (.comp 2 ["chance","share"] [] [] (.iZ false false (.cons (.var 9) (.cons (.var 11) .nil))) (.t [0,1]) .tTr (.call 1 (.ev (.var 0) (.ev (.var 1) .nil)))) (frG die s k o l (.v (dG' die s k o l)) s9 (.v (kS x)) (.own ((List.range die.length).map λt=>vP die s k o l (nx s o x t))))=.ok (.own (((List.range die.length).map λt=>wN die t*pn die s k o l (nx s o x t)).map λa=>nn a (die.sum*Nn die s k o l)),frG die s k o l (.v (dG' die s k o l)) (.v (.l (chs die))) (.v (kS x)) (.v (.l ((List.range die.length).map λt=>vP die s k o l (nx s o x t))))):=by
  refine zFN hz (λi d hd=>?_) (by simp) (by simp[cap];omega);have hl:i<die.length:=by
   have:=(qG.mp hd).1;rw[List.length_zipWith,length_map,length_map,length_range]at this;omega
  have hw:=get_w hl;have e1:(chs die)[i]?=some (nn (wN die i) die.sum):=by rw[getElem?_map,hw];rfl
  have e2:((List.range die.length).map λt=>vP die s k o l (nx s o x t))[i]?=some (vP die s k o l (nx s o x i)):=by rw[getElem?_map,getElem?_range hl];rfl
  rw[List.getElem?_zipWith,e1,e2]at hd;have w9:=(Qa h hl).2.1;have pl:=pn_le h (zFK h hx i);have et:=zBB (a:=wN die i) (b:=die.sum) (c:=pn die s k o l (nx s o x i)) (d:=Nn die s k o l) (T:=wN die i*pn die s k o l (nx s o x i)) (B:=die.sum*Nn die s k o l) (by omega) hN (mul_pos (by omega) hN) (lB (m:=10) (lt_of_le_of_lt w9 (by decide)) (by omega)) (lB (lt_of_le_of_lt pl c) (by omega)) (lB (mB bS c) (by omega)) rfl;refine⟨nn (wN die i) die.sum,vP die s k o l (nx s o x i),.v (nn (wN die i*pn die s k o l (nx s o x i)) (die.sum*Nn die s k o l)),(qJ hd).symm,zP (F:=zo) rfl (zA rfl) (zA rfl) et,?_⟩;rw[getElem?_map,getElem?_map,getElem?_range hl];rfl
 have q:=eqn h hx;have pl:=pn_le h (.inl hx);have hsl:die.sum*pn die s k o l x<2^(10+101):=mB bS (lt_of_le_of_lt pl c);have es:=e_sum (ts:=(List.range die.length).map λt=>wN die t*pn die s k o l (nx s o x t)) (B:=die.sum*Nn die s k o l) (mul_pos (by omega) hN) (lB (mB (mB bS c) (mB bS c)) (by omega)) (by rw[q];exact lB hsl (by omega));rw[q]at es;have en:nn (die.sum*pn die s k o l x) (die.sum*Nn die s k o l)=vP die s k o l x:=zBe (mul_pos (by omega) hN) hN (by grind);rw[en]at es;have gx:=wx (vP die s k o l) (vD.mpr (.inl hx):x∈KS s k o l);refine zG (E1:=frG die s k o l (.v (dG' die s k o l)) s9 (.v (kS x)) (.own ((List.range die.length).map λt=>vP die s k o l (nx s o x t)))) (yd cf (ju rfl h11 rfl)) ?_;exact zi (yw (t_E (yl (QS (q:=kK x) rfl (.inr rfl) (zA rfl) (j8 x) gx) (zd (F:=ym) rfl ct es) (zBC _ _))) yx)
def Qb(h:Mt die s k o l):j7 [.v (ZW die s k o l),.v (.t (pap die s k o l))]=.ok (.v (.bl true),O2):=by
 have S27:=h.ds.S27;have hN:=Y7 h;have c:=zDn h;have hl:=QZ h;have es:=GI h;rw[SL_eq]at es
 let E0:DV.Slot->zM:=λs2=>[.v (ZW die s k o l),.v (.t (pap die s k o l)),s2,.e,.e,.e,.e,.e,.e,.e,.e,.e]
 have ln1:zBP [.t (pap die s k o l)]=some (.v (.int ((L0 s k o l).length:Nat))):=by simp only[zBP,pap,length_map]
 have ln2:zBP [.l ((L0 s k o l).map kS)]=some (.v (.int ((L0 s k o l).length:Nat))):=by simp only[zBP,length_map]
 have nel:neG (.int ((L0 s k o l).length:Nat)) (.int ((L0 s k o l).length:Nat))=some (.v (.bl false)):=by rw[ne_int,decide_eq_true rfl];rfl
 have cg:dE zg (.cB .all (.cons (.comp 1 ["share"] [] [] (.iT (.var 1)) (.n 0) .tTr (.call 4 (.ev (.var 0) .nil))) .nil)) (E0 (.v (.l ((L0 s k o l).map kS))))=.ok (.v (.bl true),E0 (.v (.l ((L0 s k o l).map kS)))) :=
  Jb (zB (wI (ds:=pap die s k o l) (vs:=[]) (λd=>.bl ((λ_=>true) d)) (i_T (zA rfl) rfl) rfl (λd hd=>by
   obtain⟨x,_,rfl⟩:=mem_map.mp hd;exact⟨_,zd (F:=j0) rfl (zA rfl) (good_nn _ hN (lB c (by omega))),rfl⟩) (by rw[length_map];simp only[cap];omega) rfl) zN) (zA0 (f:=λ_=>true) (by simp))
 have dz:G9 false true [.l ((L0 s k o l).map kS),.t (pap die s k o l)]=some (.dct ((L0 s k o l).map kK) ((L0 s k o l).map (vP die s k o l))):=by
  have z:=zDj (vP die s k o l) (L0 s k o l) [] (zFJ h);simp only[map_nil,nil_append]at z;simp only[G9,Qt,zDi];rw[if_pos ⟨by simp[pap],by simp;omega⟩];show some (R.dct (zAq ((L0 s k o l).map kK) ((L0 s k o l).map (vP die s k o l)) ([],[])).1 (zAq ((L0 s k o l).map kK) ((L0 s k o l).map (vP die s k o l)) ([],[])).2)=_;rw[z]
 have mk:∀(q:St) (d:D),vP die s k o l q=d->(λx=>if x=q then d else vP die s k o l x)=vP die s k o l:=λq d e=>by
  funext x
  split
  ·rename_i c;rw[c,e]
  ·rfl
 have p1:=vC (vP die s k o l) (some (s,k)) (.t [.int 1,.int 1]) (L0 s k o l);rw[add1 h,mk _ _ (by show nn (pn die s k o l (some (s,k))) _=_;rw[pn_E1,zDk hN])]at p1;have p2:=vC (vP die s k o l) (some (o,l)) (.t [.int 0,.int 1]) (L0 s k o l++[some (s,k)]);rw[add2 h,mk _ _ (by show nn (pn die s k o l (some (o,l))) _=_;rw[pn_E0 h.ne];exact WK hN)]at p2;have cc:dE zg (.comp 1 ["weight"] ["die"] [3] (.iT (.var 3)) (.n 0) .tTr (.call 3 (.ev (.var 0) (.ev (.cB .sum (.cons (.var 1) .nil)) .nil)))) (frG die s k o l (.dct ((KS s k o l).map kK) ((KS s k o l).map (vP die s k o l))) .e .e .e)=.ok (.own (chs die),frG die s k o l (.dct ((KS s k o l).map kK) ((KS s k o l).map (vP die s k o l))) .e .e .e):=by
  refine GE (ss:=[.v (ZB die)]) (i_T (zA rfl) rfl) rfl rfl (λi d hd=>?_) (by simp[N]) (by rw[GC];simp only[cap];rcases h.d.1 with e|e<;>omega) (λx=>rfl)
  obtain⟨t,ht,rfl⟩:=N_at hd;refine⟨_,zP (F:=zS) rfl (zA rfl) (Jb (zB (zA rfl) zN) (zBc die)) (Y5 t die.sum (by omega) (lB (m:=10) (lt_of_le_of_lt S27.2 (by decide)) (by omega))),?_⟩;rw[getElem?_map,ht];rfl
 obtain⟨E',f1,t8,t9,t10,t11,hE,_⟩:=jG (tg:=gN 10) (body:=dB zg wD) (λ_ E=>∃t8 t9 t10 t11,E=frG die s k o l t8 t9 t10 t11/\(t8=.dct ((KS s k o l).map kK) ((KS s k o l).map (vP die s k o l))\/t8=.v (dG' die s k o l))/\(t9=.own (chs die)\/t9=.v (.l (chs die)))/\jS t10=true/\jS t11=true) ((L0 s k o l).map kS) 0 (frG die s k o l (.dct ((KS s k o l).map kK) ((KS s k o l).map (vP die s k o l))) (.own (chs die)) .e .e) ⟨_,_,_,_,rfl,.inl rfl,.inl rfl,rfl,rfl⟩
  (λi d q E ⟨t8,t9,t10,t11,hE,q8,q9,q10,q11⟩=>by
   rw[getElem?_map,Option.map_eq_some_iff]at q;obtain⟨x,ex,rfl⟩:=q;refine⟨frG die s k o l t8 t9 (.v (kS x)) t11,_,?_,zFO h (mem_of_getElem? ex) t8 t9 t11 q8 q9 q11,_,_,_,_,rfl,.inr rfl,.inr rfl,rfl,rfl⟩;subst hE;cases t10<;>first|rfl|(cases q10))
 subst hE;refine yO (r:=.v (.bl true)) (E1:=frG die s k o l t8 t9 t10 t11) ?_ rfl;refine zG (E1:=E0 (.own ((L0 s k o l).map kS))) (yd (zd (F:=yG) rfl (zA rfl) es) rfl) ?_;refine zG (E1:=E0 (.v (.l ((L0 s k o l).map kS)))) (yw (zBX (jN (t_E (x_is (zA rfl) rfl rfl)) rfl) (t_E (yl (Jb (zB (zA rfl) zN) ln1) (Jb (zB (Y3 rfl rfl) zN) ln2) nel))) yx) ?_;refine zG (yw (jN (t_E cg) rfl) yx) ?_;refine zG (E1:=frG die s k o l .e .e .e .e) (zAB (zA rfl) rfl) ?_;refine zG (E1:=frG die s k o l (.dct ((L0 s k o l).map kK) ((L0 s k o l).map (vP die s k o l))) .e .e .e) (yd (r:=.dct _ _) (x_dzip (zB (zA rfl) (zB (zA rfl) zN)) dz) rfl) ?_;refine zG (E1:=frG die s k o l (.dct ((L0 s k o l++[some (s,k)]).map kK) ((L0 s k o l++[some (s,k)]).map (vP die s k o l))) .e .e .e) (W5 (q:=kK (some (s,k))) (p:=(_,_)) rfl GA (jg (zB (zA rfl) (zB (zA rfl) zN)) rfl yJ) rfl (kl (by omega)) p1 rfl) ?_;refine zG (E1:=frG die s k o l (.dct ((KS s k o l).map kK) ((KS s k o l).map (vP die s k o l))) .e .e .e) (W5 (q:=kK (some (o,l))) (p:=(_,_)) rfl GA (jg (zB (zA rfl) (zB (zA rfl) zN)) rfl yJ) rfl (kl (by simp;omega)) p2 rfl) ?_;refine zG (E1:=frG die s k o l (.dct ((KS s k o l).map kK) ((KS s k o l).map (vP die s k o l))) (.own (chs die)) .e .e) (yd cc rfl) ?_;exact zG (QP (tg:=.n 10) (zA rfl) rfl f1) (zi (yP x_c))
end
def zBD{a b c d:Nat}(hb:0<b)(hd:0<d)(la:a<Big)(lb:b<Big)(lc:c<Big)(ld:d<Big)(h:a*d<=c*b):zq [.v (nn a b),.v (nn c d)]=.ok (.v (.bl true),O2):=by
 have q:=(le_cr (a:=a) (b:=b) (c:=c) (d:=d) hb hd).mpr h;have x1:=GP a b;have x2:=YI a b;have x3:=GP c d;have x4:=YI c d;rw[W9 a b,W9 c d];generalize tp a b=p1 at *;generalize bt a b=p2 at *;generalize tp c d=p3 at *;generalize bt c d=p4 at *;have m1:=jh (a:=p1) (b:=p4) (by omega) (by omega);have m2':=jh (a:=p3) (b:=p2) (by omega) (by omega);have l:=le_nat (p1*p4) (p3*p2);rw[decide_eq_true q]at l;exact yO (zi (yP (yl (zh (yj (r:=.v (.int (p1:Nat))) (zA rfl) x_c rfl) (yj (r:=.v (.int (p4:Nat))) (zA rfl) x_c rfl) m1) (zh (yj (r:=.v (.int (p3:Nat))) (zA rfl) x_c rfl) (yj (r:=.v (.int (p2:Nat))) (zA rfl) x_c rfl) m2') l))) rfl
section
variable{die:List Nat}{s k o l:Nat}
def S150(h:Mt die s k o l){n:Nat}(hn:n<=30):die.sum^n<2^150 :=
 lt_of_le_of_lt (pow_le_pow_left h.ds.S27.2 n) (lt_of_le_of_lt (Nat.pow_le_pow_right (by omega) hn) (by decide +kernel))
def Sp(h:Mt die s k o l)(n:Nat):0<die.sum^n:=pow_pos (by have:=h.ds.S27;omega)
def l200{a:Nat}(h:a<2^150):a<2^200:=lt_trans h (by decide +kernel)
def zFP(h:Mt die s k o l):yh [.v (nn (Yn die s k o l) (Nn die s k o l)),.v (nn (Yn die o l s k) (Nn die o l s k))]=.ok (.v (.t [.int 1,.int 1]),O2):=by
 have c:=zDn h;have e':nn (Yn die o l s k) (Nn die o l s k)=nn (Xn die s k o l) (Nn die s k o l):=by rw[show Nn die o l s k=Nn die s k o l from N_sw];rfl
 rw[e'];have hN:=Y7 h;have y:Yn die s k o l<=Nn die s k o l:=le_add_left _ _;have x:Xn die s k o l<=Nn die s k o l:=le_add_right _ _;have c2:Nn die s k o l<2^200:=lt_trans c (by decide +kernel);have e:=vF (a:=Yn die s k o l) (c:=Xn die s k o l) hN c2 (lt_of_le_of_lt y c2) (lt_of_le_of_lt x c2);rw[show Yn die s k o l+Xn die s k o l=Nn die s k o l from add_comm _ _]at e;rw[e,show nrm ((Nn die s k o l:Nat):Int) (Nn die s k o l)=.t [.int 1,.int 1]from zDk hN]
def MT_sw:MT die o l s k=MT die s k o l:=by
 show nn _ _=nn _ _
 rw[N_sw,mul_comm]
def Mt.up(h:Mt die s k o l)(hk:k<6):Mt die s (k+1) o l:=⟨h.d,h.hs,h.ho,h.ne,by omega,h.hl⟩
def up_here(h:Mt die s k o l)(hk:k<6):zq [.v (nn (Yn die s (k+1) o l) (Nn die s (k+1) o l)),.v (nn (Yn die s k o l) (Nn die s k o l))]=.ok (.v (.bl true),O2):=by
 have h':=h.up hk;have c:=zDn h;have c':=zDn h';have y:Yn die s k o l<=Nn die s k o l:=le_add_left _ _;have y':Yn die s (k+1) o l<=Nn die s (k+1) o l:=le_add_left _ _;refine zBD (Y7 h') (Y7 h) (lB (lt_of_le_of_lt y' c') (by omega)) (lB c' (by omega)) (lB (lt_of_le_of_lt y c) (by omega)) (lB c (by omega)) ?_;have e1:Pn die.sum (wN die s) (k+1) 0=Pn die.sum (wN die s) k 0*wN die s+die.sum^(0+k+1):=rfl;have e2:Yn die s (k+1) o l=Yn die s k o l*wN die s:=by unfold Yn;rw[pow_succ,mul_assoc]
 have e3:Xn die s (k+1) o l=Xn die s k o l*wN die s+die.sum^(0+k+1)*wN die o^l:=by unfold Xn;rw[e1];grind
 unfold Nn;rw[e2,e3];have:Yn die s k o l*wN die s*(Xn die s k o l+Yn die s k o l)+Yn die s k o l*(die.sum^(0+k+1)*wN die o^l)=Yn die s k o l*(Xn die s k o l*wN die s+die.sum^(0+k+1)*wN die o^l+Yn die s k o l*wN die s):=by grind
 omega
def up_A(h:Mt die s k o l){n:Nat}(hn:n+1<=30){x:St}(e:En s k o l x):zq [.v (nn (A die s k o l n x) (die.sum^n)),.v (nn (A die s k o l (n+1) x) (die.sum^(n+1)))]=.ok (.v (.bl true),O2):=by
 have s1:=S150 h (n:=n) (by omega);have s2:=S150 h (n:=n+1) hn;refine zBD (Sp h _) (Sp h _) (lB (lt_of_le_of_lt (zDY h n x) s1) (by omega)) (lB s1 (by omega)) (lB (lt_of_le_of_lt (zDY h (n+1) x) s2) (by omega)) (lB s2 (by omega)) ?_;rw[pow_succ,mul_comm (die.sum^n),<- mul_assoc];exact Nat.mul_le_mul_right _ (A_up h n e)
def up_R(h:Mt die s k o l){n:Nat}(hn:n+1<=30):zq [.v (nn (RR die s k o l (n+1)) (die.sum^(n+1))),.v (nn (RR die s k o l n) (die.sum^n))]=.ok (.v (.bl true),O2):=by
 have s1:=S150 h (n:=n) (by omega);have s2:=S150 h (n:=n+1) hn;refine zBD (Sp h _) (Sp h _) (lB (lt_of_le_of_lt (RR_le h (n+1)) s2) (by omega)) (lB s2 (by omega)) (lB (lt_of_le_of_lt (RR_le h n) s1) (by omega)) (lB s1 (by omega)) ?_;rw[pow_succ,mul_comm (die.sum^n),<- mul_assoc];exact Nat.mul_le_mul_right _ (RR_down h n)
def zFQ(h:Mt die s k o l){n:Nat}(hn:n<=30):zq [.v (nn (A die s k o l n (some (s,k))) (die.sum^n)),.v (nn (Yn die s k o l) (Nn die s k o l))]=.ok (.v (.bl true),O2):=by
 have s1:=S150 h (n:=n) hn;have c:=zDn h;have y:Yn die s k o l<=Nn die s k o l:=le_add_left _ _;exact zBD (Sp h _) (Y7 h) (lB (lt_of_le_of_lt (zDY h n _) s1) (by omega)) (lB s1 (by omega)) (lB (lt_of_le_of_lt y c) (by omega)) (lB c (by omega)) (A_first h n)
def sum_1(h:Mt die s k o l){n:Nat}(hn:n<=30):yh [.v (nn (A die s k o l n (some (s,k))) (die.sum^n)),.v (nn (A die s k o l n (some (o,l))) (die.sum^n))]=.ok (.v (nn (A die s k o l n (some (s,k))+A die s k o l n (some (o,l))) (die.sum^n)),O2)/\yh [.v (nn (A die s k o l n (some (s,k))+A die s k o l n (some (o,l))) (die.sum^n)),.v (nn (RR die s k o l n) (die.sum^n))]=.ok (.v (.t [.int 1,.int 1]),O2):=by
 have s1:=S150 h (n:=n) hn;have t:=three h n;have b:∀{x:Nat},x<=die.sum^n->x<2^200:=λhx=>l200 (lt_of_le_of_lt hx s1)
 refine⟨vF (Sp h n) (l200 s1) (b (zDY h n _)) (b (zDY h n _)),?_⟩;have e:=vF (a:=A die s k o l n (some (s,k))+A die s k o l n (some (o,l))) (c:=RR die s k o l n) (Sp h n) (l200 s1) (b (by omega)) (b (RR_le h n));rw[t]at e;rw[e,show nrm ((die.sum^n:Nat):Int) (die.sum^n)=.t [.int 1,.int 1]from zDk (Sp h n)]
def ans_sw(n:Nat):ans die o l s k n=.t [nn (A die s k o l n (some (o,l))) (die.sum^n),nn (A die s k o l n (some (s,k))) (die.sum^n),nn (RR die s k o l n) (die.sum^n)]:=by
 unfold ans;rw[show A die o l s k n (some (o,l))=A die s k o l n (some (o,l))from A_sw n _,show A die o l s k n (some (s,k))=A die s k o l n (some (s,k))from A_sw n _,show RR die o l s k n=RR die s k o l n from RR_sw n]
def Mt.one(h:Mt die s k o l):Mt die s 1 o 1:=⟨h.d,h.hs,h.ho,h.ne,by omega,by omega⟩
def MT_one(h:Mt die s k o l):MT die s 1 o 1=nn die.sum (wN die s+wN die o):=by
 have e:∀w,Pn die.sum w 1 0=die.sum:=λw=>by show 0*w+die.sum^(0+0+1)=_;simp
 refine zBe (Y7 h.one) (by have:=Qa h h.hs;omega) ?_;have eN:Nn die s 1 o 1=die.sum*wN die o+die.sum*wN die s:=by
  show Pn die.sum (wN die s) 1 0*wN die o^1+Pn die.sum (wN die o) 1 0*wN die s^1=_
  rw[e,e,Nat.pow_one,Nat.pow_one]
 rw[e,e,eN]
 grind
abbrev frL(v c:DV.Slot)(p:List D)(die:List Nat)(s k o l:Nat)(s9 s10 s11 s12 s13 s14:DV.Slot):zM:=[v,c,.own p,.v (ZW die s k o l),.v (ZB die),.v (.int (s:Nat)),.v (.int (k:Nat)),.v (.int (o:Nat)),.v (.int (l:Nat)),s9,s10,s11,s12,s13,s14]
def InC(v:D)(E:zM):Prop:=∃s1 s2 s3 s4 s5 s6 s7 s8 s9 s10 s11 s12 s13 s14,E=[.v v,s1,s2,s3,s4,s5,s6,s7,s8,s9,s10,s11,s12,s13,s14]/\∀x∈[s1,s2,s3,s4,s5,s6,s7,s8,s9,s10,s11,s12,s13,s14],jS x=true
end
def ne_11:neG (.t [.int 1,.int 1]) (.t [.int 1,.int 1])=some (.v (.bl false)):=zAK rfl rfl
section
variable{die:List Nat}{s k o l:Nat}
abbrev n0(die:List Nat)(s k o l n:Nat):D:=nn (A die s k o l n (some (s,k))) (die.sum^n)
abbrev n1(die:List Nat)(s k o l n:Nat):D:=nn (A die s k o l n (some (o,l))) (die.sum^n)
abbrev n2(die:List Nat)(s k o l n:Nat):D:=nn (RR die s k o l n) (die.sum^n)
def ne_ans(n:Nat):neG (.t [n1 die s k o l n,n0 die s k o l n,n2 die s k o l n]) (.t [n1 die s k o l n,n0 die s k o l n,n2 die s k o l n])=some (.v (.bl false)):=zAK rfl rfl
abbrev fst1(die:List Nat)(s k o l:Nat):D:=nn (Yn die s k o l) (Nn die s k o l)
def GR{a b c d e:D}:[a,b,c,d,e].length<=cap:=by simp[cap]
def zDl{a b c:D}:[a,b,c].length<=cap:=by simp[cap]
end
def YK{i:Nat}{is:List Nat}{d:D}{ds:List D}{E E1 E2:zM}(h:Z9 i (.v d) E=.ok E1)(k:gNs is ds E1=.ok E2):gNs (i::is) (d::ds) E=.ok E2:=by
 show(match Z9 i (.v d) E with | .ok E1=>gNs is ds E1|_=>.z)=_
 rw[h];exact k
def cell_ok(v:D)(c:Int)(t2 t3 t4 t5 t6 t7 t8 t9 t10 t11 t12 t13 t14:DV.Slot)(hp:∀x∈[t2,t3,t4,t5,t6,t7,t8,t9,t10,t11,t12,t13,t14],jS x=true):∃E2,dB zAz Q7 [.v v,.v (.int c),t2,t3,t4,t5,t6,t7,t8,t9,t10,t11,t12,t13,t14]=.ok (.nx,E2)/\InC v E2:=by
 obtain⟨p,e1,hpn⟩:=GG c;obtain⟨die,s,k,o,l,p1,e2,hp1,h⟩:=zBa p hpn;obtain⟨r,p2,e3,l3,u3,hp2⟩:=jv p1 hp1 30 (by decide) (by decide);obtain⟨n,rfl⟩:=Int.eq_ofNat_of_zero_le l3;have hn:n+1<=30:=by omega
 have hk:=h.hk
 let V:DV.Slot:=.v v
 let C:DV.Slot:=.v (.int c)
 let cm:D:=ZW die o l s k
 have g2:=hp t2 (by simp);have g3:=hp t3 (by simp);have g4:=hp t4 (by simp);have g5:=hp t5 (by simp);have g6:=hp t6 (by simp);have g7:=hp t7 (by simp);have g8:=hp t8 (by simp);have g9:=hp t9 (by simp);have g10:=hp t10 (by simp);have g11:=hp t11 (by simp);have g12:=hp t12 (by simp);have g13:=hp t13 (by simp);have g14:=hp t14 (by simp);have es:=GI h;rw[SL_eq]at es;have em:=Z0 (ZW die s k o l) (W7 h);rw[W6 h]at em;have ep:=Y8 h;have eg:=Qb h;have ln1:zBP [.t (pap die s k o l)]=some (.v (.int ((L0 s k o l).length:Nat))):=by simp only[zBP,pap,length_map]
 have ln2:zBP [.l ((L0 s k o l).map kS)]=some (.v (.int ((L0 s k o l).length:Nat))):=by simp only[zBP,length_map]
 have nel:neG (.int ((L0 s k o l).length:Nat)) (.int ((L0 s k o l).length:Nat))=some (.v (.bl false)):=by rw[ne_int,decide_eq_true rfl];rfl
 have b1:=YJ h (n:=n) (by omega);have b2:=YJ h (n:=n+1) hn;have b3:=YJ h.sw (n:=n) (by omega);rw[ans_sw]at b3;obtain⟨s1,s2⟩:=sum_1 h (n:=n) (by omega);have mm:=wo h.sw;rw[MT_sw]at mm;have mo:=wo h.one;rw[MT_one h]at mo;have wp:=Qa h h.hs;have wq:=Qa h h.ho;have so:=vE die.sum (wN die s+wN die o) (by omega) (lt_of_le_of_lt (show wN die s+wN die o<=18 by omega) (by decide +kernel));have iw:=zDS (die:=die) (s:=s) (x:=wN die s) (get_w h.hs);have iv:=zDS (die:=die) (s:=o) (x:=wN die o) (get_w h.ho);refine⟨frL V C p2 die s k o l (.v cm) (.v (fst1 die s k o l)) (.v (.t (pap die s k o l))) (.v (.int (n:Nat))) (.v (ans die s k o l n)) (.v (ans die s k o l (n+1))),?_,_,_,_,_,_,_,_,_,_,_,_,_,_,_,rfl,λx hx=>?_⟩
 ·refine zG (E1:=[V,C,.own p,t3,t4,t5,t6,t7,t8,t9,t10,t11,t12,t13,t14]) (yd (zd (F:=y6) rfl (zA rfl) e1) (ju rfl g2 rfl)) ?_
  refine zG (E1:=[V,C,.own p1,.v (ZW die s k o l),t4,t5,t6,t7,t8,t9,t10,t11,t12,t13,t14]) (yd (zFE (F:=y8) rfl rfl e2 rfl) (ju rfl g3 rfl)) ?_;refine zG (E1:=frL V C p1 die s k o l t9 t10 t11 t12 t13 t14) (zAB (zA rfl) (YK (ju rfl g4 rfl) (YK (ju rfl g5 rfl) (YK (ju rfl g6 rfl) (YK (ju rfl g7 rfl) (YK (ju rfl g8 rfl) rfl)))))) ?_;refine zG (E1:=frL V C p1 die s k o l (.v cm) t10 t11 t12 t13 t14) (yd (jg (zB (zA rfl) (zB (zA rfl) (zB (zA rfl) (zB (zA rfl) (zB (zA rfl) zN))))) rfl GR) (ju rfl g9 rfl)) ?_;refine zG (E1:=frL V C p1 die s k o l (.v cm) (.v (fst1 die s k o l)) t11 t12 t13 t14) (yd (zd (F:=yH) rfl (zA rfl) (ji h)) (ju rfl g10 rfl)) ?_;refine zG (yw (zBX (jN (t_E (zd (F:=yr) rfl (zA rfl) em)) rfl) (t_E (yl (zP (F:=yh) rfl (zA rfl) (zd (F:=yH) rfl (zA rfl) (ji h.sw)) (zFP h)) (jg (zB x_c (zB x_c zN)) rfl yJ) ne_11))) yx) ?_;refine zG (yw (t_E (yl (zd (F:=yg) rfl (zA rfl) (wo h)) (zd (F:=yg) rfl (zA rfl) mm) (zBC _ _))) yx) ?_;refine zG (E1:=frL V C p1 die s k o l (.v cm) (.v (fst1 die s k o l)) t11 t12 t13 t14) ?_ ?_
  ·by_cases k6:k<6
   ·have lt:=zGH k 6
    rw[decide_eq_true k6]at lt;exact yw (t_and1 (t_E (yl (zA rfl) x_c lt)) (jN (t_E (zP (F:=zq) rfl (zd (F:=yH) rfl (jg (zB (zA rfl) (zB (zA rfl) (zB (zh (zA rfl) x_c (jA k 1)) (zB (zA rfl) (zB (zA rfl) zN))))) rfl GR) (ji (h.up k6))) (zA rfl) (up_here h k6))) rfl)) yx
   ·have lt:=zGH k 6
    rw[decide_eq_false k6]at lt;exact yw (t_and0 (t_E (yl (zA rfl) x_c lt))) yx
  refine zG (E1:=frL V C p1 die s k o l (.v cm) (.v (fst1 die s k o l)) (.v (.t (pap die s k o l))) t12 t13 t14) (yd (zd (F:=yf) rfl (zA rfl) ep) (ju rfl g11 rfl)) ?_;refine zG (yw (zBX (t_E (yl (zP (F:=j7) rfl (zA rfl) (zA rfl) eg) x_c rfl)) (zBX (t_E (yl (yj (zA rfl) x_c (ix_at (k:=0) rfl)) (zA rfl) (zBC _ _))) (t_E (yl (Jb (zB (zA rfl) zN) ln1) (Jb (zB (zd (F:=yG) rfl (zA rfl) es) zN) ln2) nel)))) yx) ?_;refine zG (E1:=frL V C p2 die s k o l (.v cm) (.v (fst1 die s k o l)) (.v (.t (pap die s k o l))) (.v (.int (n:Nat))) t13 t14) (yd (zE7 (F:=zm) rfl rfl x_c e3 rfl) (ju rfl g12 rfl)) ?_;refine zG (E1:=frL V C p2 die s k o l (.v cm) (.v (fst1 die s k o l)) (.v (.t (pap die s k o l))) (.v (.int (n:Nat))) (.v (ans die s k o l n)) (.v (ans die s k o l (n+1)))) (GB (zB (zP (F:=jE) rfl (zA rfl) (zA rfl) b1) (zB (zP (F:=jE) rfl (zA rfl) (zh (zA rfl) x_c (jA n 1)) b2) zN)) (YK (ju rfl g13 rfl) (YK (ju rfl g14 rfl) rfl))) ?_;have i0:∀m,ixD (ans die s k o l m) (.int 0)=some (.v (n0 die s k o l m)):=λm=>rfl
  have i1:∀m,ixD (ans die s k o l m) (.int 1)=some (.v (n1 die s k o l m)):=λm=>rfl
  have i2:∀m,ixD (ans die s k o l m) (.int 2)=some (.v (n2 die s k o l m)):=λm=>rfl
  refine zG (yw (zBX (t_E (yl (zP (F:=yh) rfl (zP (F:=yh) rfl (yj (zA rfl) x_c (i0 n)) (yj (zA rfl) x_c (i1 n)) s1) (yj (zA rfl) x_c (i2 n)) s2) (jg (zB x_c (zB x_c zN)) rfl yJ) ne_11)) (jN (t_E (zP (F:=zq) rfl (yj (zA rfl) x_c (i2 (n+1))) (yj (zA rfl) x_c (i2 n)) (up_R h hn))) rfl)) yx) ?_;refine zG (yw (zBX (jN (t_E (zP (F:=zq) rfl (yj (zA rfl) x_c (i0 n)) (yj (zA rfl) x_c (i0 (n+1))) (up_A h hn (.inl rfl)))) rfl) (zBX (jN (t_E (zP (F:=zq) rfl (yj (zA rfl) x_c (i0 (n+1))) (zA rfl) (zFQ h hn))) rfl) (jN (t_E (zP (F:=zq) rfl (yj (zA rfl) x_c (i1 n)) (yj (zA rfl) x_c (i1 (n+1))) (up_A h hn (.inr rfl)))) rfl))) yx) ?_;refine zG (yw (t_E (yl (zP (F:=jE) rfl (zA rfl) (zA rfl) b3) (jg (zB (yj (zA rfl) x_c (i1 n)) (zB (yj (zA rfl) x_c (i0 n)) (zB (yj (zA rfl) x_c (i2 n)) zN))) rfl zDl) (ne_ans n))) yx) ?_;exact zi (yw (t_E (yl (zd (F:=yg) rfl (jg (zB (zA rfl) (zB (zA rfl) (zB x_c (zB (zA rfl) (zB x_c zN))))) rfl GR) mo) (zP (F:=yu) rfl (Jb (zB (zA rfl) zN) (zBc die)) (zh (yj (zA rfl) (zA rfl) iw) (yj (zA rfl) (zA rfl) iv) (jA _ _)) so) (zBC _ _))) yx)
 ·simp only[mem_cons,mem_nil_iff,or_false]at hx
  rcases hx with rfl|rfl|rfl|rfl|rfl|rfl|rfl|rfl|rfl|rfl|rfl|rfl|rfl|rfl<;>rfl
def math52(ns:List Int)(hns:ns.length<=63):∃outs,m_law [.v (.l (ns.map D.int))]=.ok (.v (.bl true),outs):=by
 obtain⟨c,e2⟩:=vU ns;have hcut:zBQ (ns.map D.int) (some 1) (some 3)=((ns.drop (HT.sIx ns.length 0 (some 1))).take (HT.sIx ns.length ns.length (some 3)-HT.sIx ns.length 0 (some 1))).map D.int:=by
  unfold zBQ;simp[List.map_drop,List.map_take]
 generalize hk:(ns.drop (HT.sIx ns.length 0 (some 1))).take (HT.sIx ns.length ns.length (some 3)-HT.sIx ns.length 0 (some 1))=k at hcut;have hkl:k.length<=63:=by rw[<- hk];simp;omega
 have c1:slD (.l (ns.map D.int)) (some 1) (some 3)=some (.own (k.map D.int)):=by simp only[slD,hcut]
 have c2:=ZT [.int c] (k.map D.int) (by simp;omega);generalize hv:D.l (ns.map D.int)=v at e2 c1;obtain⟨E',f1,u1,u2,u3,u4,u5,u6,u7,u8,u9,u10,u11,u12,u13,u14,hE,_⟩:=jG (tg:=gN 1) (body:=dB zAz Q7) (λ_ E=>InC v E) ([.int c]++k.map D.int) 0 [.v v,.e,.e,.e,.e,.e,.e,.e,.e,.e,.e,.e,.e,.e,.e] ⟨_,_,_,_,_,_,_,_,_,_,_,_,_,_,rfl,λx hx=>by
   simp only[mem_cons,mem_nil_iff,or_false,or_self]at hx;rw[hx];rfl⟩
  (λi d q E ⟨s1,s2,s3,s4,s5,s6,s7,s8,s9,s10,s11,s12,s13,s14,hE,hs⟩=>by
   obtain⟨x,rfl⟩:∃x:Int,d=.int x:=by
    have:=mem_of_getElem? q;rcases mem_append.mp this with m|m
    ·exact⟨c,mem_singleton.mp m⟩
    ·obtain⟨x,_,rfl⟩:=mem_map.mp m;exact⟨x,rfl⟩
   obtain⟨E2,f1,f2⟩:=cell_ok v x s2 s3 s4 s5 s6 s7 s8 s9 s10 s11 s12 s13 s14 (λy hy=>hs y (qD _ hy));refine⟨[.v v,.v (.int x),s2,s3,s4,s5,s6,s7,s8,s9,s10,s11,s12,s13,s14],E2,?_,f1,f2⟩;have h1:=hs s1 (by simp);subst hE;cases s1<;>first|rfl|(cases h1))
 subst hE;refine⟨_,yO (r:=.v (.bl true)) (E1:=[.v v,u1,u2,u3,u4,u5,u6,u7,u8,u9,u10,u11,u12,u13,u14]) ?_ rfl⟩;exact zG (QP (zh (zDD (zB (zP (F:=yk) rfl (zA rfl) x_c e2) zN) rfl zAD) (x_sl (zA rfl) (o_S x_c) (o_S x_c) c1) c2) rfl f1) (zi (yP x_c))
end My
namespace My
open PySem L2 DV
def txt_lk{K:qH}{h:Heap}{mg:Str->Option Value}(X:K.In h)(G:h.Ns mainGlobals mg)(e:WS K=wants):Txt K mg :=
 have e1:=congrArg (λx:lkT=>x.1) e;have e2:=congrArg (λx:lkT=>x.2.1) e;have e3:=congrArg (λx:lkT=>x.2.2.1) e
 {n_abs:=ZR X G (ix 0 e3),n_all:=ZR X G (ix 1 e3),n_bool:=ZR X G (ix 2 e3),n_dict:=ZR X G (ix 3 e3),n_enumerate:=ZR X G (ix 4 e3),n_int:=ZR X G (ix 5 e3),n_isinstance:=ZR X G (ix 6 e3),n_len:=ZR X G (ix 7 e3),n_max:=ZR X G (ix 8 e3),n_range:=ZR X G (ix 9 e3),n_sum:=ZR X G (ix 10 e3),n_tuple:=ZR X G (ix 11 e3),n_zip:=ZR X G (ix 12 e3),c_ALL:=tt_at X G (ix 13 e3),c_NOTHING:=tt_at X G (ix 14 e3),c_NO_STAND:=tn_at X G (ix 15 e3),c_LEAST_SIGNS:=Q0 X G (ix 0 e2),c_LEAST_WEIGHT:=Q0 X G (ix 1 e2),c_MOST_AWAITED:=Q0 X G (ix 2 e2),c_MOST_MATCHED:=Q0 X G (ix 3 e2),c_MOST_PLAYED:=Q0 X G (ix 4 e2),c_MOST_SIGNS:=Q0 X G (ix 5 e2),c_MOST_WEIGHT:=Q0 X G (ix 6 e2),f_is_whole:=yT X G (ix 0 e1),f_is_whole_within:=yT X G (ix 1 e1),f_greatest_divisor:=yT X G (ix 2 e1),f_whole_power:=yT X G (ix 3 e1),f_share_good:=yT X G (ix 4 e1),f_share_of:=yT X G (ix 5 e1),f_share_plus:=yT X G (ix 6 e1),f_share_less:=yT X G (ix 7 e1),f_share_times:=yT X G (ix 8 e1),f_share_by:=yT X G (ix 9 e1),f_share_power:=yT X G (ix 10 e1),f_share_sum:=yT X G (ix 11 e1),f_die_good:=yT X G (ix 12 e1),f_need_die:=yT X G (ix 13 e1),f_need_number:=yT X G (ix 14 e1),f_need_sign:=yT X G (ix 15 e1),f_share_in_all:=yT X G (ix 16 e1),f_need_awaited:=yT X G (ix 17 e1),f_waits_list:=yT X G (ix 18 e1),f_mean_first:=yT X G (ix 19 e1),f_match_good:=yT X G (ix 20 e1),f_need_match:=yT X G (ix 21 e1),f_stands_list:=yT X G (ix 22 e1),f_stand_behind:=yT X G (ix 23 e1),f_share_paper:=yT X G (ix 24 e1),f_first_share:=yT X G (ix 25 e1),f_paper_good:=yT X G (ix 26 e1),f_mean_throws:=yT X G (ix 27 e1),f_shares_by:=yT X G (ix 28 e1),f__law_cell_at:=yT X G (ix 29 e1),f__law_next:=yT X G (ix 30 e1),f__law_pen_of:=yT X G (ix 31 e1),f__law_draw:=yT X G (ix 32 e1),f__law_share:=yT X G (ix 33 e1),f__law_add:=yT X G (ix 34 e1),f__law_die_by:=yT X G (ix 35 e1),f__law_match_by:=yT X G (ix 36 e1),f__law_upto:=yT X G (ix 37 e1),f_law:=yT X G (ix 38 e1),cl:=cl_at X G (congrArg (λx:lkT=>x.2.2.2) e)}
end My
end
open PySem PySem.W PyProof.Rows
set_option maxRecDepth 100000 in
set_option maxHeartbeats 0 in
theorem PySem.Challenge.cw_throwruns_k52_whole_who_first_holds : PySem.Challenge.rw_throwruns_k52_whole_who_first.Holds := by
 w_on;refine holds_law My.hz λsaid=>?_
 refine holds_open (q:=My.q) (loose:=My.ls) (Xt:=λs=>xlAt My.q [] s&&recOk (RowW.records (OpenLaw.row PySem.Challenge.rw_throwruns_k52_whole_who_first).toRowW) s) (XP:=XL My.q []) (Yf:=λs=>My.WS (DV.YL s.heap My.as)) (Ya:=λ_=>My.wants) (YP:=(DV.zAy My.as My.lkT My.WS My.wants).says) (N:=4504) My.hl (DV.zAy My.as My.lkT My.WS My.wants).of (DV.zAy My.as My.lkT My.WS My.wants).keeps (λs e=>xl_of s (Bool.and_eq_true_iff.mp e).1) XL.keeps (by rfl) (by rfl) (by rfl) (λs e=>recFacts_of (Bool.and_eq_true_iff.mp e).2) ?h4 ?h5 ?h6 ⟨rfl,rfl,rfl,rfl,rfl,by decide +kernel⟩ ?hw ?hc
 case h4=>rfl
 case h5=>first|assumption|decide +kernel
 case h6=>decide +kernel
 case hw=>w_witness2
 case hc=>exact DV.walkE (l:=PySem.Challenge.rw_throwruns_k52_whole_who_first) (x:="_law_script") My.math52 rfl rfl λw K mg fa h KX e G hmg=>My.law_fd hmg (My.txt_lk KX G e)
