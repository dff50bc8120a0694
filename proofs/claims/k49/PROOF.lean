import PyProof.Rows.All
import KE.KFromBytes
import KE.KSortTup
import KE.KIsAll
import PySem.Challenge.RW_throwruns_k49_matches_and_stands
set_option Elab.async false
set_option linter.all false
set_option genSizeOf false
set_option genSizeOfSpec false
set_option genInjectivity false
set_option maxRecDepth 100000
set_option maxHeartbeats 0
theorem DV.nf{P:Prop}(h:false=true):P:=absurd h Bool.false_ne_true
open List (mem_filter filterMap_cons mem_cons_self mem_cons_of_mem mem_cons mem_append mem_append_left getElem?_set_self getElem?_set_ne mem_filterMap mem_append_right append_nil nodup_cons of_mem_zip replicate length mem_of_getElem? length_append length_map size_toArray all_cons any_cons reverse_cons replicate_succ flatten_cons foldl append_assoc map_cons forIn_cons sublist_cons_self nodup_append nil_append perm_append_comm sublist_append_right length_cons perm_middle zip_cons_cons lookup_cons all_eq_true mem_nil_iff getD_eq_getElem?_getD getElem?_eq_getElem getElem_toArray getElem_mem mem_map isEmpty_iff mem_singleton length_nil set_set)
open Nat (lt_of_lt_of_le lt_irrefl ne_of_lt le_trans le_refl zero_le not_lt le_succ)
open PySem.W (clsIn typeIn findIn specialIn takesIn nsIn codeIn keepIn fnOf excIn instObj methodObj hideAll hideAll_get of_hideAll plainGet emptyDict mroIn cellsFrom_some codeRec_of callWith_K looks_findIn looks_mroIn kitOne kitCls kia_one mg_of)
open PySem.Heap (lt_size get?_push_of_some get?_push_size size_push)
noncomputable section
namespace L2
open PySem
def wO(s:Stmt):Arguments:=match s with
 | .FunctionDef _ a _ _ _ _ _ _ _ _=>a
 |_=>{posonlyargs:=[],args:=[],vararg:=none,kwonlyargs:=[],kw_defaults:=[],kwarg:=none,defaults:=[]}
def yP(s:Stmt):List Stmt:=match s with
 | .FunctionDef _ _ b _ _ _ _ _ _ _=>b
 |_=>[]
def zX(s:Stmt):Scope:=match s with
 | .FunctionDef _ _ _ _ _ _ sc _ _ _=>sc
 |_=>{kind:=.function,names:=[],isGenerator:=false,isCoroutine:=false}
end L2
namespace DV
open PySem L2
abbrev VB:List Value:=[.type "ValueError",.type "Exception",.type "BaseException",.type "object"]
def xIn(K:PySem.W.Frag)(c:Str)(C T:Addr):Bool:=(match clsIn K C with|some cd=>cd.name==c&&cd.mro==[.ref C,.ref T,.type "ValueError",.type "Exception",.type "BaseException",.type "object"]|none=>false)
 && typeIn K (.ref C)==some (.type "type")&&findIn K (.ref C) "__getattribute__" == some (some (.builtin "BaseException.__getattribute__"))&&findIn K (.ref C) "__getattr__" == some none
 && findIn K (.ref C) "__class__" == some (some (.builtin "object.__class__"))&&specialIn K (.builtin "object.__class__") "__get__" == some (some (.builtin "getset_descriptor.__get__"))&&takesIn K (.builtin "object.__class__")==some true&&!(C==T)
def tIn(K:PySem.W.Frag)(T:Addr):Bool:=(match clsIn K T with|some cd=>cd.mro==(.ref T::VB)|none=>false)&&typeIn K (.ref T)==some (.type "type")
def isFr:Obj->Bool
 |⟨_,_,.freed,_⟩=>true
 |_=>false
def Zh:List Obj->Nat->List Addr->PySem.W.Frag
 | [],_,_=>[]
 |_::_,_,[]=>[]
 |o::os,i,a::as=>match Nat.beq i a with
  |true=>(match isFr o with
   |true=>Zh os (i+1) as
   |false=>(i,o)::Zh os (i+1) as)
  |false=>Zh os (i+1) (a::as)
def wd(h:Heap)(as:List Addr):PySem.W.Frag:=Zh h.objs.toList 0 as
def FvT:Type:=Bool×Str×Str×Arguments×FuncBody×Scope×Addr×List (Str×Addr)×Value×Addr
def fvOf(b:Bool)(fd:FuncData):FvT:=(b,fd.name,fd.qualname,fd.params,fd.body,fd.scope,fd.globals,fd.closure,fd.defaults,fd.builtins)
def yQ(K:PySem.W.Frag)(n:Str):Option FvT:=match nsIn K mainGlobals n with
 |some (some (.ref a))=>(match K.lookup a with
  |some ⟨_,_,.func fd,_⟩=>some (fvOf (codeIn K fd.code n&&keepIn K (.ref a)) fd)
  |_=>none)
 |_=>none
def yb(n:Str)(st:Stmt):Option FvT:=some (fvOf true (fnOf n n (wO st) (yP st) (zX st) .none .none .none .none none .none .none))
def YH(K:PySem.W.Frag)(n:Str):Option Int:=match nsIn K mainGlobals n with
 |some (some (.int i _))=>some i
 |_=>none
def uV(K:PySem.W.Frag)(n:Str)(j:Int):Bool:=match nsIn K mainGlobals n with
 |some (some (.ref a))=>(match K.lookup a with
  |some ⟨.type t,_,.seq its _,_⟩=>t == "tuple"&&(match its.toList with
   | [.none,.int y _]=>y==j
   |_=>false)
  |_=>false)
 |_=>false
def jJ(K:PySem.W.Frag)(n:Str):Bool:=match nsIn K mainGlobals n with
 |some none=>true
 |_=>false
def wF(K:PySem.W.Frag)(n:Str):Option Addr:=match nsIn K mainGlobals n with
 |some (some (.ref a))=>some a
 |_=>none
def uW(K:PySem.W.Frag):Bool:=match K.lookup sysModules with
 |some o=>(match o.data with | .dict _ _=>true|_=>false)
 |none=>false
def zAi(K:PySem.W.Frag)(cl rs:List Str):Bool :=
 (cl.isEmpty||(match wF K "ThrowError" with
  |some T=>tIn K T&&cl.all λc=>(match wF K c with|some C=>xIn K c C T|none=>false)
  |none=>false)) &&
 (rs.all λc=>(match wF K c with|some C=>excIn K C VB "ValueError.__new__" |none=>false))&&uW K
end DV
namespace My
open PySem L2 DV
def top(i:Nat):Stmt:=PySem.Challenge.pw_throwruns_k49_matches_and_stands.main.body.getD i (.Pass ⟨0,0,0,0⟩)
abbrev Y3:Stmt:=top 13
abbrev jK:Stmt:=top 14
abbrev Y4:Stmt:=top 30
abbrev Jd:Stmt:=top 45
abbrev Je:Stmt:=top 46
abbrev we:Stmt:=top 47
abbrev wf:Stmt:=top 50
abbrev wg:Stmt:=top 49
abbrev Jf:Stmt:=top 51
abbrev wj:Stmt:=top 52
abbrev YI:Stmt:=top 53
abbrev wG:Stmt:=top 55
abbrev YJ:Stmt:=top 56
abbrev wk:Stmt:=top 57
abbrev YK:Stmt:=top 58
abbrev Jg:Stmt:=top 59
abbrev wH:Stmt:=top 60
abbrev wm:Stmt:=top 61
abbrev jj:Stmt:=top 62
abbrev wn:Stmt:=top 63
abbrev jL:Stmt:=top 64
abbrev jk:Stmt:=top 65
abbrev YL:Stmt:=top 66
abbrev s_law:Stmt:=top 67
def cl_:List Str:=["NoDie","NoRow","NoNumber","NoLine","NoMachine","NoPaper","NoText","TooGreat"]
def rs_:List Str:=["NoDie","NoRow","NoNumber","NoLine","NoMachine","NoPaper"]
def lkT:Type:=List (Option FvT)×List (Option Int)×List Bool×Bool
def YM(K:PySem.W.Frag):lkT:=([yQ K "is_whole",yQ K "is_whole_within",yQ K "die_good",yQ K "match_good",yQ K "need_match",yQ K "stands_list",yQ K "share_paper",yQ K "first_share",yQ K "paper_good",yQ K "mean_throws",yQ K "shares_by",yQ K "_law_cell_at",yQ K "_law_next",yQ K "_law_pen_of",yQ K "_law_draw",yQ K "_law_whole",yQ K "_law_kind_of",yQ K "_law_die_by",yQ K "_law_match_by",yQ K "_law_stands",yQ K "_law_match_good",yQ K "_law_no_match",yQ K "_law_told",yQ K "law"],[YH K "LEAST_SIGNS",YH K "LEAST_WEIGHT",YH K "MOST_MATCHED",YH K "MOST_SIGNS",YH K "MOST_WEIGHT"],[jJ K "ValueError",jJ K "all",jJ K "bool",jJ K "int",jJ K "isinstance",jJ K "len",jJ K "list",jJ K "max",jJ K "range",jJ K "repr",jJ K "tuple",uV K "NO_STAND" 0],zAi K cl_ rs_)
def YN:lkT:=([yb "is_whole" Y3,yb "is_whole_within" jK,yb "die_good" Y4,yb "match_good" Jd,yb "need_match" Je,yb "stands_list" we,yb "share_paper" wf,yb "first_share" wg,yb "paper_good" Jf,yb "mean_throws" wj,yb "shares_by" YI,yb "_law_cell_at" wG,yb "_law_next" YJ,yb "_law_pen_of" wk,yb "_law_draw" YK,yb "_law_whole" Jg,yb "_law_kind_of" wH,yb "_law_die_by" wm,yb "_law_match_by" jj,yb "_law_stands" wn,yb "_law_match_good" jL,yb "_law_no_match" jk,yb "_law_told" YL,yb "law" s_law],[some 2,some 1,some 6,some 3,some 9],[true,true,true,true,true,true,true,true,true,true,true,true],true)
def q0:Program:=PySem.Challenge.pw_throwruns_k49_matches_and_stands
def isLaw:Stmt->Bool
 | .FunctionDef f ..=>f == "law"
 |_=>false
def q:Program:={q0 with main:={q0.main with body:=q0.main.body.filter isLaw}}
def nameOf:Stmt->List Str
 | .FunctionDef f ..=>[f]
 | .ClassDef f ..=>[f]
 | .Assign [.Name x _] _ _=>[x]
 |_=>[]
def ls:List Str:=(q0.main.body.flatMap nameOf).filter (· != "law")
def as:List Addr:=[1,2,3,15,22,23,24,25,28,35,36,37,40,47,48,49,52,59,60,61,64,71,72,73,76,83,84,85,88,95,96,97,100,107,109,110,112,113,114,115,116,119,126,128,129,131,132,133,134,135,138,139,140,142,143,145,146,147,149,150,152,153,154,156,157,159,160,161,163,164,166,167,168,170,171,173,174,175,177,178,180,181,182,184,185,187,188,189,191,192,194,195,196,198,199,201,202,203,205,206,208,209,210,212,213,215,216,217,219,220,222,223,224,227,228,229,231,232,234,235,236,238,239,241,242,243,245,246,248,249,250,252,253,255,256,257,259,260,262,263,264,266,267,269,270,271,274,275,276,277,280,281,282,284,285,287,288,289,292,293,294,296,297,299,300,301,303,304,306,307,308,311,312,313,316,317,318,320,321,323,324,325,328,329,330,332,333,335,336,337,339,340,342,343,344,346,347,349,350,351,353,354,356,357,358,360,361,363,364,365,367,368,370,371,372,375,376,377,379,380,382,383,384,387,388,389,392,393,394,396,397,399,400,401,403,404,406,407,408,411,412]
end My
section
open PySem PySem.W PyProof.Rows
theorem My.h2{α β γ:Type}{o:Option α}{f:α->β}{g:α->γ}{b:β}{c:γ}(h1:o.map f=some b)(h2:o.map g=some c):o.map (λs=>(f s,g s))=some (b,c):=by
 cases o with
 |none=>cases h1
 |some s=>cases h1;cases h2;rfl
theorem My.hu:∀(w:World) (os:OsState),(topFrom treeTable (OpenLaw.row PySem.Challenge.rw_throwruns_k49_matches_and_stands).toRowW.prog w 6838 ⟨boot_heap w.params,#[],boot_drawn,boot_toks,os⟩).map (λs=>openSeen My.q My.ls (importedModules (OpenLaw.row PySem.Challenge.rw_throwruns_k49_matches_and_stands).toRowW.prog.main.body) (λs=>xlAt My.q [] s&&recOk (RowW.records (OpenLaw.row PySem.Challenge.rw_throwruns_k49_matches_and_stands).toRowW) s) true s)=some (openGood My.q My.ls):=by
 intro w os
 kernel_rfl
theorem My.h4{α γ:Type}{o:Option α}{g:α->List γ}{w:List γ}(n:Nat)(ha:o.map (λs=>(g s).take n)=some (w.take n))(hb:o.map (λs=>(g s).drop n)=some (w.drop n)):o.map g=some w:=by
 cases o with
 |none=>cases ha
 |some s=>exact congrArg some ((List.take_append_drop n (g s)).symm.trans ((congr (congrArg HAppend.hAppend (Option.some.inj ha)) (Option.some.inj hb)).trans (List.take_append_drop n w)))
theorem My.h5{α γ δ:Type}{o:Option α}{g:α->γ×δ}{w:γ×δ}(ha:o.map (λs=>(g s).1)=some w.1)(hc:o.map (λs=>(g s).2)=some w.2):o.map g=some w:=by
 cases o with
 |none=>cases ha
 |some s=>exact congrArg some (Prod.ext (Option.some.inj ha) (Option.some.inj hc))
theorem My.hv0:∀(w:World) (os:OsState),(topFrom treeTable (OpenLaw.row PySem.Challenge.rw_throwruns_k49_matches_and_stands).toRowW.prog w 6838 ⟨boot_heap w.params,#[],boot_drawn,boot_toks,os⟩).map (λs=>((My.YM (DV.wd s.heap My.as)).1.take 12))=some (My.YN.1.take 12):=by
 intro w os
 kernel_rfl
theorem My.hv1:∀(w:World) (os:OsState),(topFrom treeTable (OpenLaw.row PySem.Challenge.rw_throwruns_k49_matches_and_stands).toRowW.prog w 6838 ⟨boot_heap w.params,#[],boot_drawn,boot_toks,os⟩).map (λs=>((My.YM (DV.wd s.heap My.as)).1.drop 12))=some (My.YN.1.drop 12):=by
 intro w os
 kernel_rfl
theorem My.hvc:∀(w:World) (os:OsState),(topFrom treeTable (OpenLaw.row PySem.Challenge.rw_throwruns_k49_matches_and_stands).toRowW.prog w 6838 ⟨boot_heap w.params,#[],boot_drawn,boot_toks,os⟩).map (λs=>(My.YM (DV.wd s.heap My.as)).2)=some My.YN.2:=by
 intro w os
 kernel_rfl
theorem My.hv(w:World)(os:OsState):(topFrom treeTable (OpenLaw.row PySem.Challenge.rw_throwruns_k49_matches_and_stands).toRowW.prog w 6838 ⟨boot_heap w.params,#[],boot_drawn,boot_toks,os⟩).map (λs=>My.YM (DV.wd s.heap My.as))=some My.YN:=My.h5 (My.h4 12 (My.hv0 w os) (My.hv1 w os)) (My.hvc w os)
theorem My.ht:∀(w:World) (os:OsState),(topFrom treeTable (OpenLaw.row PySem.Challenge.rw_throwruns_k49_matches_and_stands).toRowW.prog w 6838 ⟨boot_heap w.params,#[],boot_drawn,boot_toks,os⟩).map (λs=>(openSeen My.q My.ls (importedModules (OpenLaw.row PySem.Challenge.rw_throwruns_k49_matches_and_stands).toRowW.prog.main.body) (λs=>xlAt My.q [] s&&recOk (RowW.records (OpenLaw.row PySem.Challenge.rw_throwruns_k49_matches_and_stands).toRowW) s) true s,My.YM (DV.wd s.heap My.as)))=some (openGood My.q My.ls,My.YN):=λw os=>My.h2 (My.hu w os) (My.hv w os)
theorem My.ho:opening (OpenLaw.row PySem.Challenge.rw_throwruns_k49_matches_and_stands).toRowW.prog=plainProg (OpenLaw.row PySem.Challenge.rw_throwruns_k49_matches_and_stands).toRowW.prog.main.scope.names:=by kernel_rfl
theorem My.hf:∀s,fenceModules? (OpenLaw.row PySem.Challenge.rw_throwruns_k49_matches_and_stands).toRowW.prog s=some s:=by
 intro s
 kernel_rfl
theorem My.hl:LeftO (OpenLaw.row PySem.Challenge.rw_throwruns_k49_matches_and_stands).toRowW.prog My.q My.ls (λs=>xlAt My.q [] s&&recOk (RowW.records (OpenLaw.row PySem.Challenge.rw_throwruns_k49_matches_and_stands).toRowW) s) (λs=>My.YM (DV.wd s.heap My.as)) (λ_=>My.YN) 6838:=by
 intro w;obtain⟨s,hs,hv⟩:=Option.map_eq_some_iff.mp (boot_open My.ho (N:=6838) rfl My.hf w);unfold openEnds;rw[hs];obtain⟨h,g,d,t,os⟩:=s;have h1:h=boot_heap w.params:=congrArg Prod.fst hv;have h2:g=#[]:=congrArg (λx=>x.2.1) hv;have h3:d=boot_drawn:=congrArg (λx=>x.2.2.1) hv;have h4:t=boot_toks:=congrArg (λx=>x.2.2.2) hv;subst h1;subst h2;subst h3;subst h4;exact My.ht w os
end
namespace L2
open PySem PySem.Spec PyProof.Rows
abbrev Key:=Sum Int Str
def keyIs:Key->Value->Bool
 | .inl k,v=>Value.isInt k v
 | .inr x,v=>Value.isStrOf x v
def keyH(w:World):Key->Int
 | .inl k=>hashInt k
 | .inr x=>hashStr w x
theorem zx:∀{k:Key} {v:Value},keyIs k v=true->(∃i t,k=Sum.inl i/\v=Value.int i t)\/(∃x t,k=Sum.inr x/\v=Value.str x t)
 | .inl i,v,h=>by
  obtain⟨t,e⟩:=Value.isInt_shape (k:=i) (v:=v) h;exact .inl ⟨i,t,rfl,e⟩
 | .inr x,v,h=>by
  obtain⟨t,e⟩:=Value.isStrOf_shape (x:=x) (v:=v) h;exact .inr ⟨x,t,rfl,e⟩
theorem key_ll(a b:Int):decide ((Sum.inl a:Key)=Sum.inl b)=(a==b):=by
 by_cases e:a=b
 ·subst e;simp
 ·have h:¬(Sum.inl a:Key)=Sum.inl b:=λq=>e (Sum.inl.inj q)
  rw[decide_eq_false h];exact(beq_eq_false_iff_ne.mpr e).symm
theorem key_rr(a b:Str):decide ((Sum.inr a:Key)=Sum.inr b)=decide (a=b):=by
 by_cases e:a=b
 ·subst e;simp
 ·have h:¬(Sum.inr a:Key)=Sum.inr b:=λq=>e (Sum.inr.inj q)
  rw[decide_eq_false h,decide_eq_false e]
theorem key_lr(a:Int)(b:Str):decide ((Sum.inl a:Key)=Sum.inr b)=false:=decide_eq_false (λq=>nomatch q)
theorem key_rl(a:Str)(b:Int):decide ((Sum.inr a:Key)=Sum.inl b)=false:=decide_eq_false (λq=>nomatch q)
def Wc(prog:Program)(w:World):PySem.KeyKind prog w Key where
 is:=keyIs
 hash:=keyH w
 inj:=λv a b ha hb=>by
  rcases zx ha with⟨i,t,rfl,rfl⟩|⟨x,t,rfl,rfl⟩
  ·rcases zx hb with⟨j,u,rfl,e⟩|⟨y,u,rfl,e⟩
   ·injection e with e1 _;rw[e1]
   ·exact nomatch e
  ·rcases zx hb with⟨j,u,rfl,e⟩|⟨y,u,rfl,e⟩
   ·exact nomatch e
   ·injection e with e1 _;rw[e1]
 byValue:=λk v h=>by
  rcases zx h with⟨i,t,rfl,rfl⟩|⟨x,t,rfl,rfl⟩<;>rfl
 pyHash:=λhv h=>by
  rcases zx hv with⟨i,t,rfl,rfl⟩|⟨x,t,rfl,rfl⟩
  ·exact wpAny_pyHash_int h
  ·exact wpAny_pyHash_str h
 eqBool:=λhu hv h=>by
  rcases zx hu with⟨i,t,rfl,rfl⟩|⟨x,t,rfl,rfl⟩
  ·rcases zx hv with⟨j,u,rfl,rfl⟩|⟨y,u,rfl,rfl⟩
   ·rw[key_ll]at h;exact wpAny_eqBool_int h
   ·rw[key_lr]at h;exact SeqAt.EqAt.int_str i t y u _ _ _ _ h
  ·rcases zx hv with⟨j,u,rfl,rfl⟩|⟨y,u,rfl,rfl⟩
   ·rw[key_rl]at h;exact SeqAt.EqAt.str_int x t j u _ _ _ _ h
   ·rw[key_rr]at h;exact wpAny_eqBool_str h
 «strs»:=λk x t v h=>by
  rcases zx h with⟨i,u,rfl,e⟩|⟨y,u,rfl,e⟩
  ·exact nomatch e
  ·injection e with e1 _
   subst e1;cases v<;>rfl
end L2
namespace L2
open PySem PySem.Spec PyProof.Rows
set_option genInjectivity true in
inductive V where
 |non|bl (b:Bool)|int (i:Int)|str (x:Str)|byt (b:Array UInt8)|flt (b:UInt64)|ref (a:Addr)|ty (n:String)
 deriving DecidableEq
def zv:V->Value->Prop
 | .non,u=>u=Value.none
 | .bl b,u=>u=Value.bool b
 | .int i,u=>∃t,u=Value.int i t
 | .str x,u=>∃t,u=Value.str x t
 | .byt b,u=>∃t,u=Value.bytes b t
 | .flt b,u=>∃t,u=Value.float b t
 | .ref a,u=>u=Value.ref a
 | .ty n,u=>u=Value.type n
abbrev zd:List V->List Value->Prop:=Paired zv
theorem zd.length{xs:List V}{us:List Value}(r:zd xs us):xs.length=us.length:=Paired.length r
theorem zd.get:∀{xs:List V} {us:List Value} {i:Nat} {x:V},zd xs us->xs[i]?=some x->∃u,us[i]?=some u/\zv x u
 |_,_,_,_,.nil,e=>by simp at e
 |_,_,0,_,.cons r _,e=>by simp at e;subst e;exact⟨_,rfl,r⟩
 |_,_,i+1,x,.cons _ t,e=>by
  obtain⟨u,h1,h2⟩:=zd.get (i:=i) (x:=x) t (by simpa using e);exact⟨u,by simpa using h1,h2⟩
theorem zd.set{x:V}{u:Value}(r:zv x u):∀{xs:List V} {us:List Value} (i:Nat),zd xs us->zd (xs.set i x) (us.set i u)
 |_,_,_,.nil=>.nil
 |_,_,0,.cons _ t=>.cons r t
 |_,_,i+1,.cons q t=>.cons q (zd.set r i t)
theorem zd.append:∀{xs ys:List V} {us ws:List Value},zd xs us->zd ys ws->zd (xs++ys) (us++ws)
 |_,_,_,_,.nil,s=>s
 |_,_,_,_,.cons r t,s=>.cons r (zd.append t s)
theorem zd.take:∀{xs:List V} {us:List Value} (n:Nat),zd xs us->zd (xs.take n) (us.take n)
 |_,_,0,_=>.nil
 |_,_,_+1,.nil=>.nil
 |_,_,n+1,.cons r t=>.cons r (zd.take n t)
theorem zd.drop:∀{xs:List V} {us:List Value} (n:Nat),zd xs us->zd (xs.drop n) (us.drop n)
 |_,_,0,r=>r
 |_,_,_+1,.nil=>.nil
 |_,_,n+1,.cons _ t=>zd.drop n t
def RelO:Option V->Option Value->Prop
 |some v,some u=>zv v u
 |none,none=>True
 |_,_=>False
def KV{κ:Type}:List (κ×V)->List (κ×Value)->Prop:=Paired λ(p:κ×V) (q:κ×Value)=>p.1=q.1/\zv p.2 q.2
def kV:Key->V
 | .inl i=>.int i
 | .inr x=>.str x
inductive HO where
 /-- a list -/
 |lst (xs:List V)
 /-- a tuple (never changes) -/
 |tup (xs:List V)
 /-- a dict whose keys are ints and texts; one whose keys are tuples of ints and texts (the empty one is both) -/
 |dK (kvs:List (Key×V))|dT (kvs:List (List Key×V))
 /-- a set of ints: its members,its size -/
 |set (S:Int->Bool) (n:Nat)
 /-- an instance of the class at C,its dict at dx,its attributes -/
 |ins (C dx:Addr) (fs:List (Str×V))
 /-- the dict of the instance at x -/
 |own (x:Addr)
 /-- the dict of an exception -/
 |xd (fs:List (Str×V))
 /-- a bound method,f of x -/
 |met (f x:Addr)
 /-- a range object lo,lo+1,.. below hi -/
 |rng (lo hi:Int)
 /-- a thing that is known to the object (the script; a dict while a loop walks it): read,never written while it is so -/
 |frz (o:Obj) (u:HO)
 /-- a code object's table -/
 |tbl (ps:Array Value)
 /-- any other thing,by what is true of its one object (a def of one's own: SetO a S n:=HO.ext fun h=>..) -/
 |ext (φ:Heap->Prop)
abbrev Hp:=Addr->Option HO
def upd(H:Hp)(a:Addr)(o:HO):Hp:=λb=>if b=a then some o else H b
theorem yX{H:Hp}{a:Addr}{o:HO}:upd H a o a=some o:=by unfold upd;rw[if_pos rfl]
theorem zp{H:Hp}{a b:Addr}{o:HO}(h:b≠a):upd H a o b=H b:=by unfold upd;rw[if_neg h]
theorem jM{H:Hp}{a b:Addr}{o:HO}(h:H a=some o)(h':H b=none):a≠b:=by
 intro e;subst e;rw[h]at h';cases h'
section
variable(P:Program)(w:World)
def ji(H:Hp)(h:Heap)(a:Addr):HO->Prop
 | .lst xs=>xs.length<=sizeLine/\∃(its:List Value) (n:Nat),zd xs its/\h.get? a=some {cls:=.type "list",data:=.seq its.toArray n}
 | .tup xs=>xs.length<=sizeLine/\∃its:List Value,zd xs its/\IsTup h a its.toArray
 | .dK kvs=>kvs.length<=sizeLine/\(a==sysModules)=false/\∃vs,KV kvs vs/\h.DictOf (Wc P w) a vs
 | .dT kvs=>kvs.length<=sizeLine/\(a==sysModules)=false/\∃xs:List (List Key×Addr×Value),
   Paired (λ(p:List Key×V) (q:List Key×Addr×Value)=>p.1=q.1/\H q.2.1=some (.tup (p.1.map kV))/\zv p.2 q.2.2) kvs xs /\
   ∃o es ep,h.get? a=some o/\o.ExactDict/\o.data=.dict es ep/\es.toList=xs.map (entryOfKey (tupleKind (Wc P w)))/\(xs.map (·.1)).Nodup
 | .set S n=>h.SetOf (intKind P w) a S n
 | .ins C dx fs=>H dx=some (.own a)/\fs.length<=1000/\dx≠a/\h.get? a=some (instObj C dx) /\
   ∃mA,h.Ns1 dx mA/\(∀f,RelO (fs.lookup f) (mA f))/\PySem.Within mA (fs.map (·.1))
 | .own _=>∃o,h.get? a=some o
 | .xd fs=>∃mA,h.Ns1 a mA/\∀f,RelO (fs.lookup f) (mA f)
 | .rng lo hi=>∃t u v,h.get? a=some {cls:=.type "range",data:=.fields #[.int lo t,.int hi u,.int 1 v]}
 | .frz o u=>h.get? a=some o/\ji H h a u
 | .tbl ps=>h.get? a=some {cls:=.none,data:=.fields ps}
 | .met f x=>h.get? a=some (methodObj (.ref f) (.ref x))
 | .ext φ=>φ h/\(∃o,h.get? a=some o)/\∀h1 h2:Heap,φ h1->(∀o,h1.get? a=some o->h2.get? a=some o)->φ h2
def HOk(H:Hp)(h:Heap):Prop:=∀a o,H a=some o->ji P w H h a o
end
section
variable{P:Program}{w:World}{H H':Hp}{h h':Heap}{a:Addr}{o:HO}
theorem ji.lt(x:ji P w H h a o):a<h.objs.size:=by
 cases o with
 |lst xs=>obtain⟨_,_,_,_,e⟩:=x;exact lt_size e
 |tup xs=>obtain⟨_,_,_,p⟩:=x;exact p.lt
 |dK kvs=>obtain⟨_,_,_,_,o,_,_,e,_⟩:=x;exact lt_size e
 |dT kvs=>obtain⟨_,_,_,_,o,_,_,e,_⟩:=x;exact lt_size e
 |set S n=>obtain⟨o,_,_,_,e,_⟩:=x;exact lt_size e
 |ins C dx fs=>obtain⟨_,_,_,e,_⟩:=x;exact lt_size e
 |own y=>obtain⟨_,e⟩:=x;exact lt_size e
 |xd fs=>obtain⟨_,⟨_,_,_,e,_⟩,_⟩:=x;exact lt_size e
 |rng lo hi=>obtain⟨_,_,_,e⟩:=x;exact lt_size e
 |frz ob u=>obtain⟨e,_⟩:=x;exact lt_size e
 |tbl ps=>exact lt_size (show h.get? a=some _ from x)
 |met f y=>exact lt_size (show h.get? a=some _ from x)
 |ext φ=>obtain⟨_,⟨_,e⟩,_⟩:=x;exact lt_size e
theorem Paired.mapP{α β:Type}{F G:α->β->Prop}:∀{l₁:List α} {l₂:List β},Paired F l₁ l₂->(∀a b,F a b->G a b)->Paired G l₁ l₂
 |_,_,.nil,_=>.nil
 |_,_,.cons r t,f=>.cons (f _ _ r) (Paired.mapP t f)
theorem ji.stay(x:ji P w H h a o)(k:∀b u,(b=a\/H b=some (.own a))->h.get? b=some u->h'.get? b=some u)
  (ho:∀b,H b=some (.own a)->H' b=some (.own a)) (ht:∀b xs,H b=some (.tup xs)->H' b=some (.tup xs)):ji P w H' h' a o:=by
 induction o with
 |lst xs=>obtain⟨z,its,n,r,e⟩:=x;exact⟨z,its,n,r,k _ _ (.inl rfl) e⟩
 |tup xs=>obtain⟨z,its,r,ob,e,c⟩:=x;exact⟨z,its,r,ob,k _ _ (.inl rfl) e,c⟩
 |dK kvs=>obtain⟨z,y,vs,r,ob,es,ep,e,c⟩:=x;exact⟨z,y,vs,r,ob,es,ep,k _ _ (.inl rfl) e,c⟩
 |dT kvs =>
  obtain⟨z,y,xs,r,ob,es,ep,e,c⟩:=x;exact⟨z,y,xs,Paired.mapP r λp q z=>⟨z.1,ht _ _ z.2.1,z.2.2⟩,ob,es,ep,k _ _ (.inl rfl) e,c⟩
 |set S n=>obtain⟨ob,es,ep,t,e,c⟩:=x;exact⟨ob,es,ep,t,k _ _ (.inl rfl) e,c⟩
 |ins C dx fs =>
  obtain⟨d,z,ne,e,mA,⟨od,es,ep,e2,c⟩,r⟩:=x;exact⟨ho _ d,z,ne,k _ _ (.inl rfl) e,mA,⟨od,es,ep,k _ _ (.inr d) e2,c⟩,r⟩
 |own y=>obtain⟨ob,e⟩:=x;exact⟨ob,k _ _ (.inl rfl) e⟩
 |xd fs=>obtain⟨mA,⟨od,es,ep,e,c⟩,r⟩:=x;exact⟨mA,⟨od,es,ep,k _ _ (.inl rfl) e,c⟩,r⟩
 |rng lo hi=>obtain⟨t,u,v,e⟩:=x;exact⟨t,u,v,k _ _ (.inl rfl) e⟩
 |frz ob u ih=>obtain⟨e,q⟩:=x;exact⟨k _ _ (.inl rfl) e,ih q⟩
 |tbl ps =>
  have e:h.get? a=some {cls:=.none,data:=.fields ps}:=x;show h'.get? a=some {cls:=.none,data:=.fields ps};exact k a _ (.inl rfl) e
 |met f y =>
  have e:h.get? a=some (methodObj (.ref f) (.ref y)):=x;show h'.get? a=some (methodObj (.ref f) (.ref y));exact k a _ (.inl rfl) e
 |ext φ=>obtain⟨p,⟨o,e⟩,st⟩:=x;exact⟨st _ _ p λo q=>k _ _ (.inl rfl) q,⟨o,k _ _ (.inl rfl) e⟩,st⟩
theorem HOk.lt(x:HOk P w H h)(e:H a=some o):a<h.objs.size:=(x a o e).lt
theorem HOk.fresh(x:HOk P w H h)(e:h.objs.size<=a):H a=none:=by
 cases q:H a with
 |none=>rfl
 |some u=>exact absurd (lt_of_lt_of_le (x.lt q) e) (lt_irrefl _)
theorem HOk.kept(x:HOk P w H h)(k:∀b u,h.get? b=some u->h'.get? b=some u):HOk P w H h':=λa o e =>
 (x a o e).stay (λb u _ q=>k b u q) (λ_ q=>q) λ_ _ q=>q
theorem HOk.laid(x:HOk P w H h)(k:∀b u,h.get? b=some u->h'.get? b=some u)(hp:h.objs.size<=a)(new:ji P w (upd H a o) h' a o):HOk P w (upd H a o) h':=λb u e=>by
 have hn:=x.fresh hp;by_cases hb:b=a
 ·subst hb;rw[yX]at e;cases e;exact new
 ·rw[zp hb]at e
  exact(x b u e).stay (λc v _ q=>k c v q) (λc q=>by rw[zp (jM q hn)];exact q) λc xs q=>by rw[zp (jM q hn)];exact q
end
def Rd(H:Hp)(a:Addr)(u:HO):Prop:=H a=some u\/∃o,H a=some (.frz o u)
theorem Rd.of{H:Hp}{a:Addr}{u:HO}(h:H a=some u):Rd H a u:=.inl h
theorem Rd.ok{P:Program}{w:World}{H:Hp}{h:Heap}{a:Addr}{u:HO}(r:Rd H a u)(x:HOk P w H h):ji P w H h a u:=by
 rcases r with r|⟨o,r⟩
 ·exact x a u r
 ·obtain⟨_,q⟩:=x a _ r
  exact q
def Mut:Option HO->Prop
 |some (.lst _)=>True
 |some (.dK _)=>True
 |some (.dT _)=>True
 |some (.set _ _)=>True
 |some (.ins _ _ _)=>True
 |some (.ext _)=>True
 |_=>False
section
variable{P:Program}{w:World}{H:Hp}{h h':Heap}{x e:Addr}{o':HO}
theorem HOk.write(ok:HOk P w H h)(mu:Mut (H x))(he:e=x\/H e=some (.own x))(k:∀b u,b≠e->h.get? b=some u->h'.get? b=some u)(heo:∃u,h'.get? e=some u)
  (new:ji P w (upd H x o') h' x o'):HOk P w (upd H x o') h':=λb u q=>by
 have nown:∀c y,H c=some (.own y)->c≠x:=λc y r z=>by subst z;rw[r]at mu;exact mu
 have ntup:∀c xs,H c=some (.tup xs)->c≠x:=λc xs r z=>by subst z;rw[r]at mu;exact mu
 by_cases hb:b=x
 ·subst hb;rw[yX]at q;cases q;exact new
 ·rw[zp hb]at q
  by_cases hbe:b=e
  ·have q':H b=some (.own x):=by
    rcases he with z|z
    ·exact absurd (hbe.trans z) hb
    ·rw[hbe];exact z
   rw[q]at q';cases q';obtain⟨v,hv⟩:=heo;exact⟨v,by rw[hbe];exact hv⟩
  ·refine(ok b u q).stay (λc v hc r=>k c v ?_ r) (λc r=>by rw[zp (nown c b r)];exact r) λc xs r=>by rw[zp (ntup c xs r)];exact r
   rcases hc with rfl|hc
   ·exact hbe
   ·rintro rfl
    rcases he with z|z
    ·exact nown c b hc z
    ·rw[hc]at z;cases z;exact hb rfl
end
structure Un(fs ex:List Addr)(H H':Hp)(h h':Heap):Prop where
 keep:∀b o,h.get? b=some o->H b=none->b∉fs->b∉ex->h'.get? b=some o
 slot:∀b o,h.get? b=some o->H b=none->b∈fs->b∉ex->∃sl,h'.get? b=some {o with slots:=sl}
 free:∀b o,h.get? b=some o->H b=none->b∉ex->H' b=none
 there:∀b o,h.get? b=some o->b∉ex->∃o',h'.get? b=some o'
 tups:∀b xs,H b=some (.tup xs)->H' b=some (.tup xs)
 frzs:∀b o u,H b=some (.frz o u)->H' b=some (.frz o u)
 tbls:∀b ps,H b=some (.tbl ps)->∃more,H' b=some (.tbl (ps++more))
section
variable{fs fs' ex ex':List Addr}{H H1 H2:Hp}{h h1 h2 h':Heap}{a x e:Addr}{o:HO}
theorem Un.any(u:Un fs ex H H1 h h1){b:Addr}{ob:Obj}(q:h.get? b=some ob)(n:H b=none)(hx:b∉ex):∃sl,h1.get? b=some {ob with slots:=sl}:=by
 by_cases hb:b∈fs
 ·exact u.slot b ob q n hb hx
 ·exact⟨ob.slots,u.keep b ob q n hb hx⟩
theorem Un.trans(a:Un fs ex H H1 h h1)(b:Un fs ex H1 H2 h1 h2):Un fs ex H H2 h h2 where
 keep:=λc ob q n hc hx=>b.keep c ob (a.keep c ob q n hc hx) (a.free c ob q n hx) hc hx
 slot:=λc ob q n hc hx=>by
  obtain⟨sl,e1⟩:=a.slot c ob q n hc hx;obtain⟨sl',e2⟩:=b.slot c _ e1 (a.free c ob q n hx) hc hx;exact⟨sl',e2⟩
 free:=λc ob q n hx=>by
  obtain⟨o',e1⟩:=a.there c ob q hx;exact b.free c o' e1 (a.free c ob q n hx) hx
 there:=λc ob q hx=>by
  obtain⟨o',e1⟩:=a.there c ob q hx;exact b.there c o' e1 hx
 tups:=λc xs q=>b.tups c xs (a.tups c xs q)
 frzs:=λc ob xs q=>b.frzs c ob xs (a.frzs c ob xs q)
 tbls:=λc ps q=>by
  obtain⟨m1,e1⟩:=a.tbls c ps q;obtain⟨m2,e2⟩:=b.tbls c _ e1;exact⟨m1++m2,by rw[e2,Array.append_assoc]⟩
theorem Un.kept(k:∀b u,h.get? b=some u->h'.get? b=some u):Un fs ex H H h h' :=
 ⟨λb ob q _ _ _=>k b ob q,λb ob q _ _ _=>⟨ob.slots,k b ob q⟩,λ_ _ _ n _=>n,λb ob q _=>⟨ob,k b ob q⟩,λ_ _ q=>q,λ_ _ _ q=>q,λ_ ps q=>⟨#[],by rw[q];simp⟩⟩
theorem Un.refl:Un fs ex H H h h:=Un.kept λ_ _ q=>q
theorem Un.laid(k:∀b u,h.get? b=some u->h'.get? b=some u)(hp:h.objs.size<=a)(hn:H a=none):Un fs ex H (upd H a o) h h' where
 keep:=λb u q _ _ _=>k b u q
 slot:=λb u q _ _ _=>⟨u.slots,k b u q⟩
 free:=λb u q n _=>by rw[zp (ne_of_lt (lt_of_lt_of_le (lt_size q) hp))];exact n
 there:=λb u q _=>⟨u,k b u q⟩
 tups:=λb xs q=>by rw[zp (jM q hn)];exact q
 frzs:=λb u xs q=>by rw[zp (jM q hn)];exact q
 tbls:=λb ps q=>⟨#[],by rw[zp (jM q hn),q];simp⟩
theorem Un.write(mu:Mut (H x))(he:e=x\/H e=some (.own x))(k:∀b u,b≠e->h.get? b=some u->h'.get? b=some u)(heo:∃u,h'.get? e=some u):Un fs ex H (upd H x o) h h':=by
 have hx:∀b,H b=none->b≠x:=λb n z=>by subst z;rw[n]at mu;exact mu
 have hb:∀b,H b=none->b≠e:=λb n z=>by
  subst z;rcases he with r|r
  ·exact hx b n r
  ·rw[n]at r;cases r
 have hm:∀b u,H b=some u->¬Mut (some u)->b≠x:=λb u q nm z=>by subst z;rw[q]at mu;exact nm mu
 refine⟨λb u q n _ _=>k b u (hb b n) q,λb u q n _ _=>⟨u.slots,k b u (hb b n) q⟩,λb u q n _=>by rw[zp (hx b n)];exact n,λb u q _=>?_,
  λb xs q=>by rw[zp (hm b _ q λz=>z)];exact q,λb u xs q=>by rw[zp (hm b _ q λz=>z)];exact q,λb ps q=>⟨#[],by rw[zp (hm b _ q λz=>z),q];simp⟩⟩
 by_cases hbe:b=e
 ·subst hbe;exact heo
 ·exact⟨u,k b u hbe q⟩
theorem Un.mono(u:Un fs ex H H1 h h1)(hs:∀b∈fs,b∈fs')(hx:∀b∈ex,b∈ex'):Un fs' ex' H H1 h h1 :=
 ⟨λb ob q n hb he=>u.keep b ob q n (λz=>hb (hs b z)) λz=>he (hx b z),λ_ _ q n _ he=>u.any q n λz=>he (hx _ z),λb ob q n he=>u.free b ob q n λz=>he (hx b z),λb ob q he=>u.there b ob q λz=>he (hx b z),u.tups,u.frzs,u.tbls⟩
end
def trk(h:Heap)(H:Hp):List Addr:=(List.range h.objs.size).filter λa=>(H a).isSome
def QR(h:Heap)(H:Hp):Heap:=hideAll h (trk h H)
theorem uX(h:Heap)(H:Hp):(QR h H).objs.size=h.objs.size:=PySem.W.hideAll_size _ _
theorem QS{h:Heap}{H:Hp}{b:Addr}{o:Obj}(e:h.get? b=some o)(n:H b=none):(QR h H).get? b=some o :=
 hideAll_get _ e λhm=>by
  have q:(H b).isSome=true:=(mem_filter.mp hm).2;rw[n]at q;simp at q
theorem of_hidT{h:Heap}{H:Hp}{b:Addr}{o:Obj}(e:(QR h H).get? b=some o):h.get? b=some o/\H b=none:=by
 have e':h.get? b=some o:=of_hideAll (trk h H) e;refine⟨e',?_⟩;cases q:H b with
 |none=>rfl
 |some x =>
  have hm:b∈trk h H:=mem_filter.mpr ⟨List.mem_range.mpr (lt_size e'),by simp[q]⟩;have z:(QR h H).get? b=none:=PySem.W.hideAll_none (trk h H) hm;rw[z]at e;cases e
def allNews(g h:Heap)(L:Addr):List (Addr×Obj):=(List.range h.objs.size).filterMap λa=>if a=L\/(g.get? a).isSome=true then none else(h.get? a).map λo=>(a,o)
def Jq(g h:Heap)(L d:Addr):List (Addr×Obj):=(allNews g h L).filter λp=>decide (p.1≠d)
end L2
namespace L2
open PySem PySem.Spec PyProof.Rows
structure Mod(K:PySem.W.Frag)(mg:Str->Option Value)(base:Heap):Prop where
 kin:K.In base
 glob:base.Ns mainGlobals mg
 blt:∃mb,base.Ns builtinsNs mb/\∀x:Str,x≠"__name__"->mb x=bootBuiltins x
 nolimit:base.NoLimit
structure Cx where
 prog:Program
 w:World
 K:PySem.W.Frag
 mg:Str->Option Value
 base:Heap
 A:Around
 N:List Str
 s₀:Shared
 H₀:Hp
 env:Env
 outer:List Env
 stack:List Env
 ex:List Addr
 fn:Str->Bool
 calm:Bool
 pn:List (Addr×Obj)
 xe:Value->Shared->Prop
def frs(l:List Env):List Addr:=l.filterMap (·.frame)
abbrev Cx.fs(X:Cx):List Addr:=frs X.outer
def Vis(sc:Scope)(x:Str):Prop:=sc.names.lookup x=some .local\/sc.names.lookup x=some .cell\/sc.names.lookup x=some .free
def Loc(sc:Scope)(x:Str):Prop:=sc.names.lookup x=some .local\/sc.names.lookup x=some .cell
def Look(env:Env)(h:Heap)(m:Str->Option Value)(x:Str)(u:Value):Prop :=
 (env.kindOf x=some .local/\m x=some u)\/((env.kindOf x=some .cell\/env.kindOf x=some .free)/\∃c,env.cells.lookup x=some c/\h.IsCell c (some u))
structure Cx.Ok(X:Cx):Prop where
 mod:Mod X.K X.mg X.base
 kind:X.env.scope.kind=.function
 glob:X.env.globals=mainGlobals
 blt:X.env.builtins=builtinsNs
 above:X.s₀.heap.objs.size<=X.env.locals
 inj:∀x y c,X.env.cells.lookup x=some c->X.env.cells.lookup y=some c->x=y
 has:∀x,(X.env.kindOf x=some .cell\/X.env.kindOf x=some .free)->∃c,X.env.cells.lookup x=some c
 cab:∀x c,X.fn x=true->X.env.cells.lookup x=some c->X.s₀.heap.objs.size<=c
 hd:X.calm=true->X.A.handled=none
 frames:X.A.frames=some X.stack
 stk:X.stack=X.outer\/(X.stack=X.env::X.outer/\X.env.frame=some X.env.locals)
 exf:∀b∈X.ex,b≠X.env.locals/\∀x c,X.env.cells.lookup x=some c->c≠b
 bs:∀b o,X.base.get? b=some o->X.s₀.heap.get? b=some o/\X.H₀ b=none
 bsz:X.base.objs.size<=X.s₀.heap.objs.size
 noex:∀b o,X.base.get? b=some o->b∉X.ex
 exfs:∀b∈X.ex,b∉X.fs
 funs:X.s₀.heap.FunFrames X.base X.outer
 frf:∀b∈X.fs,X.H₀ b=none
structure Inv(X:Cx)(pins:List (Addr×Obj))(σ:List (Option V))(H:Hp)(s:Shared):Prop where
 ok:X.Ok
 os:s.os=X.s₀.os
 bare:AllBare s.gens
 base:Un X.fs X.ex X.H₀ H X.s₀.heap s.heap
 loc:∃m,s.heap.Ns X.env.locals m/\∀(i:Nat) (x:Str) (v:V),X.N[i]?=some x->σ[i]?=some (some v)->Vis X.env.scope x->∃u,zv v u/\Look X.env s.heap m x u
 cell:∀x c,X.env.cells.lookup x=some c->∃v,s.heap.IsCell c v
 free:H X.env.locals=none
 freeC:∀x c,X.env.cells.lookup x=some c->H c=none
 pin:∀p∈X.pn++pins,s.heap.get? p.1=some p.2/\H p.1=none/\p.1≠X.env.locals/\p.1∉X.fs/\∀v,p.2.data≠.cell v
 hok:HOk X.prog X.w H s.heap
 len:σ.length=X.N.length
section
variable{X:Cx}{pins:List (Addr×Obj)}{σ:List (Option V)}{H H':Hp}{s:Shared}{h':Heap}
theorem Cx.Ok.nofr(ok:X.Ok){b:Addr}{o:Obj}(e:X.base.get? b=some o):b∉X.fs:=λhb=>by
 have:=(ok.funs.mem hb).1;rw[e]at this;cases this
theorem Inv.bs(I:Inv X pins σ H s):∀b o,X.base.get? b=some o->s.heap.get? b=some o/\H b=none:=λb o e =>
 ⟨I.base.keep b o (I.ok.bs b o e).1 (I.ok.bs b o e).2 (I.ok.nofr e) (I.ok.noex b o e),I.base.free b o (I.ok.bs b o e).1 (I.ok.bs b o e).2 (I.ok.noex b o e)⟩
theorem Inv.bk(I:Inv X pins σ H s):∀b o,X.base.get? b=some o->s.heap.get? b=some o:=λb o e=>(I.bs b o e).1
theorem Inv.mod(I:Inv X pins σ H s):Mod X.K X.mg X.base:=I.ok.mod
theorem Inv.kIn(I:Inv X pins σ H s):X.K.In s.heap:=I.ok.mod.kin.keeps I.bk
theorem Inv.nolimit(I:Inv X pins σ H s):s.heap.NoLimit:=I.ok.mod.nolimit.keeps I.bk
theorem Inv.fr(I:Inv X pins σ H s):∃m,Fr X.base X.env.locals s.heap m :=
 let ⟨m,hn,_⟩:=I.loc
 ⟨m,hn,I.bk,le_trans I.ok.bsz I.ok.above⟩
theorem Inv.lt(I:Inv X pins σ H s):X.env.locals<s.heap.objs.size:=let ⟨_,hn,_⟩:=I.loc;hn.lt
theorem Inv.sz(I:Inv X pins σ H s):X.s₀.heap.objs.size<=s.heap.objs.size:=le_trans I.ok.above (Nat.le_of_lt I.lt)
theorem Inv.nofs(I:Inv X pins σ H s){a:Addr}(h:s.heap.objs.size<=a):a∉X.fs:=λhb=>by
 obtain⟨_,o,ho,_⟩:=I.ok.funs.mem hb;exact absurd (lt_of_lt_of_le (lt_size ho) (le_trans I.sz h)) (lt_irrefl _)
theorem Inv.cne(I:Inv X pins σ H s):∀x c,X.env.cells.lookup x=some c->c≠X.env.locals:=λx c e z=>by
 obtain⟨v,o,ho,hd⟩:=I.cell x c e;obtain⟨m,⟨o',es,ep,ho',hd',_⟩,_⟩:=I.loc;rw[z,ho']at ho;cases ho;rw[hd']at hd;cases hd
theorem Inv.funs(I:Inv X pins σ H s):s.heap.FunFrames X.base X.outer:=by
 have all:∀(l:List Env),(∀b∈frs l,b∈X.fs)->X.s₀.heap.FunFrames X.base l->s.heap.FunFrames X.base l:=by
  intro l
  induction l with
  |nil=>intro _ _;trivial
  |cons env r ih =>
   intro hs hl;obtain⟨hk,⟨L,o,hf,hn,ho,hd⟩,hr⟩:=hl;have hL:L∈X.fs:=hs L (by unfold frs;rw[filterMap_cons,hf];exact mem_cons_self);obtain⟨sl,e⟩:=I.base.slot L o ho (I.ok.frf L hL) hL λz=>I.ok.exfs L z hL
   exact⟨hk,⟨L,_,hf,hn,e,hd⟩,ih (λb hb=>hs b (by unfold frs;rw[filterMap_cons,hf];exact mem_cons_of_mem _ hb)) hr⟩
 exact all X.outer (λ_ hb=>hb) I.ok.funs
theorem Inv.stack(I:Inv X pins σ H s):s.heap.FunFrames X.base X.stack:=by
 rcases I.ok.stk with e|⟨e,hf⟩
 ·rw[e];exact I.funs
 ·rw[e]
  obtain⟨m,hn,_⟩:=I.loc;refine .cons (by rw[I.ok.kind];decide) hf hn ?_ I.funs;exact Heap.get?_none_of_le (le_trans I.ok.bsz I.ok.above)
theorem Inv.stkSub(I:Inv X pins σ H s):∀b∈frs X.stack,b∈X.env.locals::X.fs:=λb hb=>by
 rcases I.ok.stk with e|⟨e,hf⟩
 ·rw[e]at hb;exact mem_cons_of_mem _ hb
 ·rw[e]at hb
  unfold frs at hb;rw[filterMap_cons,hf]at hb;exact hb
theorem Inv.stkFree(I:Inv X pins σ H s):∀b∈frs X.stack,H b=none:=λb hb=>by
 rcases mem_cons.mp (I.stkSub b hb)with e|hb
 ·rw[e];exact I.free
 ·obtain⟨_,o,ho,_⟩:=I.ok.funs.mem hb
  exact I.base.free b o ho (I.ok.frf b hb) λz=>I.ok.exfs b z hb
theorem Inv.step{g':Array GenState}{t':Nat}{d':Drawn}{ch:List Addr}(I:Inv X pins σ H s)
  (hch:∀b∈ch,(b∈X.ex\/X.s₀.heap.objs.size<=b)/\b≠X.env.locals/\(∀x c,X.env.cells.lookup x=some c->c≠b)/\∀p∈X.pn++pins,p.1≠b)
  (keep:∀b o,b≠X.env.locals->b∉X.fs->b∉ch->s.heap.get? b=some o->H b=none->h'.get? b=some o)
  (slot:∀b o,b≠X.env.locals->b∈X.fs->b∉ch->s.heap.get? b=some o->H b=none->∃sl,h'.get? b=some {o with slots:=sl}) (free:∀b o,b∉ch->s.heap.get? b=some o->H b=none->H' b=none)
  (there:∀b o,b∉ch->s.heap.get? b=some o->∃o',h'.get? b=some o')
  (tups:∀b xs,H b=some (.tup xs)->H' b=some (.tup xs)) (frzs:∀b o u,H b=some (.frz o u)->H' b=some (.frz o u)) (tbls:∀b ps,H b=some (.tbl ps)->∃more,H' b=some (.tbl (ps++more)))
  (ns:∀m,s.heap.Ns X.env.locals m->h'.Ns X.env.locals m) (hok:HOk X.prog X.w H' h') (hg:AllBare g') :
  Inv X pins σ H' {s with heap:=h',gens:=g',drawn:=d',toks:=t'}:=by
 have neL:∀b o,X.s₀.heap.get? b=some o->b≠X.env.locals:=λb o e=>ne_of_lt (lt_of_lt_of_le (lt_size e) I.ok.above)
 have neC:∀b o,X.s₀.heap.get? b=some o->b∉X.ex->b∉ch:=λb o e hx hb=>by
  rcases(hch b hb).1 with z|z
  ·exact hx z
  ·exact absurd (lt_of_lt_of_le (lt_size e) z) (lt_irrefl _)
 have cellK:∀x c,X.env.cells.lookup x=some c->∀v,s.heap.IsCell c v->h'.IsCell c v:=λx c e v ⟨o,ho,hd⟩=>by
  have nch:c∉ch:=λz=>(hch c z).2.2.1 x c e rfl
  by_cases hc:c∈X.fs
  ·obtain⟨sl,q⟩:=slot c o (I.cne x c e) hc nch ho (I.freeC x c e)
   exact⟨_,q,hd⟩
  ·exact⟨o,keep c o (I.cne x c e) hc nch ho (I.freeC x c e),hd⟩
 refine⟨I.ok,I.os,hg,⟨λb o e n hb hx=>?_,λb o e n hb hx=>?_,λb o e n hx=>?_,λb o e hx=>?_,λb xs e=>tups b xs (I.base.tups b xs e),λb o xs e=>frzs b o xs (I.base.frzs b o xs e),λb ps e=>?_⟩,?_,λx c e=>?_,?_,λx c e=>?_,λp hp=>?_,hok,I.len⟩
 ·exact keep b o (neL b o e) hb (neC b o e hx) (I.base.keep b o e n hb hx) (I.base.free b o e n hx)
 ·obtain⟨sl,e1⟩:=I.base.slot b o e n hb hx
  obtain⟨sl',e2⟩:=slot b _ (neL b o e) hb (neC b o e hx) e1 (I.base.free b o e n hx);exact⟨sl',e2⟩
 ·obtain⟨o',e1⟩:=I.base.there b o e hx
  exact free b o' (neC b o e hx) e1 (I.base.free b o e n hx)
 ·obtain⟨o',e1⟩:=I.base.there b o e hx
  exact there b o' (neC b o e hx) e1
 ·obtain⟨m1,e1⟩:=I.base.tbls b ps e
  obtain⟨m2,e2⟩:=tbls b _ e1;exact⟨m1++m2,by rw[e2,Array.append_assoc]⟩
 ·obtain⟨m,hn,hl⟩:=I.loc
  refine⟨m,ns m hn,λi x v e1 e2 e3=>?_⟩;obtain⟨u,r,l⟩:=hl i x v e1 e2 e3;refine⟨u,r,?_⟩;rcases l with l|⟨k,c,e,z⟩
  ·exact .inl l
  ·exact .inr ⟨k,c,e,cellK x c e _ z⟩
 ·obtain⟨v,z⟩:=I.cell x c e
  exact⟨v,cellK x c e v z⟩
 ·obtain⟨m,⟨o,_,_,ho,_⟩,_⟩:=I.loc
  exact free _ o (λz=>(hch _ z).2.1 rfl) ho I.free
 ·obtain⟨v,o,ho,hd⟩:=I.cell x c e
  exact free c o (λz=>(hch c z).2.2.1 x c e rfl) ho (I.freeC x c e)
 ·obtain⟨e,n,ne,nf,d⟩:=I.pin p hp
  have nch:p.1∉ch:=λz=>(hch p.1 z).2.2.2 p hp rfl
  exact⟨keep p.1 p.2 ne nf nch e n,free p.1 p.2 nch e n,ne,nf,d⟩
theorem Inv.un{t':Nat}(I:Inv X pins σ H s)(u:Un X.fs [] H H' s.heap h')(hok:HOk X.prog X.w H' h'):Inv X pins σ H' {s with heap:=h',toks:=t'}:=by
 obtain⟨m,⟨o,es,ep,ho,r⟩,_⟩:=id I.loc;obtain⟨sl,hL⟩:=u.any ho I.free (by simp);exact I.step (g':=s.gens) (d':=s.drawn) (ch:=[]) (λ_ z=>nomatch z) (λb o _ hb _ e n=>u.keep b o e n hb (by simp)) (λb o _ hb _ e n=>u.slot b o e n hb (by simp)) (λb o _ e n=>u.free b o e n (by simp)) (λb o _ e=>u.there b o e (by simp)) u.tups u.frzs u.tbls (λm' hm=>by
  obtain⟨o',es',ep',ho',r'⟩:=hm;rw[ho]at ho';cases ho';exact⟨_,es',ep',hL,r'⟩) hok I.bare
theorem Inv.call{g':Array GenState}{t':Nat}{d':Drawn}{ch:List Addr}(I:Inv X pins σ H s)(u:Un (frs X.stack) ch H H' s.heap h')(hok:HOk X.prog X.w H' h')(hg:AllBare g')
  (hch:∀b∈ch,(b∈X.ex\/X.s₀.heap.objs.size<=b)/\b≠X.env.locals/\(∀x c,X.env.cells.lookup x=some c->c≠b)/\∀p∈X.pn++pins,p.1≠b) :
  Inv X pins σ H' {s with heap:=h',gens:=g',drawn:=d',toks:=t'}:=by
 obtain⟨m,⟨o,es,ep,ho,r⟩,_⟩:=id I.loc;obtain⟨sl,hL⟩:=u.any ho I.free λz=>(hch _ z).2.1 rfl
 exact I.step (ch:=ch) hch (λb o hL hb hc e n=>u.keep b o e n (λz=>(mem_cons.mp (I.stkSub b z)).elim hL hb) hc) (λb o _ _ hc e n=>u.any e n hc) (λb o hc e n=>u.free b o e n hc) (λb o hc e=>u.there b o e hc) u.tups u.frzs u.tbls (λm' hm=>by
  obtain⟨o',es',ep',ho',r'⟩:=hm;rw[ho]at ho';cases ho';exact⟨_,es',ep',hL,r'⟩) hok hg
theorem Inv.turned{t':Nat}{it:Addr}(I:Inv X pins σ H s)(k:∀b o,b≠it->s.heap.get? b=some o->h'.get? b=some o)(hn:H it=none)(hL:it≠X.env.locals)
  (h1:it∈X.ex\/X.s₀.heap.objs.size<=it) (h2:∀x c,X.env.cells.lookup x=some c->c≠it) (h3:∀p∈X.pn++pins,p.1≠it):Inv X pins σ H {s with heap:=h',toks:=t'}:=by
 have nit:∀b u,H b=some u->b≠it:=λb u e z=>by rw[z,hn]at e;cases e
 refine I.step (g':=s.gens) (d':=s.drawn) (ch:=[it]) (λb hb=>?_) (λb o _ _ hc e _=>k b o (λz=>hc (by simp[z])) e) (λb o _ _ hc e _=>⟨o.slots,k b o (λz=>hc (by simp[z])) e⟩) (λ_ _ _ _ n=>n)
  (λb o hc e=>⟨o,k b o (λz=>hc (by simp[z])) e⟩) (λ_ _ e=>e) (λ_ _ _ e=>e) (λb ps e=>⟨#[],by rw[e];simp⟩) (λm hm=>?_) (λb u e=>?_) I.bare
 ·have e:b=it:=by simpa using hb
  subst e;exact⟨h1,hL,h2,h3⟩
 ·obtain⟨o,es,ep,ho,r⟩:=hm
  exact⟨o,es,ep,k _ o (Ne.symm hL) ho,r⟩
 ·refine(I.hok b u e).stay (λc v hc q=>k c v ?_ q) (λ_ q=>q) λ_ _ q=>q
  rcases hc with z|z
  ·rw[z];exact nit b u e
  ·exact nit c _ z
theorem Inv.tok(I:Inv X pins σ H s)(t:Nat):Inv X pins σ H {s with toks:=t}:=I.un (h':=s.heap) (t':=t) Un.refl I.hok
theorem Inv.kept{t':Nat}(I:Inv X pins σ H s)(k:∀b u,s.heap.get? b=some u->h'.get? b=some u):Inv X pins σ H {s with heap:=h',toks:=t'}:=I.un (Un.kept k) (I.hok.kept k)
theorem Inv.laid{a:Addr}{o:HO}{t':Nat}(I:Inv X pins σ H s)(k:∀b u,s.heap.get? b=some u->h'.get? b=some u)(hp:s.heap.objs.size<=a)(new:ji X.prog X.w (upd H a o) h' a o) :
  Inv X pins σ (upd H a o) {s with heap:=h',toks:=t'}:=I.un (Un.laid k hp (I.hok.fresh hp)) (I.hok.laid k hp new)
theorem Inv.write{x e:Addr}{o:HO}{t':Nat}(I:Inv X pins σ H s)(mu:Mut (H x))(he:e=x\/H e=some (.own x))(k:∀b u,b≠e->s.heap.get? b=some u->h'.get? b=some u)(heo:∃u,h'.get? e=some u)
  (new:ji X.prog X.w (upd H x o) h' x o):Inv X pins σ (upd H x o) {s with heap:=h',toks:=t'}:=I.un (Un.write mu he k heo) (I.hok.write mu he k heo new)
theorem Inv.weak{σ':List (Option V)}(I:Inv X pins σ H s)(hl:σ'.length=σ.length)(w:∀(i:Nat) v,σ'[i]?=some (some v)->σ[i]?=some (some v)):Inv X pins σ' H s :=
 ⟨I.ok,I.os,I.bare,I.base,let ⟨m,hn,hl'⟩:=I.loc;⟨m,hn,λi x v e1 e2 e3=>hl' i x v e1 (w i v e2) e3⟩,I.cell,I.free,I.freeC,I.pin,I.hok,hl.trans I.len⟩
theorem Inv.pins_of{pins':List (Addr×Obj)}(I:Inv X pins σ H s)(h:∀p∈pins',s.heap.get? p.1=some p.2/\H p.1=none/\p.1≠X.env.locals/\p.1∉X.fs/\∀v,p.2.data≠.cell v):Inv X pins' σ H s :=
 ⟨I.ok,I.os,I.bare,I.base,I.loc,I.cell,I.free,I.freeC,λp hp=>(mem_append.mp hp).elim (λz=>I.pin p (mem_append_left _ z)) (h p),I.hok,I.len⟩
theorem ZF{N:List Str}(hN:N.Nodup){i j:Nat}{x:Str}(a:N[i]?=some x)(b:N[j]?=some x):i=j:=by
 obtain⟨h1,e1⟩:=List.getElem?_eq_some_iff.mp a;obtain⟨h2,e2⟩:=List.getElem?_eq_some_iff.mp b;exact(List.getElem_inj hN).mp (e1.trans e2.symm)
theorem Zi{M:Model}{A:Around}{E:Value->Shared->Prop}{i:Nat}{x:Str}{v:V}{u:Value}{Q:Unit->Shared->Prop}(I:Inv X pins σ H s)(hN:X.N.Nodup)(hi:X.N[i]?=some x)(hx:Loc X.env.scope x)(r:zv v u)
  (h:∀s',Inv X pins (σ.set i (some v)) H s'->(∃a,Heap.SameBut a s.heap s'.heap/\(a=X.env.locals\/X.env.cells.lookup x=some a))->Q () s') (hf:X.fn x=true\/X.env.scope.names.lookup x=some .local:=by first|exact .inl rfl|exact .inr rfl|assumption):wpAny M A (storeName X.env x u) Q E s:=by
 obtain⟨m,hn,hl⟩:=id I.loc;have hcls:(X.env.scope.kind==.class||(X.env.scope.kind==.module&&X.env.locals != X.env.globals))=false:=by rw[I.ok.kind];rfl
 have hiσ:i<σ.length:=by rw[I.len];exact(List.getElem?_eq_some_iff.mp hi).1
 have cne:=I.cne;have tracked:∀{a:Addr} {h':Heap},(∃o,s.heap.get? a=some o/\H a=none)->Heap.SameBut a s.heap h'->HOk X.prog X.w H h':=λ{a h'} ha hs b ob e=>by
  obtain⟨_,_,hfree⟩:=ha;refine(I.hok b ob e).stay (λc w' hc q=>(hs.2 c ?_).trans q) (λ_ q=>q) λ_ _ q=>q
  rintro rfl
  rcases hc with rfl|hc
  ·rw[hfree]at e;cases e
  ·rw[hfree]at hc;cases hc
 rcases hx with hk|hk
 ·refine wpAny_storeName_local hk hn (λh' hn' hs=>?_) hcls
  obtain⟨oL,_,_,hoL,_⟩:=id hn;refine h _ ⟨I.ok,I.os,I.bare,⟨λb o e n hb hx=>?_,λb o e n hb hx=>?_,I.base.free,λb o e hx=>?_,I.base.tups,I.base.frzs,I.base.tbls⟩,⟨_,hn',λj y v' e1 e2 e3=>?_⟩,λy c e=>?_,I.free,I.freeC,λp hp=>?_,tracked ⟨oL,hoL,I.free⟩ hs,by simpa using I.len⟩ ⟨_,hs,.inl rfl⟩
  ·exact(hs.2 b (ne_of_lt (lt_of_lt_of_le (lt_size e) I.ok.above))).trans (I.base.keep b o e n hb hx)
  ·obtain⟨sl,e1⟩:=I.base.slot b o e n hb hx
   exact⟨sl,(hs.2 b (ne_of_lt (lt_of_lt_of_le (lt_size e) I.ok.above))).trans e1⟩
  ·obtain⟨o',e1⟩:=I.base.there b o e hx
   exact⟨o',(hs.2 b (ne_of_lt (lt_of_lt_of_le (lt_size e) I.ok.above))).trans e1⟩
  ·by_cases hj:j=i
   ·subst hj
    rw[hi]at e1;cases e1;rw[getElem?_set_self hiσ]at e2;cases e2;exact⟨u,r,.inl ⟨hk,by simp⟩⟩
   ·rw[getElem?_set_ne (Ne.symm hj)]at e2
    obtain⟨u',r',q⟩:=hl j y v' e1 e2 e3;refine⟨u',r',?_⟩;rcases q with⟨k,e⟩|⟨k,c,e,z⟩
    ·refine .inl ⟨k,?_⟩
     have:y≠x:=λe=>hj (ZF hN e1 (e▸hi))
     simp[this,e]
    ·exact .inr ⟨k,c,e,z.sameBut hs (cne y c e)⟩
  ·obtain⟨w',z⟩:=I.cell y c e
   exact⟨w',z.sameBut hs (cne y c e)⟩
  ·obtain⟨e,n,ne,nf,d⟩:=I.pin p hp
   exact⟨(hs.2 p.1 ne).trans e,n,ne,nf,d⟩
 ·have hfn:X.fn x=true:=by
   rcases hf with z|z
   ·exact z
   ·rw[z]at hk;cases hk
  obtain⟨c,hc⟩:=I.ok.has x (.inl hk);obtain⟨w',z⟩:=I.cell x c hc;refine wpAny_storeName_cell I.ok.kind hk hc z (λh' hc' hs=>?_);obtain⟨oc,hoc,hocd⟩:=id z;refine h {s with heap:=h'} ⟨I.ok,I.os,I.bare,⟨λb o e n hb hx=>?_,λb o e n hb hx=>?_,I.base.free,λb o e hx=>?_,I.base.tups,I.base.frzs,I.base.tbls⟩,⟨m,hn.sameBut hs (Ne.symm (cne x c hc)),λj y v' e1 e2 e3=>?_⟩,λy c' e=>?_,I.free,I.freeC,λp hp=>?_,tracked ⟨oc,hoc,I.freeC x c hc⟩ hs,by simpa using I.len⟩ ⟨c,hs,.inr hc⟩
  ·exact(hs.2 b (ne_of_lt (lt_of_lt_of_le (lt_size e) (I.ok.cab x c hfn hc)))).trans (I.base.keep b o e n hb hx)
  ·obtain⟨sl,e1⟩:=I.base.slot b o e n hb hx
   exact⟨sl,(hs.2 b (ne_of_lt (lt_of_lt_of_le (lt_size e) (I.ok.cab x c hfn hc)))).trans e1⟩
  ·obtain⟨o',e1⟩:=I.base.there b o e hx
   exact⟨o',(hs.2 b (ne_of_lt (lt_of_lt_of_le (lt_size e) (I.ok.cab x c hfn hc)))).trans e1⟩
  ·by_cases hj:j=i
   ·subst hj
    rw[hi]at e1;cases e1;rw[getElem?_set_self hiσ]at e2;cases e2;exact⟨u,r,.inr ⟨.inl hk,c,hc,hc'⟩⟩
   ·rw[getElem?_set_ne (Ne.symm hj)]at e2
    obtain⟨u',r',q⟩:=hl j y v' e1 e2 e3;refine⟨u',r',?_⟩;rcases q with q|⟨k,c',e,z'⟩
    ·exact .inl q
    ·refine .inr ⟨k,c',e,z'.sameBut hs ?_⟩
     rintro rfl
     exact hj (ZF hN e1 (I.ok.inj _ _ _ e hc▸hi))
  ·by_cases hcc:c'=c
   ·subst hcc;exact⟨_,hc'⟩
   ·obtain⟨w2,z2⟩:=I.cell y c' e
    exact⟨w2,z2.sameBut hs hcc⟩
  ·obtain⟨e,n,ne,nf,d⟩:=I.pin p hp
   refine⟨(hs.2 p.1 ?_).trans e,n,ne,nf,d⟩;intro q;rw[q,hoc]at e;have q':oc=p.2:=Option.some.inj e;exact d w' (by rw[<- q'];exact hocd)
theorem J2{M:Model}{A:Around}{E:Value->Shared->Prop}{i:Nat}{x:Str}{v:V}{u:Value}{Q:Unit->Shared->Prop}(I:Inv X pins σ H s)(hN:X.N.Nodup)(hi:X.N[i]?=some x)(hx:Loc X.env.scope x)(r:zv v u)
  (h:∀s',Inv X pins (σ.set i (some v)) H s'->Q () s') (hf:X.fn x=true\/X.env.scope.names.lookup x=some .local:=by first|exact .inl rfl|exact .inr rfl|assumption):wpAny M A (storeName X.env x u) Q E s :=
 Zi I hN hi hx r (λs' I' _=>h s' I') hf
theorem Inv.call'{s':Shared}{ch:List Addr}(I:Inv X pins σ H s)(ho:s'.os=s.os)(u:Un (frs X.stack) ch H H' s.heap s'.heap)(hok:HOk X.prog X.w H' s'.heap)(hg:AllBare s'.gens)
  (hch:∀b∈ch,(b∈X.ex\/X.s₀.heap.objs.size<=b)/\b≠X.env.locals/\(∀x c,X.env.cells.lookup x=some c->c≠b)/\∀p∈X.pn++pins,p.1≠b):Inv X pins σ H' s':=by
 obtain⟨h',g',d',t',o'⟩:=s';have e:o'=s.os:=ho;subst e;exact I.call (g':=g') (t':=t') (d':=d') u hok hg hch
end
abbrev XK:=Value->Option Addr->Hp->Prop
abbrev St:=List (Option V)
abbrev VK:=V->Hp->Prop
abbrev TE:=St->Hp->VK->Prop
abbrev TT:=St->Hp->(Bool->Hp->Prop)->Prop
abbrev TA:=St->Hp->(List V->Hp->Prop)->Prop
structure Ends where
 nx:St->Hp->Prop
 rt:VK
 bk:St->Hp->Prop:=λ_ _=>False
 ct:St->Hp->Prop:=λ_ _=>False
abbrev TS:=Ends->St->Hp->Prop
def EP(X:Cx)(pins:List (Addr×Obj))(σ:St)(Q:VK)(u:Value)(s':Shared):Prop:=∃v H',Inv X pins σ H' s'/\zv v u/\Q v H'
def TP(X:Cx)(pins:List (Addr×Obj))(σ:St)(Q:Bool->Hp->Prop)(b:Bool)(s':Shared):Prop:=∃H',Inv X pins σ H' s'/\Q b H'
def AP(X:Cx)(pins:List (Addr×Obj))(σ:St)(Q:List V->Hp->Prop)(us:List Value)(s':Shared):Prop:=∃vs H',Inv X pins σ H' s'/\zd vs us/\Q vs H'
def SP(X:Cx)(pins:List (Addr×Obj))(D:Ends)(f:Flow)(s':Shared):Prop :=
 match f with
 | .next=>∃σ' H',Inv X pins σ' H' s'/\D.nx σ' H'
 | .brk=>∃σ' H',Inv X pins σ' H' s'/\D.bk σ' H'
 | .cont=>∃σ' H',Inv X pins σ' H' s'/\D.ct σ' H'
 | .ret u=>∃v σ' H',Inv X pins σ' H' s'/\zv v u/\D.rt v H'
def PE(X:Cx)(e:Expr)(t:TE):Prop :=
 ∀(pins:List (Addr×Obj)) (s:Shared) (σ:St) (H:Hp) (Q:VK),Inv X pins σ H s->t σ H Q->wpAny (model X.prog X.w) X.A (eval e X.env) (EP X pins σ Q) X.xe s
def PT(X:Cx)(e:Expr)(t:TT):Prop :=
 ∀(pins:List (Addr×Obj)) (s:Shared) (σ:St) (H:Hp) (Q:Bool->Hp->Prop),Inv X pins σ H s->t σ H Q->wpAny (model X.prog X.w) X.A (isTrue e X.env (eval e X.env)) (TP X pins σ Q) X.xe s
def PW(X:Cx)(e:Expr)(t:TT):Prop :=
 ∀(whole:Sem Value) (pins:List (Addr×Obj)) (s:Shared) (σ:St) (H:Hp) (Q:Bool->Hp->Prop),Inv X pins σ H s->t σ H Q->wpAny (model X.prog X.w) X.A (isTrue e X.env whole) (TP X pins σ Q) X.xe s
theorem PW.pt{X:Cx}{e:Expr}{t:TT}(h:PW X e t):PT X e t:=h _
def PA(X:Cx)(es:List Expr)(t:TA):Prop :=
 ∀(pos:Pos) (pins:List (Addr×Obj)) (s:Shared) (σ:St) (H:Hp) (Q:List V->Hp->Prop),Inv X pins σ H s->t σ H Q->wpAny (model X.prog X.w) X.A (spliced (backTo pos (starEach es X.env))) (AP X pins σ Q) X.xe s
def PS(X:Cx)(st:Stmt)(t:TS):Prop :=
 ∀(pins:List (Addr×Obj)) (s:Shared) (σ:St) (H:Hp) (D:Ends),Inv X pins σ H s->t D σ H->wpAny (model X.prog X.w) X.A (exec st X.env) (SP X pins D) X.xe s
def PSs(X:Cx)(st:List Stmt)(t:TS):Prop :=
 ∀(pins:List (Addr×Obj)) (s:Shared) (σ:St) (H:Hp) (D:Ends),Inv X pins σ H s->t D σ H->wpAny (model X.prog X.w) X.A (execs st X.env) (SP X pins D) X.xe s
theorem thn{α:Type}{t:Sem α}{Q Q':α->Shared->Prop}{M:Model}{A:Around}{E:Value->Shared->Prop}{s:Shared}(h:wpAny M A t Q E s)(hQ:∀a s,Q a s->Q' a s):wpAny M A t Q' E s:=wpAny_mono h hQ λ_ _ x=>x
end L2
namespace L2
open PySem PySem.Spec PyProof.Rows
section
variable{X:Cx}
theorem bin{a b:Expr}{ta tb:TE}(ha:PE X a ta)(hb:PE X b tb){pins:List (Addr×Obj)}{s:Shared}{σ:St}{H:Hp}{R:V->V->Hp->Prop}(I:Inv X pins σ H s)(h:ta σ H λx H1=>tb σ H1 λy H2=>R x y H2)
  {α:Type} {Q:α->Shared->Prop} {f:Value->Value->Sem α}
  (hf:∀v u s2 x y H2,Inv X pins σ H2 s2->zv x v->zv y u->R x y H2->wpAny (model X.prog X.w) X.A (f v u) Q X.xe s2) :
  wpAny (model X.prog X.w) X.A (eval a X.env) (λv s₁=>wpAny (model X.prog X.w) X.A (eval b X.env) (λu s₂=>wpAny (model X.prog X.w) X.A (f v u) Q X.xe s₂) X.xe s₁) X.xe s:=by
 refine thn (ha pins s σ H _ I h) λv s1 ⟨x,H1,I1,r1,q1⟩=>?_
 refine thn (hb pins s1 σ H1 _ I1 q1) λu s2 ⟨y,H2,I2,r2,q2⟩=>?_
 exact hf v u s2 x y H2 I2 r1 r2 q2
def vq(i:Nat):TE:=λσ H Q=>∃v,σ[i]?=some (some v)/\Q v H
def tC(v:V):TE:=λ_ H Q=>Q v H
theorem pe_var{i:Nat}{x:Str}{pos:Pos}(hN:X.N[i]?=some x)(hv:Vis X.env.scope x)(hd:(x==("__debug__":Str))=false:=by decide)(hcd:(x==("__classdict__":Str))=false:=by decide):PE X (.Name x pos) (vq i):=by
 intro pins s σ H Q I h;obtain⟨v,e,h⟩:=h;obtain⟨m,hn,hl⟩:=I.loc;obtain⟨u,r,l⟩:=hl i x v hN e hv;have fin:EP X pins σ Q u s:=⟨v,H,I,r,h⟩;rcases l with⟨hk,hm⟩|⟨hk,c,hc,hcell⟩
 ·exact wpAny_Name (wpAny_loadName_local I.ok.kind hk hn hm fin) hd
 ·rcases hk with hk|hk
  ·exact wpAny_Name (wpAny_loadName_cell I.ok.kind hk hc hcell fin) hd
  ·exact wpAny_Name (wpAny_loadName_free I.ok.kind hk hc hcell fin hcd) hd
theorem pe_int{i j pos}:PE X (.Constant (.int i) j pos) (tC (.int i)):=λ_ _ _ H _ I h=>wpAny_Constant_int ⟨.int i,H,I.tok _,⟨_,rfl⟩,h⟩
theorem pe_bl{b j pos}:PE X (.Constant (.bool b) j pos) (tC (.bl b)):=λ_ _ _ H _ I h=>Constant_bool ⟨.bl b,H,I,rfl,h⟩
theorem pe_non{j pos}:PE X (.Constant .none j pos) (tC .non):=λ_ _ _ H _ I h=>Constant_none ⟨.non,H,I,rfl,h⟩
theorem pe_str{x j pos}:PE X (.Constant (.str x) j pos) (tC (.str x)):=λ_ _ _ H _ I h=>Calls.Constant_str ⟨.str x,H,I.tok _,⟨_,rfl⟩,h⟩
def Gl(X:Cx)(x:Str):Prop:=X.env.kindOf x=some .globalImplicit
theorem ZG{E:Value->Shared->Prop}{pins:List (Addr×Obj)}{s:Shared}{σ:St}{H:Hp}{x:Str}{u:Value}{pos:Pos}{Q:Value->Shared->Prop}(I:Inv X pins σ H s)(hg:Gl X x)(hm:X.mg x=some u)(h:Q u s)
  (hd:(x==("__debug__":Str))=false:=by decide):wpAny (model X.prog X.w) X.A (eval (.Name x pos) X.env) Q E s :=
 Calls.Name_function_global I.ok.kind hg (Calls.loadGlobal_global (by rw[I.ok.glob];exact I.mod.glob.keeps I.bk) hm h) hd
theorem Zj{E:Value->Shared->Prop}{pins:List (Addr×Obj)}{s:Shared}{σ:St}{H:Hp}{x:Str}{u:Value}{pos:Pos}{Q:Value->Shared->Prop}(I:Inv X pins σ H s)(hg:Gl X x)(hm:X.mg x=none)(hv:bootBuiltins x=some u)(h:Q u s)
  (hn:x≠"__name__":=by decide) (hd:(x==("__debug__":Str))=false:=by decide):wpAny (model X.prog X.w) X.A (eval (.Name x pos) X.env) Q E s:=by
 obtain⟨mb,h1,h2⟩:=I.mod.blt;exact Calls.Name_function_global I.ok.kind hg (Calls.loadGlobal_builtin (by rw[I.ok.glob];exact I.mod.glob.keeps I.bk) hm (by rw[I.ok.blt];exact h1.keeps I.bk) ((h2 x hn).trans hv) h) hd
theorem Wd{x:Str}{v:V}{u:Value}{pos:Pos}(hg:Gl X x)(hm:X.mg x=some u)(r:zv v u)(hd:(x==("__debug__":Str))=false:=by decide):PE X (.Name x pos) (tC v) :=
 λ_ _ _ H _ I h=>ZG I hg hm ⟨v,H,I,r,h⟩ hd
theorem uY{x:Str}{v:V}{u:Value}{pos:Pos}(hg:Gl X x)(hm:X.mg x=none)(hv:bootBuiltins x=some u)(r:zv v u)(hn:x≠"__name__":=by decide)(hd:(x==("__debug__":Str))=false:=by decide):PE X (.Name x pos) (tC v) :=
 λ_ _ _ H _ I h=>Zj I hg hm hv ⟨v,H,I,r,h⟩ hn hd
variable{a b:Expr}{ta tb:TE}{pos:Pos}
def tB(t:TE):TT:=λσ H Q=>t σ H λx H1=>∃c,x=.bl c/\Q c H1
theorem pt_val{e:Expr}{t:TE}(h:PE X e t)(he:∀whole,isTrue e X.env whole=(do let v <- whole;standAt e.pos;holding [v] (truthy v)):=by intro _;rfl):PT X e (tB t):=by
 intro pins s σ H Q I hw;refine isTrue_plain (thn (h pins s σ H _ I hw) λv s1 ⟨x,H1,I1,r1,q1⟩=>?_) (he _);obtain⟨d,rfl,q⟩:=q1;cases r1;exact wpAny_truthy_bool ⟨H1,I1,q⟩
variable{tA tB':TT}{Jq:List Expr}
def tAnd(t u:TT):TT:=λσ H Q=>t σ H λc H1=>if c=true then u σ H1 Q else Q false H1
def tOr(t u:TT):TT:=λσ H Q=>t σ H λc H1=>if c=true then Q true H1 else u σ H1 Q
def tNot(t:TT):TT:=λσ H Q=>t σ H λc H1=>Q (!c) H1
theorem pw_and1(ha:PT X a tA):PW X (.BoolOp .And [a] pos) tA:=by
 intro wh pins s σ H Q I h;refine isTrue_and (thn (ha pins s σ H Q I h) λc s1 e=>?_);cases c with
 |true=>exact isTrue_and_nil e
 |false=>exact e
theorem pw_or1(ha:PT X a tA):PW X (.BoolOp .Or [a] pos) tA:=by
 intro wh pins s σ H Q I h;refine isTrue_or (thn (ha pins s σ H Q I h) λc s1 e=>?_);cases c with
 |false=>exact isTrue_or_nil e
 |true=>exact e
theorem pw_and(ha:PT X a tA)(hb:PW X (.BoolOp .And (b::Jq) pos) tB'):PW X (.BoolOp .And (a::b::Jq) pos) (tAnd tA tB'):=by
 intro wh pins s σ H Q I h;refine isTrue_and (thn (ha pins s σ H _ I h) λc s1 ⟨H1,I1,q1⟩=>?_);cases c with
 |true=>exact hb wh pins s1 σ H1 Q I1 q1
 |false=>exact⟨H1,I1,q1⟩
theorem pw_or(ha:PT X a tA)(hb:PW X (.BoolOp .Or (b::Jq) pos) tB'):PW X (.BoolOp .Or (a::b::Jq) pos) (tOr tA tB'):=by
 intro wh pins s σ H Q I h;refine isTrue_or (thn (ha pins s σ H _ I h) λc s1 ⟨H1,I1,q1⟩=>?_);cases c with
 |true=>exact⟨H1,I1,q1⟩
 |false=>exact hb wh pins s1 σ H1 Q I1 q1
theorem pt_not(ha:PT X a tA):PT X (.UnaryOp .Not a pos) (tNot tA):=by
 intro pins s σ H Q I h;exact isTrue_not (ha pins s σ H (λc H1=>Q (!c) H1) I h)
def tAndV(ta tb:TE):TE:=λσ H Q=>ta σ H λx H1=>∃c,x=.bl c/\if c=true then tb σ H1 Q else Q (.bl false) H1
def tNotV(ta:TE):TE:=λσ H Q=>ta σ H λx H1=>∃c,x=.bl c/\Q (.bl (!c)) H1
theorem pe_one{op}{t:TE}(h:PE X a t):PE X (.BoolOp op [a] pos) t:=λpins s σ H Q I hw=>BoolOp_one (h pins s σ H Q I hw)
theorem pe_and(ha:PE X a ta)(hb:PE X (.BoolOp .And (b::Jq) pos) tb):PE X (.BoolOp .And (a::b::Jq) pos) (tAndV ta tb):=by
 intro pins s σ H Q I h;refine BoolOp_and (thn (ha pins s σ H _ I h) λv s1 ⟨x,H1,I1,r1,q1⟩=>?_);obtain⟨c,rfl,q1⟩:=q1;cases r1;refine wpAny_truthy_bool ?_;cases c with
 |true=>exact hb pins s1 σ H1 Q I1 q1
 |false=>exact⟨.bl false,H1,I1,rfl,q1⟩
theorem pe_not(ha:PE X a ta):PE X (.UnaryOp .Not a pos) (tNotV ta):=by
 intro pins s σ H Q I h;refine UnaryOp_ (thn (ha pins s σ H _ I h) λv s1 ⟨x,H1,I1,r1,q1⟩=>?_);obtain⟨c,rfl,q1⟩:=q1;cases r1;exact not_of (wpAny_truthy_bool ⟨.bl (!c),H1,I1,rfl,q1⟩)
def tIf(t:TT)(ta tb:TE):TE:=λσ H Q=>t σ H λc H1=>if c=true then ta σ H1 Q else tb σ H1 Q
theorem QT{c:Expr}(hc:PT X c tA)(ha:PE X a ta)(hb:PE X b tb):PE X (.IfExp c a b pos) (tIf tA ta tb):=by
 intro pins s σ H Q I h;refine wpAny_IfExp (thn (hc pins s σ H _ I h) λd s1 ⟨H1,I1,q1⟩=>?_);cases d with
 |true=>exact ha pins s1 σ H1 Q I1 q1
 |false=>exact hb pins s1 σ H1 Q I1 q1
end
end L2
namespace L2
open PySem PySem.Spec PyProof.Rows
def SqL(K:PySem.W.Frag)(H:Hp)(a:Addr)(xs:List V):Prop :=
 Rd H a (.lst xs) \/
  ∃(o:Obj) (its:Array Value) (n:Nat),K.lookup a=some o/\o.cls=.type "list"/\o.dict=none/\o.data=.seq its n/\its.size<=sizeLine/\zd xs its.toList
def SqT(K:PySem.W.Frag)(H:Hp)(a:Addr)(xs:List V):Prop :=
 Rd H a (.tup xs) \/
  ∃(o:Obj) (its:Array Value) (n:Nat),K.lookup a=some o/\o.cls=.type "tuple"/\o.data=.seq its n/\its.size<=sizeLine/\zd xs its.toList
def absV:Value->Option V
 | .none=>some .non
 | .bool b=>some (.bl b)
 | .int i _=>some (.int i)
 | .str x _=>some (.str x)
 | .bytes b _=>some (.byt b)
 | .float b _=>some (.flt b)
 | .ref a=>some (.ref a)
 | .type n=>some (.ty n)
 |_=>none
theorem zv.abs{x:V}{u:Value}(r:zv x u):absV u=some x:=by
 cases x with
 |non=>cases r;rfl
 |bl _=>cases r;rfl
 |int _=>obtain⟨t,rfl⟩:=r;rfl
 |str _=>obtain⟨t,rfl⟩:=r;rfl
 |byt _=>obtain⟨t,rfl⟩:=r;rfl
 |flt _=>obtain⟨t,rfl⟩:=r;rfl
 |ref _=>cases r;rfl
 |ty _=>cases r;rfl
theorem zv.inj{x y:V}{u:Value}(r:zv x u)(q:zv y u):x=y:=Option.some.inj (r.abs.symm.trans q.abs)
theorem zd.inj:∀{xs ys:List V} {us:List Value},zd xs us->zd ys us->xs=ys
 |_,_,_,.nil,.nil=>rfl
 |_,_,_,.cons r t,.cons r' t'=>by rw[r.inj r',zd.inj t t']
section
variable{X:Cx}{pins:List (Addr×Obj)}{σ:St}{H:Hp}{s:Shared}{a:Addr}{xs ys:List V}
theorem SqL.of{K:PySem.W.Frag}(h:H a=some (.lst xs)):SqL K H a xs:=.inl (.inl h)
theorem SqT.of{K:PySem.W.Frag}(h:H a=some (.tup xs)):SqT K H a xs:=.inl (.inl h)
theorem Inv.list(I:Inv X pins σ H s)(h:SqL X.K H a xs):∃its:List Value,zd xs its/\PlainL s.heap a its.toArray/\xs.length<=sizeLine:=by
 rcases h with h|⟨o,its,n,hk,hc,hd,hs,hz,r⟩
 ·obtain⟨z,its,n,r,e⟩:=h.ok I.hok
  exact⟨its,r,⟨_,n,e,rfl,rfl,rfl⟩,z⟩
 ·refine⟨its.toList,r,⟨o,n,I.kIn a o hk,hc,hd,by simpa using hs⟩,?_⟩
  have e:=r.length;simp only[Array.length_toList]at e;omega
theorem Inv.tuple(I:Inv X pins σ H s)(h:SqT X.K H a xs):∃its:List Value,zd xs its/\IsTup s.heap a its.toArray/\xs.length<=sizeLine:=by
 rcases h with h|⟨o,its,n,hk,hc,hs,hz,r⟩
 ·obtain⟨z,its,r,p⟩:=h.ok I.hok
  exact⟨its,r,p,z⟩
 ·refine⟨its.toList,r,⟨o,I.kIn a o hk,hc,n,by simpa using hs⟩,?_⟩
  have e:=r.length;simp only[Array.length_toList]at e;omega
theorem Inv.list_inj(I:Inv X pins σ H s)(h:SqL X.K H a xs)(h':SqL X.K H a ys):xs=ys:=by
 obtain⟨its,r,⟨o,n,e,_,_,d⟩,_⟩:=I.list h;obtain⟨its',r',⟨o',n',e',_,_,d'⟩,_⟩:=I.list h';rw[e]at e';cases e';rw[d]at d';injection d' with d1 _
 have:its=its':=by simpa using congrArg Array.toList d1
 subst this;exact r.inj r'
theorem Inv.tuple_inj(I:Inv X pins σ H s)(h:SqT X.K H a xs)(h':SqT X.K H a ys):xs=ys:=by
 obtain⟨its,r,⟨o,e,_,n,d⟩,_⟩:=I.tuple h;obtain⟨its',r',⟨o',e',_,n',d'⟩,_⟩:=I.tuple h';rw[e]at e';cases e';rw[d]at d';injection d' with d1 _
 have:its=its':=by simpa using congrArg Array.toList d1
 subst this;exact r.inj r'
end
abbrev Cx.wish(X:Cx)(E:Value->Shared->Prop):Cx:={X with xe:=E}
abbrev Cx.nox(X:Cx):Cx:=X.wish λ_ _=>False
theorem Cx.Ok.wish{X:Cx}(ok:X.Ok)(E:Value->Shared->Prop):(X.wish E).Ok :=
 ⟨ok.mod,ok.kind,ok.glob,ok.blt,ok.above,ok.inj,ok.has,ok.cab,ok.hd,ok.frames,ok.stk,ok.exf,ok.bs,ok.bsz,ok.noex,ok.exfs,ok.funs,ok.frf⟩
theorem Cx.Ok.unwish{X:Cx}{E:Value->Shared->Prop}(ok:(X.wish E).Ok):X.Ok :=
 ⟨ok.mod,ok.kind,ok.glob,ok.blt,ok.above,ok.inj,ok.has,ok.cab,ok.hd,ok.frames,ok.stk,ok.exf,ok.bs,ok.bsz,ok.noex,ok.exfs,ok.funs,ok.frf⟩
section
variable{X:Cx}{pins:List (Addr×Obj)}{σ:St}{H:Hp}{s:Shared}{E:Value->Shared->Prop}
theorem Inv.wish(I:Inv X pins σ H s)(E:Value->Shared->Prop):Inv (X.wish E) pins σ H s:=⟨I.ok.wish E,I.os,I.bare,I.base,I.loc,I.cell,I.free,I.freeC,I.pin,I.hok,I.len⟩
theorem Inv.unwish(I:Inv (X.wish E) pins σ H s):Inv X pins σ H s:=⟨I.ok.unwish,I.os,I.bare,I.base,I.loc,I.cell,I.free,I.freeC,I.pin,I.hok,I.len⟩
theorem SP.unwish{D:Ends}{f:Flow}{s':Shared}(h:SP (X.wish E) pins D f s'):SP X pins D f s':=by
 cases f with
 |next=>obtain⟨σ',H',I,q⟩:=h;exact⟨σ',H',I.unwish,q⟩
 |brk=>obtain⟨σ',H',I,q⟩:=h;exact⟨σ',H',I.unwish,q⟩
 |cont=>obtain⟨σ',H',I,q⟩:=h;exact⟨σ',H',I.unwish,q⟩
 |ret u=>obtain⟨v,σ',H',I,r,q⟩:=h;exact⟨v,σ',H',I.unwish,r,q⟩
theorem PE.nox{e:Expr}{t:TE}(h:PE X.nox e t):PE X e t:=λpins s σ H Q I hw =>
 wpAny_mono (h pins s σ H Q (I.wish _) hw) (λ_ _ ⟨v,H',I',r,q⟩=>⟨v,H',I'.unwish,r,q⟩) λ_ _ z=>False.elim z
theorem PT.nox{e:Expr}{t:TT}(h:PT X.nox e t):PT X e t:=λpins s σ H Q I hw =>
 wpAny_mono (h pins s σ H Q (I.wish _) hw) (λ_ _ ⟨H',I',q⟩=>⟨H',I'.unwish,q⟩) λ_ _ z=>False.elim z
theorem PSs.nox{st:List Stmt}{t:TS}(h:PSs X.nox st t):PSs X st t:=λpins s σ H D I hw =>
 wpAny_mono (h pins s σ H D (I.wish _) hw) (λ_ _ q=>q.unwish) λ_ _ z=>False.elim z
end
section
variable{X:Cx}{st:Stmt}{Jq:List Stmt}{t u:TS}{e:Expr}{te:TE}{pos:Pos}
def tNext:TS:=λD σ H=>D.nx σ H
def tSeq(t u:TS):TS:=λD σ H=>t {D with nx:=u D} σ H
theorem pss_nil:PSs X [] tNext:=λ_ _ σ H _ I h=>wpAny_execs_nil ⟨σ,H,I,h⟩
theorem QU(h1:PS X st t)(h2:PSs X Jq u):PSs X (st::Jq) (tSeq t u):=by
 intro pins s σ H D I h;refine wpAny_execs_cons (thn (h1 pins s σ H {D with nx:=u D} I h) λf s1 q=>?_)
 cases f with
 |next =>
  obtain⟨σ',H',I',q⟩:=q;exact h2 pins s1 σ' H' D I' q
 |ret v=>exact q
 |brk=>exact q
 |cont=>exact q
theorem pss_one(h1:PS X st t):PSs X [st] t:=by
 intro pins s σ H D I h;refine wpAny_execs_cons (thn (h1 pins s σ H D I h) λf s1 q=>?_);cases f with
 |next=>exact wpAny_execs_nil q
 |ret v=>exact q
 |brk=>exact q
 |cont=>exact q
theorem Inv.quiet{pins:List (Addr×Obj)}{σ:St}{H:Hp}{s:Shared}(I:Inv X pins σ H s):interactive X.env=false:=by simp[interactive,I.ok.kind]
def tDrop(te:TE):TS:=λD σ H=>te σ H λ_ H1=>D.nx σ H1
theorem uZ(he:PE X e te)(hs:swapsWith e none pos.line X.env=pure false:=by rfl):PS X (.Expr e pos) (tDrop te):=by
 intro pins s σ H D I h;exact wpAny_Expr_any (thn (he pins s σ H _ I h) λv s1 ⟨x,H1,I1,r1,q1⟩=>⟨σ,H1,I1,q1⟩) I.quiet hs
def tRet(te:TE):TS:=λD σ H=>te σ H D.rt
theorem ps_ret(he:PE X e te):PS X (.Return (some e) pos) (tRet te):=by
 intro pins s σ H D I h;exact wpAny_Return_some (thn (he pins s σ H _ I h) λv s1 ⟨x,H1,I1,r1,q1⟩=>⟨x,σ,H1,I1,r1,q1⟩)
def tIfS(c:TT)(t u:TS):TS:=λD σ H=>c σ H λb H1=>if b=true then t D σ H1 else u D σ H1
theorem ps_if{c:Expr}{a b:List Stmt}{tc:TT}(hc:PT X c tc)(ha:PSs X a t)(hb:PSs X b u):PS X (.If c a b pos) (tIfS tc t u):=by
 intro pins s σ H D I h;refine wpAny_If (thn (hc pins s σ H _ I h) λd s1 ⟨H1,I1,q1⟩=>?_);cases d with
 |true=>exact ha pins s1 σ H1 D I1 q1
 |false=>exact hb pins s1 σ H1 D I1 q1
def tNever:TS:=λ_ _ _=>False
theorem QV:PS X st tNever:=λ_ _ _ _ _ _ h=>h.elim
end
abbrev TG:=V->St->Hp->(St->Hp->Prop)->Prop
abbrev TGs:=List V->St->Hp->(St->Hp->Prop)->Prop
def PG(X:Cx)(target:Expr)(t:TG):Prop :=
 ∀(pins:List (Addr×Obj)) (s:Shared) (σ:St) (H:Hp) (v:V) (u:Value) (Q:St->Hp->Prop),Inv X pins σ H s->zv v u->t v σ H Q ->
  wpAny (model X.prog X.w) X.A (assign target X.env u) (λ_ s'=>∃σ' H',Inv X pins σ' H' s'/\Q σ' H') X.xe s
def PGs(X:Cx)(ts:List Expr)(t:TGs):Prop :=
 ∀(pins:List (Addr×Obj)) (s:Shared) (σ:St) (H:Hp) (vs:List V) (us:List Value) (Q:St->Hp->Prop),Inv X pins σ H s->zd vs us->t vs σ H Q ->
  wpAny (model X.prog X.w) X.A (assignInOrder ((assignEach ts X.env).map (·.2)) us) (λ_ s'=>∃σ' H',Inv X pins σ' H' s'/\Q σ' H') X.xe s
abbrev TSet:=V->V->V->Hp->(Hp->Prop)->Prop
def PSet(X:Cx)(t:TSet):Prop :=
 ∀(pins:List (Addr×Obj)) (s:Shared) (σ:St) (H:Hp) (o i v:V) (ov iv u:Value) (Q:Hp->Prop),Inv X pins σ H s->zv o ov->zv i iv->zv v u->t o i v H Q ->
  wpAny (model X.prog X.w) X.A (setItem ov iv u) (λ_ s'=>∃H',Inv X pins σ H' s'/\Q H') X.xe s
section
variable{X:Cx}{pos:Pos}
def We(i:Nat):TG:=λv σ H Q=>Q (σ.set i (some v)) H
theorem ua{i:Nat}{x:Str}(hN:X.N.Nodup)(hi:X.N[i]?=some x)(hx:Loc X.env.scope x)(hf:X.fn x=true\/X.env.scope.names.lookup x=some .local:=by first|exact .inl rfl|exact .inr rfl|assumption):PG X (.Name x pos) (We i):=by
 intro pins s σ H v u Q I r h;exact wpAny_assign_Name (J2 I hN hi hx r (λs' I'=>⟨_,H,I',h⟩) hf)
def gNil:TGs:=λvs σ H Q=>vs=[]/\Q σ H
def gCons(t:TG)(u:TGs):TGs:=λvs σ H Q=>∃v r,vs=v::r/\t v σ H λσ' H'=>u r σ' H' Q
theorem pgs_nil:PGs X [] gNil:=by
 intro pins s σ H vs us Q I r h;obtain⟨e,h⟩:=h;subst e;cases r;exact assignInOrder_nil ⟨σ,H,I,h⟩
theorem QW{e:Expr}{es:List Expr}{t:TG}{u:TGs}(h1:PG X e t)(h2:PGs X es u)
  (hs:(assignEach (e::es) X.env).map (·.2)=assign e X.env::(assignEach es X.env).map (·.2):=by rfl):PGs X (e::es) (gCons t u):=by
 intro pins s σ H vs us Q I r h;obtain⟨v,vr,e1,h⟩:=h;subst e1;cases r with
 |cons r rr =>
  rw[hs];refine assignInOrder_cons (thn (h1 pins s σ H _ _ _ I r h) λ_ s1 ⟨σ1,H1,I1,q1⟩=>?_);exact h2 pins s1 σ1 H1 _ _ Q I1 rr q1
def gTup(K:PySem.W.Frag)(n:Nat)(t:TGs):TG:=λv σ H Q=>∃a xs,v=.ref a/\SqT K H a xs/\xs.length=n/\t xs σ H Q
theorem zAj{es:List Expr}{k:Nat}{t:TGs}{n:Nat}(hc:X.calm=true)(h:PGs X es t)
  (hn:(assignEach es X.env).length=n:=by rfl) (hst:(assignEach es X.env).findIdx? (·.1)=none:=by rfl):PG X (.Tuple es k pos) (gTup X.K n t):=by
 intro pins s σ H v u Q I r hw;obtain⟨a,xs,e1,hq,hl,hw⟩:=hw;subst e1;cases r;obtain⟨its,rv,ht,hz⟩:=I.tuple hq;refine assign_Tuple_tuple (I.ok.hd hc) ht (by simp[hn,<- hl,rv.length]) hst λh' hx=>?_
 have I1:Inv X pins σ H {s with heap:=h'}:=I.kept (t':=s.toks) λb o e=>hx b o (ne_of_lt (lt_size e)) e
 exact h pins _ σ H xs _ Q I1 (by simpa using rv) hw
def gSub(to ti:TE)(t:TSet):TG:=λv σ H Q=>to σ H λo H1=>ti σ H1 λi H2=>t o i v H2 λH3=>Q σ H3
theorem pg_sub{o i:Expr}{to ti:TE}{t:TSet}(ho:PE X o to)(hi:PE X i ti)(hs:PSet X t)
  (ha:∀v,assign (.Subscript o i pos) X.env v=(do
   let ov <- holding [v] (eval o X.env)
   let iv <- holding [v,ov] (eval i X.env)
   standAt pos
   holding [v,ov,iv] (setItem ov iv v)
   release [v,ov,iv] []):=by intro _;rfl):PG X (.Subscript o i pos) (gSub to ti t):=by
 intro pins s σ H v u Q I r h;rw[ha];refine wpAny_bind (wpAny_holding (thn (ho pins s σ H _ I h) λov s1 ⟨x,H1,I1,r1,q1⟩=>?_));refine wpAny_bind (wpAny_holding (thn (hi pins s1 σ H1 _ I1 q1) λiv s2 ⟨y,H2,I2,r2,q2⟩=>?_));refine wpAny_bind (wpAny_standAt (wpAny_bind (wpAny_holding (thn (hs pins s2 σ H2 x y v ov iv u _ I2 r1 r2 r q2) λ_ s3 ⟨H3,I3,q3⟩=>?_))));exact wpAny_release ⟨σ,H3,I3,q3⟩
def tAsg(te:TE)(g:TG):TS:=λD σ H=>te σ H λx H1=>g x σ H1 D.nx
theorem zAk{tg e:Expr}{te:TE}{g:TG}(he:PE X e te)(hg:PG X tg g)(hs:swapsWithSole [tg] e pos.line X.env=pure false:=by rfl)(hw:swappedStores [tg] e X.env=pure none:=by rfl)
  (h1:(assignEach [tg] X.env).map (·.2)=[assign tg X.env]:=by rfl):PS X (.Assign [tg] e pos) (tAsg te g):=by
 intro pins s σ H D I h;refine wpAny_Assign_stores (thn (he pins s σ H _ I h) λv s1 ⟨x,H1,I1,r1,q1⟩=>?_) hs hw;rw[h1];exact thn (hg pins s1 σ H1 x v _ I1 r1 q1) λ_ s2 q=>q
theorem ps_set{i:Nat}{x:Str}{e:Expr}{te:TE}{pos':Pos}(hN:X.N.Nodup)(hi:X.N[i]?=some x)(hx:Loc X.env.scope x)(he:PE X e te)(hs:swapsWith e (some (.Name x pos')) pos.line X.env=pure false:=by rfl)(hf:X.fn x=true\/X.env.scope.names.lookup x=some .local:=by first|exact .inl rfl|exact .inr rfl|assumption) :
  PS X (.Assign [.Name x pos'] e pos) (tAsg te (We i)):=by
 intro pins s σ H D I h;refine wpAny_Assign_Name (thn (he pins s σ H _ I h) λv s1 ⟨y,H1,I1,r1,q1⟩=>?_) hs;exact J2 I1 hN hi hx r1 (λs2 I2=>⟨_,H1,I2,q1⟩) hf
end
section
variable{X:Cx}{pos:Pos}
end
structure It where
 go:Nat->Hp->Prop
 yld:Nat->Hp->V->Hp->Prop
 stop:Nat->Hp->Prop
def zAl(X:Cx)(pins:List (Addr×Obj))(H:Hp)(b:Addr):Prop :=
 H b=none/\b≠X.env.locals/\b∉X.fs/\(b∈X.ex\/X.s₀.heap.objs.size<=b)/\(∀x c,X.env.cells.lookup x=some c->c≠b)/\∀p∈X.pn++pins,p.1≠b
theorem Inv.fpOk{X:Cx}{pins:List (Addr×Obj)}{σ:St}{H H':Hp}{s:Shared}{b:Addr}(I:Inv X pins σ H s)(hb:s.heap.objs.size<=b)(hn:H' b=none):zAl X pins H' b:=by
 refine⟨hn,Nat.ne_of_gt (lt_of_lt_of_le I.lt hb),I.nofs hb,.inr (le_trans I.sz hb),λx c e z=>?_,λp hp z=>?_⟩
 ·obtain⟨v,q⟩:=I.cell x c e
  exact absurd (lt_of_lt_of_le q.lt (by rw[z];exact hb)) (lt_irrefl _)
 ·exact absurd (lt_of_lt_of_le (lt_size (I.pin p hp).1) (by rw[z];exact hb)) (lt_irrefl _)
structure Turn(P:Program)(w:World)(K:PySem.W.Frag)(tg:Expr)(J:It)(fp:List Addr)(it:Addr)(tn:Nat->Heap->Prop):Prop where
 mem:it∈fp
 obj:∀i h,tn i h->∀b∈fp,∃o,h.get? b=some o/\∀v,o.data≠.cell v
 keep:∀i h h',tn i h->(∀b∈fp,∀o,h.get? b=some o->h'.get? b=some o)->tn i h'
 item:∀(X:Cx),X.prog=P->X.w=w->X.K=K->X.calm=true->∀(i:Nat) (pins:List (Addr×Obj)) (s:Shared) (σ:St) (H:Hp) (E:Value->Shared->Prop),Inv X pins σ H s->(∀b∈fp,zAl X pins H b)->tn i s.heap->J.go i H ->
  wpAny (model P w) X.A (pyNext (.ref it)) (λr s1=>∃u,r=some u /\
   wpAny (model P w) X.A (letOwnedTupleGo tg (.ref it) u) (λ_ s2=>∃x H',Inv X pins σ H' s2/\zv x u/\J.yld i H x H'/\tn (i+1) s2.heap/\∀b∈fp,H' b=none) E s1) E s
 done:∀(X:Cx),X.prog=P->X.w=w->X.K=K->X.calm=true->∀(i:Nat) (pins:List (Addr×Obj)) (s:Shared) (σ:St) (H:Hp) (E:Value->Shared->Prop),Inv X pins σ H s->(∀b∈fp,zAl X pins H b)->tn i s.heap->J.stop i H ->
  wpAny (model P w) X.A (pyNext (.ref it)) (λr s1=>r=none/\Inv X pins σ H s1) E s
 self:∀(A:Around) (i:Nat) (s:Shared) (Q:Value->Shared->Prop) (E:Value->Shared->Prop),tn i s.heap->Q (.ref it) s->wpAny (model P w) A (pyIter (.ref it)) Q E s
abbrev TI:=St->Hp->(It->Hp->Prop)->Prop
def PIE(X:Cx)(pins:List (Addr×Obj))(σ:St)(tg:Expr)(R:It->Hp->Prop)(itv:Value)(s2:Shared):Prop :=
 ∃(it:Addr) (fp:List Addr) (tn:Nat->Heap->Prop) (J:It) (H':Hp),itv=.ref it/\Inv X pins σ H' s2/\Turn X.prog X.w X.K tg J fp it tn/\tn 0 s2.heap/\(∀b∈fp,zAl X pins H' b)/\R J H'
def PI(X:Cx)(tg iter:Expr)(wi:TI):Prop :=
 ∀(pins:List (Addr×Obj)) (s:Shared) (σ:St) (H:Hp) (R:It->Hp->Prop),Inv X pins σ H s->wi σ H R ->
  wpAny (model X.prog X.w) X.A (eval iter X.env) (λv s1=>wpAny (model X.prog X.w) X.A (pyIter v) (PIE X pins σ tg R) X.xe s1) X.xe s
theorem Zk{M:Model}{A:Around}{E:Value->Shared->Prop}{s:Shared}{tg:Expr}{it:Addr}{u:Value}{o:Obj}{n:String}{vs:Array Value}{Q:Unit->Shared->Prop}(ho:s.heap.get? it=some o)(hc:o.cls=.type n)(hd:o.data=.fields vs)
  (hn:["enumerate","zip","dict_itemiterator","dict_reverseitemiterator","odict_iterator","itertools.zip_longest","itertools.pairwise"].contains n=false) (hQ:Q () s):wpAny M A (letOwnedTupleGo tg (.ref it) u) Q E s:=by
 unfold letOwnedTupleGo
 cases tg<;>first
  |exact wpAny_pure hQ
  | (cases u<;>first
    |exact wpAny_pure hQ
    | (refine wpAny_bind (wpAny_load ho ?_)
       rw[hc,hd];show wpAny M A (if(["enumerate","zip","dict_itemiterator","dict_reverseitemiterator","odict_iterator","itertools.zip_longest","itertools.pairwise"].contains n&&vs[0]?==some (rawInt _))=true then _ else _) Q E s;rw[if_neg (by intro h;rw[hn,Bool.false_and]at h;cases h)];exact wpAny_pure hQ))
def Itl(K:PySem.W.Frag)(a:Addr):It :=
 ⟨λi H=>∃xs x,SqL K H a xs/\xs[i]?=some x,λi H x H'=>H'=H/\∀xs,SqL K H a xs->xs[i]?=some x,λi H=>∃xs,SqL K H a xs/\xs.length<=i⟩
def Itt(K:PySem.W.Frag)(a:Addr):It :=
 ⟨λi H=>∃xs x,SqT K H a xs/\xs[i]?=some x,λi H x H'=>H'=H/\∀xs,SqT K H a xs->xs[i]?=some x,λi H=>∃xs,SqT K H a xs/\xs.length<=i⟩
def Itr(lo:Int)(n:Nat):It:=⟨λi _=>i<n,λi H x H'=>H'=H/\x=.int (lo+i),λi _=>n<=i⟩
theorem ub{P:Program}{w:World}{K:PySem.W.Frag}{tg:Expr}(a it:Addr):Turn P w K tg (Itl K a) [it] it (λi h=>h.IsListIter it a i) where
 mem:=by simp
 obj:=λi h st b hb=>by
  have e:b=it:=by simpa using hb
  subst e;obtain⟨o,e,c,d⟩:=st;exact⟨o,e,λv z=>by rw[d]at z;cases z⟩
 keep:=λi h h' st k=>st.at λo e=>k it (by simp) o e
 item:=by
  intro X hP hw hK hc i pins s σ H E I hf st hg;subst hP hw hK;obtain⟨xs,x,hq,hx⟩:=hg;obtain⟨its,rv,p,hz⟩:=I.list hq;obtain⟨u,hu,ru⟩:=rv.get hx;obtain⟨f0,f1,f2,f3,f4,f5⟩:=hf it (by simp);refine wpAny_pyNext_list_item st p.isList (x:=u) (by simpa using hu) λh' st' sb=>?_
  have I1:Inv X pins σ H {s with heap:=h'}:=I.turned (t':=s.toks) (λb o hb e=>(sb.2 b hb).trans e) f0 f1 f3 f4 f5
  obtain⟨o,e,c,d⟩:=id st';exact⟨u,rfl,Zk (s:={s with heap:=h'}) e c d (by decide) ⟨x,H,I1,ru,⟨rfl,λys hy=>by rw[I.list_inj hy hq];exact hx⟩,st',λb hb=>(hf b hb).1⟩⟩
 done:=by
  intro X hP hw hK hc i pins s σ H E I hf st hg;subst hP hw hK;obtain⟨xs,hq,hx⟩:=hg;obtain⟨its,rv,p,hz⟩:=I.list hq;obtain⟨f0,f1,f2,f3,f4,f5⟩:=hf it (by simp);have hl:=rv.length;exact wpAny_pyNext_list_end (I.ok.hd hc) st p.isList (by simp;omega) λh' eb=>⟨rfl,I.turned (t':=s.toks) (λb o hb e=>eb b o hb e) f0 f1 f3 f4 f5⟩
 self:=λ_ _ _ _ _ st h=>wpAny_pyIter_listiter st h
theorem vt{P:Program}{w:World}{K:PySem.W.Frag}{tg:Expr}(a it:Addr):Turn P w K tg (Itt K a) [it] it (λi h=>h.IsTupleIter it a i) where
 mem:=by simp
 obj:=λi h st b hb=>by
  have e:b=it:=by simpa using hb
  subst e;obtain⟨o,e,c,d⟩:=st;exact⟨o,e,λv z=>by rw[d]at z;cases z⟩
 keep:=λi h h' st k=>st.at λo e=>k it (by simp) o e
 item:=by
  intro X hP hw hK hc i pins s σ H E I hf st hg;subst hP hw hK;obtain⟨xs,x,hq,hx⟩:=hg;obtain⟨its,rv,p,hz⟩:=I.tuple hq;obtain⟨u,hu,ru⟩:=rv.get hx;obtain⟨f0,f1,f2,f3,f4,f5⟩:=hf it (by simp);refine wpAny_pyNext_tuple_item st (show s.heap.IsTuple a its.toArray from p) (x:=u) (by simpa using hu) λh' st' sb=>?_
  have I1:Inv X pins σ H {s with heap:=h'}:=I.turned (t':=s.toks) (λb o hb e=>(sb.2 b hb).trans e) f0 f1 f3 f4 f5
  obtain⟨o,e,c,d⟩:=id st';exact⟨u,rfl,Zk (s:={s with heap:=h'}) e c d (by decide) ⟨x,H,I1,ru,⟨rfl,λys hy=>by rw[I.tuple_inj hy hq];exact hx⟩,st',λb hb=>(hf b hb).1⟩⟩
 done:=by
  intro X hP hw hK hc i pins s σ H E I hf st hg;subst hP hw hK;obtain⟨xs,hq,hx⟩:=hg;obtain⟨its,rv,p,hz⟩:=I.tuple hq;obtain⟨f0,f1,f2,f3,f4,f5⟩:=hf it (by simp);have hl:=rv.length;exact wpAny_pyNext_tuple_end (I.ok.hd hc) st (show s.heap.IsTuple a its.toArray from p) (by simp;omega) λh' eb=>⟨rfl,I.turned (t':=s.toks) (λb o hb e=>eb b o hb e) f0 f1 f3 f4 f5⟩
 self:=λ_ _ _ _ _ st h=>wpAny_pyIter_tupleiter st h
theorem vv{P:Program}{w:World}{K:PySem.W.Frag}{tg:Expr}(it:Addr)(lo:Int)(n:Nat):Turn P w K tg (Itr lo n) [it] it (λi h=>IsRangeIter h it (lo+(i:Nat)*1) ((n:Int)-(i:Nat)) 1) where
 mem:=by simp
 obj:=λi h st b hb=>by
  have e:b=it:=by simpa using hb
  subst e;exact⟨_,st,λv z=>by
   have z':Data.fields _=Data.cell v:=z;cases z'⟩
 keep:=λi h h' st k=>k it (by simp) _ st
 item:=by
  intro X hP hw hK hc i pins s σ H E I hf st hg;subst hP hw hK;obtain⟨f0,f1,f2,f3,f4,f5⟩:=hf it (by simp);have W:=Walks.range (prog:=X.prog) (w:=X.w) (I.ok.hd hc) it lo 1 n;refine W.item i s _ _ hg st λv h' tk hv st' kk=>?_
  obtain⟨t,rfl⟩:=hv;have I1:Inv X pins σ H {s with heap:=h',toks:=tk}:=I.turned (λb o hb e=>kk b o (by simpa using hb) e) f0 f1 f3 f4 f5
  refine⟨_,rfl,Zk (s:={s with heap:=h',toks:=tk}) (n:="range_iterator") st' rfl rfl (by decide) ⟨.int (lo+i),H,I1,⟨t,?_⟩,⟨rfl,rfl⟩,st',λb hb=>(hf b hb).1⟩⟩
  rw[Int.mul_one]
 done:=by
  intro X hP hw hK hc i pins s σ H E I hf st hg;subst hP hw hK;obtain⟨f0,f1,f2,f3,f4,f5⟩:=hf it (by simp);exact wpAny_pyNext_range_end (I.ok.hd hc) st (by have:n<=i:=hg;omega) λh' eb=>⟨rfl,I.turned (t':=s.toks) (λb o hb e=>eb b o hb e) f0 f1 f3 f4 f5⟩
 self:=λ_ _ _ _ _ st h=>wpAny_pyIter_rangeiter st h
end L2
namespace L2
open PySem PySem.Spec PyProof.Rows
section
variable{X:Cx}{tg:Expr}
def iList(K:PySem.W.Frag)(tl:TE):TI:=λσ H R=>tl σ H λx H1=>∃a,x=.ref a/\(∃xs,SqL K H1 a xs)/\R (Itl K a) H1
def iTup(K:PySem.W.Frag)(tl:TE):TI:=λσ H R=>tl σ H λx H1=>∃a,x=.ref a/\(∃xs,SqT K H1 a xs)/\R (Itt K a) H1
theorem uc{l:Expr}{tl:TE}(hl:PE X l tl):PI X tg l (iList X.K tl):=by
 intro pins s σ H R I h;refine thn (hl pins s σ H _ I h) λv s1 ⟨x,H1,I1,r1,q1⟩=>?_
 obtain⟨a,e,⟨xs,hq⟩,q⟩:=q1;subst e;cases r1;obtain⟨its,rv,p,hz⟩:=I1.list hq;refine wpAny_pyIter_list p.isList ?_;refine⟨s1.heap.objs.size,[s1.heap.objs.size],_,_,H1,rfl,I1.kept (t':=s1.toks) λb o e=>get?_push_of_some _ e,ub a _,⟨_,get?_push_size _ rfl,rfl,rfl⟩,λb hb=>?_,q⟩;have e:b=s1.heap.objs.size:=by simpa using hb
 subst e;exact I1.fpOk (le_refl _) (I1.hok.fresh (le_refl _))
theorem pi_tup{l:Expr}{tl:TE}(hl:PE X l tl):PI X tg l (iTup X.K tl):=by
 intro pins s σ H R I h;refine thn (hl pins s σ H _ I h) λv s1 ⟨x,H1,I1,r1,q1⟩=>?_
 obtain⟨a,e,⟨xs,hq⟩,q⟩:=q1;subst e;cases r1;obtain⟨its,rv,p,hz⟩:=I1.tuple hq;refine wpAny_pyIter_tuple (show s1.heap.IsTuple a its.toArray from p) ?_;refine⟨s1.heap.objs.size,[s1.heap.objs.size],_,_,H1,rfl,I1.kept (t':=s1.toks) λb o e=>get?_push_of_some _ e,vt a _,⟨_,get?_push_size _ rfl,rfl,rfl⟩,λb hb=>?_,q⟩;have e:b=s1.heap.objs.size:=by simpa using hb
 subst e;exact I1.fpOk (le_refl _) (I1.hok.fresh (le_refl _))
theorem W9{pins:List (Addr×Obj)}{σ:St}{H:Hp}{s:Shared}{R:It->Hp->Prop}{E:Value->Shared->Prop}{lo hi:Int}{t u v:Tok}{tk:Nat}(I:Inv X pins σ H s)(h1:-(2^62)<=lo)(h2:lo<2^62)(h3:-(2^62)<=hi)(h4:hi<2^62)
  (q:R (Itr lo (hi-lo).toNat) H):wpAny (model X.prog X.w) X.A (pyIter (.ref s.heap.objs.size)) (PIE X pins σ tg R) E {s with heap:=s.heap.push {cls:=.type "range",data:=.fields #[.int lo t,.int hi u,.int 1 v]},toks:=tk}:=by
 refine wpAny_pyIter_range (IsRange.new ..) (small_one h1 h2 h3 h4) ?_;have I1:Inv X pins σ H {s with heap:=s.heap.push {cls:=.type "range",data:=.fields #[.int lo t,.int hi u,.int 1 v]},toks:=tk}:=I.kept λb o e=>get?_push_of_some _ e
 refine⟨(s.heap.push {cls:=.type "range",data:=.fields #[.int lo t,.int hi u,.int 1 v]}).objs.size,[(s.heap.push {cls:=.type "range",data:=.fields #[.int lo t,.int hi u,.int 1 v]}).objs.size],_,_,H,rfl,
  I1.kept (t':=tk) λb o e=>get?_push_of_some _ e,vv _ lo (hi-lo).toNat,?_,λb hb=>?_,q⟩
 ·have e1:lo+((0:Nat):Int)*1=lo:=by simp
  have e2:(((hi-lo).toNat:Nat):Int)-((0:Nat):Int)=Builtin.Range.rangeSize lo hi 1:=by rw[rangeSize_one];split<;>omega
  show IsRangeIter _ _ (lo+((0:Nat):Int)*1) ((((hi-lo).toNat:Nat):Int)-((0:Nat):Int)) 1
  rw[e1,e2];exact get?_push_size _ rfl
 ·have e:b=(s.heap.push {cls:=.type "range",data:=.fields #[.int lo t,.int hi u,.int 1 v]}).objs.size:=by simpa using hb
  subst e;exact I1.fpOk (le_refl _) (I1.hok.fresh (le_refl _))
def iRng1(ta:TA):TI:=λσ H R=>ta σ H λvs H1=>∃j:Int,vs=[.int j]/\-(2^62)<=j/\j<2^62/\R (Itr 0 j.toNat) H1
def iRng2(ta:TA):TI:=λσ H R=>ta σ H λvs H1=>∃i j:Int,vs=[.int i,.int j]/\(-(2^62)<=i/\i<2^62/\-(2^62)<=j/\j<2^62)/\R (Itr i (j-i).toNat) H1
theorem Zl{a:Expr}{ta:TA}{p pos:Pos}(hg:Gl X "range")(hm:X.mg "range"=none)(ha:PA X [a] ta)(hs:starEach [a] X.env=[(false,eval a X.env)]:=by rfl):PI X tg (.Call (.Name "range" p) [a] [] pos) (iRng1 ta):=by
 intro pins s σ H R I h;refine Call_ (Zj I hg hm boot_range (PyProof.Rows.callWith_type1 (thn (ha pos pins s σ H _ I h) λus s1 ⟨vs,H1,I1,r1,q1⟩=>?_) hs rfl));obtain⟨j,e,q1,q2,q⟩:=q1;subst e;cases r1 with
 |cons r rr =>
  cases rr;obtain⟨t,rfl⟩:=r;exact call_range_1 (W9 I1 (by omega) (by omega) q1 q2 (by simpa using q))
theorem ud{a b:Expr}{ta:TA}{p pos:Pos}(hg:Gl X "range")(hm:X.mg "range"=none)(ha:PA X [a,b] ta)(hs:starEach [a,b] X.env=[(false,eval a X.env),(false,eval b X.env)]:=by rfl)(hs2:starEach [b] X.env=[(false,eval b X.env)]:=by rfl) :
  PI X tg (.Call (.Name "range" p) [a,b] [] pos) (iRng2 ta):=by
 intro pins s σ H R I h;refine Call_ (Zj I hg hm boot_range (PyProof.Rows.callWith_type1 (thn (ha pos pins s σ H _ I h) λus s1 ⟨vs,H1,I1,r1,q1⟩=>?_) (by rw[hs,hs2]) (by rw[hs2];rfl)));obtain⟨i,j,e,⟨q1,q2,q3,q4⟩,q⟩:=q1;subst e;cases r1 with
 |cons r rr =>
  cases rr with
  |cons r' rr =>
   cases rr;obtain⟨t,rfl⟩:=r;obtain⟨t',rfl⟩:=r';exact call_range_2 (W9 I1 q1 q2 q3 q4 q)
def tFor(wi:TI)(g:TG)(tb:TS):TS:=λD σ H=>wi σ H λJ H1=>∃W:Nat->Nat->St->Hp->Prop,(∃m,W 0 m σ H1)/\∀i m σ H,W i m σ H ->
 (J.stop i H/\D.nx σ H)\/(J.go i H/\∃N:St->Hp->Prop,(∀σ' H',N σ' H'->∃m',m'<m/\W (i+1) m' σ' H')/\∀x H',J.yld i H x H'->g x σ H' λσ2 H2=>tb {D with nx:=N,ct:=N,bk:=D.nx} σ2 H2)
def Zm(fp:List Addr)(h:Heap):List (Addr×Obj):=fp.filterMap λb=>(h.get? b).map λo=>(b,o)
theorem j5{fp:List Addr}{h:Heap}{b:Addr}{o:Obj}(hb:b∈fp)(e:h.get? b=some o):(b,o)∈Zm fp h:=mem_filterMap.mpr ⟨b,hb,by rw[e];rfl⟩
theorem ue{fp:List Addr}{h:Heap}{p:Addr×Obj}(hp:p∈Zm fp h):p.1∈fp/\h.get? p.1=some p.2:=by
 obtain⟨b,hb,e⟩:=mem_filterMap.mp hp;cases q:h.get? b with
 |none=>rw[q]at e;cases e
 |some o =>
  rw[q]at e;have e':(b,o)=p:=Option.some.inj e;subst e';exact⟨hb,q⟩
theorem Inv.pinned{pins:List (Addr×Obj)}{σ:St}{H:Hp}{s:Shared}{fp:List Addr}(I:Inv X pins σ H s)(hf:∀b∈fp,zAl X pins H b)(ho:∀b∈fp,∃o,s.heap.get? b=some o/\∀v,o.data≠.cell v):Inv X (pins++Zm fp s.heap) σ H s :=
 I.pins_of λp hp=>(mem_append.mp hp).elim (λz=>I.pin p (mem_append_right _ z)) λz=>by
  obtain⟨hb,e⟩:=ue z;obtain⟨f0,f1,f2,_⟩:=hf p.1 hb;obtain⟨o,e',d⟩:=ho p.1 hb;rw[e]at e';cases e';exact⟨e,f0,f1,f2,d⟩
theorem Inv.unpinned{pins pl:List (Addr×Obj)}{σ:St}{H:Hp}{s:Shared}(I:Inv X (pins++pl) σ H s):Inv X pins σ H s:=I.pins_of λp hp=>I.pin p (mem_append_right _ (mem_append_left _ hp))
theorem zAm{iter:Expr}{body:List Stmt}{wi:TI}{g:TG}{tb:TS}{pos:Pos}(hp:PassesOwn (model X.prog X.w) X.A X.env X.xe)(hc:X.calm=true)(hi:PI X tg iter wi)(hg:PG X tg g)(hb:PSs X body tb)
  (hs:∀x,foldedSetIterable iter X.env x=pure x:=by intro _;rfl):PS X (.For tg iter body [] pos) (tFor wi g tb):=by
 intro pins s σ H D I h;refine wpAny_For (thn (hi pins s σ H _ I h) λv s1 h1=>thn h1 λitv s2 h2=>?_) hs;obtain⟨it,fp,tn,J,H2,e,I2,T,st2,f2,W,⟨m0,w0⟩,turn⟩:=h2;subst e
 -- what stays true of the iterator's objects through the loop
 have stat:∀{H':Hp},(∀b∈fp,H' b=none)->∀b∈fp,zAl X pins H' b:=λhn b hb=>⟨hn b hb,(f2 b hb).2⟩
 refine codeAny_forLoop_any (λn s'=>∃i σ' H',Inv X pins σ' H' s'/\tn i s'.heap/\(∀b∈fp,H' b=none)/\W i n σ' H') ?_ m0 ⟨0,σ,H2,I2,st2,λb hb=>(f2 b hb).1,w0⟩
 rintro n s3 ⟨i,σ3,H3,I3,st3,fr3,w3⟩
 rcases turn i n σ3 H3 w3 with⟨stop,qn⟩|⟨go,N,hN,step⟩
 ·refine wpAny_passesOwn hp (thn (T.done X rfl rfl rfl hc i pins s3 σ3 H3 X.xe I3 (stat fr3) st3 stop) λr s4 ⟨hr,I4⟩=>?_)
  subst hr;exact wpAny_execs_nil ⟨σ3,H3,I4,qn⟩
 ·refine wpAny_passesOwn hp (thn (T.item X rfl rfl rfl hc i pins s3 σ3 H3 X.xe I3 (stat fr3) st3 go) λr s4 ⟨u,hr,h4⟩=>?_)
  subst hr;refine wpAny_passesOwn hp (thn h4 λ_ s5 ⟨x,H5,I5,r5,y5,st5,fr5⟩=>?_);have I5':=I5.pinned (stat fr5) (T.obj _ _ st5);refine wpAny_passesOwn hp (thn (hg _ s5 σ3 H5 x u _ I5' r5 (step x H5 y5)) λ_ s6 ⟨σ6,H6,I6,q6⟩=>?_);refine wpAny_passesOwn hp (thn (hb _ s6 σ6 H6 _ I6 q6) λf s7 q7=>?_);have again:∀{σ7:St} {H7:Hp},Inv X (pins++Zm fp s5.heap) σ7 H7 s7->N σ7 H7->∃m,m<n/\∃i σ' H',Inv X pins σ' H' s7/\tn i s7.heap/\(∀b∈fp,H' b=none)/\W i m σ' H':=λ{σ7 H7} I7 n7=>by
   obtain⟨m',hm,w7⟩:=hN σ7 H7 n7;refine⟨m',hm,i+1,σ7,H7,I7.unpinned,T.keep _ _ _ st5 λb hb o e=>(I7.pin (b,o) (mem_append_right _ (mem_append_right _ (j5 hb e)))).1,λb hb=>?_,w7⟩;obtain⟨o,e,d⟩:=T.obj _ _ st5 b hb;exact(I7.pin (b,o) (mem_append_right _ (mem_append_right _ (j5 hb e)))).2.1
  cases f with
  |next=>obtain⟨σ7,H7,I7,n7⟩:=q7;exact again I7 n7
  |cont=>obtain⟨σ7,H7,I7,n7⟩:=q7;exact again I7 n7
  |brk=>obtain⟨σ7,H7,I7,q7⟩:=q7;exact⟨σ7,H7,I7.unpinned,q7⟩
  |ret v=>obtain⟨x7,σ7,H7,I7,r7,q7⟩:=q7;exact⟨x7,σ7,H7,I7.unpinned,r7,q7⟩
end
theorem QX{K:PySem.W.Frag}{a:Addr}{xs:List V}{g:TG}{tb:TS}{D:Ends}{σ:St}{H:Hp}(Pv:Nat->St->Hp->Prop)(h0:Pv 0 σ H)(hl:∀i σ H,i<=xs.length->Pv i σ H->SqL K H a xs)
  (hs:∀i x σ H,xs[i]?=some x->Pv i σ H->g x σ H λσ2 H2=>tb {D with nx:=Pv (i+1),ct:=Pv (i+1),bk:=D.nx} σ2 H2) (hd:∀σ H,Pv xs.length σ H->D.nx σ H) :
  ∃W:Nat->Nat->St->Hp->Prop,(∃m,W 0 m σ H)/\∀i m σ H,W i m σ H ->
   ((Itl K a).stop i H/\D.nx σ H)\/((Itl K a).go i H/\∃N:St->Hp->Prop,(∀σ' H',N σ' H'->∃m',m'<m/\W (i+1) m' σ' H')/\∀x H',(Itl K a).yld i H x H'->g x σ H' λσ2 H2=>tb {D with nx:=N,ct:=N,bk:=D.nx} σ2 H2):=by
 refine⟨λi m σ H=>m=xs.length-i/\i<=xs.length/\Pv i σ H,⟨xs.length,by simp,zero_le _,h0⟩,?_⟩
 rintro i m σ H ⟨rfl,hi,p⟩
 have q:=hl i σ H hi p;by_cases hlt:i<xs.length
 ·refine .inr ⟨⟨xs,xs[i],q,by simp[hlt]⟩,Pv (i+1),λσ' H' p'=>⟨xs.length-(i+1),by omega,rfl,hlt,p'⟩,λx H' y=>?_⟩
  obtain⟨e,y⟩:=y;subst e;exact hs i x σ _ (y xs q) p
 ·have e:i=xs.length:=by omega
  subst e;exact .inl ⟨⟨xs,q,le_refl _⟩,hd σ H p⟩
theorem uf{lo:Int}{n:Nat}{g:TG}{tb:TS}{D:Ends}{σ:St}{H:Hp}(Pv:Nat->St->Hp->Prop)(h0:Pv 0 σ H)
  (hs:∀i σ H,i<n->Pv i σ H->g (.int (lo+i)) σ H λσ2 H2=>tb {D with nx:=Pv (i+1),ct:=Pv (i+1),bk:=D.nx} σ2 H2) (hd:∀σ H,Pv n σ H->D.nx σ H) :
  ∃W:Nat->Nat->St->Hp->Prop,(∃m,W 0 m σ H)/\∀i m σ H,W i m σ H ->
   ((Itr lo n).stop i H/\D.nx σ H)\/((Itr lo n).go i H/\∃N:St->Hp->Prop,(∀σ' H',N σ' H'->∃m',m'<m/\W (i+1) m' σ' H')/\∀x H',(Itr lo n).yld i H x H'->g x σ H' λσ2 H2=>tb {D with nx:=N,ct:=N,bk:=D.nx} σ2 H2):=by
 refine⟨λi m σ H=>m=n-i/\i<=n/\Pv i σ H,⟨n,by simp,zero_le _,h0⟩,?_⟩
 rintro i m σ H ⟨rfl,hi,p⟩
 by_cases hlt:i<n
 ·refine .inr ⟨hlt,Pv (i+1),λσ' H' p'=>⟨n-(i+1),by omega,rfl,hlt,p'⟩,λx H' y=>?_⟩
  obtain⟨e,y⟩:=y;subst e y;exact hs i σ _ hlt p
 ·have e:i=n:=by omega
  subst e;exact .inl ⟨le_refl _,hd σ H p⟩
end L2
namespace L2
open PySem PySem.Spec PyProof.Rows
abbrev R2:=V->V->Hp->VK->Prop
def OpR(X:Cx)(f:Value->Value->Sem Value)(r:R2):Prop :=
 ∀(pins:List (Addr×Obj)) (s:Shared) (σ:St) (H:Hp) (x y:V) (v u:Value) (Q:VK),Inv X pins σ H s->zv x v->zv y u->r x y H Q ->
  wpAny (model X.prog X.w) X.A (f v u) (EP X pins σ Q) X.xe s
def UnR(X:Cx)(f:Value->Sem Value)(r:V->Hp->VK->Prop):Prop :=
 ∀(pins:List (Addr×Obj)) (s:Shared) (σ:St) (H:Hp) (x:V) (v:Value) (Q:VK),Inv X pins σ H s->zv x v->r x H Q ->
  wpAny (model X.prog X.w) X.A (f v) (EP X pins σ Q) X.xe s
def jA(X:Cx)(f:Value)(r:List V->Hp->VK->Prop):Prop :=
 ∀(pins:List (Addr×Obj)) (s:Shared) (σ:St) (H:Hp) (xs:List V) (us:List Value) (Q:VK),Inv X pins σ H s->zd xs us->r xs H Q ->
  wpAny (model X.prog X.w) X.A (call f us) (EP X pins σ Q) X.xe s
def tOp(r:R2)(ta tb:TE):TE:=λσ H Q=>ta σ H λx H1=>tb σ H1 λy H2=>r x y H2 Q
def tUn(r:V->Hp->VK->Prop)(ta:TE):TE:=λσ H Q=>ta σ H λx H1=>r x H1 Q
def rI(C:Int->Int->Prop)(g:Int->Int->V):R2:=λx y H Q=>∃i j,x=.int i/\y=.int j/\C i j/\Q (g i j) H
def rI0(g:Int->Int->V):R2:=λx y H Q=>∃i j,x=.int i/\y=.int j/\Q (g i j) H
def rU(g:Int->V):V->Hp->VK->Prop:=λx H Q=>∃i,x=.int i/\Q (g i) H
section
variable{X:Cx}{a b c:Expr}{ta tb tc:TE}{pos:Pos}
theorem binT(ha:PE X a ta)(hb:PE X b tb){pins:List (Addr×Obj)}{s:Shared}{σ:St}{H:Hp}{R:V->V->Hp->Prop}(I:Inv X pins σ H s)
  (h:ta σ H λx H1=>tb σ H1 λy H2=>R x y H2) {Q:Value->Shared->Prop} {f:Value->Value->Sem Value}
  (hf:∀v u s2 x y H2,Inv X pins σ H2 s2->zv x v->zv y u->R x y H2->wpAny (model X.prog X.w) X.A (f v u) Q X.xe s2) :
  wpAny (model X.prog X.w) X.A (eval a X.env) (λv s₁=>wpAny (model X.prog X.w) X.A (eval b X.env) (λu s₂=>wpAny (model X.prog X.w) X.A (f v u) Q X.xe s₂) X.xe s₁) X.xe s:=by
 refine thn (ha pins s σ H _ I h) λv s1 ⟨x,H1,I1,r1,q1⟩=>?_
 refine thn (hb pins s1 σ H1 _ I1 q1) λu s2 ⟨y,H2,I2,r2,q2⟩=>?_
 exact hf v u s2 x y H2 I2 r1 r2 q2
theorem pe_op{op:Operator}{r:R2}(ho:OpR X (binaryOp op) r)(ha:PE X a ta)(hb:PE X b tb):PE X (.BinOp a op b pos) (tOp r ta tb):=by
 intro pins s σ H Q I h;exact wpAny_BinOp (binT ha hb I h λv u s2 x y H2 I2 rx ry q=>ho pins s2 σ H2 x y v u Q I2 rx ry q)
theorem pe_un{op:UnaryOp}{r:V->Hp->VK->Prop}(ho:UnR X (unaryOp op) r)(ha:PE X a ta):PE X (.UnaryOp op a pos) (tUn r ta):=by
 intro pins s σ H Q I h;exact UnaryOp_ (thn (ha pins s σ H _ I h) λv s1 ⟨x,H1,I1,r1,q1⟩=>ho pins s1 σ H1 x v Q I1 r1 q1)
theorem opI{f:Value->Value->Sem Value}{C:Int->Int->Prop}{g:Int->Int->Int}
  (rule:∀(i j:Int) (t u:Tok) (s:Shared) (Q:Value->Shared->Prop) (E:Value->Shared->Prop),C i j->Q (.int (g i j) s.toks) {s with toks:=s.toks+1}->wpAny (model X.prog X.w) X.A (f (.int i t) (.int j u)) Q E s) :
  OpR X f (rI C λi j=>.int (g i j)):=by
 intro pins s σ H x y v u Q I rx ry h;obtain⟨i,j,rfl,rfl,hc,q⟩:=h;obtain⟨t,rfl⟩:=rx;obtain⟨t',rfl⟩:=ry;exact rule i j t t' s _ _ hc ⟨.int (g i j),H,I.tok _,⟨_,rfl⟩,q⟩
theorem opI0{f:Value->Value->Sem Value}{g:Int->Int->Int}
  (rule:∀(i j:Int) (t u:Tok) (s:Shared) (Q:Value->Shared->Prop) (E:Value->Shared->Prop),Q (.int (g i j) s.toks) {s with toks:=s.toks+1}->wpAny (model X.prog X.w) X.A (f (.int i t) (.int j u)) Q E s) :
  OpR X f (rI0 λi j=>.int (g i j)):=by
 intro pins s σ H x y v u Q I rx ry h;obtain⟨i,j,rfl,rfl,q⟩:=h;obtain⟨t,rfl⟩:=rx;obtain⟨t',rfl⟩:=ry;exact rule i j t t' s _ _ ⟨.int (g i j),H,I.tok _,⟨_,rfl⟩,q⟩
theorem opB0{f:Value->Value->Sem Value}{g:Int->Int->Bool}
  (rule:∀(i j:Int) (t u:Tok) (s:Shared) (Q:Value->Shared->Prop) (E:Value->Shared->Prop),Q (.bool (g i j)) s->wpAny (model X.prog X.w) X.A (f (.int i t) (.int j u)) Q E s) :
  OpR X f (rI0 λi j=>.bl (g i j)):=by
 intro pins s σ H x y v u Q I rx ry h;obtain⟨i,j,rfl,rfl,q⟩:=h;obtain⟨t,rfl⟩:=rx;obtain⟨t',rfl⟩:=ry;exact rule i j t t' s _ _ ⟨.bl (g i j),H,I,rfl,q⟩
def CPow(i j:Int):Prop:=0<=j/\j<=1000000/\i.natAbs<2^64
def CMul(i j:Int):Prop:=(-(2^64)<i/\i<2^64)\/(-(2^64)<j/\j<2^64)
theorem CMul.ok{i j:Int}(h:CMul i j):IntMulOk i j:=by
 rcases h with⟨h1,h2⟩|⟨h1,h2⟩
 ·exact .of_left (intBits_le_64 h1 h2)
 ·exact .of_right (intBits_le_64 h1 h2)
theorem op_add:OpR X (binaryOp .Add) (rI0 λi j=>.int (i+j)):=opI0 λ_ _ _ _ _ _ _ q=>add_int q
theorem op_sub:OpR X (binaryOp .Sub) (rI0 λi j=>.int (i-j)):=opI0 λ_ _ _ _ _ _ _ q=>sub_int q
theorem op_mod:OpR X (binaryOp .Mod) (rI (λ_ j=>0<j) λi j=>.int (i%j)):=opI λi j _ _ _ _ _ hc q=>by
 have h1:(0:Int)<j:=hc;exact mod_int' (by omega) (by rw[Int.fmod_eq_emod_of_nonneg i (by omega)];exact q)
theorem op_pow:OpR X (binaryOp .Pow) (rI CPow λi j=>.int (i^j.toNat)):=opI λ_ _ _ _ _ _ _ hc q=>pow_int_small hc.1 hc.2.1 hc.2.2 q
theorem unI{f:Value->Sem Value}{g:Int->Int}
  (rule:∀(i:Int) (t:Tok) (s:Shared) (Q:Value->Shared->Prop) (E:Value->Shared->Prop),Q (.int (g i) s.toks) {s with toks:=s.toks+1}->wpAny (model X.prog X.w) X.A (f (.int i t)) Q E s) :
  UnR X f (rU λi=>.int (g i)):=by
 intro pins s σ H x v Q I rx h;obtain⟨i,rfl,q⟩:=h;obtain⟨t,rfl⟩:=rx;exact rule i t s _ _ ⟨.int (g i),H,I.tok _,⟨_,rfl⟩,q⟩
theorem un_neg:UnR X (unaryOp .USub) (rU λi=>.int (-i)):=unI λ_ _ _ _ _ q=>neg_int q
end
def scal:V->V->Bool
 | .non,.non=>true | .non,.int _=>true | .int _,.non=>true | .non,.bl _=>true | .bl _,.non=>true | .non,.str _=>true | .str _,.non=>true
 | .int _,.int _=>true | .bl _,.bl _=>true | .str _,.str _=>true | .byt _,.byt _=>true
 | .int _,.str _=>true | .str _,.int _=>true | .bl _,.str _=>true | .str _,.bl _=>true
 |_,_=>false
def rEq:R2:=λx y H Q=>scal x y=true/\Q (.bl (decide (x=y))) H
def rNe:R2:=λx y H Q=>scal x y=true/\Q (.bl (!decide (x=y))) H
theorem ug{i j:Int}:decide (V.int i=V.int j)=(i==j):=by
 rw[Bool.eq_iff_iff];simp
theorem zAn{i j:Bool}:decide (V.bl i=V.bl j)=(i==j):=by
 rw[Bool.eq_iff_iff];simp
theorem uh{i j:Str}:decide (V.str i=V.str j)=(i==j):=by
 rw[Bool.eq_iff_iff];simp
theorem ui{i j:Array UInt8}:decide (V.byt i=V.byt j)=(i.toList==j.toList):=by
 rw[Bool.eq_iff_iff];cases i;cases j;simp
section
variable{X:Cx}{a b c:Expr}{ta tb tc:TE}{pos:Pos}
theorem zm{pins:List (Addr×Obj)}{σ:St}{H:Hp}{s:Shared}{Q:VK}{k k':Bool}(I:Inv X pins σ H s)(q:Q (.bl k) H)(e:k=k'):EP X pins σ Q (.bool k') s:=by
 subst e;exact⟨.bl k,H,I,rfl,q⟩
theorem op_eq:OpR X (compareOp .Eq) rEq:=by
 intro pins s σ H x y v u Q I rx ry h;obtain⟨hs,q⟩:=h;cases x with
 |non =>
  cases rx;cases y with
  |non=>cases ry;exact PySem.EqNone.eq_none_none (zm I q (by simp))
  |bl j=>cases ry;exact PySem.EqNone.eq_none_bool (zm I q (by simp))
  |int j=>obtain⟨t',rfl⟩:=ry;exact PySem.EqNone.eq_none_int (zm I q (by simp))
  |str j=>obtain⟨t',rfl⟩:=ry;exact PySem.EqNone.eq_none_str (zm I q (by simp))
  |_=>exact absurd (show false=true from hs) Bool.false_ne_true
 |bl i =>
  cases rx;cases y with
  |non=>cases ry;exact PySem.EqNone.eq_bool_none (zm I q (by simp))
  |bl j=>cases ry;exact eq_bool (zm I q zAn)
  |str j=>obtain⟨t',rfl⟩:=ry;exact PySem.EqMixed.eq_bool_str (zm I q (by simp))
  |_=>exact absurd (show false=true from hs) Bool.false_ne_true
 |int i =>
  obtain⟨t,rfl⟩:=rx;cases y with
  |non=>cases ry;exact PySem.EqNone.eq_int_none (zm I q (by simp))
  |int j=>obtain⟨t',rfl⟩:=ry;exact eq_int (zm I q ug)
  |str j=>obtain⟨t',rfl⟩:=ry;exact PySem.EqMixed.eq_int_str (zm I q (by simp))
  |_=>exact absurd (show false=true from hs) Bool.false_ne_true
 |str i =>
  obtain⟨t,rfl⟩:=rx;cases y with
  |non=>cases ry;exact PySem.EqNone.eq_str_none (zm I q (by simp))
  |bl j=>cases ry;exact PySem.EqMixed.eq_str_bool (zm I q (by simp))
  |int j=>obtain⟨t',rfl⟩:=ry;exact PySem.EqMixed.eq_str_int (zm I q (by simp))
  |str j=>obtain⟨t',rfl⟩:=ry;exact eq_str (zm I q uh)
  |_=>exact absurd (show false=true from hs) Bool.false_ne_true
 |byt i =>
  obtain⟨t,rfl⟩:=rx;cases y with
  |byt j=>obtain⟨t',rfl⟩:=ry;exact PySem.W.eq_bytes (zm I q ui)
  |_=>exact absurd (show false=true from hs) Bool.false_ne_true
 |_=>cases y<;>exact absurd (show false=true from hs) Bool.false_ne_true
theorem op_ne:OpR X (compareOp .NotEq) rNe:=by
 intro pins s σ H x y v u Q I rx ry h;obtain⟨hs,q⟩:=h;cases x with
 |non =>
  cases rx;cases y with
  |non=>cases ry;exact PySem.EqNone.ne_none_none (zm I q (by simp))
  |bl j=>cases ry;exact PySem.EqNone.ne_none_bool (zm I q (by simp))
  |int j=>obtain⟨t',rfl⟩:=ry;exact PySem.EqNone.ne_none_int (zm I q (by simp))
  |str j=>obtain⟨t',rfl⟩:=ry;exact PySem.EqNone.ne_none_str (zm I q (by simp))
  |_=>exact absurd (show false=true from hs) Bool.false_ne_true
 |bl i =>
  cases rx;cases y with
  |non=>cases ry;exact PySem.EqNone.ne_bool_none (zm I q (by simp))
  |bl j=>cases ry;exact ne_bool (zm I q (congrArg not zAn))
  |str j=>obtain⟨t',rfl⟩:=ry;exact PySem.EqMixed.ne_bool_str (zm I q (by simp))
  |_=>exact absurd (show false=true from hs) Bool.false_ne_true
 |int i =>
  obtain⟨t,rfl⟩:=rx;cases y with
  |non=>cases ry;exact PySem.EqNone.ne_int_none (zm I q (by simp))
  |int j=>obtain⟨t',rfl⟩:=ry;exact ne_int (zm I q (congrArg not ug))
  |str j=>obtain⟨t',rfl⟩:=ry;exact PySem.EqMixed.ne_int_str (zm I q (by simp))
  |_=>exact absurd (show false=true from hs) Bool.false_ne_true
 |str i =>
  obtain⟨t,rfl⟩:=rx;cases y with
  |non=>cases ry;exact PySem.EqNone.ne_str_none (zm I q (by simp))
  |bl j=>cases ry;exact PySem.EqMixed.ne_str_bool (zm I q (by simp))
  |int j=>obtain⟨t',rfl⟩:=ry;exact PySem.EqMixed.ne_str_int (zm I q (by simp))
  |str j=>obtain⟨t',rfl⟩:=ry;exact ne_str (zm I q (congrArg not uh))
  |_=>exact absurd (show false=true from hs) Bool.false_ne_true
 |byt i =>
  obtain⟨t,rfl⟩:=rx;cases y with
  |byt j=>obtain⟨t',rfl⟩:=ry;exact PySem.W.ne_bytes (zm I q (congrArg not ui))
  |_=>exact absurd (show false=true from hs) Bool.false_ne_true
 |_=>cases y<;>exact absurd (show false=true from hs) Bool.false_ne_true
theorem op_lt:OpR X (compareOp .Lt) (rI0 λi j=>.bl (decide (i<j))):=opB0 λ_ _ _ _ _ _ _ q=>lt_int q
theorem op_le:OpR X (compareOp .LtE) (rI0 λi j=>.bl (decide (i<=j))):=opB0 λ_ _ _ _ _ _ _ q=>le_int q
theorem op_gt:OpR X (compareOp .Gt) (rI0 λi j=>.bl (decide (j<i))):=opB0 λ_ _ _ _ _ _ _ q=>gt_int q
theorem op_ge:OpR X (compareOp .GtE) (rI0 λi j=>.bl (decide (j<=i))):=opB0 λ_ _ _ _ _ _ _ q=>ge_int q
theorem OpR.or{f:Value->Value->Sem Value}{r r':R2}(h:OpR X f r)(h':OpR X f r'):OpR X f (λx y H Q=>r x y H Q\/r' x y H Q):=by
 intro pins s σ H x y v u Q I rx ry q;rcases q with q|q
 ·exact h pins s σ H x y v u Q I rx ry q
 ·exact h' pins s σ H x y v u Q I rx ry q
theorem pe_cmpR{op:CmpOp}{r:R2}(ho:OpR X (compareOp op) r)(ha:PE X a ta)(hb:PE X b tb)(hm:behindInMarks op b=false):PE X (.Compare a [op] [b] pos) (tOp r ta tb):=by
 intro pins s σ H Q I h;exact wpAny_Compare1 (binT ha hb I h λv u s2 x y H2 I2 rx ry q=>ho pins s2 σ H2 x y v u Q I2 rx ry q) hm
def tTest(t:TE):TT:=λσ H Q=>t σ H λx H'=>∃k,x=.bl k/\Q k H'
theorem pt_cmpR{op:CmpOp}{r:R2}(ho:OpR X (compareOp op) r)(ha:PE X a ta)(hb:PE X b tb)(hm:behindInMarks op b=false):PT X (.Compare a [op] [b] pos) (tTest (tOp r ta tb)):=by
 intro pins s σ H Q I h;refine wpAny_isTrue_Compare1 (thn (ha pins s σ H _ I h) λv s1 ⟨x,H1,I1,r1,q1⟩=>thn (hb pins s1 σ H1 _ I1 q1) λu s2 ⟨y,H2,I2,r2,q2⟩ =>
  thn (ho pins s2 σ H2 x y v u _ I2 r1 r2 q2) λc s3 ⟨z,H3,I3,r3,k,e,q3⟩=>?_) hm
 subst e;cases r3;exact wpAny_truthy_bool ⟨H3,I3,q3⟩
def uj(r r':R2)(ta tb tc:TE):TE:=λσ H Q=>ta σ H λx H1=>tb σ H1 λy H2=>r x y H2 λz H3=>∃k,z=.bl k /\
 (if k=true then tc σ H3 λw' H4=>r' y w' H4 Q else Q (.bl false) H3)
theorem QY{op op':CmpOp}{r r':R2}(ho:OpR X (compareOp op) r)(ho':OpR X (compareOp op') r')(ha:PE X a ta)(hb:PE X b tb)(hc:PE X c tc)
  (hm:lastMarks [op,op'] [b,c]=false:=by with_unfolding_all rfl):PE X (.Compare a [op,op'] [b,c] pos) (uj r r' ta tb tc):=by
 intro pins s σ H Q I h;refine Compare_chain (thn (ha pins s σ H _ I h) λv s1 ⟨x,H1,I1,r1,q1⟩=>chain_link (thn (hb pins s1 σ H1 _ I1 q1) λu s2 ⟨y,H2,I2,r2,q2⟩ =>
  thn (ho pins s2 σ H2 x y v u _ I2 r1 r2 q2) λd s3 ⟨z,H3,I3,r3,k,e,q3⟩=>?_)) hm
 subst e;cases r3;refine wpAny_truthy_bool ?_;cases k with
 |false=>exact ite_ff ⟨.bl false,H3,I3,rfl,q3⟩
 |true=>exact ite_tt (chain_last (thn (hc pins s3 σ H3 _ I3 q3) λw' s4 ⟨z',H4,I4,r4,q4⟩=>ho' pins s4 σ H4 y z' u w' Q I4 r2 r4 q4))
theorem QZ{op op':CmpOp}{r r':R2}(ho:OpR X (compareOp op) r)(ho':OpR X (compareOp op') r')(ha:PE X a ta)(hb:PE X b tb)(hc:PE X c tc)
  (hm:lastMarks [op,op'] [b,c]=false:=by with_unfolding_all rfl):PT X (.Compare a [op,op'] [b,c] pos) (tTest (uj r r' ta tb tc)):=by
 intro pins s σ H Q I h;refine isTrue_chain (thn (ha pins s σ H _ I h) λv s1 ⟨x,H1,I1,r1,q1⟩=>test_link (thn (hb pins s1 σ H1 _ I1 q1) λu s2 ⟨y,H2,I2,r2,q2⟩ =>
  thn (ho pins s2 σ H2 x y v u _ I2 r1 r2 q2) λd s3 ⟨z,H3,I3,r3,k,e,q3⟩=>?_)) hm
 subst e;cases r3;refine wpAny_truthy_bool ?_;cases k with
 |false =>
  obtain⟨k',e',q'⟩:=q3;cases e';exact ite_ff ⟨H3,I3,q'⟩
 |true =>
  refine ite_tt (test_last (thn (hc pins s3 σ H3 _ I3 q3) λw' s4 ⟨z',H4,I4,r4,q4⟩=>thn (ho' pins s4 σ H4 y z' u w' _ I4 r2 r4 q4) λd' s5 ⟨z2,H5,I5,r5,k2,e2,q5⟩=>?_));subst e2;cases r5;exact wpAny_truthy_bool ⟨H5,I5,q5⟩
theorem vA:(sizeLine:Nat)<2^63:=by rw[sizeLine_eq];decide
theorem Wf{x:V}{us:List Value}(r:zd [x] us):∃u,us=[u]/\zv x u:=by
 cases r with
 |cons r1 r2=>cases r2;exact⟨_,rfl,r1⟩
theorem vals2{x y:V}{us:List Value}(r:zd [x,y] us):∃u w',us=[u,w']/\zv x u/\zv y w':=by
 cases r with
 |cons r1 r2 =>
  cases r2 with
  |cons r3 r4=>cases r4;exact⟨_,_,rfl,r1,r3⟩
theorem uk(hc:X.calm=true):jA X (.builtin "max") (λxs H Q=>∃i j,xs=[.int i,.int j]/\Q (.int (if j > i then j else i)) H):=by
 intro pins s σ H xs us Q I r h;obtain⟨i,j,rfl,q⟩:=h;obtain⟨u,w',rfl,⟨t,rfl⟩,⟨t',rfl⟩⟩:=vals2 r;refine max_two_ints (I.ok.hd hc) λh' tk k=>⟨_,H,I.kept k,?_,q⟩
 by_cases hj:j > i
 ·rw[if_pos hj,if_pos hj];exact⟨_,rfl⟩
 ·rw[if_neg hj,if_neg hj];exact⟨_,rfl⟩
theorem ul:jA X (.type "int") (λxs H Q=>(∃i,xs=[.int i]/\Q (.int i) H)\/∃k,xs=[.bl k]/\Q (.int (if k then 1 else 0)) H):=by
 intro pins s σ H xs us Q I r h;rcases h with⟨i,rfl,q⟩|⟨k,rfl,q⟩
 ·obtain⟨u,rfl,t,rfl⟩:=Wf r
  exact call_int_int ⟨.int i,H,I,⟨_,rfl⟩,q⟩
 ·obtain⟨u,rfl,r1⟩:=Wf r
  cases r1;exact call_int_bool ⟨.int (if k then 1 else 0),H,I.tok _,⟨_,rfl⟩,q⟩
end
end L2
namespace L2
open PySem PySem.Spec PyProof.Rows
structure ObjM(h:Heap)(x dx C:Addr)(mA:Str->Option Value):Prop where
 obj:h.get? x=some (instObj C dx)
 ns:h.Ns1 dx mA
 ne:dx≠x
section
variable{prog:Program}{w:World}{A:Around}{E:Value->Shared->Prop}{s:Shared}{K:PySem.W.Frag}{x dx C f:Addr}{mA:Str->Option Value}{name:Str}{v:Value}
end
section
variable{P:Program}{w:World}{H H':Hp}{h h':Heap}{a C dx:Addr}{fs fs':List (Str×V)}
end
structure Cls(K:PySem.W.Frag)(C:Addr):Prop where
 pg:plainGet K C Str.empty=true
 hd:PySem.W.hasDictIn K C=true
 po:PySem.W.plainOver K C=true
 sa:findIn K (.ref C) "__setattr__"=some (some (.builtin "object.__setattr__"))
theorem Cls.get{K:PySem.W.Frag}{C:Addr}(c:Cls K C)(f:Str):plainGet K C f=true:=c.pg
structure Con(K:PySem.W.Frag)(C:Addr)(f:Str)(v:V)(u:Value):Prop where
 at_:findIn K (.ref C) f=some (some u)
 rel:zv v u
 get:specialIn K u "__get__"=some none
 cp:PySem.W.copiedNames.contains f=false
structure Meth(K:PySem.W.Frag)(C:Addr)(m:Str)(f:Addr):Prop where
 at_:findIn K (.ref C) m=some (some (.ref f))
 fn:PySem.W.isFn K (.ref f)=true
 kp:keepIn K (.ref f)=true
section
variable{X:Cx}{pins:List (Addr×Obj)}{σ:St}{H:Hp}{s:Shared}{a C dx:Addr}{fs:List (Str×V)}{f:Str}{v:V}{A:Around}{E:Value->Shared->Prop}
theorem Inv.made(I:Inv X pins σ H s):Inv X pins σ (upd (upd H s.heap.objs.size (.own (s.heap.objs.size+1))) (s.heap.objs.size+1) (.ins C s.heap.objs.size []))
  {s with heap:=(s.heap.push emptyDict).push (instObj C s.heap.objs.size)}:=by
 have e1:(s.heap.push emptyDict).get? s.heap.objs.size=some emptyDict:=get?_push_size s.heap rfl;have e2:((s.heap.push emptyDict).push (instObj C s.heap.objs.size)).get? (s.heap.objs.size+1)=some (instObj C s.heap.objs.size):=by
  have:=get?_push_size (s.heap.push emptyDict) (o:=instObj C s.heap.objs.size) rfl
  rwa [size_push]at this
 have e3:(s.heap.push emptyDict).Ns s.heap.objs.size (λ_=>none):=⟨emptyDict,#[],_,e1,rfl,(λe he=>absurd he (by simp)),λ_=>rfl⟩;have I1:=I.laid (a:=s.heap.objs.size) (o:=.own (s.heap.objs.size+1)) (h':=s.heap.push emptyDict) (t':=s.toks) (λb u q=>get?_push_of_some _ q) (le_refl _) ⟨_,e1⟩;refine I1.laid (a:=s.heap.objs.size+1) (o:=.ins C s.heap.objs.size []) (t':=s.toks) (λb u q=>get?_push_of_some _ q) (Nat.le_of_eq (size_push _ _)) ?_;have ne:s.heap.objs.size≠s.heap.objs.size+1:=ne_of_lt (Nat.lt_succ_self _);refine⟨by rw[zp ne,yX],zero_le _,ne,e2,λ_=>none,(Heap.Ns1.of_empty e3).at λo q=>get?_push_of_some _ q,λ_=>True.intro,λy hy=>absurd rfl hy⟩
end
section
variable{X:Cx}{o e value:Expr}{f:Str}{pos pos' tpos:Pos}{ta tv:TE}
end
section
variable{X:Cx}{pins:List (Addr×Obj)}{σ:St}{H:Hp}{s:Shared}{A:Around}{E:Value->Shared->Prop}{Q:Value->Shared->Prop}{c:Value}{b:Bool}
inductive TyOf(K:PySem.W.Frag)(H:Hp):V->Value->Prop where
 |non:TyOf K H .non (.type "NoneType")
 |bl (x:Bool):TyOf K H (.bl x) (.type "bool")
 |int (i:Int):TyOf K H (.int i) (.type "int")
 |str (x:Str):TyOf K H (.str x) (.type "str")
 |flt (x:UInt64):TyOf K H (.flt x) (.type "float")
 |lst {a:Addr} {xs:List V} (e:H a=some (.lst xs)):TyOf K H (.ref a) (.type "list")
 |frz {a:Addr} {o:Obj} {xs:List V} (e:H a=some (.frz o (.lst xs))):TyOf K H (.ref a) (.type "list")
 |tup {a:Addr} {xs:List V} (e:H a=some (.tup xs)):TyOf K H (.ref a) (.type "tuple")
 |dK {a:Addr} {kvs:List (Key×V)} (e:H a=some (.dK kvs)):TyOf K H (.ref a) (.type "dict")
 |dT {a:Addr} {kvs:List (List Key×V)} (e:H a=some (.dT kvs)):TyOf K H (.ref a) (.type "dict")
 |ins {a C dx:Addr} {fs:List (Str×V)} (e:H a=some (.ins C dx fs)) (cl:Cls K C) (ha:findIn K (.ref C) "__class__"=some (some (.builtin "object.__class__")))
   (hn:specialIn K (.builtin "object.__class__") "__get__"=some (some (.builtin "getset_descriptor.__get__"))) (htk:takesIn K (.builtin "object.__class__")=some true)
   (hm:mroIn K C (.type "object")=some true):TyOf K H (.ref a) (.ref C)
end
end L2
namespace L2
open PySem PySem.Spec PyProof.Rows
structure Room(k:Nat)(A:Around):Prop where
 hd:A.handled=none
 gd:A.guards=some []
 dp:A.depth+3*k+5<recursionLimit
 un:A.units+16*k+200<cLine
theorem Room.mono{j k:Nat}{A:Around}(r:Room k A)(h:j<=k):Room j A:=⟨r.hd,r.gd,by have:=r.dp;omega,by have:=r.un;omega⟩
theorem Room.deeper{k:Nat}{A:Around}(r:Room (k+1) A)(env:Env):Room k (A.deeper env) :=
 ⟨r.hd,r.gd,by have:=r.dp;show A.depth+1+3*k+5<_;omega,by have:=r.un;show A.units+3+16*k+200<_;omega⟩
theorem Room.in1{k:Nat}{A:Around}(r:Room (k+1) A):Room k A.in1 :=
 ⟨r.hd,r.gd,by have:=r.dp;show A.depth+3*k+5<_;omega,by have:=r.un;show A.units+1+16*k+200<_;omega⟩
theorem Room.depth{k:Nat}{A:Around}(r:Room k A):A.depth<recursionLimit:=by have:=r.dp;omega
theorem Room.units{k:Nat}{A:Around}(r:Room k A):A.units+64<cLine:=by have:=r.un;omega
def tNil:TA:=λ_ H Q=>Q [] H
def vw(ta:TE)(tr:TA):TA:=λσ H Q=>ta σ H λx H1=>tr σ H1 λxs H2=>Q (x::xs) H2
section
variable{X:Cx}{e:Expr}{es:List Expr}{te:TE}{t:TA}{pos:Pos}
theorem wo:PA X [] tNil:=λ_ _ _ _ H Q I h=>Calls.spliced_nil ⟨[],H,I,.nil,h⟩
theorem yR(ha:PE X e te)(hr:PA X es t)(hs:starEach (e::es) X.env=(false,eval e X.env)::starEach es X.env:=by rfl):PA X (e::es) (vw te t):=by
 intro pos pins s σ H Q I h;rw[hs];show wpAny _ _ (spliced ((false,eval e X.env)::backTo pos (starEach es X.env))) _ _ s;refine Calls.spliced_cons (thn (ha pins s σ H _ I h) λu s1 ⟨x,H1,I1,r1,q1⟩=>?_);exact thn (hr pos pins s1 σ H1 _ I1 q1) λus s2 ⟨xs,H2,I2,r2,q2⟩=>⟨x::xs,H2,I2,.cons r1 r2,q2⟩
def tTup(t:TA):TE:=λσ H Q=>t σ H λxs H1=>xs.length<=sizeLine/\∀p,H1 p=none->Q (.ref p) (upd H1 p (.tup xs))
def tLst(t:TA):TE:=λσ H Q=>t σ H λxs H1=>xs.length<=sizeLine/\∀p,H1 p=none->Q (.ref p) (upd H1 p (.lst xs))
theorem pe_tup{x1}(h:PA X es t):PE X (.Tuple es x1 pos) (tTup t):=by
 intro pins s σ H Q I hq;refine wpAny_Tuple_spliced (thn (h pos pins s σ H _ I hq) λus s1 ⟨xs,H1,I1,r,z,q⟩=>⟨by rw[<- r.length];exact z,?_⟩);have hf:H1 s1.heap.objs.size=none:=I1.hok.fresh (le_refl _);refine⟨.ref s1.heap.objs.size,upd H1 s1.heap.objs.size (.tup xs),I1.laid (t':=s1.toks) (λb u e=>get?_push_of_some _ e) (le_refl _) ?_,rfl,q _ hf⟩;exact⟨z,us,r,⟨_,get?_push_size _ rfl,rfl,_,rfl⟩⟩
theorem pe_lst(h:PA X es t):PE X (.List es pos) (tLst t):=by
 intro pins s σ H Q I hq;refine wpAny_List_spliced (thn (h pos pins s σ H _ I hq) λus s1 ⟨xs,H1,I1,r,z,q⟩=>⟨by rw[<- r.length];exact z,?_⟩);have hf:H1 s1.heap.objs.size=none:=I1.hok.fresh (le_refl _);refine⟨.ref s1.heap.objs.size,upd H1 s1.heap.objs.size (.lst xs),I1.laid (t':=s1.toks) (λb u e=>get?_push_of_some _ e) (le_refl _) ?_,rfl,q _ hf⟩;exact⟨z,us,0,r,get?_push_size _ rfl⟩
end
abbrev Sp:=List V->Hp->VK->XK->Prop
abbrev CXT:=List Env->Hp->Shared->XK->Value->Shared->Prop
structure Env0(P:Program)(w:World)(K:PySem.W.Frag)(mg:Str->Option Value)(base:Heap)(A:Around)(outer:List Env)(s:Shared)(H:Hp):Prop where
 frames:A.frames=some outer
 mod:Mod K mg base
 bs:∀b o,base.get? b=some o->s.heap.get? b=some o/\H b=none
 bsz:base.objs.size<=s.heap.objs.size
 funs:s.heap.FunFrames base outer
 frf:∀b∈frs outer,H b=none
 hok:HOk P w H s.heap
 bare:AllBare s.gens
def CE(outer:List Env)(P:Program)(w:World)(H:Hp)(s:Shared)(Q:VK)(u:Value)(s':Shared):Prop :=
 ∃v H',s'.os=s.os/\AllBare s'.gens/\Un (frs outer) [] H H' s.heap s'.heap/\HOk P w H' s'.heap/\zv v u/\Q v H'
def CR(CX:CXT)(outer:List Env)(P:Program)(w:World)(H:Hp)(s:Shared)(Q:VK)(E:XK)(r:Result)(s':Shared):Prop :=
 match r with
 | .ok (.ret u)=>CE outer P w H s Q u s'
 | .ok _=>False
 | .error e=>CX outer H s E e s'
structure FnOk(P:Program)(w:World)(K:PySem.W.Frag)(mg:Str->Option Value)(base:Heap)(CX:CXT)(k:Nat)(f:Addr)(fd:FuncData)(ps:List Str)(sp:Sp):Prop where
 len:∀vs H Q E,sp vs H Q E->vs.length=ps.length
 run:∀(A:Around) (outer:List Env) (s:Shared) (H:Hp) (args:Args) (us:List Value) (vs:List V) (Q:VK) (E:XK),Room k A->Env0 P w K mg base A outer s H->BindsTo s fd args (ps.zip us)->zd vs us->sp vs H Q E ->
  codeAny (model P w) A (.call (.ref f) args) (CR CX outer P w H s Q E) s
theorem FnOk.mono{P:Program}{w:World}{K:PySem.W.Frag}{mg:Str->Option Value}{base:Heap}{CX:CXT}{j k:Nat}{f:Addr}{fd:FuncData}{ps:List Str}{sp:Sp}(F:FnOk P w K mg base CX j f fd ps sp)(h:j<=k) :
  FnOk P w K mg base CX k f fd ps sp:=⟨F.len,λA outer s H args us vs Q E hr=>F.run A outer s H args us vs Q E (hr.mono h)⟩
theorem FnOk.imp{P:Program}{w:World}{K:PySem.W.Frag}{mg:Str->Option Value}{base:Heap}{CX:CXT}{k:Nat}{f:Addr}{fd:FuncData}{ps:List Str}{sp sp':Sp}(F:FnOk P w K mg base CX k f fd ps sp)
  (h:∀vs H Q E,sp' vs H Q E->sp vs H Q E):FnOk P w K mg base CX k f fd ps sp' :=
 ⟨λvs H Q E q=>F.len vs H Q E (h _ _ _ _ q),λA outer s H args us vs Q E hr he hb hv hs=>F.run A outer s H args us vs Q E hr he hb hv (h _ _ _ _ hs)⟩
theorem Env0.in1{P:Program}{w:World}{K:PySem.W.Frag}{mg:Str->Option Value}{base:Heap}{A:Around}{outer:List Env}{s:Shared}{H:Hp}(e:Env0 P w K mg base A outer s H) :
  Env0 P w K mg base A.in1 outer s H:=⟨e.frames,e.mod,e.bs,e.bsz,e.funs,e.frf,e.hok,e.bare⟩
section
variable{X:Cx}{pins:List (Addr×Obj)}{σ:St}{H:Hp}{s s':Shared}
theorem Inv.env0(I:Inv X pins σ H s):Env0 X.prog X.w X.K X.mg X.base X.A X.stack s H :=
 ⟨I.ok.frames,I.ok.mod,I.bs,le_trans I.ok.bsz I.sz,I.stack,I.stkFree,I.hok,I.bare⟩
theorem Inv.after{Q:VK}{u:Value}(I:Inv X pins σ H s)(h:CE X.stack X.prog X.w H s Q u s'):EP X pins σ Q u s':=by
 obtain⟨v,H',os,bare,un,hok,r,q⟩:=h;obtain⟨hh,g,d,t,os'⟩:=s';obtain rfl:os'=s.os:=os;exact⟨v,H',I.call (h':=hh) (g':=g) (d':=d) (t':=t) (ch:=[]) un hok bare (λb z=>absurd z (by simp)),r,q⟩
end
def wP(K:PySem.W.Frag)(fd:FuncData)(ps:List Str)(ds:List Value):Prop :=
 ∀(s:Shared) (us:List Value),K.In s.heap->(us++ds).length=ps.length->BindsTo s fd ⟨us,[]⟩ (ps.zip (us++ds))
theorem wP.all{K:PySem.W.Frag}{fd:FuncData}{ps:List Str}(h:∀us:List Value,us.length=ps.length->bindArgs fd ⟨us,[]⟩=pure (ps.zip us)):wP K fd ps []:=λs us _ hl=>by
 rw[append_nil]at hl ⊢;exact .of_eq (h us hl)
section
variable{X:Cx}{CX:CXT}{k:Nat}{f C:Addr}{fd:FuncData}{ps:List Str}{sp:Sp}{dvs:List V}{ds:List Value}{E:XK}{x m:Str}{p pos apos:Pos}{e o:Expr}{es:List Expr}{ta:TE}{t:TA}
structure Mk(K:PySem.W.Frag)(C f:Addr):Prop where
 makes:PySem.W.makesIn K C=true
 init:findIn K (.ref C) "__init__"=some (some (.ref f))
 fn:PySem.W.isFn K (.ref f)=true
 kp:keepIn K (.ref C)=true
end
section
variable{X:Cx}{CX:CXT}{k:Nat}{f C:Addr}{fd:FuncData}{ps ks:List Str}{sp:Sp}{E:XK}{x m:Str}{p pos apos kpos:Pos}{e o:Expr}{es:List Expr}{kws:List Keyword}{te ta:TE}{t tk:TA}{nm:Option Str}
structure KBinds(K:PySem.W.Frag)(fd:FuncData)(ps ks:List Str)(g:List Value->List Value->List Value)(gV:List V->List V->List V):Prop where
 to:∀(s:Shared) (us ws:List Value),K.In s.heap->(g us ws).length=ps.length->BindsTo s fd ⟨us,ks.zip ws⟩ (ps.zip (g us ws))
 rel:∀{vs:List V} {us:List Value} {zs:List V} {ws:List Value},zd vs us->zd zs ws->zd (gV vs zs) (g us ws)
variable{g:List Value->List Value->List Value}{gV:List V->List V->List V}
end
structure FnScope(N P:List Str)(sc:Scope):Prop where
 kind:sc.kind=.function
 co:sc.isCoroutine=false
 gen:sc.isGenerator=false
 nd:N.Nodup
 pre:N.take P.length=P
 par:∀x∈P,sc.names.lookup x=some .local\/sc.names.lookup x=some .cell
 nofree:∀y∈sc.names,y.2≠.free
theorem Zn{kindOf:Str->Option NameKind}{x:Str}:∀{binds:List (Str×Value)} {m:Str->Option Value},(∀v,(x,v)∉binds)->bindL kindOf binds m x=m x
 | [],_,_=>rfl
 | (n,v)::r,m,h=>by
  unfold bindL;rw[Zn λw hw=>h w (mem_cons_of_mem _ hw)];split
  ·have:x≠n:=by rintro rfl;exact h v mem_cons_self
   simp[this]
  ·rfl
theorem Zo{kindOf:Str->Option NameKind}{x:Str}:∀{binds:List (Str×Value)} {m:Str->Option Value},(∀v,(x,v)∉binds)->bindC kindOf binds m x=m x
 | [],_,_=>rfl
 | (n,v)::r,m,h=>by
  unfold bindC;rw[Zo λw hw=>h w (mem_cons_of_mem _ hw)];split
  ·rfl
  ·have:x≠n:=by rintro rfl;exact h v mem_cons_self
   simp[this]
theorem Zq{kindOf:Str->Option NameKind}{x:Str}{v:Value}:∀{P:List Str} {vs:List Value} {i:Nat} {m:Str->Option Value},P.Nodup->P[i]?=some x->vs[i]?=some v->kindOf x=some .local ->
  bindL kindOf (P.zip vs) m x=some v
 | [],_,_,_,_,h,_,_=>by simp at h
 |_::_,[],_,_,_,_,h,_=>by simp at h
 |p::P,w::vs,0,m,nd,h1,h2,hk=>by
  simp at h1 h2;subst h1;subst h2
  show bindL kindOf ((p,w)::P.zip vs) m p=_
  unfold bindL;rw[Zn λv hv=>(nodup_cons.mp nd).1 (of_mem_zip hv).1,if_pos hk];simp
 |p::P,w::vs,i+1,m,nd,h1,h2,hk=>by
  show bindL kindOf ((p,w)::P.zip vs) m x=_
  unfold bindL;exact Zq (i:=i) (nodup_cons.mp nd).2 (by simpa using h1) (by simpa using h2) hk
theorem Zr{kindOf:Str->Option NameKind}{x:Str}{v:Value}:∀{P:List Str} {vs:List Value} {i:Nat} {m:Str->Option Value},P.Nodup->P[i]?=some x->vs[i]?=some v->kindOf x≠some .local ->
  bindC kindOf (P.zip vs) m x=some v
 | [],_,_,_,_,h,_,_=>by simp at h
 |_::_,[],_,_,_,_,h,_=>by simp at h
 |p::P,w::vs,0,m,nd,h1,h2,hk=>by
  simp at h1 h2;subst h1;subst h2
  show bindC kindOf ((p,w)::P.zip vs) m p=_
  unfold bindC;rw[Zo λv hv=>(nodup_cons.mp nd).1 (of_mem_zip hv).1,if_neg hk];simp
 |p::P,w::vs,i+1,m,nd,h1,h2,hk=>by
  show bindC kindOf ((p,w)::P.zip vs) m x=_
  unfold bindC;exact Zr (i:=i) (nodup_cons.mp nd).2 (by simpa using h1) (by simpa using h2) hk
def jB(N:List Str)(vs:List V):St:=vs.map some++replicate (N.length-vs.length) none
def Qa(CX:CXT)(P:Program)(w:World)(K:PySem.W.Frag)(mg:Str->Option Value)(base:Heap)(N:List Str)(qual:Str)(scope:Scope)(f:Addr)(cd:Value)(A:Around)(outer:List Env)(s:Shared)(H:Hp)(E:XK):Cx where
 prog:=P
 w:=w
 K:=K
 mg:=mg
 base:=base
 A:=A.deeper (envOfC qual scope s.heap.objs.size f cd)
 N:=N
 s₀:=s
 H₀:=H
 env:=envOfC qual scope s.heap.objs.size f cd
 outer:=outer
 stack:=envOfC qual scope s.heap.objs.size f cd::outer
 ex:=[]
 calm:=true
 fn:=λ_=>true
 pn:=[]
 xe:=λe s'=>wpAny (model P w) (A.deeper (envOfC qual scope s.heap.objs.size f cd)) (leaving (envOfC qual scope s.heap.objs.size f cd) e) (λ_ s''=>CX outer H s E e s'') (λe' s''=>CX outer H s E e' s'') s'
theorem vB{sc:Scope}{n:Nat}{x:Str}(h:sc.names.lookup x=some .cell):∃c,(cellsFrom n sc.names []).lookup x=some c:=by
 have q:=cellsFrom_some sc.names n [] (.inl h);exact Option.isSome_iff_exists.mp q
theorem Zs{CX:CXT}{P:Program}{w:World}{K:PySem.W.Frag}{mg:Str->Option Value}{base:Heap}{N ps:List Str}{qual:Str}{scope:Scope}{f:Addr}{cd:Value}{A:Around}{outer:List Env}{s s1:Shared}{H:Hp}{E:XK}{us:List Value}{vs:List V}
  (S:FnScope N ps scope) (hd:A.handled=none) (e0:Env0 P w K mg base A outer s H) (hl:vs.length=ps.length) (r:zd vs us)
  (x:InCallC s s.heap.objs.size (bindL (envOfC qual scope s.heap.objs.size f cd).kindOf (ps.zip us) λ_=>none) (cellsFrom (s.heap.objs.size+1) scope.names []) (bindC (envOfC qual scope s.heap.objs.size f cd).kindOf (ps.zip us) λ_=>none) s1) :
  Inv (Qa CX P w K mg base N qual scope f cd A outer s H E) [] (jB N vs) H s1:=by
 have hpl:ps.length<=N.length:=by have:=congrArg length S.pre;rw[List.length_take]at this;omega
 obtain⟨h1,tk,rfl,hk⟩:=x.done;have noA:∀b:Addr,b∉(Qa CX P w K mg base N qual scope f cd A outer s H E).ex:=λb z=>absurd (show b∈([]:List Addr)from z) (by simp)
 refine⟨⟨e0.mod,S.kind,rfl,rfl,le_refl _,λy z c h1 h2=>?_,λy hy=>?_,λy c _ h=>?_,λ_=>hd,Around.frames_deeper e0.frames,.inr ⟨rfl,rfl⟩,λb z=>absurd z (noA b),e0.bs,e0.bsz,λb _ _=>noA b,λb z=>absurd z (noA b),e0.funs,e0.frf⟩,
  rfl,e0.bare,Un.kept hk,⟨_,x.toInCall.ns,λi y v h1 h2 h3=>?_⟩,λy c h=>⟨_,x.cell y c h⟩,e0.hok.fresh (le_refl _),λy c h=>?_,λp hp=>absurd (show p∈([]:List (Addr×Obj))from hp) (by simp),e0.hok.kept hk,?_⟩
 ·exact name_of_addr x.apart (PySem.mem_of_lookup h1) (PySem.mem_of_lookup h2)
 ·have hy:scope.names.lookup y=some .cell\/scope.names.lookup y=some .free:=hy
  rcases hy with hy|hy
  ·exact vB hy
  ·exact absurd rfl (S.nofree _ (PySem.mem_of_lookup hy))
 ·exact Nat.le_of_lt (x.above y c (PySem.mem_of_lookup h))
 ·have hi:i<vs.length:=by
   unfold jB at h2;by_cases hi:i<vs.length
   ·exact hi
   ·rw[List.getElem?_append_right (by simpa using hi)]at h2
    rw[List.getElem?_replicate]at h2;split at h2<;>cases h2
  have ha:vs[i]?=some v:=by
   unfold jB at h2;rw[List.getElem?_append_left (by simpa using hi),List.getElem?_map]at h2;cases e:vs[i]? with
   |none=>rw[e]at h2;cases h2
   |some a=>rw[e]at h2;cases h2;rfl
  obtain⟨u,hu,rv⟩:=r.get ha;have hp:ps[i]?=some y:=by
   rw[<- S.pre,List.getElem?_take_of_lt (by omega)];exact h1
  have ndP:ps.Nodup:=by rw[<- S.pre];exact S.nd.sublist (List.take_sublist _ _)
  refine⟨u,rv,?_⟩;rcases S.par y (mem_of_getElem? hp)with k|k
  ·exact .inl ⟨k,Zq ndP hp hu k⟩
  ·obtain⟨c,e⟩:=vB (n:=s.heap.objs.size+1) k
   refine .inr ⟨.inl k,c,e,?_⟩;have q:=x.cell y c e;rw[Zr ndP hp hu (by show scope.names.lookup y≠_;rw[k];decide)]at q;exact q
 ·exact e0.hok.fresh (Nat.le_of_lt (x.above y c (PySem.mem_of_lookup h)))
 ·unfold jB
  show _=N.length
  rw[length_append,length_map,List.length_replicate];omega
theorem fn_of{CX:CXT}{P:Program}{w:World}{K:PySem.W.Frag}{mg:Str->Option Value}{base:Heap}{k:Nat}{f:Addr}{name qual:Str}{params:Arguments}{body:List Stmt}{scope:Scope}{dV kV doc pm cdv ct oc:Value}{an od:Option Addr}
  {osl:Array (Option Value)} {N ps:List Str} {sp:Sp} (lk:K.lookup f=some ⟨oc,od,.func (fnOf name qual params body scope dV kV doc pm an cdv ct),osl⟩) (hcd:codeIn K cdv qual=true) (S:FnScope N ps scope)
  (len:∀vs H Q E,sp vs H Q E->vs.length=ps.length)
  (hbody:∀(A:Around) (outer:List Env) (s:Shared) (H:Hp) (vs:List V) (Q:VK) (E:XK),Room k (A.deeper (envOfC qual scope s.heap.objs.size f cdv))->sp vs H Q E ->
   ∃t,PSs (Qa CX P w K mg base N qual scope f cdv A outer s H E) body t/\t {nx:=λ_ H'=>Q .non H',rt:=Q} (jB N vs) H) :
  FnOk P w K mg base CX (k+1) f (fnOf name qual params body scope dV kV doc pm an cdv ct) ps sp:=by
 refine⟨len,λA outer s H args us vs Q E hr e0 hb r hsp=>?_⟩;have hl:=len _ _ _ _ hsp;have KX:K.In s.heap:=e0.mod.kin.keeps λb o e=>(e0.bs b o e).1
 have lim:s.heap.NoLimit:=e0.mod.nolimit.keeps λb o e=>(e0.bs b o e).1
 have hkind:∀y∈ps.zip us,scope.names.lookup y.1=some .local\/(scope.names.lookup y.1=some .cell/\((cellsFrom (s.heap.objs.size+1) scope.names []).lookup y.1).isSome=true):=λ⟨n,v⟩ hy=>by
  rcases S.par n (of_mem_zip hy).1 with q|q
  ·exact .inl q
  ·exact .inr ⟨q,cellsFrom_some _ _ _ (.inl q)⟩
 refine codeAny_call_function hr.depth (KX _ _ lk) rfl S.co S.gen rfl (codeRec_of KX hcd) (hb _ _ _ _ ?_);refine wpAny_newFunctionEnv_cells S.kind hkind λenv he s1 x=>?_
 subst he;refine⟨lim.keeps x.toInCall.keep,codeAny_func ?_⟩;obtain⟨t,ht,hq⟩:=hbody A outer s H vs Q E (hr.deeper _) hsp;have I:Inv (Qa CX P w K mg base N qual scope f cdv A outer s H E) [] (jB N vs) H s1:=Zs S hr.hd e0 hl r x;refine wpAny_mono (ht [] s1 (jB N vs) H _ I hq) (λfl s' hs=>?_) λe s' hs=>hs
 have fin:∀{σ':St} {H':Hp} {v:V} {u:Value},Inv (Qa CX P w K mg base N qual scope f cdv A outer s H E) [] σ' H' s'->zv v u->Q v H'->CE outer P w H s Q u s' :=
  λ{σ' H' v u} J rv q=>⟨v,H',J.os,J.bare,J.base,J.hok,rv,q⟩
 cases fl with
 |ret u =>
  obtain⟨v,σ',H',J,rv,q⟩:=hs;exact fin J rv q
 |next =>
  obtain⟨σ',H',J,q⟩:=hs;exact fin (v:=V.non) (u:=Value.none) J rfl q
 |brk =>
  obtain⟨_,_,_,q⟩:=hs;exact False.elim q
 |cont =>
  obtain⟨_,_,_,q⟩:=hs;exact False.elim q
end L2
namespace L2
open PySem PySem.Spec PyProof.Rows
section
variable{X:Cx}{x:Str}{p pos:Pos}{e:Expr}{es:List Expr}{t:TA}{id T:String}{r:List V->Hp->VK->Prop}
def tCB(r:List V->Hp->VK->Prop)(t:TA):TE:=λσ H Q=>t σ H λvs H1=>r vs H1 Q
theorem wq(hc:jA X (.builtin id) r)(hg:Gl X x)(hm:X.mg x=none)(hv:bootBuiltins x=some (.builtin id))(ha:PA X (e::es) t)(hn:x≠"__name__":=by decide)(hdb:(x==("__debug__":Str))=false:=by decide)
  (he:starEach (e::es) X.env=(false,eval e X.env)::starEach es X.env:=by rfl) (hpl:(backTo pos (starEach es X.env)).any (·.1)=false:=by rfl):PE X (.Call (.Name x p) (e::es) [] pos) (tCB r t):=by
 intro pins s σ H Q I h;refine wpAny_Call_Name_kw (Zj I hg hm hv ?_ hn hdb);exact PyProof.Rows.callWith_builtin1 (thn (ha pos pins s σ H _ I h) λus s1 ⟨vs,H1,I1,r1,q1⟩=>hc pins s1 σ H1 vs us Q I1 r1 q1) he hpl
theorem um(hc:jA X (.type T) r)(hg:Gl X x)(hm:X.mg x=none)(hv:bootBuiltins x=some (.type T))(ha:PA X (e::es) t)(hn:x≠"__name__":=by decide)(hdb:(x==("__debug__":Str))=false:=by decide)
  (he:starEach (e::es) X.env=(false,eval e X.env)::starEach es X.env:=by rfl) (hpl:(backTo pos (starEach es X.env)).any (·.1)=false:=by rfl):PE X (.Call (.Name x p) (e::es) [] pos) (tCB r t):=by
 intro pins s σ H Q I h;refine wpAny_Call_Name_kw (Zj I hg hm hv ?_ hn hdb);exact PyProof.Rows.callWith_type1 (thn (ha pos pins s σ H _ I h) λus s1 ⟨vs,H1,I1,r1,q1⟩=>hc pins s1 σ H1 vs us Q I1 r1 q1) he hpl
end
end L2
namespace HT
open PySem PyProof.Rows
section
open PySem.SeqAt
open PySem.AutoSeq1 (wpAny_loadPart')
open PySem.MeetsSeq PySem.MeetsSeq2 PySem.MeetsSeq3
end
section
variable{prog:Program}{w:World}{A:Around}{E:Value->Shared->Prop}{s:Shared}
theorem cat_tup{t b:Addr}{vs ws:List Value}{Q:Value->Shared->Prop}(ht:IsTup s.heap t vs.toArray)(hb:IsTup s.heap b ws.toArray)(hv:vs≠[])
  (h1:ws=[]->Q (.ref t) s) (h2:ws≠[]->Q (.ref s.heap.objs.size) {s with heap:=s.heap.push {cls:=.type "tuple",data:=.seq (vs++ws).toArray}})
  (hsz:vs.length+ws.length<=sizeLine):wpAny (model prog w) A (binaryOp .Add (.ref t) (.ref b)) Q E s:=by
 obtain⟨⟨cls,dd,data,sl⟩,ho,hc,n,hd⟩:=id ht;obtain⟨⟨cls2,dd2,data2,sl2⟩,ho2,hc2,n2,hd2⟩:=id hb;simp only at hc hd hc2 hd2;subst hc hd hc2 hd2;have e:vs.toArray++ws.toArray=(vs++ws).toArray:=by simp
 by_cases hw:ws=[]
 ·exact concat_meets ⟨_,ho,rfl⟩ ⟨_,ho2,rfl⟩ noFill_tuple_add seq_tuple_add PySem.F.slot_tuple_add PySem.F.entry_tuple_add (PySem.F.args_tuple_add_2 _ _)
   (tuple_addW1 t b vs.toArray ws.toArray n n2 dd dd2 sl sl2 (by simpa using hv) (by simp[hw])) ⟨ho,ho2,h1 hw⟩
 ·refine concat_meets ⟨_,ho,rfl⟩ ⟨_,ho2,rfl⟩ noFill_tuple_add seq_tuple_add PySem.F.slot_tuple_add PySem.F.entry_tuple_add (PySem.F.args_tuple_add_2 _ _)
   (tuple_addW2 t b vs.toArray ws.toArray n n2 dd dd2 sl sl2 (by simpa using hv) (by simpa using hw) (by rw[size_toArray,size_toArray];exact hsz)) ⟨ho,ho2,?_⟩
  rw[e];exact h2 hw
def sIx(n d:Nat):Option Int->Nat
 |none=>d
 |some v=>if v<0 then(v+(n:Int)).toNat else min v.toNat n
theorem sIx_nat(n d k:Nat):sIx n d (some (k:Int))=min k n:=by
 show(if(k:Int)<0 then((k:Int)+(n:Int)).toNat else min (k:Int).toNat n)=min k n
 rw[if_neg (by omega),Int.toNat_natCast]
theorem sIx_le(n d:Nat)(hd:d<=n)(o:Option Int):sIx n d o<=n:=by
 cases o with
 |none=>exact hd
 |some v =>
  show(if v<0 then(v+(n:Int)).toNat else min v.toNat n)<=n
  by_cases hv:v<0
  ·rw[if_pos hv];omega
  ·rw[if_neg hv];exact Nat.min_le_right _ _
theorem uo(v:Int)(n d:Nat):(if v<0 then max (v+(n:Int)) 0 else min v (n:Int))=((sIx n d (some v):Nat):Int):=by
 show(if v<0 then max (v+(n:Int)) 0 else min v (n:Int))=(((if v<0 then(v+(n:Int)).toNat else min v.toNat n):Nat):Int)
 by_cases hv:v<0
 ·simp only[if_pos hv];omega
 ·simp only[if_neg hv];omega
theorem vx(lo hi:Option Int)(n:Nat):Builtin.Slice.sliceAdjust lo hi 1 (n:Int)=(((sIx n 0 lo:Nat):Int),((sIx n n hi:Nat):Int)):=by
 have h1:¬((1:Int)<0):=by omega
 unfold Builtin.Slice.sliceAdjust;simp only[h1,if_false];refine Prod.ext ?_ ?_
 ·cases lo with
  |none=>rfl
  |some v=>exact uo v n 0
 ·cases hi with
  |none=>rfl
  |some v=>exact uo v n n
theorem vz(i j:Nat):Builtin.Slice.slicePlaces (i:Int) (j:Int) 1=j-i:=by
 unfold Builtin.Slice.slicePlaces;have h1:(1:Int) > 0:=by omega
 simp only[h1,if_true,Int.ediv_one];split<;>omega
theorem Y5{v:Value}{o:Option Int}{Q:Option Int->Shared->Prop}(p:IsPart v o)(h:Q o s):wpAny (model prog w) A (Builtin.Slice.slicePartIndex v) Q E s:=by
 cases p with
 |none=>exact slicePart_none h
 |int i t=>exact slicePart_int h
theorem sliceApplied_gen{sl:Addr}{vl vu:Value}{lo hi:Option Int}{n:Nat}{Q:Int×Int×Nat->Shared->Prop}(hs:s.heap.IsSliceOf sl vl vu .none)(pl:IsPart vl lo)(pu:IsPart vu hi)
  (h:Q (((sIx n 0 lo:Nat):Int),1,sIx n n hi-sIx n 0 lo) s):wpAny (model prog w) A (Builtin.Slice.sliceApplied (.ref sl) (pure (n:Int))) Q E s:=by
 obtain⟨os,hos,hcs,hds⟩:=id hs;unfold Builtin.Slice.sliceApplied Builtin.Slice.sliceFields;refine wpAny_bind (wpAny_bind (wpAny_field hos hds (x:=vl) rfl (wpAny_bind (wpAny_field hos hds (x:=vu) rfl (wpAny_bind (wpAny_field hos hds (x:=.none) rfl (wpAny_pure ?_)))))));refine wpAny_bind (slicePart_none ?_);show wpAny _ _ (if((1:Int)==0)=true then _ else _) _ _ s;rw[if_neg (by decide)];refine wpAny_bind (Y5 pl (wpAny_bind (Y5 pu (wpAny_bind (wpAny_pure ?_)))));show wpAny _ _ (match Builtin.Slice.sliceAdjust lo hi 1 (n:Int)with|(lo,hi)=>pure (lo,(1:Int),Builtin.Slice.slicePlaces lo hi 1)) _ _ s
 rw[vx lo hi n];show wpAny _ _ (pure (((sIx n 0 lo:Nat):Int),(1:Int),Builtin.Slice.slicePlaces ((sIx n 0 lo:Nat):Int) ((sIx n n hi:Nat):Int) 1)) _ _ s;rw[vz];exact wpAny_pure h
theorem Qb(xs:Array Value)(i k:Nat):((List.range k).filterMap λ(m:Nat)=>xs[((i:Int)+(m:Int)*1).toNat]?).toArray=((xs.toList.drop i).take k).toArray:=by
 have e:(λ(m:Nat)=>xs[((i:Int)+(m:Int)*1).toNat]?)=λm=>xs[i+m]?:=by
  funext m
  have:((i:Int)+(m:Int)*1).toNat=i+m:=by omega
  rw[this]
 rw[e];have:=pick_run xs i k;rw[List.filterMap_map]at this;have e2:((λx=>xs[x]?) ∘ λx=>i+x)=λm=>xs[i+m]?:=rfl
 rw[e2]at this;rw[this]
theorem getItem_tuple_cut{t sl:Addr}{items:Array Value}{vl vu:Value}{lo hi:Option Int}{Q:Value->Shared->Prop}(ht:IsTup s.heap t items)(hs:s.heap.IsSliceOf sl vl vu .none)(pl:IsPart vl lo)(pu:IsPart vu hi)
  (hw:¬(sIx items.size 0 lo=0/\sIx items.size items.size hi=items.size))
  (h:Q (.ref s.heap.objs.size) {s with heap:=s.heap.push {cls:=.type "tuple",data:=.seq ((items.toList.drop (sIx items.size 0 lo)).take (sIx items.size items.size hi-sIx items.size 0 lo)).toArray}})
  (hsz:items.size<=sizeLine):wpAny (model prog w) A (getItem (.ref t) (.ref sl)) Q E s:=by
 have htake:sizeOk (.seq ((items.toList.drop (sIx items.size 0 lo)).take (sIx items.size items.size hi-sIx items.size 0 lo)).toArray):=by
  show((items.toList.drop (sIx items.size 0 lo)).take (sIx items.size items.size hi-sIx items.size 0 lo)).toArray.size<=sizeLine
  rw[size_toArray,List.length_take,List.length_drop,Array.length_toList];omega
 have hj:sIx items.size items.size hi<=items.size:=sIx_le _ _ (le_refl _) hi;obtain⟨os,hos,hcs,hds⟩:=id hs;have hTs:s.TypeIs (.ref sl) "slice":=⟨os,hos,hcs⟩;unfold getItem
 try with_reducible refine wpAny_holding ?_
 first|refine wpAny_bind (wpAny_pure ?_)|skip
 refine wpAny_bind (wpAny_sequenceKey ht.typeIs (by decide) ?_);refine wpAny_bind (wpAny_callSpecial?_slot (name:=Str.ofString "__getitem__") ht.typeIs PyProof.Rows.slot_tuple_getitem
  (wpAny_call_entry PyProof.Rows.slot_tuple_getitem ht.typeIs entry_tuple_getitem ?_ (args_tuple_getitem _ _)))
 show wpAny _ _ (Builtin.Tuple.tupleItemsOf (.ref t) >>= _) _ _ s
 refine wpAny_bind (tupleItemsOf_ ht ?_);refine wpAny_bind (wpAny_typeOf hTs ?_);rw[if_pos (by decide)];refine wpAny_bind (sliceApplied_gen hs pl pu ?_);have hno:¬((((sIx items.size 0 lo:Nat):Int)==0&&(1:Int)==1&&(sIx items.size items.size hi-sIx items.size 0 lo)==items.size)=true):=by
  intro q;rw[Bool.and_eq_true,Bool.and_eq_true]at q;have q1:((sIx items.size 0 lo:Nat):Int)=0:=eq_of_beq q.1.1;have q2:sIx items.size items.size hi-sIx items.size 0 lo=items.size:=eq_of_beq q.2;exact hw ⟨by omega,by omega⟩
 show wpAny _ _ (if(((sIx items.size 0 lo:Nat):Int)==0&&(1:Int)==1&&(sIx items.size items.size hi-sIx items.size 0 lo)==items.size)=true then _ else _) _ _ s
 rw[if_neg hno,Qb]
 first
  |exact wpAny_bind (m:=Builtin.Tuple.tupleExact _) (wpAny_newObj_type (wpAny_pure ⟨_,rfl,wpAny_pure h⟩) htake)
  |exact wpAny_bind (m:=Builtin.Tuple.tupleExact _) (wpAny_newObj_type (wpAny_bind (wpAny_pure (wpAny_pure ⟨_,rfl,wpAny_pure h⟩))) htake)
  |exact wpAny_bind (wpAny_bind (m:=Builtin.Tuple.tupleExact _) (wpAny_newObj_type (wpAny_pure (wpAny_pure ⟨_,rfl,wpAny_pure h⟩)) htake))
  |exact wpAny_bind (wpAny_bind (m:=Builtin.Tuple.tupleExact _) (wpAny_newObj_type (wpAny_pure ⟨_,rfl,wpAny_pure h⟩) htake))
end
end HT
namespace L2
open PySem PySem.Spec PyProof.Rows
abbrev TO:=St->Hp->(Option Int->Hp->Prop)->Prop
def PO(X:Cx)(e:Option Expr)(t:TO):Prop :=
 ∀(pins:List (Addr×Obj)) (s:Shared) (σ:St) (H:Hp) (Q:Option Int->Hp->Prop),Inv X pins σ H s->t σ H Q ->
  wpAny (model X.prog X.w) X.A (evalPart e X.env) (λu s'=>∃o H',Inv X pins σ H' s'/\IsPart u o/\Q o H') X.xe s
def tNoPart:TO:=λ_ H Q=>Q none H
def tPart(t:TE):TO:=λσ H Q=>t σ H λx H1=>∃i,x=.int i/\Q (some i) H1
section
variable{X:Cx}{e:Expr}{te:TE}{lo hi:Option Expr}{tl th:TO}{pos p2:Pos}
theorem po_none:PO X none tNoPart:=by
 intro pins s σ H Q I h;rw[evalPart_none];exact wpAny_pure ⟨none,H,I,.none,h⟩
theorem po_some(h:PE X e te):PO X (some e) (tPart te):=by
 intro pins s σ H Q I hw;rw[evalPart_some];refine thn (h pins s σ H _ I hw) λu s1 ⟨x,H1,I1,r1,q1⟩=>?_
 obtain⟨i,rfl,q⟩:=q1;obtain⟨t,rfl⟩:=r1;exact⟨some i,H1,I1,.int i t,q⟩
def SlR(X:Cx)(r:V->Option Int->Option Int->Hp->VK->Prop):Prop :=
 ∀(pins:List (Addr×Obj)) (s:Shared) (σ:St) (H:Hp) (x:V) (v vl vu:Value) (lo hi:Option Int) (sl:Addr) (Q:VK),Inv X pins σ H s->zv x v->s.heap.IsSliceOf sl vl vu .none->IsPart vl lo->IsPart vu hi->r x lo hi H Q ->
  ∃T id,typeLookup (.type T) "__getitem__"=pure (some (.builtin id))/\s.TypeIs v T/\wpAny (model X.prog X.w) X.A (getItem v (.ref sl)) (EP X pins σ Q) X.xe s
theorem SlR.or{r r':V->Option Int->Option Int->Hp->VK->Prop}(h:SlR X r)(h':SlR X r'):SlR X (λx lo hi H Q=>r x lo hi H Q\/r' x lo hi H Q):=by
 intro pins s σ H x v vl vu lo hi sl Q I rx hs pl pu q;rcases q with q|q
 ·exact h pins s σ H x v vl vu lo hi sl Q I rx hs pl pu q
 ·exact h' pins s σ H x v vl vu lo hi sl Q I rx hs pl pu q
def tSl(r:V->Option Int->Option Int->Hp->VK->Prop)(te:TE)(tl th:TO):TE:=λσ H Q=>te σ H λx H1=>tl σ H1 λl H2=>th σ H2 λu H3=>r x l u H3 Q
theorem Qc{r:V->Option Int->Option Int->Hp->VK->Prop}(hr:SlR X r)(he:PE X e te)(hl:PO X lo tl)(hu:PO X hi th):PE X (.Subscript e (.Slice lo hi none p2) pos) (tSl r te tl th):=by
 intro pins s σ H Q I h;refine Subscript_ (thn (he pins s σ H _ I h) λv s1 ⟨x,H1,I1,r1,q1⟩=>?_);refine wpAny_Slice (thn (hl pins s1 σ H1 _ I1 q1) λvl s2 ⟨l,H2,I2,pl,q2⟩=>thn (hu pins s2 σ H2 _ I2 q2) λvu s3 ⟨u,H3,I3,pu,q3⟩=>?_);rw[evalPart_none];refine wpAny_pure ?_;have I4:Inv X pins σ H3 {s3 with heap:=s3.heap.push {cls:=.type "slice",data:=.fields #[vl,vu,.none]}}:=I3.kept (t':=s3.toks) λb ob q=>get?_push_of_some _ q
 obtain⟨T,id,hT,ht,hg⟩:=hr pins {s3 with heap:=s3.heap.push {cls:=.type "slice",data:=.fields #[vl,vu,.none]}} σ H3 x v vl vu l u s3.heap.objs.size Q I4 r1 (Heap.IsSliceOf.new ..) pl pu q3
 show wpAny (model X.prog X.w) X.A (subscriptTail e (.Slice lo hi none p2) v (.ref s3.heap.objs.size)) (EP X pins σ Q) X.xe {s3 with heap:=s3.heap.push {cls:=.type "slice",data:=.fields #[vl,vu,.none]}}
 exact tail_any (ops:=[.ref s3.heap.objs.size,v]) ht hT hg (by with_unfolding_all rfl)
def Qd(xs:List V)(lo hi:Option Int):List V:=(xs.drop (HT.sIx xs.length 0 lo)).take (HT.sIx xs.length xs.length hi-HT.sIx xs.length 0 lo)
theorem YO(xs:List V)(lo hi:Option Int):(Qd xs lo hi).length<=xs.length:=by
 unfold Qd;rw[List.length_take,List.length_drop];omega
def rSlT(K:PySem.W.Frag):V->Option Int->Option Int->Hp->VK->Prop:=λx lo hi H Q=>∃a xs,x=.ref a/\SqT K H a xs /\
 ¬(HT.sIx xs.length 0 lo=0/\HT.sIx xs.length xs.length hi=xs.length)/\∀p,H p=none->Q (.ref p) (upd H p (.tup (Qd xs lo hi)))
theorem sl_tup:SlR X (rSlT X.K):=by
 intro pins s σ H x v vl vu lo hi sl Q I rx hs pl pu h;obtain⟨a,xs,rfl,hx,hw,q⟩:=h;cases rx;obtain⟨its,r,ht,hz⟩:=I.tuple hx;have hlen:its.toArray.size=xs.length:=by rw[size_toArray];exact r.length.symm
 refine⟨"tuple",_,PyProof.Rows.slot_tuple_getitem.lookup,ht.typeIs,?_⟩;refine HT.getItem_tuple_cut ht hs pl pu (by rw[hlen];exact hw) ?_ (by rw[hlen];exact hz);rw[hlen];refine⟨.ref s.heap.objs.size,_,I.laid (t':=s.toks) (o:=.tup (Qd xs lo hi)) (λb ob q=>get?_push_of_some _ q) (le_refl _) ?_,rfl,q _ (I.hok.fresh (le_refl _))⟩;exact⟨le_trans (YO xs lo hi) hz,_,(r.drop (HT.sIx xs.length 0 lo)).take (HT.sIx xs.length xs.length hi-HT.sIx xs.length 0 lo),IsTup.new _ _⟩
def rCatT(K:PySem.W.Frag):R2:=λx y H Q=>∃a b xs ys,x=.ref a/\y=.ref b/\SqT K H a xs/\SqT K H b ys/\xs≠[]/\xs.length+ys.length<=sizeLine /\
 (ys=[]->Q (.ref a) H)/\(ys≠[]->∀p,H p=none->Q (.ref p) (upd H p (.tup (xs++ys))))
theorem zd.nil_iff{xs:List V}{us:List Value}(r:zd xs us):us=[]↔xs=[]:=by
 cases r with
 |nil=>simp
 |cons _ _=>simp
theorem op_catT:OpR X (binaryOp .Add) (rCatT X.K):=by
 intro pins s σ H x y v u Q I rx ry h;obtain⟨a,b,xs,ys,rfl,rfl,ha,hb,hx,hz,q1,q2⟩:=h;cases rx;cases ry;obtain⟨its,r1,p1,_⟩:=I.tuple ha;obtain⟨its2,r2,p2,_⟩:=I.tuple hb;refine HT.cat_tup p1 p2 (λz=>hx (r1.nil_iff.mp z)) (λz=>⟨.ref a,H,I,rfl,q1 (r2.nil_iff.mp z)⟩) (λz=>?_) (by rw[<- r1.length,<- r2.length];exact hz);refine⟨.ref s.heap.objs.size,_,I.laid (t':=s.toks) (o:=.tup (xs++ys)) (λb ob q=>get?_push_of_some _ q) (le_refl _) ?_,rfl,q2 (λw=>z (r2.nil_iff.mpr w)) _ (I.hok.fresh (le_refl _))⟩;exact⟨by rw[length_append];exact hz,_,r1.append r2,IsTup.new _ _⟩
end
end L2
namespace L2
open PySem PySem.Spec PyProof.Rows
def ixN(n:Nat)(i:Int):Option Nat:=if 0<=i then(if i<n then some i.toNat else none)else if -(n:Int)<=i then some (i+n).toNat else none
def atI{α:Type}(xs:List α)(i:Int):Option α:=(ixN xs.length i).bind λj=>xs[j]?
theorem uq{n:Nat}{i:Int}{j:Nat}(h:ixN n i=some j):seqIndex? i n=some j/\j<n/\-(n:Int)<=i/\i<n:=by
 unfold ixN at h;by_cases h0:0<=i
 ·rw[if_pos h0]at h
  by_cases h1:i<n
  ·rw[if_pos h1]at h
   have e:i.toNat=j:=Option.some.inj h;exact⟨by rw[seqIndex_of h0 h1,e],by omega,by omega,h1⟩
  ·rw[if_neg h1]at h;cases h
 ·rw[if_neg h0]at h
  by_cases h1:-(n:Int)<=i
  ·rw[if_pos h1]at h
   have e:(i+n).toNat=j:=Option.some.inj h;exact⟨by rw[seqIndex_neg (by omega) h1,e],by omega,h1,by omega⟩
  ·rw[if_neg h1]at h;cases h
theorem ur{α:Type}{xs:List α}{i:Int}{v:α}(h:atI xs i=some v):∃j,seqIndex? i xs.length=some j/\xs[j]?=some v/\j<xs.length/\-(xs.length:Int)<=i/\i<xs.length:=by
 unfold atI at h;cases e:ixN xs.length i with
 |none=>rw[e]at h;cases h
 |some j =>
  rw[e]at h;obtain⟨h1,h2,h3,h4⟩:=uq e;exact⟨j,h1,h,h2,h3,h4⟩
def ZH(b:Expr):Prop:=∀o i,subscripted b false o i=operate [o,i] (getItem o i)
def IxR(X:Cx)(r:R2):Prop :=
 ∀(value slice:Expr) (pins:List (Addr×Obj)) (s:Shared) (σ:St) (H:Hp) (x y:V) (v u:Value) (Q:VK),Inv X pins σ H s->zv x v->zv y u->r x y H Q ->
  subscripted slice false v u=operate [v,u] (getItem v u)->wpAny (model X.prog X.w) X.A (subscriptTail value slice v u) (EP X pins σ Q) X.xe s
def MtR(X:Cx)(id:String)(r:V->List V->Hp->VK->Prop):Prop :=
 ∀(pins:List (Addr×Obj)) (s:Shared) (σ:St) (H:Hp) (x:V) (xs:List V) (v:Value) (us:List Value) (Q:VK),Inv X pins σ H s->zv x v->zd xs us->r x xs H Q ->
  wpAny (model X.prog X.w) X.A (call (.builtin id) (v::us)) (EP X pins σ Q) X.xe s
section
variable{X:Cx}{a b:Expr}{ta tb:TE}{pos:Pos}
theorem IxR.or{r r':R2}(h:IxR X r)(h':IxR X r'):IxR X (λx y H Q=>r x y H Q\/r' x y H Q):=by
 intro value slice pins s σ H x y v u Q I rx ry q hs;rcases q with q|q
 ·exact h value slice pins s σ H x y v u Q I rx ry q hs
 ·exact h' value slice pins s σ H x y v u Q I rx ry q hs
theorem MtR.or{id:String}{r r':V->List V->Hp->VK->Prop}(h:MtR X id r)(h':MtR X id r'):MtR X id (λx xs H Q=>r x xs H Q\/r' x xs H Q):=by
 intro pins s σ H x xs v us Q I rx rs q;rcases q with q|q
 ·exact h pins s σ H x xs v us Q I rx rs q
 ·exact h' pins s σ H x xs v us Q I rx rs q
theorem pe_ix{r:R2}(hr:IxR X r)(ha:PE X a ta)(hb:PE X b tb)(hs:ZH b):PE X (.Subscript a b pos) (tOp r ta tb):=by
 intro pins s σ H Q I h;exact Subscript_ (binT ha hb I h λv u s2 x y H2 I2 rx ry q=>hr a b pins s2 σ H2 x y v u Q I2 rx ry q (hs _ _))
def rIxL(K:PySem.W.Frag):R2:=λx y H Q=>∃p xs i v,x=.ref p/\y=.int i/\SqL K H p xs/\atI xs i=some v/\Q v H
def rIxT(K:PySem.W.Frag):R2:=λx y H Q=>∃p xs i v,x=.ref p/\y=.int i/\SqT K H p xs/\atI xs i=some v/\Q v H
theorem ut:IxR X (rIxL X.K):=by
 intro value slice pins s σ H x y v u Q I rx ry h hs;obtain⟨p,xs,i,z,rfl,rfl,hq,he,q⟩:=h;cases rx;obtain⟨t,rfl⟩:=ry;obtain⟨its,r,pl,hz⟩:=I.list hq;obtain⟨j,h1,h2,h3,h4,h5⟩:=ur he;obtain⟨w,ew,rw'⟩:=r.get h2;have hl:=r.length;have hn:=vA;have fin:EP X pins σ Q w s:=⟨z,H,I,rw',q⟩;by_cases h0:0<=i
 ·have hj:i.toNat=j:=by
   rw[seqIndex_of h0 h5]at h1;exact Option.some.inj h1
  exact item_listR pl.isList h0 (by omega) (by rw[hj];simpa using ew) fin hs
 ·have hj:(i+(its.toArray.size:Int)).toNat=j:=by
   rw[seqIndex_neg (by omega) h4]at h1;rw[size_toArray,<- hl];exact Option.some.inj h1
  exact subscriptTail_builtinR (x:=w) pl.isList.typeIs slot_list_getitem.lookup
   (wpAny_getItem_list_neg (Q:=λr s'=>r=w/\EP X pins σ Q r s') pl.isList (by omega) (by rw[size_toArray]<;>omega) (by omega) (by rw[hj];simpa using ew) ⟨rfl,fin⟩) hs
theorem ix_tup:IxR X (rIxT X.K):=by
 intro value slice pins s σ H x y v u Q I rx ry h hs;obtain⟨p,xs,i,z,rfl,rfl,hq,he,q⟩:=h;cases rx;obtain⟨t,rfl⟩:=ry;obtain⟨its,r,pl,hz⟩:=I.tuple hq;obtain⟨j,h1,h2,h3,h4,h5⟩:=ur he;obtain⟨w,ew,rw'⟩:=r.get h2;have hl:=r.length;have hn:=vA;have fin:EP X pins σ Q w s:=⟨z,H,I,rw',q⟩;exact subscriptTail_builtinR (x:=w) pl.typeIs slot_tuple_getitem.lookup
  (getItem_tuple (j:=j) (Q:=λr s'=>r=w/\EP X pins σ Q r s') pl (by omega) (by omega) (by rw[size_toArray,<- hl];exact h1) (by simpa using ew) ⟨rfl,fin⟩) hs
theorem v0(its:List Value)(n j:Nat)(u:Value):Obj.mapSeq (·.setIfInBounds j u) {cls:=.type "list",data:=.seq its.toArray n}={cls:=.type "list",data:=.seq (its.set j u).toArray n}:=by
 simp[Obj.mapSeq]
theorem Inv.lst{pins:List (Addr×Obj)}{σ:St}{H:Hp}{s:Shared}{p:Addr}{xs:List V}(I:Inv X pins σ H s)(h:H p=some (.lst xs)) :
  ∃(its:List Value) (n:Nat),zd xs its/\s.heap.get? p=some {cls:=.type "list",data:=.seq its.toArray n}/\xs.length<=sizeLine:=by
 obtain⟨z,its,n,r,e⟩:=I.hok p _ h;exact⟨its,n,r,e,z⟩
theorem Inv.lstUpd{pins:List (Addr×Obj)}{σ:St}{H:Hp}{s:Shared}{p:Addr}{xs ys:List V}{its its':List Value}{n n':Nat}{f:Obj->Obj}(I:Inv X pins σ H s)(h:H p=some (.lst xs))
  (ho:s.heap.get? p=some {cls:=.type "list",data:=.seq its.toArray n}) (hf:f {cls:=.type "list",data:=.seq its.toArray n}={cls:=.type "list",data:=.seq its'.toArray n'}) (r:zd ys its') (hz:ys.length<=sizeLine) (t:Nat) :
  Inv X pins σ (upd H p (.lst ys)) {s with heap:=s.heap.update p f,toks:=t}:=by
 have e:(s.heap.update p f).get? p=some {cls:=.type "list",data:=.seq its'.toArray n'}:=by
  rw[Heap.get?_update_self f ho (by rw[hf]<;>rfl),hf]
 refine I.write (x:=p) (e:=p) (by rw[h];trivial) (.inl rfl) (λb u hb q=>(Heap.get?_update_other _ _ (Ne.symm hb)).trans q) ⟨_,e⟩ ?_;exact⟨hz,its',n',r,e⟩
def rSetL:V->V->V->Hp->(Hp->Prop)->Prop:=λo i v H Q=>∃p xs k j,o=.ref p/\i=.int k/\H p=some (.lst xs)/\ixN xs.length k=some j/\Q (upd H p (.lst (xs.set j v)))
theorem Qe:PSet X rSetL:=by
 intro pins s σ H o i v ov iv u Q I ro ri rv h;obtain⟨p,xs,k,j,rfl,rfl,hp,hj,q⟩:=h;cases ro;obtain⟨t,rfl⟩:=ri;obtain⟨its,n,r,ho,hz⟩:=I.lst hp;obtain⟨h1,h2,h3,h4⟩:=uq hj;have hl:=r.length;have hn:=vA;have I':Inv X pins σ (upd H p (.lst (xs.set j v))) {s with heap:=s.heap.update p (Obj.mapSeq (·.setIfInBounds j u))} :=
  I.lstUpd hp ho (v0 its n j u) (r.set rv j) (by rw[List.length_set];exact hz) s.toks
 by_cases h0:0<=k
 ·have hk:k.toNat=j:=by
   rw[seqIndex_of h0 h4]at h1;exact Option.some.inj h1
  exact PySem.W.ki_setAt ho h0 (by omega) (by rw[size_toArray,<- hl];exact h4) (by rw[hk];exact⟨_,I',q⟩)
 ·have hk:(k+(its.toArray.size:Int)).toNat=j:=by
   rw[seqIndex_neg (by omega) h3]at h1;rw[size_toArray,<- hl];exact Option.some.inj h1
  exact PySem.W.ki_setBack ho (by omega) (by rw[size_toArray,<- hl];exact h3) (by omega) (by rw[hk];exact⟨_,I',q⟩)
theorem Zt(lo hi:Option Int)(n:Nat):(sliceBounds lo hi none n).1=((HT.sIx n 0 lo:Nat):Int)/\(sliceBounds lo hi none n).2.1=((HT.sIx n n hi:Nat):Int)/\(sliceBounds lo hi none n).2.2=1:=by
 refine⟨?_,?_,rfl⟩
 ·cases lo with
  |none=>simp[sliceBounds,HT.sIx]
  |some i =>
   simp only[sliceBounds,HT.sIx,Option.getD_none,show(1:Int) > 0 by decide,if_true];by_cases h:i<0
   ·simp only[h,if_true]<;>omega
   ·simp only[h,if_false]<;>omega
 ·cases hi with
  |none=>simp[sliceBounds,HT.sIx]
  |some i =>
   simp only[sliceBounds,HT.sIx,Option.getD_none,show(1:Int) > 0 by decide,if_true];by_cases h:i<0
   ·simp only[h,if_true]<;>omega
   ·simp only[h,if_false]<;>omega
theorem ZI(its:List Value)(lo hi:Option Int):slicePick its.toArray lo hi none=((its.drop (HT.sIx its.length 0 lo)).take (HT.sIx its.length its.length hi-HT.sIx its.length 0 lo)).toArray:=by
 obtain⟨h1,h2,h3⟩:=Zt lo hi its.toArray.size;unfold slicePick;rw[h1,h2,h3];simp only[sliceRange_one,pick_run,size_toArray]<;>rfl
def rSlL(K:PySem.W.Frag):V->Option Int->Option Int->Hp->VK->Prop:=λx lo hi H Q=>∃a xs,x=.ref a/\SqL K H a xs/\∀p,H p=none->Q (.ref p) (upd H p (.lst (Qd xs lo hi)))
theorem sl_list:SlR X (rSlL X.K):=by
 intro pins s σ H x v vl vu lo hi sl Q I rx hs pl pu h;obtain⟨a,xs,rfl,hx,q⟩:=h;cases rx;obtain⟨its,r,ht,hz⟩:=I.list hx;have hlen:=r.length;refine⟨"list",_,slot_list_getitem.lookup,ht.isList.typeIs,?_⟩;refine wpAny_getItem_list_slice ht.isList hs pl pu .none (by simp) ?_ (by rw[size_toArray]<;>omega);rw[ZI,<- hlen];refine⟨.ref s.heap.objs.size,_,I.laid (t':=s.toks) (o:=.lst (Qd xs lo hi)) (λb ob q=>get?_push_of_some _ q) (le_refl _) ?_,rfl,q _ (I.hok.fresh (le_refl _))⟩;exact⟨le_trans (YO xs lo hi) hz,_,0,(r.drop (HT.sIx xs.length 0 lo)).take (HT.sIx xs.length xs.length hi-HT.sIx xs.length 0 lo),get?_push_size _ rfl⟩
def wA:V->Bool
 | .non=>true
 | .bl _=>true
 | .int _=>true
 | .str _=>true
 |_=>false
def eqV:V->V->Bool
 | .non,.non=>true
 | .bl a,.bl b=>a==b
 | .bl a,.int b=>(if a then 1 else 0)==b
 | .int a,.bl b=>a==(if b then 1 else 0)
 | .int a,.int b=>a==b
 | .str a,.str b=>a==b
 |_,_=>false
theorem uu{A:Around}{s:Shared}{y x:V}{u v:Value}(ry:zv y u)(rx:zv x v)(fy:wA y=true)(fx:wA x=true):SeqAt.EqAt A s u v (eqV y x):=by
 cases y with
 |non =>
  cases ry;cases x with
  |non=>cases rx;exact SeqAt.EqAt.same _
  |bl b=>cases rx;exact SeqAt.EqAt.none_bool b
  |int b=>obtain⟨t,rfl⟩:=rx;exact SeqAt.EqAt.none_int b t
  |str b=>obtain⟨t,rfl⟩:=rx;exact SeqAt.EqAt.none_str b t
  |_=>exact absurd (show false=true from fx) Bool.false_ne_true
 |bl a =>
  cases ry;cases x with
  |non=>cases rx;exact SeqAt.EqAt.bool_none a
  |bl b=>cases rx;exact SeqAt.EqAt.bool_bool a b
  |int b=>obtain⟨t,rfl⟩:=rx;exact SeqAt.EqAt.bool_int a b t
  |str b=>obtain⟨t,rfl⟩:=rx;exact SeqAt.EqAt.bool_str a b t
  |_=>exact absurd (show false=true from fx) Bool.false_ne_true
 |int a =>
  obtain⟨t',rfl⟩:=ry;cases x with
  |non=>cases rx;exact SeqAt.EqAt.int_none a t'
  |bl b=>cases rx;exact SeqAt.EqAt.int_bool a t' b
  |int b=>obtain⟨t,rfl⟩:=rx;exact SeqAt.EqAt.int_int a t' b t
  |str b=>obtain⟨t,rfl⟩:=rx;exact SeqAt.EqAt.int_str a t' b t
  |_=>exact absurd (show false=true from fx) Bool.false_ne_true
 |str a =>
  obtain⟨t',rfl⟩:=ry;cases x with
  |non=>cases rx;exact SeqAt.EqAt.str_none a t'
  |bl b=>cases rx;exact SeqAt.EqAt.str_bool a t' b
  |int b=>obtain⟨t,rfl⟩:=rx;exact SeqAt.EqAt.str_int a t' b t
  |str b=>obtain⟨t,rfl⟩:=rx;exact SeqAt.EqAt.str_str a t' b t
  |_=>exact absurd (show false=true from fx) Bool.false_ne_true
 |_=>exact absurd (show false=true from fy) Bool.false_ne_true
def eqU(x:V)(u:Value):Bool:=match u with
 | .none=>eqV .non x
 | .bool b=>eqV (.bl b) x
 | .int i _=>eqV (.int i) x
 | .str z _=>eqV (.str z) x
 |_=>false
theorem zAo{x y:V}{u:Value}(r:zv y u)(f:wA y=true):eqU x u=eqV y x:=by
 cases y with
 |non=>cases r;rfl
 |bl b=>cases r;rfl
 |int i=>obtain⟨t,rfl⟩:=r;rfl
 |str z=>obtain⟨t,rfl⟩:=r;rfl
 |_=>exact absurd (show false=true from f) Bool.false_ne_true
theorem YQ{x:V}:∀{xs:List V} {us:List Value},zd xs us->xs.all wA=true->us.any (eqU x)=xs.any λy=>eqV y x
 |_,_,.nil,_=>rfl
 |y::xs,u::us,.cons r t,f=>by
  rw[all_cons,Bool.and_eq_true]at f;rw[any_cons,any_cons,zAo r f.1,YQ t f.2]
theorem wu{A:Around}{s:Shared}{x:V}{v:Value}(rx:zv x v)(fx:wA x=true):∀{xs:List V} {us:List Value},zd xs us->xs.all wA=true->∀u∈us,SeqAt.EqAt A s u v (eqU x u)
 |_,_,.nil,_=>λu hu=>by cases hu
 |y::xs,u::us,.cons r t,f=>λu' hu=>by
  rw[all_cons,Bool.and_eq_true]at f;rcases mem_cons.mp hu with rfl|hu
  ·rw[zAo r f.1];exact uu r rx f.1 fx
  ·exact wu rx fx t f.2 u' hu
def inV(x:V)(xs:List V):Bool:=xs.any λy=>eqV y x
def rIn(K:PySem.W.Frag)(neg:Bool):R2:=λx y H Q=>∃p xs,y=.ref p/\(SqL K H p xs\/SqT K H p xs)/\wA x=true/\xs.all wA=true/\Q (.bl (if neg then !inV x xs else inV x xs)) H
theorem Zu:OpR X (compareOp .In) (rIn X.K false):=by
 intro pins s σ H x y v u Q I rx ry h;obtain⟨p,xs,rfl,hq,fx,fs,q⟩:=h;cases ry;rcases hq with hq|hq
 ·obtain⟨its,r,pl,hz⟩:=I.list hq
  refine SeqAt.in_listAt (eqU x) pl.isList (λw hw=>wu rx fx r fs w (by simpa using hw)) ⟨.bl _,H,I,rfl,?_⟩;rw[show its.toArray.any (eqU x)=its.any (eqU x)by simp,YQ r fs];exact q
 ·obtain⟨its,r,pl,hz⟩:=I.tuple hq
  refine SeqAt.in_tupleAt (eqU x) pl (λw hw=>wu rx fx r fs w (by simpa using hw)) ⟨.bl _,H,I,rfl,?_⟩;rw[show its.toArray.any (eqU x)=its.any (eqU x)by simp,YQ r fs];exact q
theorem Jh:OpR X (compareOp .NotIn) (rIn X.K true):=by
 intro pins s σ H x y v u Q I rx ry h;obtain⟨p,xs,rfl,hq,fx,fs,q⟩:=h;cases ry;rcases hq with hq|hq
 ·obtain⟨its,r,pl,hz⟩:=I.list hq
  refine SeqAt.notIn_listAt (eqU x) pl.isList (λw hw=>wu rx fx r fs w (by simpa using hw)) ⟨.bl _,H,I,rfl,?_⟩;rw[show its.toArray.any (eqU x)=its.any (eqU x)by simp,YQ r fs];exact q
 ·obtain⟨its,r,pl,hz⟩:=I.tuple hq
  refine SeqAt.notIn_tupleAt (eqU x) pl (λw hw=>wu rx fx r fs w (by simpa using hw)) ⟨.bl _,H,I,rfl,?_⟩;rw[show its.toArray.any (eqU x)=its.any (eqU x)by simp,YQ r fs];exact q
theorem Zv:jA X (.builtin "len") (λxs H Q=>∃p ys,xs=[.ref p]/\(SqL X.K H p ys\/SqT X.K H p ys)/\Q (.int ys.length) H):=by
 intro pins s σ H xs us Q I r h;obtain⟨p,ys,rfl,hq,q⟩:=h;obtain⟨u,rfl,rx⟩:=Wf r;cases rx;have hn:=vA;rcases hq with hq|hq
 ·obtain⟨its,r',pl,hz⟩:=I.list hq
  have hlen:=r'.length;exact Calls.call_len_list pl.isList (by simp only[size_toArray]<;>omega) ⟨.int ys.length,H,I.tok _,⟨s.toks+1,by rw[size_toArray,hlen]⟩,q⟩
 ·obtain⟨its,r',pl,hz⟩:=I.tuple hq
  have hlen:=r'.length;exact len_tuple pl (by simp only[size_toArray]<;>omega) ⟨.int ys.length,H,I.tok _,⟨s.toks+1,by rw[size_toArray,hlen]⟩,q⟩
theorem jA.or{f:Value}{r r':List V->Hp->VK->Prop}(h:jA X f r)(h':jA X f r'):jA X f (λxs H Q=>r xs H Q\/r' xs H Q):=by
 intro pins s σ H xs us Q I rs q;rcases q with q|q
 ·exact h pins s σ H xs us Q I rs q
 ·exact h' pins s σ H xs us Q I rs q
theorem Zw:jA X (.type "list") (λxs H Q=>∃p ys,xs=[.ref p]/\(SqL X.K H p ys\/SqT X.K H p ys)/\∀l,H l=none->Q (.ref l) (upd H l (.lst ys))):=by
 intro pins s σ H xs us Q I r h;obtain⟨p,ys,rfl,hq,q⟩:=h;obtain⟨u,rfl,rx⟩:=Wf r;cases rx;have fin:∀(its:List Value),zd ys its->ys.length<=sizeLine->∀(h':Heap) (c':Nat),(∀b o',s.heap.get? b=some o'->h'.get? b=some o') ->
   h'.get? s.heap.objs.size=some {cls:=.type "list",dict:=none,data:=.seq its.toArray c',slots:=#[]}->EP X pins σ Q (.ref s.heap.objs.size) {s with heap:=h'}:=λits r' hz h' c' kp e =>
  ⟨.ref s.heap.objs.size,_,I.laid (t':=s.toks) kp (le_refl _) (show ji X.prog X.w _ h' _ (.lst ys)from⟨hz,its,c',r',e⟩),rfl,q _ (I.hok.fresh (le_refl _))⟩
 rcases hq with hq|hq
 ·obtain⟨its,r',pl,hz⟩:=I.list hq
  have hlen:=r'.length;obtain⟨o,ho,hc,n,hd⟩:=pl.isList;exact call_list_seq p (.inl rfl) ho hc hd (λh' c' kp e=>fin its r' hz h' c' kp e) (by simp only[size_toArray]<;>omega)
 ·obtain⟨its,r',pl,hz⟩:=I.tuple hq
  have hlen:=r'.length;obtain⟨o,ho,hc,n,hd⟩:=pl;exact call_list_seq p (.inr rfl) ho hc hd (λh' c' kp e=>fin its r' hz h' c' kp e) (by simp only[size_toArray]<;>omega)
theorem ZJ:jA X (.type "tuple") (λxs H Q=>∃p ys,xs=[.ref p]/\((SqL X.K H p ys/\∀l,H l=none->Q (.ref l) (upd H l (.tup ys)))\/(SqT X.K H p ys/\Q (.ref p) H))):=by
 intro pins s σ H xs us Q I r h;obtain⟨p,ys,rfl,h⟩:=h;obtain⟨u,rfl,rx⟩:=Wf r;cases rx;rcases h with⟨hq,q⟩|⟨hq,q⟩
 ·obtain⟨its,r',pl,hz⟩:=I.list hq
  have hlen:=r'.length;refine call_tuple_list pl.isList (λh' kp=>?_) (by simp only[size_toArray]<;>omega);have I1:Inv X pins σ H {s with heap:=h'}:=I.kept (t':=s.toks) kp
  have I2:Inv X pins σ (upd H h'.objs.size (.tup ys)) {s with heap:=h'.push {cls:=.type "tuple",data:=.seq its.toArray}} :=
   I1.laid (t':=s.toks) (λb o e=>get?_push_of_some _ e) (le_refl _) (show ji X.prog X.w _ _ _ (.tup ys)from⟨hz,its,r',IsTup.new _ _⟩)
  exact⟨.ref h'.objs.size,_,I2,rfl,q _ (I1.hok.fresh (le_refl _))⟩
 ·obtain⟨its,r',pl,hz⟩:=I.tuple hq
  exact call_tuple_same pl ⟨.ref p,H,I,rfl,q⟩
def tyV(K:PySem.W.Frag)(T:String)(x:V)(H:Hp):Prop:=match x with
 | .str _=>T="str"
 | .int _=>T="int"
 | .ref p=>(T="list"/\∃xs,SqL K H p xs)\/(T="tuple"/\∃o,K.lookup p=some o/\o.cls=.type "tuple"/\o.dict=none) \/
   (T="dict"/\((∃kvs,H p=some (.dK kvs))\/∃kvs,H p=some (.dT kvs)))\/(T="set"/\∃S n,H p=some (.set S n))
 |_=>False
theorem tyV_is{pins:List (Addr×Obj)}{σ:St}{H:Hp}{s:Shared}{T:String}{x:V}{v:Value}(I:Inv X pins σ H s)(r:zv x v)(ty:tyV X.K T x H) :
  s.TypeIs v T/\∀a,v=.ref a->∃ob,s.heap.get? a=some ob/\ob.dict=none:=by
 cases x with
 |str z =>
  obtain⟨t,rfl⟩:=r;cases (show T="str" from ty);exact⟨typeIs_str s z t,λ_ e=>nomatch e⟩
 |int i =>
  obtain⟨t,rfl⟩:=r;cases (show T="int" from ty);exact⟨typeIs_int s i t,λ_ e=>nomatch e⟩
 |ref p =>
  cases r;rcases ty with⟨rfl,xs,hq⟩|⟨rfl,o,hk,hc,hd⟩|⟨rfl,hk⟩|⟨rfl,S,n,hk⟩
  ·obtain⟨its,_,pl,_⟩:=I.list hq
   refine⟨pl.isList.typeIs,λa e=>?_⟩;cases e;obtain⟨o,n,e,c,hd,_⟩:=pl;exact⟨o,e,hd⟩
  ·refine⟨⟨o,I.kIn p o hk,hc⟩,λa e=>?_⟩
   cases e;exact⟨o,I.kIn _ o hk,hd⟩
  ·have z:∃o,s.heap.get? p=some o/\o.ExactDict:=by
    rcases hk with⟨kvs,hk⟩|⟨kvs,hk⟩
    ·obtain⟨_,_,_,_,o,_,_,e,ex,_⟩:=I.hok p _ hk
     exact⟨o,e,ex⟩
    ·obtain⟨_,_,_,_,o,_,_,e,ex,_⟩:=I.hok p _ hk
     exact⟨o,e,ex⟩
   obtain⟨o,e,ex⟩:=z;refine⟨⟨o,e,ex.1⟩,λa e2=>?_⟩;cases e2;exact⟨o,e,ex.2.1⟩
  ·obtain⟨o,_,_,_,e,ex,_⟩:=I.hok p _ hk
   refine⟨⟨o,e,ex.1⟩,λa e2=>?_⟩;cases e2;exact⟨o,e,ex.2.1⟩
 |_=>exact False.elim ty
def tBM(K:PySem.W.Frag)(T:String)(r:V->List V->Hp->VK->Prop)(to:TE)(t:TA):TE:=λσ H Q=>to σ H λx H1=>tyV K T x H1/\t σ H1 λxs H2=>r x xs H2 Q
variable{o e:Expr}{es:List Expr}{to:TE}{t:TA}{name:Str}{apos cpos:Pos}{T id:String}{r:V->List V->Hp->VK->Prop}
theorem pe_bm(pa:PlainAttrs T)(slot:Slot T name id)(hty:typeOf (.builtin id)=pure (.type "method_descriptor"))(hm:MtR X id r)(ho:PE X o to)(ha:PA X (e::es) t)
  (hbase:attributeBase o name X.env (eval o X.env)=eval o X.env:=by rfl)
  (hfew:((backTo cpos (starEach (e::es) X.env)).all (λx=>!x.1)&&(backToKw cpos (keywordEach [] X.env)).all (λx=>x.1.isSome)
   && decide ((e::es).length+([]:List Keyword).length+(if([]:List Keyword).isEmpty then 0 else 1)<30))=true:=by rfl)
  (hline:(apos.endLine==cpos.line)=true:=by rfl) (hs:starEach (e::es) X.env=(false,eval e X.env)::starEach es X.env:=by rfl) (hplain:(backTo cpos (starEach es X.env)).any (·.1)=false:=by rfl) :
  PE X (.Call (.Attribute o name apos) (e::es) [] cpos) (tBM X.K T r to t):=by
 intro pins s σ H Q I h;refine wpAny_Call_method_late hbase hfew hline rfl (thn (ho pins s σ H _ I h) λv s1 ⟨x,H1,I1,r1,ty,q1⟩=>?_);obtain⟨h1,h2⟩:=tyV_is I1 r1 ty;refine⟨T,id,pa,slot,hty,h1,h2,?_⟩;have hA:=ha cpos pins s1 σ H1 _ I1 q1;rw[hs]at hA ⊢;refine Calls.callWith_builtin (by show(false||(backTo cpos (starEach es X.env)).any (·.1))=false;rw[hplain]<;>rfl) (Calls.evalArgs_plain ?_);exact thn hA λus s2 ⟨vs,H2,I2,r2,q2⟩=>hm pins s2 σ H2 x vs v us Q I2 r1 r2 q2
end
end L2
namespace L2
open PySem PySem.Spec PyProof.Rows
def MtM(X:Cx)(id:String)(r:V->List V->Hp->VK->Prop):Prop :=
 ∀(pins:List (Addr×Obj)) (s:Shared) (σ:St) (H:Hp) (x:V) (xs:List V) (v:Value) (us:List Value) (Q:VK),Inv X pins σ H s->zv x v->zd xs us->r x xs H Q ->
  wpAny (model X.prog X.w) X.A (call (.builtin id) (v::us)) (EP X pins σ Q) X.xe s
theorem zd.one:∀{x:V} {us:List Value},zd [x] us->∃u,us=[u]/\zv x u
 |_,_,.cons r .nil=>⟨_,rfl,r⟩
theorem zd.zero:∀{us:List Value},zd [] us->us=[]
 |_,.nil=>rfl
theorem zd.dropLast{xs:List V}{us:List Value}(h:zd xs us):zd xs.dropLast us.dropLast:=by
 induction h with
 |nil=>exact .nil
 |cons r t ih =>
  cases t with
  |nil=>exact .nil
  |cons q t'=>exact .cons r ih
theorem zd.eraseIdx:∀{xs:List V} {us:List Value} (i:Nat),zd xs us->zd (xs.eraseIdx i) (us.eraseIdx i)
 |_,_,_,.nil=>.nil
 |_,_,0,.cons _ t=>t
 |_,_,i+1,.cons r t=>.cons r (zd.eraseIdx i t)
theorem zd.reverse{xs:List V}{us:List Value}(h:zd xs us):zd xs.reverse us.reverse:=by
 induction h with
 |nil=>exact .nil
 |cons r t ih=>rw[reverse_cons,reverse_cons];exact zd.append ih (.cons r .nil)
theorem zd.rep{xs:List V}{us:List Value}(h:zd xs us):∀k:Nat,zd (replicate k xs).flatten (replicate k us).flatten
 |0=>.nil
 |k+1=>by
  rw[replicate_succ,replicate_succ,flatten_cons,flatten_cons];exact zd.append h (zd.rep h k)
theorem YR(its:List Value):∀(k:Nat) (acc:List Value),
  foldl (λx1 x2=>x1++x2) acc.toArray (replicate k its.toArray)=(acc++(replicate k its).flatten).toArray
 |0,acc=>by simp
 |k+1,acc=>by
  have e:acc.toArray++its.toArray=(acc++its).toArray:=by simp
  have e2:(acc++its)++(replicate k its).flatten=acc++(replicate (k+1) its).flatten:=by
   rw[replicate_succ,flatten_cons,append_assoc]
  rw[<- e2,<- YR its k (acc++its),<- e,replicate_succ,List.foldl_cons]
section
variable{X:Cx}{pins:List (Addr×Obj)}{σ:St}{H:Hp}{s:Shared}{l b:Addr}{xs ys zs:List V}
theorem Inv.lset{its its':List Value}{n:Nat}{f:Array Value->Array Value}{t':Nat}(I:Inv X pins σ H s)(hH:H l=some (.lst xs))
  (e:s.heap.get? l=some {cls:=.type "list",data:=.seq its.toArray n}) (hf:f its.toArray=its'.toArray) (hv:zd ys its') (hz:ys.length<=sizeLine) :
  Inv X pins σ (upd H l (.lst ys)) {s with heap:=s.heap.update l (Obj.mapSeq f),toks:=t'}:=by
 have q:=PySem.IsL.update e f;rw[hf]at q;refine I.write (x:=l) (e:=l) (by rw[hH];exact trivial) (.inl rfl) (λb' u hb hu=>(Heap.get?_update_other s.heap (Obj.mapSeq f) (Ne.symm hb)).trans hu) ⟨_,q⟩ ?_;exact⟨hz,its',_,hv,q⟩
theorem Inv.lnew{its:List Value}{t':Nat}(I:Inv X pins σ H s)(hv:zd ys its)(hz:ys.length<=sizeLine) :
  Inv X pins σ (upd H s.heap.objs.size (.lst ys)) {s with heap:=s.heap.push {cls:=.type "list",data:=.seq its.toArray},toks:=t'} :=
 I.laid (λ_ _ q=>get?_push_of_some _ q) (le_refl _) ⟨hz,its,0,hv,get?_push_size _ rfl⟩
theorem Inv.fresh(I:Inv X pins σ H s):H s.heap.objs.size=none:=I.hok.fresh (le_refl _)
theorem Inv.lstM(I:Inv X pins σ H s)(hH:H l=some (.lst xs)):xs.length<=sizeLine/\∃(its:List Value) (n:Nat),zd xs its/\xs.length=its.length/\s.heap.get? l=some {cls:=.type "list",data:=.seq its.toArray n}:=by
 obtain⟨z,its,n,r,e⟩:=I.hok l _ hH;exact⟨z,its,n,r,r.length,e⟩
theorem Qf{n:Nat}(h:n<=sizeLine):Builtin.List.listTooLong n=false:=by
 unfold Builtin.List.listTooLong;exact decide_eq_false (by omega)
end
section
variable{X:Cx}
def uv:V->List V->Hp->VK->Prop:=λx vs H Q=>∃l xs y,x=.ref l/\vs=[y]/\H l=some (.lst xs)/\xs.length<sizeLine/\Q .non (upd H l (.lst (xs++[y])))
theorem Zx:MtM X "list.append" uv:=by
 intro pins s σ H x vs v us Q I rx rv h;obtain⟨l,xs,y,rfl,rfl,hH,hz,q⟩:=h;cases rx;obtain⟨u,rfl,ru⟩:=rv.one;obtain⟨z,its,n,r,hl,e⟩:=I.lstM hH;refine call_meets F.slot_list_append ⟨_,e,rfl⟩ F.entry_list_append (F.args_list_append_2 _ _) (PySem.list_append l its.toArray n u (by rw[size_toArray];omega)) ⟨e,?_⟩;refine⟨.non,_,I.lset (its':=its++[u]) hH e (by simp) (r.append (.cons ru .nil)) ?_,rfl,q⟩;rw[length_append,List.length_singleton];omega
theorem Wg{α:Type}(xs:List α)(k:Nat):(replicate k xs).flatten.length=k*xs.length:=by
 induction k with
 |zero=>simp
 |succ k ih=>rw[replicate_succ,flatten_cons,length_append,ih,Nat.succ_mul,Nat.add_comm]
end
section
variable{prog:Program}{w:World}{A:Around}{E:Value->Shared->Prop}{s:Shared}
end
section
variable{X:Cx}
end
end L2
namespace Att
open PySem PySem.W PySem.Calls PyProof.Rows
theorem YS{P:Params}{h:Heap}:∀(ns:List Int) (vs:List Value),WellAll P h vs (ns.map WData.int)->IntsAre vs ns:=by
 intro ns
 induction ns with
 |nil =>
  intro vs w;rw[List.map_nil]at w;cases w;exact .nil
 |cons n ns ih =>
  intro vs w;rw[map_cons]at w;cases w with
  |cons a b =>
   cases a;exact .cons _ _ (ih _ b)
theorem uw{l:OpenLaw}{n:Nat}(hn:l.most=some n){P:Params}{h:Heap}{args:List WData}{vals:List Value}
  (hpre:l.row.toRowW.claim.pre args=true) (hwl:WellAll P h vals args) :
  ∃a vs ns,vals=[Value.ref a]/\args=[WData.list (ns.map WData.int)]/\h.get? a=some {cls:=.type "list",data:=.seq vs.toArray}/\IntsAre vs ns/\ns.length<=n:=by
 have hsh:WShape.hasAll [] args [.list .int]=true:=(pre_splitW hpre).1;have hc:l.pre.holds [] {args:=args}=true:=(pre_splitW hpre).2;obtain⟨d,r,rfl,h1,h2⟩:=hasAllW_cons hsh;obtain rfl:=hasAllW_nil h2;obtain⟨xs,rfl,h3⟩:=hasW_list h1;obtain⟨ns,rfl⟩:=items_int h3;have hlen:ns.length<=n:=by
  unfold OpenLaw.pre at hc;have h4:(WTm.not (.lt (.lit (.int (n:Int))) (.len (.arg 0)))).holds [] {args:=[.list (ns.map .int)]}=true:=by
   have h4:=(holds_andW hc).1;rw[hn]at h4;exact h4
  have h5:=condW_of h4 (w_not (w_lt w_lit (w_len_list (w_arg rfl))));rw[length_map]at h5;refine Nat.le_of_not_lt λq=>?_
  have q':(n:Int)<((ns.length:Nat):Int):=by omega
  first
   | (rw[decide_eq_true q']at h5;exact absurd h5 (by decide))
   | (simp at h5;omega)
 cases hwl with
 |cons w1 w2 =>
  cases w2;cases w1 with
  |list ho hall=>exact⟨_,_,ns,rfl,rfl,ho,YS ns _ hall,hlen⟩
theorem ux(l:OpenLaw)(args:List WData):l.row.toRowW.claim.post args (.bool true) args=true :=
 postW_of (r:=l.row.toRowW) (X:=(true==true))
  (show WShape.has [] (.bool true) .bool=true by first|rfl|decide|simp[WShape.has,WShape.arms,WShape.armsAll])
  (show(WTm.eq .res (.lit (.bool true))).value [] {args:=args,res:=some (.bool true),after:=args}=some (.bool (true==true))from w_eq_bool (w_res rfl) w_lit) rfl
theorem attach_call{l:OpenLaw}{n:Nat}{q:Program}{loose:List Str}{XP:(Str->Option Value)->Heap->Prop}{YP:World->Heap->Prop}{d:DefRec}
  (hn:l.most=some n) (hdf:d.params.defaults=[])
  (call:∀(w:World) (s₀ s₁:Shared) (mg mb:Str->Option Value) (fa:Addr) (o:Obj) (pm cd doc:Value) (a:Addr) (vs:List Value) (ns:List Int),
   Ground q loose [] XP w s₀ mg mb s₁.heap->YP w s₁.heap ->
   s₁.heap.get? fa=some o->o.data=.func (docDef d.name d.params d.body d.scope pm cd doc)->s₁.heap.CodeRec cd d.name->mg d.name=some (.ref fa) ->
   s₁.heap.get? a=some {cls:=.type "list",data:=.seq vs.toArray}->IntsAre vs ns->ns.length<=n->s₁.gens=#[] ->
   codeAny (model l.prog w) callerA (.call (.ref fa) ⟨[.ref a],[]⟩) (λr s'=>r=.ok (.ret (.bool true))/\OldK s₁.heap s'.heap/\s'.os=s₁.os/\AllBare s'.gens) s₁) :
  WalkO q loose XP YP l.row.toRowW d [] (λf vs=>PySem.call f vs):=by
 intro w s₀ s₁ mg mb G Y fa o pm cd doc dV kV ho hd hcd hD hmg hg args vals as hpre hlay hrd hwl hlo;obtain rfl:dV=.none:=Dflts.none hD hdf;obtain rfl:kV=.none:=Dflts.noKw hD;obtain⟨a,vs,ns,rfl,rfl,hobj,hints,hlen⟩:=uw hn hpre hwl;refine enter_call (codeAny_mono (call w s₀ s₁ mg mb fa o pm cd doc a vs ns G Y ho (fd_plain hd) hcd hmg hobj hints hlen hg) λr s' hq=>?_);obtain⟨rfl,h2,h3,h4⟩:=hq;exact⟨.inl ⟨.bool true,.bool true,[],rfl,λ_=>rfl,.bool true,ux l _,λ_=>⟨List.Pairwise.nil,λ_ hm=>(nomatch hm)⟩⟩,h2,h3,h4⟩
section
variable{prog:Program}{w:World}{A:Around}{E:Value->Shared->Prop}{s:Shared}{K:Frag}
end
end Att
namespace L2
open PySem PySem.Spec PyProof.Rows
theorem Zy:∀{vs:List Value} {ns:List Int},IntsAre vs ns->zd (ns.map V.int) vs
 |_,_,.nil=>.nil
 |_,_,.cons n t h=>.cons ⟨t,rfl⟩ (Zy h)
def Only(H:Hp):Prop:=∀b,H b=none\/∃o xs,H b=some (.frz o (.lst xs))
theorem Qg{P:Program}{w:World}{K:PySem.W.Frag}{mg mb:Str->Option Value}{CX:CXT}{k:Nat}{fa a:Addr}{fd:FuncData}{x:Str}{sp:Sp}{s₁:Shared}{vs:List Value}{ns:List Int}
  (KX:K.In s₁.heap) (hns:s₁.heap.Ns mainGlobals mg) (hb:s₁.heap.Ns builtinsNs mb) (hbb:∀x:Str,x≠"__name__"->mb x=bootBuiltins x) (hlim:s₁.heap.NoLimit) (hg:s₁.gens=#[])
  (ha:s₁.heap.get? a=some {cls:=.type "list",data:=.seq vs.toArray}) (hi:IntsAre vs ns) (hl:ns.length<=sizeLine) (hr:Room k callerA)
  (F:∀base:Heap,K.In base->base.Ns mainGlobals mg->FnOk P w K mg base CX k fa fd [x] sp) (hbind:∀(s:Shared) (u:Value),BindsTo s fd ⟨[u],[]⟩ [(x,u)])
  (hsp:∀H:Hp,Only H->SqL K H a (ns.map V.int)->sp [.ref a] H (λv _=>v=.bl true) λ_ _ _=>False)
  (hCX:∀H e s',CX [] H s₁ (λ_ _ _=>False) e s'->False) :
  codeAny (model P w) callerA (.call (.ref fa) ⟨[.ref a],[]⟩) (λr s'=>r=.ok (.ret (.bool true))/\OldK s₁.heap s'.heap/\s'.os=s₁.os/\AllBare s'.gens) s₁:=by
 have rv:=Zy hi;have lenV:=hi.length
 -- from an abstract heap in which nothing but the script may be tracked
 have core:∀H:Hp,Only H->SqL K H a (ns.map V.int)->HOk P w H s₁.heap->(∀b,H b≠none->b=a)->(H a≠none->K.lookup a=none) ->
   codeAny (model P w) callerA (.call (.ref fa) ⟨[.ref a],[]⟩) (λr s'=>r=.ok (.ret (.bool true))/\OldK s₁.heap s'.heap/\s'.os=s₁.os/\AllBare s'.gens) s₁:=by
  intro H hO hS hok hA hK;have base_of:∀{b:Addr} {o:Obj},s₁.heap.get? b=some o->H b=none->(QR s₁.heap H).get? b=some o:=λe n=>QS e n
  have noA:∀{b:Addr} {o:Obj} {es:Array DictEntry} {ep:Nat},s₁.heap.get? b=some o->o.data=.dict es ep->H b=none:=λ{b o es ep} e d=>by
   cases q:H b with
   |none=>rfl
   |some u =>
    have e':b=a:=hA b (by rw[q];simp);subst e';rw[ha]at e;cases e;have d':Data.seq vs.toArray _=Data.dict es ep:=d;cases d'
  have nsK:∀{b:Addr} {m:Str->Option Value},s₁.heap.Ns b m->(QR s₁.heap H).Ns b m:=λ{b m} ⟨o,es,ep,e,d,r⟩=>⟨o,es,ep,base_of e (noA e d),d,r⟩
  have hKb:K.In (QR s₁.heap H):=λb o e=>base_of (KX b o e) (by
   cases q:H b with
   |none=>rfl
   |some u =>
    have e':b=a:=hA b (by rw[q];simp);subst e';rw[hK (by rw[q];simp)]at e;cases e)
  have hM:Mod K mg (QR s₁.heap H):=⟨hKb,nsK hns,⟨mb,nsK hb,hbb⟩,let ⟨mc,h1,h2⟩:=hlim;⟨mc,nsK h1,h2⟩⟩;have e0:Env0 P w K mg (QR s₁.heap H) callerA [] s₁ H:=⟨rfl,hM,λb o e=>of_hidT e,Nat.le_of_eq (uX _ _),trivial,λb hb=>absurd (show b∈([]:List Addr)from hb) (by simp),hok,.of_eq hg⟩;refine codeAny_mono ((F _ hKb (nsK hns)).run callerA [] s₁ H ⟨[.ref a],[]⟩ [.ref a] [.ref a] _ _ hr e0 (hbind s₁ (.ref a)) (.cons rfl .nil) (hsp H hO hS)) λr s' h=>?_
  cases r with
  |error e=>exact(hCX H e s' h).elim
  |ok fl =>
   cases fl with
   |next=>exact False.elim h
   |brk=>exact False.elim h
   |cont=>exact False.elim h
   |ret u =>
    obtain⟨v,H',os,bare,un,hok',r',q⟩:=h;have q':v=.bl true:=q;subst q';obtain rfl:u=Value.bool true:=r';refine⟨rfl,OldK.of_keep λb o e=>?_,os,bare⟩;cases q:H b with
    |none=>exact un.keep b o e q (by intro z;exact absurd (show b∈([]:List Addr)from z) (by simp)) (by simp)
    |some u =>
     rcases hO b with z|⟨ob,xs,z⟩
     ·rw[q]at z;cases z
     ·have z2:=un.frzs b ob _ z
      obtain⟨e1,_⟩:=hok b _ z;obtain⟨e2,_⟩:=hok' b _ z2;rw[e]at e1;cases e1;exact e2
 cases hk:K.lookup a with
 |some o =>
  -- the script is one of the module's own objects
  have e:=KX a o hk;rw[ha]at e;cases e;refine core (λ_=>none) (λ_=>.inl rfl) (.inr ⟨_,vs.toArray,_,hk,rfl,rfl,rfl,by rw[size_toArray,lenV];exact hl,by simpa using rv⟩) (λb u z=>by have z':(none:Option HO)=some u:=z;cases z') (λb z=>absurd rfl z) λz=>absurd rfl z
 |none =>
  refine core (λb=>if b=a then some (.frz {cls:=.type "list",data:=.seq vs.toArray} (.lst (ns.map V.int)))else none) (λb=>?_) (.inl (.inr ⟨{cls:=.type "list",data:=.seq vs.toArray},if_pos rfl⟩)) (λb u z=>?_) (λb z=>?_) λ_=>hk
  ·by_cases hb:b=a
   ·exact .inr ⟨_,_,if_pos hb⟩
   ·exact .inl (if_neg hb)
  ·by_cases hb:b=a
   ·have z':=(if_pos hb).symm.trans z
    cases z';subst hb;exact⟨ha,by rw[length_map];exact hl,vs,_,rv,ha⟩
   ·have z':=(if_neg hb).symm.trans z
    cases z'
  ·by_cases hb:b=a
   ·exact hb
   ·exact absurd (if_neg hb) z
end L2
namespace L2
open PySem PySem.Spec PyProof.Rows
end L2
namespace L2
open PySem PySem.Spec PyProof.Rows
abbrev CX0:CXT:=λ_ _ _ _ _ _=>False
abbrev E0:XK:=λ_ _ _=>False
structure Fun(K:PySem.W.Frag)(x qual:Str)(st:Stmt)(f:Addr)(fd:FuncData):Prop where
 ex:∃(oc:Value) (od:Option Addr) (kV doc pm:Value) (an:Option Addr) (cdv ct:Value) (osl:Array (Option Value)),
  fd=fnOf x qual (wO st) (yP st) (zX st) .none kV doc pm an cdv ct/\K.lookup f=some ⟨oc,od,.func fd,osl⟩/\codeIn K cdv qual=true
 kp:keepIn K (.ref f)=true
section
variable{P:Program}{w:World}{K:PySem.W.Frag}{mg:Str->Option Value}{base:Heap}
theorem Fun.ok{x qual:Str}{st:Stmt}{f:Addr}{fd:FuncData}{N ps:List Str}{k:Nat}{sp:Sp}(F:Fun K x qual st f fd)(S:FnScope N ps (zX st))(len:∀vs H Q E,sp vs H Q E->vs.length=ps.length)
  (hbody:∀(cdv:Value) (A:Around) (outer:List Env) (s:Shared) (H:Hp) (vs:List V) (Q:VK) (E:XK),Room k (A.deeper (envOfC qual (zX st) s.heap.objs.size f cdv))->sp vs H Q E ->
   ∃t,PSs (Qa CX0 P w K mg base N qual (zX st) f cdv A outer s H E).nox (yP st) t/\t {nx:=λ_ H'=>Q .non H',rt:=Q} (jB N vs) H):FnOk P w K mg base CX0 (k+1) f fd ps sp:=by
 obtain⟨oc,od,kV,doc,pm,an,cdv,ct,osl,rfl,lk,hcd⟩:=F.ex;refine fn_of lk hcd S len λA outer s H vs Q E hr hsp=>?_
 obtain⟨t,h,q⟩:=hbody cdv A outer s H vs Q E hr hsp;exact⟨t,h.nox,q⟩
theorem Fun.binds{x qual:Str}{st:Stmt}{f:Addr}{fd:FuncData}{ps:List Str}(F:Fun K x qual st f fd)
  (h:∀(kV doc pm:Value) (an:Option Addr) (cdv ct:Value) (us:List Value),us.length=ps.length->bindArgs (fnOf x qual (wO st) (yP st) (zX st) .none kV doc pm an cdv ct) ⟨us,[]⟩=pure (ps.zip us)):wP K fd ps []:=by
 obtain⟨oc,od,kV,doc,pm,an,cdv,ct,osl,rfl,lk,hcd⟩:=F.ex;exact .all (h kV doc pm an cdv ct)
theorem zAp{x qual:Str}{st:Stmt}{f:Addr}{oc:Value}{od an:Option Addr}{osl:Array (Option Value)}{kV doc pm cdv ct:Value}(l:K.lookup f=some ⟨oc,od,.func (fnOf x qual (wO st) (yP st) (zX st) .none kV doc pm an cdv ct),osl⟩)
  (c:codeIn K cdv qual=true) (k:keepIn K (.ref f)=true):Fun K x qual st f (fnOf x qual (wO st) (yP st) (zX st) .none kV doc pm an cdv ct):=⟨⟨oc,od,kV,doc,pm,an,cdv,ct,osl,rfl,l,c⟩,k⟩
end
section
variable{X:Cx}
end
theorem iteF{A B:Prop}(h:B):if false=true then A else B:=by
 rw[if_neg Bool.false_ne_true];exact h
theorem iteT{A B:Prop}(h:A):if true=true then A else B:=by
 rw[if_pos rfl];exact h
def JO(H H':Hp):Prop:=∀b o,H b=some o->H' b=some o
theorem JO.refl(H:Hp):JO H H:=λ_ _ h=>h
theorem JO.trans{H H1 H2:Hp}(a:JO H H1)(b:JO H1 H2):JO H H2:=λc o h=>b c o (a c o h)
theorem JO.free{H H':Hp}(e:JO H H'){l:Addr}(h:H' l=Option.none):H l=Option.none:=by
 cases q:H l with
 |none=>rfl
 |some o =>
  rw[e l o q]at h;cases h
theorem JO.seq{K:PySem.W.Frag}{H H':Hp}{a:Addr}{xs:List V}(e:JO H H')(h:SqL K H a xs):SqL K H' a xs:=by
 rcases h with(h|⟨o,h⟩)|h
 ·exact .inl (.inl (e _ _ h))
 ·exact .inl (.inr ⟨o,e _ _ h⟩)
 ·exact .inr h
end L2
namespace DV
open PySem L2 PyProof.Rows
def ExO(C a:Addr):HO:=.ext λh=>∃o,h.get? a=some o/\o.cls=.ref C
theorem uy{P:Program}{w:World}{H:Hp}{h:Heap}{C a:Addr}{o:Obj}(e:h.get? a=some o)(c:o.cls=.ref C):ji P w H h a (ExO C a) :=
 ⟨⟨o,e,c⟩,⟨o,e⟩,λh1 h2 ⟨o1,e1,c1⟩ k=>⟨o1,k o1 e1,c1⟩⟩
theorem vC{P:Program}{w:World}{H:Hp}{h:Heap}{a:Addr}{o:HO}(x:ji P w H h a o):∃u,h.get? a=some u:=by
 cases o with
 |lst xs=>obtain⟨_,_,_,_,e⟩:=x;exact⟨_,e⟩
 |tup xs=>obtain⟨_,_,_,o,e,_⟩:=x;exact⟨_,e⟩
 |dK kvs=>obtain⟨_,_,_,_,o,_,_,e,_⟩:=x;exact⟨_,e⟩
 |dT kvs=>obtain⟨_,_,_,_,o,_,_,e,_⟩:=x;exact⟨_,e⟩
 |set S n=>obtain⟨o,_,_,_,e,_⟩:=x;exact⟨_,e⟩
 |ins C dx fs=>obtain⟨_,_,_,e,_⟩:=x;exact⟨_,e⟩
 |own y=>exact x
 |xd fs=>obtain⟨_,⟨_,_,_,e,_⟩,_⟩:=x;exact⟨_,e⟩
 |rng lo hi=>obtain⟨_,_,_,e⟩:=x;exact⟨_,e⟩
 |frz ob u=>obtain⟨e,_⟩:=x;exact⟨_,e⟩
 |tbl ps=>exact⟨_,(show h.get? a=some _ from x)⟩
 |met f y=>exact⟨_,(show h.get? a=some _ from x)⟩
 |ext φ=>obtain⟨_,e,_⟩:=x;exact e
def QJ(B:Heap)(H:Hp)(g:Heap)(fs:List Addr)(h:Heap):Prop:=∀b o,h.get? b=some o->((∃o',g.get? b=some o')\/H b≠none)->b∉fs->B.get? b=some o
def Flies(l:List Env)(H:Hp)(g:Heap)(a C:Addr)(h:Heap):Prop:=∃B t,Heap.FlyingW B l a (.ref C) (.ref t) h/\QJ B H g (frs l) h
def CXx(P:Program)(w:World):CXT:=λouter H s E e s'=>∃a C H',e=.ref a/\s'.os=s.os/\AllBare s'.gens/\Un (frs outer) [] H H' s.heap s'.heap/\HOk P w H' s'.heap/\H' a=none/\Flies outer H' s.heap a C s'.heap/\E (.ref C) none H'
section
variable{P:Program}{w:World}{fs:List Addr}{H H':Hp}{g h h' B:Heap}{L:Addr}
theorem un_on(u:Un fs [] H H' g h)(ok:HOk P w H' h)(kb:QJ B H' g (L::fs) h)(st:B.StaysIn h')(hL:g.get? L=none)(hf:∀b∈fs,∀o,h.get? b=some o->∃sl,h'.get? b=some {o with slots:=sl}):Un fs [] H H' g h' where
 keep:=λb o e n hb hx=>st b o (kb b o (u.keep b o e n hb hx) (.inl ⟨o,e⟩) λz=>by
  rcases mem_cons.mp z with rfl|z
  ·rw[hL]at e;cases e
  ·exact hb z)
 slot:=λb o e n hb hx=>by
  obtain⟨sl,q⟩:=u.slot b o e n hb hx;obtain⟨sl',q'⟩:=hf b hb _ q;exact⟨sl',q'⟩
 free:=u.free
 there:=λb o e hx=>by
  obtain⟨o',q⟩:=u.there b o e hx;by_cases hb:b∈fs
  ·obtain⟨sl,q'⟩:=hf b hb _ q;exact⟨_,q'⟩
  ·exact⟨o',st b o' (kb b o' q (.inl ⟨o,e⟩) λz=>by
    rcases mem_cons.mp z with rfl|z
    ·rw[hL]at e;cases e
    ·exact hb z)⟩
 tups:=u.tups
 frzs:=u.frzs
 tbls:=u.tbls
theorem uz(ok:HOk P w H' h)(kb:QJ B H' g (L::fs) h)(st:B.StaysIn h')(hn:∀b∈L::fs,H' b=none):HOk P w H' h':=λa o e=>by
 refine(ok a o e).stay (λb u hb q=>?_) (λ_ q=>q) λ_ _ q=>q
 have ht:H' b≠none:=by
  rcases hb with rfl|hb
  ·rw[e];exact λz=>by cases z
  ·rw[hb];exact λz=>by cases z
 exact st b u (kb b u q (.inr ht) λz=>ht (hn b z))
theorem u0(u:Un fs [] H H' g h)(ok:HOk P w H' h)(kb:QJ B H' g (L::fs) h)(st:B.StaysIn h')(hL:g.get? L=none)(hn:∀b∈L::fs,H' b=none):QJ B H' g fs h':=λb o e hb nf=>by
 have nL:b∉L::fs:=λz=>by
  rcases mem_cons.mp z with rfl|z
  ·rcases hb with⟨o',q⟩|q
   ·rw[hL]at q;cases q
   ·exact q (hn _ (mem_cons_self))
  ·exact nf z
 have:∃o1,h.get? b=some o1:=by
  rcases hb with⟨o',q⟩|q
  ·exact u.there b o' q (by simp)
  ·obtain⟨x,hx⟩:=Option.ne_none_iff_exists'.mp q
   exact vC (ok b x hx)
 obtain⟨o1,q1⟩:=this;have q2:=kb b o1 q1 hb nL;have q3:=st b o1 q2;rw[e]at q3;cases q3;exact q2
end
section
variable{P:Program}{w:World}{K:PySem.W.Frag}{mg:Str->Option Value}{base:Heap}{N:List Str}{qual:Str}{scope:Scope}{f:Addr}{cd:Value}{A:Around}{outer:List Env}{s:Shared}{H:Hp}{E:XK}
abbrev cxC(c:Bool)(P:Program)(w:World)(K:PySem.W.Frag)(mg:Str->Option Value)(base:Heap)(N:List Str)(qual:Str)(scope:Scope)(f:Addr)(cd:Value)(A:Around)(outer:List Env)(s:Shared)(H:Hp)(E:XK):Cx :=
 {Qa (CXx P w) P w K mg base N qual scope f cd A outer s H E with calm:=c}
variable{c:Bool}
abbrev cxX(P:Program)(w:World)(K:PySem.W.Frag)(mg:Str->Option Value)(base:Heap)(N:List Str)(qual:Str)(scope:Scope)(f:Addr)(cd:Value)(A:Around)(outer:List Env)(s:Shared)(H:Hp)(E:XK):Cx :=
 Qa (CXx P w) P w K mg base N qual scope f cd A outer s H E
variable{pins:List (Addr×Obj)}{σ:L2.St}{H':Hp}{s' s1:Shared}{a C:Addr}
theorem Wh:frs (envOfC qual scope s.heap.objs.size f cd::outer)=s.heap.objs.size::frs outer:=rfl
theorem uA(I:Inv (cxC c P w K mg base N qual scope f cd A outer s H E) pins σ H' s')(u:Un (frs outer) [] H H' s.heap s'.heap)(hn:H' a=none)
  (hf:∃B t,Heap.FlyingW B (cxC c P w K mg base N qual scope f cd A outer s H E).stack a (.ref C) (.ref t) s'.heap/\QJ B H' s.heap (frs (cxC c P w K mg base N qual scope f cd A outer s H E).stack) s'.heap) (hE:E (.ref C) none H') :
  (cxC c P w K mg base N qual scope f cd A outer s H E).xe (.ref a) s':=by
 obtain⟨B,t,fl,kb⟩:=hf;have hL:s.heap.get? s.heap.objs.size=none:=Heap.get?_none_of_le (le_refl _);have hN:∀b∈s.heap.objs.size::frs outer,H' b=none:=λb hb=>I.stkFree b (by show b∈frs (envOfC qual scope s.heap.objs.size f cd::outer);rw[Wh];exact hb)
 have kb':QJ B H' s.heap (s.heap.objs.size::frs outer) s'.heap:=kb;refine wpAny_leaves_onW (base:=B) I.ok.frames rfl fl λh' fl' sl=>?_
 have st:B.StaysIn h':=fl'.1;have hfs:∀b∈frs outer,∀o,s'.heap.get? b=some o->∃sl,h'.get? b=some {o with slots:=sl}:=λb hb o e=>by
  obtain⟨_,o',q,nd⟩:=I.funs.mem hb;rw[e]at q;cases q;exact sl b o e nd
 exact⟨a,C,H',rfl,I.os,I.bare,un_on u I.hok kb' st hL hfs,uz I.hok kb' st hN,hn,⟨B,t,fl',u0 u I.hok kb' st hL hN⟩,hE⟩
theorem Wi(I:Inv (cxC c P w K mg base N qual scope f cd A outer s H E) pins σ H' s1)(hx:Heap.MadeExcOf s1.heap s'.heap a (.ref C) [])(hs:s'={s1 with heap:=s'.heap})(hn:H' a=none)(hE:E (.ref C) none H') :
  (cxC c P w K mg base N qual scope f cd A outer s H E).xe (.ref a) s':=by
 have u:Un (frs outer) [] H H' s.heap s1.heap:=I.base;have hL:s.heap.get? s.heap.objs.size=none:=Heap.get?_none_of_le (le_refl _);have hN:∀b∈s.heap.objs.size::frs outer,H' b=none:=λb hb=>I.stkFree b (by show b∈frs (envOfC qual scope s.heap.objs.size f cd::outer);rw[Wh];exact hb)
 have kb:QJ (hideAll s1.heap (s.heap.objs.size::frs outer)) H' s.heap (s.heap.objs.size::frs outer) s1.heap:=λb o e _ nf=>hideAll_get _ e nf
 have hin:∀env∈(envOfC qual scope s.heap.objs.size f cd::outer),∀b,env.frame=some b->b∈s.heap.objs.size::frs outer:=λenv he b hb=>by
  rw[<- Wh (qual:=qual) (scope:=scope) (f:=f) (cd:=cd)];exact mem_filterMap.mpr ⟨env,he,hb⟩
 have hstk:s1.heap.FunFrames base (envOfC qual scope s.heap.objs.size f cd::outer):=I.stack;refine wpAny_leaves_madeW (base:=hideAll s1.heap (s.heap.objs.size::frs outer)) (h:=s1.heap) I.ok.frames rfl (λb o q=>of_hideAll _ q) (PySem.W.funFrames_hide hstk hin) hx λh' t x1 x2 x3 x4=>?_
 have st:=x1.1;have hfs:∀b∈frs outer,∀o,s1.heap.get? b=some o->∃sl,h'.get? b=some {o with slots:=sl}:=λb hb o e=>by
  obtain⟨_,o',q,nd⟩:=I.funs.mem hb;rw[e]at q;cases q;exact x4 b o (hx.keeps b o e) nd
 have os:s'.os=s1.os:=by rw[hs]
 have ge:s'.gens=s1.gens:=by rw[hs]
 refine⟨a,C,H',rfl,os.trans I.os,?_,un_on u I.hok kb st hL hfs,uz I.hok kb st hN,hn,⟨_,t,x1,u0 u I.hok kb st hL hN⟩,hE⟩;show AllBare s'.gens;rw[ge];exact I.bare
end
end DV
namespace DV
open PySem L2 PyProof.Rows
structure RoomN(k:Nat)(A:Around):Prop where
 gd:A.guards=some []
 dp:A.depth+3*k+5<recursionLimit
 un:A.units+16*k+200<cLine
theorem RoomN.mono{j k:Nat}{A:Around}(r:RoomN k A)(h:j<=k):RoomN j A:=⟨r.gd,by have:=r.dp;omega,by have:=r.un;omega⟩
theorem RoomN.deeper{k:Nat}{A:Around}(r:RoomN (k+1) A)(env:Env):RoomN k (A.deeper env) :=
 ⟨r.gd,by have:=r.dp;show A.depth+1+3*k+5<_;omega,by have:=r.un;show A.units+3+16*k+200<_;omega⟩
theorem RoomN.depth{k:Nat}{A:Around}(r:RoomN k A):A.depth<recursionLimit:=by have:=r.dp;omega
theorem RoomN.room{k:Nat}{A:Around}(r:RoomN k A)(h:A.handled=none):Room k A:=⟨h,r.gd,r.dp,r.un⟩
theorem Qh{k:Nat}{A:Around}(r:Room k A):RoomN k A:=⟨r.gd,r.dp,r.un⟩
section
variable{X:Cx}{pins:List (Addr×Obj)}{σ:L2.St}{H:Hp}{s:Shared}
theorem JP(I:Inv X pins σ H s)(A':Around)(c:Bool)(E:Value->Shared->Prop)(hd:c=true->A'.handled=none)(fr:A'.frames=some X.stack):Inv {X with A:=A',calm:=c,xe:=E} pins σ H s :=
 ⟨⟨I.ok.mod,I.ok.kind,I.ok.glob,I.ok.blt,I.ok.above,I.ok.inj,I.ok.has,I.ok.cab,hd,fr,I.ok.stk,I.ok.exf,I.ok.bs,I.ok.bsz,I.ok.noex,I.ok.exfs,I.ok.funs,I.ok.frf⟩,I.os,I.bare,I.base,I.loc,I.cell,I.free,I.freeC,I.pin,I.hok,I.len⟩
end
abbrev cxN(c:Bool)(P:Program)(w:World)(K:PySem.W.Frag)(mg:Str->Option Value)(base:Heap)(N:List Str)(qual:Str)(scope:Scope)(f:Addr)(cd:Value)(A:Around)(outer:List Env)(s:Shared)(H:Hp)(E:XK):Cx :=
 cxC c P w K mg base N qual scope f cd A outer s H E
structure FnOkN(c:Bool)(P:Program)(w:World)(K:PySem.W.Frag)(mg:Str->Option Value)(base:Heap)(k:Nat)(f:Addr)(fd:FuncData)(ps:List Str)(sp:Sp):Prop where
 len:∀vs H Q E,sp vs H Q E->vs.length=ps.length
 run:∀(A:Around) (outer:List Env) (s:Shared) (H:Hp) (args:Args) (us:List Value) (vs:List V) (Q:VK) (E:XK),(c=true->A.handled=none)->RoomN k A->Env0 P w K mg base A outer s H->BindsTo s fd args (ps.zip us)->zd vs us->sp vs H Q E ->
  codeAny (model P w) A (.call (.ref f) args) (CR (CXx P w) outer P w H s Q E) s
section
variable{c:Bool}{P:Program}{w:World}{K:PySem.W.Frag}{mg:Str->Option Value}{base:Heap}
theorem FnOkN.mono{j k:Nat}{f:Addr}{fd:FuncData}{ps:List Str}{sp:Sp}(F:FnOkN c P w K mg base j f fd ps sp)(h:j<=k):FnOkN c P w K mg base k f fd ps sp :=
 ⟨F.len,λA outer s H args us vs Q E hd hr=>F.run A outer s H args us vs Q E hd (hr.mono h)⟩
theorem FnOkN.fn{k:Nat}{f:Addr}{fd:FuncData}{ps:List Str}{sp:Sp}(F:FnOkN c P w K mg base k f fd ps sp):FnOk P w K mg base (CXx P w) k f fd ps sp :=
 ⟨F.len,λA outer s H args us vs Q E hr=>F.run A outer s H args us vs Q E (λ_=>hr.hd) (Qh hr)⟩
theorem fn_ofN{k:Nat}{f:Addr}{name qual:Str}{params:Arguments}{body:List Stmt}{scope:Scope}{dV kV doc pm cdv ct oc:Value}{an od:Option Addr}
  {osl:Array (Option Value)} {N ps:List Str} {sp:Sp} (lk:K.lookup f=some ⟨oc,od,.func (fnOf name qual params body scope dV kV doc pm an cdv ct),osl⟩) (hcd:codeIn K cdv qual=true) (S:FnScope N ps scope)
  (len:∀vs H Q E,sp vs H Q E->vs.length=ps.length)
  (hbody:∀(A:Around) (outer:List Env) (s:Shared) (H:Hp) (vs:List V) (Q:VK) (E:XK),(c=true->A.handled=none)->RoomN k (A.deeper (envOfC qual scope s.heap.objs.size f cdv))->sp vs H Q E ->
   ∃t,PSs (cxN c P w K mg base N qual scope f cdv A outer s H E) body t/\t {nx:=λ_ H'=>Q .non H',rt:=Q} (jB N vs) H) :
  FnOkN c P w K mg base (k+1) f (fnOf name qual params body scope dV kV doc pm an cdv ct) ps sp:=by
 refine⟨len,λA outer s H args us vs Q E hd hr e0 hb r hsp=>?_⟩;have hl:=len _ _ _ _ hsp;have KX:K.In s.heap:=e0.mod.kin.keeps λb o e=>(e0.bs b o e).1
 have lim:s.heap.NoLimit:=e0.mod.nolimit.keeps λb o e=>(e0.bs b o e).1
 have hkind:∀y∈ps.zip us,scope.names.lookup y.1=some .local\/(scope.names.lookup y.1=some .cell/\((cellsFrom (s.heap.objs.size+1) scope.names []).lookup y.1).isSome=true):=λ⟨n,v⟩ hy=>by
  rcases S.par n (of_mem_zip hy).1 with q|q
  ·exact .inl q
  ·exact .inr ⟨q,cellsFrom_some _ _ _ (.inl q)⟩
 refine codeAny_call_function hr.depth (KX _ _ lk) rfl S.co S.gen rfl (codeRec_of KX hcd) (hb _ _ _ _ ?_);refine wpAny_newFunctionEnv_cells S.kind hkind λenv he s1 x=>?_
 subst he;refine⟨lim.keeps x.toInCall.keep,codeAny_func ?_⟩;obtain⟨t,ht,hq⟩:=hbody A outer s H vs Q E hd (hr.deeper _) hsp;have e1:Env0 P w K mg base {A with handled:=none} outer s H:=⟨e0.frames,e0.mod,e0.bs,e0.bsz,e0.funs,e0.frf,e0.hok,e0.bare⟩
 have I0:Inv (Qa (CXx P w) P w K mg base N qual scope f cdv {A with handled:=none} outer s H E) [] (jB N vs) H s1:=Zs S rfl e1 hl r x
 have I:Inv (cxN c P w K mg base N qual scope f cdv A outer s H E) [] (jB N vs) H s1:=JP I0 (A.deeper (envOfC qual scope s.heap.objs.size f cdv)) c _ hd (Around.frames_deeper e0.frames);refine wpAny_mono (ht [] s1 (jB N vs) H _ I hq) (λfl s' hs=>?_) λe s' hs=>hs
 have fin:∀{σ':L2.St} {H':Hp} {v:V} {u:Value},Inv (cxN c P w K mg base N qual scope f cdv A outer s H E) [] σ' H' s'->zv v u->Q v H'->CE outer P w H s Q u s' :=
  λ{σ' H' v u} J rv q=>⟨v,H',J.os,J.bare,J.base,J.hok,rv,q⟩
 cases fl with
 |ret u =>
  obtain⟨v,σ',H',J,rv,q⟩:=hs;exact fin J rv q
 |next =>
  obtain⟨σ',H',J,q⟩:=hs;exact fin (v:=V.non) (u:=Value.none) J rfl q
 |brk =>
  obtain⟨_,_,_,q⟩:=hs;exact False.elim q
 |cont =>
  obtain⟨_,_,_,q⟩:=hs;exact False.elim q
end
structure Exn where
 cls:Str
 made:Bool
 deriving Inhabited
def RelX(X:Cx)(pins:List (Addr×Obj))(σ:L2.St)(x:Exn)(H:Hp)(e:Value)(s:Shared):Prop:=∃a C,e=.ref a/\X.mg x.cls=some (.ref C)/\H a=none /\
 ((x.made=true/\∃s1,Inv X pins σ H s1/\s={s1 with heap:=s.heap}/\Heap.MadeExcOf s1.heap s.heap a (.ref C) []) \/
  (x.made=false/\∃sc Hc,Inv X pins σ Hc sc/\Un (frs X.stack) [] Hc H sc.heap s.heap/\Flies X.stack H sc.heap a C s.heap))
def XE(X:Cx)(σ:L2.St)(H:Hp)(x:Exn):Prop:=∀(pins:List (Addr×Obj)) (s:Shared) (e:Value),Inv X pins σ H s->RelX X pins σ x H e s->X.xe e s
def EX(X:Cx)(σ:L2.St):XK:=λc _ H'=>∃x C,c=.ref C/\X.mg x.cls=some (.ref C)/\x.made=false/\XE X σ H' x
section
variable{X:Cx}{pins:List (Addr×Obj)}{σ:L2.St}{H:Hp}{s s':Shared}{e:Value}
theorem pass_x(I:Inv X pins σ H s)(h:CXx X.prog X.w X.stack H s (EX X σ) e s'):X.xe e s':=by
 obtain⟨a,C,H',rfl,os,bare,un,hok,hn,fl,x,C',ec,hm,hmd,k⟩:=h;cases ec;have I':Inv X pins σ H' s':=I.call' (ch:=[]) os un hok bare (λb z=>absurd z (by simp));exact k pins s' _ I' ⟨a,C,rfl,hm,hn,.inr ⟨hmd,s,H,I,un,fl⟩⟩
theorem u8{c:Bool}{k:Nat}{f:Addr}{fd:FuncData}{ps:List Str}{sp:Sp}{Q:VK}{us:List Value}{vs:List V}(F:FnOkN c X.prog X.w X.K X.mg X.base k f fd ps sp)(hd:c=true->X.A.handled=none)(hr:RoomN k X.A)(hb:wP X.K fd ps [])
  (I:Inv X pins σ H s) (r:zd vs us) (h:sp vs H Q (EX X σ)):wpAny (model X.prog X.w) X.A (call (.ref f) us) (EP X pins σ Q) X.xe s:=by
 have hl:us.length=ps.length:=by rw[<- r.length];exact F.len _ _ _ _ h
 have hbd:=hb s us I.kIn (by rw[append_nil];exact hl);rw[append_nil]at hbd;refine wpAny_call (codeAny_mono (F.run X.A X.stack s H ⟨us,[]⟩ us vs Q (EX X σ) hd hr I.env0 hbd r h) λr s' hq=>?_);cases r with
 |error e=>exact pass_x I hq
 |ok fl =>
  cases fl with
  |ret u=>exact I.after hq
  |next=>exact False.elim hq
  |brk=>exact False.elim hq
  |cont=>exact False.elim hq
end
section
variable{X:Cx}{c:Bool}{k:Nat}{f:Addr}{fd:FuncData}{ps:List Str}{sp:Sp}{x:Str}{p pos:Pos}{e:Expr}{es:List Expr}{t:TA}
theorem Qi(F:FnOkN c X.prog X.w X.K X.mg X.base k f fd ps sp)(hdl:c=true->X.A.handled=none)(hr:RoomN k X.A)(hg:Gl X x)(hm:X.mg x=some (.ref f))(hk:keepIn X.K (.ref f)=true)(hb:wP X.K fd ps [])
  (ha:PA X (e::es) t) (hdb:(x==("__debug__":Str))=false:=by decide) (he:starEach (e::es) X.env=(false,eval e X.env)::starEach es X.env:=by rfl) (hpl:(backTo pos (starEach es X.env)).any (·.1)=false:=by rfl) :
  PE X (.Call (.Name x p) (e::es) [] pos) (λσ H Q=>t σ H λvs H1=>sp vs H1 Q (EX X σ)):=by
 intro pins s σ H Q I h;refine wpAny_Call_Name_kw (ZG I hg hm ?_ hdb);refine callWith_K (h₀:=X.base) I.ok.mod.kin hk (thn (ha pos pins s σ H _ I h) λus s1 ⟨vs,H1,I1,r,q⟩=>⟨I1.kIn,?_⟩) he hpl;exact u8 F hdl hr hb I1 r q
end
theorem Qj{c:Bool}{P:Program}{w:World}{K:PySem.W.Frag}{mg:Str->Option Value}{base:Heap}{N:List Str}{qual:Str}{scope:Scope}{f:Addr}{cd:Value}{A:Around}{outer:List Env}{s:Shared}{H H':Hp}{E:XK}{σ:L2.St}{x:Exn}
  (hE:∀C,mg x.cls=some (.ref C)->E (.ref C) none H'):XE (cxN c P w K mg base N qual scope f cd A outer s H E) σ H' x:=by
 intro pins s' e I ⟨a,C,he,hm,hn,h⟩;subst he;have sw:∀{H1:Hp} {s1:Shared},Inv (cxN c P w K mg base N qual scope f cd A outer s H E) pins σ H1 s1->Inv (cxX P w K mg base N qual scope f cd {A with handled:=none} outer s H E) pins σ H1 s1:=λJ=>JP J _ true _ (λ_=>rfl) J.ok.frames
 rcases h with⟨_,s1,I1,hs,hx⟩|⟨_,sc,Hc,Ic,un,fl⟩
 ·exact Wi I1 hx hs hn (hE C hm)
 ·obtain⟨B,t,f1,f2⟩:=fl
  refine uA I I.base hn ⟨B,t,f1,λb o q z nf=>f2 b o q ?_ nf⟩ (hE C hm);rcases z with⟨o',z⟩|z
  ·exact .inl (Ic.base.there b o' z (by show b∉([]:List Addr);simp))
  ·exact .inr z
end DV
namespace DV
open PySem L2 PyProof.Rows PySem.Spec
open PySem.W (Frag Looks)
structure XCls(K:Frag)(c:Str)(C T:Addr):Prop where
 cd:∃cd,clsIn K C=some cd/\cd.name=c/\cd.mro=[.ref C,.ref T,.type "ValueError",.type "Exception",.type "BaseException",.type "object"]
 ty:typeIn K (.ref C)=some (.type "type")
 ga:findIn K (.ref C) "__getattribute__"=some (some (.builtin "BaseException.__getattribute__"))
 gn:findIn K (.ref C) "__getattr__"=some none
 gc:findIn K (.ref C) "__class__"=some (some (.builtin "object.__class__"))
 sp:specialIn K (.builtin "object.__class__") "__get__"=some (some (.builtin "getset_descriptor.__get__"))
 tk:takesIn K (.builtin "object.__class__")=some true
section
open Builtin Builtin.ObjectAttr Builtin.Getset_descriptor
variable{K:Frag}{c:Str}{C T x:Addr}{h:Heap}{ox:Obj}{M:Model}
theorem XCls.mro(F:XCls K c C T)(b:Value):mroIn K C b=some ([Value.ref C,.ref T,.type "ValueError",.type "Exception",.type "BaseException",.type "object"].contains b):=by
 obtain⟨cd,h1,_,h3⟩:=F.cd;unfold mroIn;rw[h1,Option.bind_some,h3];rfl
theorem typ(e:h.get? x=some ox)(ec:ox.cls=.ref C):Looks M h (typeOf (.ref x)) (.ref C):=ec▸(Looks.ld e).andThen .now
theorem Qk(F:XCls K c C T)(X:K.In h):Looks M h (find (.ref x) (.ref C) "__class__") (.bind (.builtin "getset_descriptor.__get__") (.builtin "object.__class__")):=by
 have l3:Looks M h (takesStores (.builtin "object.__class__")) true:=PySem.W.looks_takesIn X F.tk;have l4:Looks M h (dataDescriptor? (some (.builtin "object.__class__")) (some (.builtin "getset_descriptor.__get__"))) (some (.builtin "getset_descriptor.__get__",.builtin "object.__class__")):=l3.andThen .now;exact(looks_findIn X F.gc).andThen ((PySem.W.looks_specialIn X F.sp).andThen (l4.andThen (Looks.tag .now)))
end
section
open Builtin Builtin.ObjectAttr Builtin.Getset_descriptor
variable{K:Frag}{c:Str}{C T x:Addr}{ox:Obj}{prog:Program}{w:World}{A:Around}{E:Value->Shared->Prop}{s:Shared}
theorem cls_get{R:Result->Shared->Prop}(F:XCls K c C T)(X:K.In s.heap)(e:s.heap.get? x=some ox)(ec:ox.cls=.ref C)(hq:R (.ok (.ret (.ref C))) s) :
  codeAny (model prog w) A (.call (.builtin "getset_descriptor.__get__") ⟨[.builtin "object.__class__",.ref x,.ref C],[]⟩) R s:=by
 obtain⟨hh,gs,dr,tt,os⟩:=s;have ty:Looks (model prog w) hh (typeOf (.ref x)) (.ref C):=typ e ec;have sb:Looks (model prog w) hh (isSubtype (.ref C) (.type "object")) true:=looks_mroIn X (by rw[F.mro];rfl);refine codeAny_call_builtin PySem.W.KF.slot_gs.plain PySem.W.KF.entry_gs (PySem.W.KF.slot_gs.check _ _ _ _ _ _ _ _ PySem.W.KF.type_class (PySem.W.KF.args_gs _ _ _) ?_);unfold Builtin.«getset_descriptor.__get__»;unfold descrGet;rw[PySem.W.dga_obj];refine wpAny_bind (wpAny_pure ?_);unfold descrGetter descrCheckInstance descrNameAndClass isInstance;simp only[PySem.W.KF.owner_class]
 repeat lk
 refine⟨Code.quiet_builtin _ (by decide +kernel),?_⟩;refine codeAny_builtin PySem.W.KF.entry_class ?_;unfold Builtin.«object.__class__»;unfold shownTypeOf
 repeat lk
 exact hq
theorem u9{tk:Tok}{Q:Fin->Shared->Prop}(F:XCls K c C T)(X:K.In s.heap)(e:s.heap.get? x=some ox)(ec:ox.cls=.ref C)(hq:Q (.done (.ret (.ref C))) s) :
  wpAny (model prog w) A (Builtin.«object.__getattribute__» ⟨[.ref x,.str "__class__" tk],[]⟩) Q E s:=by
 obtain⟨hh,gs,dr,tt,os⟩:=s;have ty:Looks (model prog w) hh (typeOf (.ref x)) (.ref C):=typ e ec;have fd:Looks (model prog w) hh (find (.ref x) (.ref C) "__class__") _:=Qk F X;have go:∀Q',Q' (.done (.ret (.ref C))) (⟨hh,gs,dr,tt,os⟩:Shared)->wpAny (model prog w) A (bindTo (.builtin "getset_descriptor.__get__") (.builtin "object.__class__") (.ref x) (.ref C)) Q' E ⟨hh,gs,dr,tt,os⟩:=λQ' q=>by
  unfold bindTo;refine wpAny_bind (wpAny_call (cls_get F X e ec ?_));exact wpAny_pure q
 refine wpAny_bind (wpAny_pure ?_);refine wpAny_bind (wpAny_pure ?_);refine wpAny_bind (ty.at ?_);refine wpAny_bind (fd.at ?_);exact go _ hq
theorem GA{nameV:Value}{M:Model}{Q:Unit->Shared->Prop}(F:XCls K c C T)(X:K.In s.heap)(e:s.heap.get? x=some ox)(ec:ox.cls=.ref C)(hq:Q () s) :
  wpAny M A (checkBuiltinCall "BaseException.__getattribute__" ⟨[.ref x,nameV],[]⟩) Q E s:=by
 obtain⟨hh,gs,dr,tt,os⟩:=s;have ty:Looks M hh (typeOf (.ref x)) (.ref C):=typ e ec;have sb:Looks M hh (isSubtype (.ref C) (.type "BaseException")) true:=looks_mroIn X (by rw[F.mro];rfl);have inst:Looks M hh (isInstance (.ref x) (.type "BaseException")) true:=ty.andThen sb;have k1:builtinKind "BaseException.__getattribute__"=some .slot:=by decide +kernel
 have k2:splitId "BaseException.__getattribute__"=some ("BaseException","__getattribute__"):=by decide +kernel
 have k3:=PySem.F.args_bexc_ga (.ref x) nameV;simp only[checkBuiltinCall,k1,k2];refine wpAny_bind (inst.at ?_)
 repeat (any_goals (first|assumption|wp_step))
theorem Ql{tk:Tok}{R:Result->Shared->Prop}(F:XCls K c C T)(X:K.In s.heap)(e:s.heap.get? x=some ox)(ec:ox.cls=.ref C)(hq:R (.ok (.ret (.ref C))) s) :
  codeAny (model prog w) A (.call (.builtin "BaseException.__getattribute__") ⟨[.ref x,.str "__class__" tk],[]⟩) R s :=
 codeAny_call_builtin PySem.F.attr_ValueError.ga.plain PySem.F.entry_bexc_ga (GA F X e ec (u9 F X e ec hq))
theorem Qm{Q:Option Value->Shared->Prop}(F:XCls K c C T)(X:K.In s.heap)(e:s.heap.get? x=some ox)(ec:ox.cls=.ref C)(hq:Q (some (.ref C)) {s with toks:=s.toks+1}) :
  wpAny (model prog w) A (getAttr? (.ref x) "__class__") Q E s:=by
 obtain⟨hh,gs,dr,tt,os⟩:=s;have ty:Looks (model prog w) hh (typeOf (.ref x)) (.ref C):=typ e ec;have l1:Looks (model prog w) hh (typeLookup (.ref C) "__getattribute__") _:=looks_findIn X F.ga;have l2:Looks (model prog w) hh (typeLookup (.ref C) "__getattr__") _:=looks_findIn X F.gn;have b1:=PySem.F.attr_ValueError.ga.bind (.ref x);unfold getAttr? getAttrBy?;refine wpAny_bind (wpAny_mkText (wpAny_bind (wpAny_attempt ?_)));unfold getAttrBy;refine wpAny_holding (wpAny_bind (ty.at (wpAny_bind (l1.at ?_))));have ne:(Value.builtin "BaseException.__getattribute__" == Value.builtin "object.__getattribute__")=false:=by decide +kernel
 dsimp only;rw[ne,Bool.and_false,if_neg (by decide)];unfold getAttrByItsOwn hookBefore;refine wpAny_bind (l2.at ?_);refine wpAny_bind (wpAny_attempt (wpAny_holding ?_));unfold callGetattribute;rw[if_neg (by decide +kernel)];unfold boundAndCalled;rw[b1];refine wpAny_bind (wpAny_pure (wpAny_call (Ql F X e ec ?_)));exact wpAny_pure (wpAny_pure hq)
end
end DV
namespace DV
open PySem L2 PyProof.Rows PySem.Spec
open PySem.W (Frag Looks)
structure TCls(K:Frag)(T:Addr):Prop where
 cd:∃cd,clsIn K T=some cd/\cd.mro=.ref T::VB
 ty:typeIn K (.ref T)=some (.type "type")
section
variable{K:Frag}{c y:Str}{C Y T x:Addr}{h:Heap}{ox:Obj}{M:Model}
theorem TCls.mro(F:TCls K T)(b:Value):mroIn K T b=some ((Value.ref T::VB).contains b):=by
 obtain⟨cd,h1,h3⟩:=F.cd;unfold mroIn;rw[h1,Option.bind_some,h3];rfl
theorem GB{cd:ClassData}(X:K.In h)(e:clsIn K C=some cd):Looks M h (isType (.ref C)) true:=by
 unfold clsIn at e;split at e
 ·rename_i ho
  intro A Q E s k q;unfold isType loadHead;exact wpAny_bind (wpAny_loadPart (k _ _ (X _ _ ho)) (wpAny_pure q))
 ·cases e
theorem not_tup{cd:ClassData}{tp:Addr}{dd:Option Addr}{its:List Value}{n:Nat}{sl:Array (Option Value)}(X:K.In h)(e:clsIn K C=some cd)(ht:h.get? tp=some ⟨.type "tuple",dd,.seq its.toArray n,sl⟩):(Value.ref C==.ref tp)=false:=by
 refine Bool.eq_false_iff.mpr λq=>?_
 obtain rfl:C=tp:=Value.ref.inj (beq_iff_eq.mp q);unfold clsIn at e;split at e
 ·rename_i ho;have z:=(X _ _ ho).symm.trans ht;cases z
 ·cases e
theorem kit_exc(F:XCls K c C T):PySem.W.KitX K (.ref x) (.ref C) (λh=>∃o,h.get? x=some o/\o.cls=.ref C) where
 ty:=λM h X ⟨o,e,ec⟩=>typ e ec
 it:=λM h X _=>let ⟨_,e,_⟩:=F.cd;GB X e
 ne:=λh tp dd its n sl X ht=>let ⟨_,e,_⟩:=F.cd;not_tup X e ht
 ca:=λX ⟨o,e,ec⟩ q=>Qm F X e ec q
theorem kit_own(F:XCls K c C T)(G:XCls K y Y T)(hY:Y≠T)(he:c=y->C=Y):kitOne K (.ref C) (.ref Y)=some (c==y):=by
 obtain⟨cd,h1,h2,h3⟩:=F.cd;obtain⟨cy,g1,g2,g3⟩:=G.cd;unfold kitOne;by_cases e:C=Y
 ·subst e
  rw[h1]at g1;cases g1;rw[if_pos (by simp),<- h2,<- g2];simp
 ·have ne:(c==y)=false:=by
   cases q:c==y with
   |false=>rfl
   |true=>exact absurd (he (by simpa using q)) e
  rw[if_neg (by simpa using e),ne];unfold kitCls;dsimp only;rw[if_pos (by rw[g1,G.ty];rfl)];show mroIn K C (.ref Y)=_;rw[F.mro];have e1:(Value.ref Y==Value.ref C)=false:=by simpa using λz:Y=C=>e z.symm
  have e2:(Value.ref Y==Value.ref T)=false:=by simpa using hY
  simp only[List.contains_cons,e1,e2];rfl
theorem kit_val(F:XCls K c C T):kitOne K (.ref C) (.type "ValueError")=some true:=by
 unfold kitOne;rw[if_neg (by simp)];unfold kitCls;dsimp only;rw[if_pos (by decide +kernel)];show mroIn K C _=_;rw[F.mro];rfl
theorem Wj{A:Around}{E:Value->Shared->Prop}{s:Shared}{Q:Bool->Shared->Prop}(F:XCls K c C T)(G:TCls K T)(X:K.In s.heap)(e:s.heap.get? x=some ox)(ec:ox.cls=.ref C)(hq:Q true s):wpAny M A (excMatches (.ref x) (.ref T)) Q E s:=by
 obtain⟨hh,gs,dr,tt,os⟩:=s;obtain⟨cd,g1,g2⟩:=G.cd;have ty:Looks M hh (typeOf (.ref x)) (.ref C):=typ e ec;have tT:Looks M hh (typeOf (.ref T)) (.type "type"):=PySem.W.looks_typeIn X G.ty;have nt:Looks M hh (isInstance (.ref T) (.type "tuple")) false:=tT.andThen (Looks.of_pure tc_notTuple);have iT:Looks M hh (isType (.ref T)) true:=GB X g1;have sT:Looks M hh (isSubtype (.ref T) (.type "BaseException")) true:=looks_mroIn X (by rw[G.mro];rfl);have sC:Looks M hh (isSubtype (.ref C) (.ref T)) true:=looks_mroIn X (by rw[F.mro];simp);unfold excMatches isExcClass;refine wpAny_bind (nt.at ?_);refine wpAny_bind (wpAny_pure ?_);refine wpAny_bind ?_;rw[forIn_cons];refine wpAny_bind (wpAny_bind (wpAny_bind (iT.at ?_)));refine sT.at ?_;refine wpAny_pure ?_;refine wpAny_pure ?_;refine wpAny_bind (ty.at ?_);refine wpAny_bind ?_;rw[forIn_cons];refine wpAny_bind (wpAny_bind (sC.at ?_));refine wpAny_pure (wpAny_pure ?_);exact wpAny_pure hq
theorem own_at{newId:String}{bmB:List Value}(X:K.In h)(q:excIn K C bmB newId=true) :
  ∃bm N nm q bs hdct sn sub ab col dd k0 k1 k2 k3 k5 mN,h.get? C=some (excClassObj nm q C N bs bm hdct sn sub ab col dd k0 k1 k2 k3 k5 newId)/\h.Ns N mN/\mN "__init__"=none/\OwnTail h bmB bm:=by
 unfold excIn at q;split at q
 ·rename_i dd cd sl ho
  split at q
  ·rename_i C' bm a0 a1 a2 a3 id a5 hm hs
   simp only[Bool.and_eq_true,beq_iff_eq,Bool.not_eq_true']at q;obtain⟨⟨⟨⟨⟨q1,q2⟩,q3⟩,q4⟩,q5⟩,q6⟩:=q;subst q1 q2;obtain⟨l⟩:=sl;have hs':l=[a0,a1,a2,a3,some (.builtin id),a5]:=hs;subst hs';obtain⟨nm,bs,mro,ns,qn,hd,sn,sub,ab,col,del⟩:=cd;cases hm;cases q3;exact⟨bm,ns,nm,qn,bs,hd,sn,sub,ab,col,dd,a0,a1,a2,a3,a5,_,X _ _ ho,.of_isNs (PySem.W.isNs_of_in X q5),PySem.W.nsMap_none_of_in X q5 q6,PySem.W.tail_of_in X q4⟩
  ·cases q
 ·cases q
end
end DV
namespace DV
open PySem L2
set_option genInjectivity true in
inductive D where
 |non
 |bl (b:Bool)
 |int (i:Int)
 |str (x:Str)
 |tup (ds:List D)
 |lst (ds:List D)
 |fn (x:Str)
 |dic
 |exn (c:Str)
 deriving Inhabited
mutual
def Rep(K:PySem.W.Frag)(mg:Str->Option Value)(H:Hp):D->V->Prop
 | .non,v=>v=.non
 | .bl b,v=>v=.bl b
 | .int i,v=>v=.int i
 | .str x,v=>v=.str x
 | .tup ds,v=>∃a xs,v=.ref a/\SqT K H a xs/\Reps K mg H ds xs
 | .lst ds,v=>∃a xs,v=.ref a/\SqL K H a xs/\Reps K mg H ds xs
 | .fn x,v=>∃f,v=.ref f/\mg x=some (.ref f)
 | .dic,v=>∃a,v=.ref a/\H a=some (.dK [])
 | .exn c,v=>∃a C,v=.ref a/\mg c=some (.ref C)/\H a=some (ExO C a)
def Reps(K:PySem.W.Frag)(mg:Str->Option Value)(H:Hp):List D->List V->Prop
 | [],vs=>vs=[]
 |d::ds,vs=>∃v r,vs=v::r/\Rep K mg H d v/\Reps K mg H ds r
end
section
variable{K:PySem.W.Frag}{mg:Str->Option Value}{H H':Hp}
theorem zr{a:Addr}{xs:List V}(e:JO H H')(h:SqT K H a xs):SqT K H' a xs:=by
 rcases h with(h|⟨o,h⟩)|h
 ·exact .inl (.inl (e _ _ h))
 ·exact .inl (.inr ⟨o,e _ _ h⟩)
 ·exact .inr h
mutual
theorem Rep.mono(e:JO H H'):∀{d:D} {v:V},Rep K mg H d v->Rep K mg H' d v
 | .non,_,h=>by simpa only[Rep]using h
 | .bl _,_,h=>by simpa only[Rep]using h
 | .int _,_,h=>by simpa only[Rep]using h
 | .str _,_,h=>by simpa only[Rep]using h
 | .tup ds,_,h=>by
  simp only[Rep]at h ⊢;obtain⟨a,xs,h1,h2,h3⟩:=h;exact⟨a,xs,h1,zr e h2,Reps.mono e h3⟩
 | .lst ds,_,h=>by
  simp only[Rep]at h ⊢;obtain⟨a,xs,h1,h2,h3⟩:=h;exact⟨a,xs,h1,e.seq h2,Reps.mono e h3⟩
 | .fn _,_,h=>by simpa only[Rep]using h
 | .dic,_,h=>by
  simp only[Rep]at h ⊢;obtain⟨a,h1,h2⟩:=h;exact⟨a,h1,e _ _ h2⟩
 | .exn _,_,h=>by
  simp only[Rep]at h ⊢;obtain⟨a,C,h1,h2,h3⟩:=h;exact⟨a,C,h1,h2,e _ _ h3⟩
theorem Reps.mono(e:JO H H'):∀{ds:List D} {vs:List V},Reps K mg H ds vs->Reps K mg H' ds vs
 | [],_,h=>by simpa only[Reps]using h
 |d::ds,_,h=>by
  simp only[Reps]at h ⊢;obtain⟨v,r,h1,h2,h3⟩:=h;exact⟨v,r,h1,Rep.mono e h2,Reps.mono e h3⟩
end
theorem Reps.length:∀{ds:List D} {vs:List V},Reps K mg H ds vs->vs.length=ds.length
 | [],_,h=>by simp only[Reps]at h;subst h;rfl
 |d::ds,_,h=>by
  simp only[Reps]at h;obtain⟨v,r,rfl,h2,h3⟩:=h;simp[Reps.length h3]
theorem Reps.nil:Reps K mg H [] []:=by simp only[Reps]
theorem Reps.cons{d:D}{v:V}{ds:List D}{vs:List V}(h:Rep K mg H d v)(t:Reps K mg H ds vs):Reps K mg H (d::ds) (v::vs):=by
 simp only[Reps];exact⟨v,vs,rfl,h,t⟩
theorem Reps.get:∀{ds:List D} {vs:List V} {i:Nat} {v:V},Reps K mg H ds vs->vs[i]?=some v->∃d,ds[i]?=some d/\Rep K mg H d v
 | [],_,_,_,h,e=>by simp only[Reps]at h;subst h;simp at e
 |d::ds,_,i,v,h,e=>by
  simp only[Reps]at h;obtain⟨v',r,rfl,h2,h3⟩:=h;cases i with
  |zero=>simp at e;subst e;exact⟨d,rfl,h2⟩
  |succ i=>simp at e;obtain⟨d',q1,q2⟩:=Reps.get h3 e;exact⟨d',by simpa using q1,q2⟩
theorem Reps.get':∀{ds:List D} {vs:List V} {i:Nat} {d:D},Reps K mg H ds vs->ds[i]?=some d->∃v,vs[i]?=some v/\Rep K mg H d v
 | [],_,_,_,h,e=>by simp at e
 |d::ds,_,i,d',h,e=>by
  simp only[Reps]at h;obtain⟨v',r,rfl,h2,h3⟩:=h;cases i with
  |zero=>simp at e;subst e;exact⟨v',rfl,h2⟩
  |succ i=>simp at e;obtain⟨v,q1,q2⟩:=Reps.get' h3 e;exact⟨v,by simpa using q1,q2⟩
theorem Reps.append:∀{ds es:List D} {vs ws:List V},Reps K mg H ds vs->Reps K mg H es ws->Reps K mg H (ds++es) (vs++ws)
 | [],_,_,_,h,g=>by simp only[Reps]at h;subst h;exact g
 |d::ds,_,_,_,h,g=>by
  simp only[Reps]at h;obtain⟨v',r,rfl,h2,h3⟩:=h;exact Reps.cons h2 (Reps.append h3 g)
theorem Reps.set:∀{ds:List D} {vs:List V} (i:Nat) {d:D} {v:V},Reps K mg H ds vs->Rep K mg H d v->Reps K mg H (ds.set i d) (vs.set i v)
 | [],_,_,_,_,h,g=>by simp only[Reps]at h;subst h;exact Reps.nil
 |d::ds,_,i,_,_,h,g=>by
  simp only[Reps]at h;obtain⟨v',r,rfl,h2,h3⟩:=h;cases i with
  |zero=>exact Reps.cons g h3
  |succ i=>exact Reps.cons h2 (Reps.set i h3 g)
theorem Reps.take:∀{ds:List D} {vs:List V} (n:Nat),Reps K mg H ds vs->Reps K mg H (ds.take n) (vs.take n)
 | [],_,_,h=>by simp only[Reps]at h;subst h;simp[Reps.nil]
 |d::ds,_,n,h=>by
  simp only[Reps]at h;obtain⟨v',r,rfl,h2,h3⟩:=h;cases n with
  |zero=>exact Reps.nil
  |succ n=>exact Reps.cons h2 (Reps.take n h3)
theorem Reps.drop:∀{ds:List D} {vs:List V} (n:Nat),Reps K mg H ds vs->Reps K mg H (ds.drop n) (vs.drop n)
 | [],_,_,h=>by simp only[Reps]at h;subst h;simp[Reps.nil]
 |d::ds,_,n,h=>by
  simp only[Reps]at h;obtain⟨v',r,rfl,h2,h3⟩:=h;cases n with
  |zero=>exact Reps.cons h2 h3
  |succ n=>exact Reps.drop n h3
theorem Reps.flatten{ds:List D}{vs:List V}(h:Reps K mg H ds vs):∀n:Nat,Reps K mg H (replicate n ds).flatten (replicate n vs).flatten
 |0=>Reps.nil
 |n+1=>by simp only[replicate_succ,flatten_cons];exact h.append (Reps.flatten h n)
end
open Classical in
def Hm(M:Addr->Prop)(H:Hp):Hp:=λb=>if M b then none else H b
section
variable{M M':Addr->Prop}{H H':Hp}{b:Addr}{o:HO}
theorem zN:Hm M H b=some o↔¬M b/\H b=some o:=by
 unfold Hm;by_cases h:M b
 ·simp[h]
 ·simp[h]
theorem zF:JO (Hm M H) H:=λb o h=>(zN.mp h).2
theorem jC(h:∀b,M' b->M b):JO (Hm M H) (Hm M' H):=λb o e=>zN.mpr ⟨λx=>(zN.mp e).1 (h b x),(zN.mp e).2⟩
end
inductive Slot where
 |emp
 |val (d:D)
 |own (ds:List D)
 |par (ds:List D)
 deriving Inhabited
abbrev zR:=List Slot
set_option genInjectivity true in
inductive R where
 |val (d:D)
 |own (ds:List D)
 deriving Inhabited
def R.slot:R->Slot
 | .val d=>.val d
 | .own ds=>.own ds
def R.d:R->D
 | .val d=>d
 | .own ds=>.lst ds
def Slot.list?:Slot->Option (List D)
 | .own ds=>some ds
 | .par ds=>some ds
 |_=>none
abbrev Fz:=List (Option V×Slot)
def WZ:Option V×Slot->Option Addr
 | (some (.ref a),.own _)=>some a
 | (some (.ref a),.par _)=>some a
 |_=>none
def zw(Z:Fz):List Addr:=Z.filterMap WZ
def Mo(M:Addr->Prop)(Z:Fz):Addr->Prop:=λb=>M b\/b∈zw Z
theorem zT(Z T:Fz):zw (Z++T)=zw Z++zw T:=List.filterMap_append
theorem zS(o:Option V)(d:D)(Z:Fz):zw ((o,.val d)::Z)=zw Z:=by
 unfold zw;rw[List.filterMap_cons_none];cases o with
 |none=>rfl
 |some v=>cases v<;>rfl
theorem wv(a:Addr)(ds:List D)(Z:Fz):zw ((some (.ref a),.own ds)::Z)=a::zw Z:=rfl
theorem yG(o:Option V)(Z:Fz):zw ((o,.emp)::Z)=zw Z:=by
 unfold zw;rw[List.filterMap_cons_none];cases o with
 |none=>rfl
 |some v=>cases v<;>rfl
theorem yc(M:Addr->Prop)(T Z:Fz):Mo M (T++Z)=Mo (Mo M T) Z:=by
 funext b
 apply propext;simp only[Mo,zT,mem_append];constructor
 ·rintro (h|h|h)
  ·exact .inl (.inl h)
  ·exact .inl (.inr h)
  ·exact .inr h
 ·rintro ((h|h)|h)
  ·exact .inl h
  ·exact .inr (.inl h)
  ·exact .inr (.inr h)
theorem Wk{M:Addr->Prop}{T Z:Fz}(p:T.Perm Z):Mo M T=Mo M Z:=by
 funext b
 apply propext;simp only[Mo,zw];rw[(p.filterMap WZ).mem_iff]
theorem YT(M:Addr->Prop)(o:Option V)(d:D)(Z:Fz):Mo M ((o,.val d)::Z)=Mo M Z:=by unfold Mo;rw[zS]
theorem Mo_emp(M:Addr->Prop)(o:Option V)(Z:Fz):Mo M ((o,.emp)::Z)=Mo M Z:=by unfold Mo;rw[yG]
structure FR(K:PySem.W.Frag)(mg:Str->Option Value)(M:Addr->Prop)(H:Hp)(Z:Fz):Prop where
 val:∀o d,(o,Slot.val d)∈Z->∃v,o=some v/\Rep K mg (Hm (Mo M Z) H) d v
 own:∀o s ds,(o,s)∈Z->s.list?=some ds->∃a xs,o=some (.ref a)/\H a=some (.lst xs)/\¬M a/\Reps K mg (Hm (Mo M Z) H) ds xs
 nd:(zw Z).Nodup
 mal:∀b,M b->∃o,H b=some o
structure Step(M:Addr->Prop)(H:Hp)(Z:Fz)(H':Hp)(Z':Fz):Prop where
 same:JO (Hm (Mo M Z) H) (Hm (Mo M Z') H')
 keep:∀b o,M b->H b=some o->H' b=some o
section
variable{K:PySem.W.Frag}{mg:Str->Option Value}{M:Addr->Prop}{H H' H1 H2:Hp}{Z Z' T Z1 Z2:Fz}
theorem Step.refl:Step M H Z H Z:=⟨JO.refl _,λ_ _ _ h=>h⟩
theorem Step.trans(a:Step M H Z H1 Z1)(b:Step M H1 Z1 H2 Z2):Step M H Z H2 Z2 :=
 ⟨a.same.trans b.same,λx o m h=>b.keep x o m (a.keep x o m h)⟩
theorem ww(h:∀b,b∈zw Z->b∈zw Z'):∀b,Mo M Z b->Mo M Z' b:=λb q=>q.elim .inl λq=>.inr (h b q)
theorem Step.weak(a:Step M H Z H' Z')(h:∀b,b∈zw T->b∈zw Z'):Step M H Z H' T :=
 ⟨a.same.trans (jC (ww h)),a.keep⟩
theorem Step.left(a:Step M H Z H' Z')(h:∀b,b∈zw Z->b∈zw T):Step M H T H' Z' :=
 ⟨(jC (ww h)).trans a.same,a.keep⟩
theorem zC(h:T.Sublist Z):∀b,b∈zw T->b∈zw Z:=λb q=>(h.filterMap WZ).subset q
theorem zB(h:T.Perm Z):∀b,b∈zw T->b∈zw Z:=λb q=>(h.filterMap WZ).subset q
theorem FR.perm(h:FR K mg M H Z)(p:Z.Perm T):FR K mg M H T where
 val:=λo d q=>by rw[<- Wk p];exact h.val o d (p.mem_iff.mpr q)
 own:=λo s ds q e=>by rw[<- Wk p];exact h.own o s ds (p.mem_iff.mpr q) e
 nd:=(p.filterMap WZ).nodup_iff.mp h.nd
 mal:=h.mal
theorem FR.sub(h:FR K mg M H Z)(p:T.Sublist Z):FR K mg M H T where
 val:=λo d q=>by
  obtain⟨v,e,r⟩:=h.val o d (p.subset q);exact⟨v,e,r.mono (jC (ww (zC p)))⟩
 own:=λo s ds q e=>by
  obtain⟨a,xs,e1,e2,e3,r⟩:=h.own o s ds (p.subset q) e;exact⟨a,xs,e1,e2,e3,r.mono (jC (ww (zC p)))⟩
 nd:=h.nd.sublist (p.filterMap WZ)
 mal:=h.mal
theorem FR.tail{x:Option V×Slot}(h:FR K mg M H (x::Z)):FR K mg M H Z:=h.sub (sublist_cons_self _ _)
theorem yu{o:Option V}{s:Slot}{ds:List D}{a:Addr}(h:(o,s)∈Z)(e:s.list?=some ds)(ho:o=some (.ref a)):a∈zw Z:=by
 subst ho;refine mem_filterMap.mpr ⟨_,h,?_⟩;cases s<;>simp[Slot.list?]at e<;>rfl
theorem Wl{a:Addr}(h:a∈zw Z):∃s ds,(some (V.ref a),s)∈Z/\Slot.list? s=some ds:=by
 obtain⟨⟨o,s⟩,h1,h2⟩:=mem_filterMap.mp h;unfold WZ at h2;split at h2
 ·rename_i e;cases e;cases h2;exact⟨_,_,h1,rfl⟩
 ·rename_i e;cases e;cases h2;exact⟨_,_,h1,rfl⟩
 ·cases h2
theorem FR.ownAt(h:FR K mg M H Z){a:Addr}(e:a∈zw Z):∃xs,H a=some (.lst xs)/\¬M a:=by
 obtain⟨s,ds,h1,h2⟩:=Wl e;obtain⟨a',xs,e1,e2,e3,_⟩:=h.own _ s ds h1 h2;cases e1;exact⟨xs,e2,e3⟩
theorem FR.moAl(h:FR K mg M H Z)(b:Addr)(e:Mo M Z b):∃o,H b=some o:=by
 rcases e with e|e
 ·exact h.mal b e
 ·obtain⟨xs,q,_⟩:=h.ownAt e
  exact⟨_,q⟩
theorem FR.inner(h:FR K mg M H (T++Z)):FR K mg (Mo M T) H Z where
 val:=λo d q=>by rw[<- yc];exact h.val o d (mem_append_right _ q)
 own:=λo s ds q e=>by
  obtain⟨a,xs,e1,e2,e3,r⟩:=h.own o s ds (mem_append_right _ q) e;refine⟨a,xs,e1,e2,λm=>?_,by rw[<- yc];exact r⟩;rcases m with m|m
  ·exact e3 m
  ·have nd:=h.nd
   rw[zT]at nd;exact(nodup_append.mp nd).2.2 a m a (yu q e e1) rfl
 nd:=by
  have nd:=h.nd;rw[zT]at nd;exact(nodup_append.mp nd).2.1
 mal:=λb q=>by
  rcases q with q|q
  ·exact h.mal b q
  ·obtain⟨xs,q,_⟩:=h.ownAt (a:=b) (by rw[zT];exact mem_append_left _ q)
   exact⟨_,q⟩
theorem FR.outer(h:FR K mg M H (T++Z))(g:FR K mg (Mo M T) H' Z')(st:Step (Mo M T) H Z H' Z'):FR K mg M H' (T++Z') where
 val:=λo d q=>by
  rw[yc];rcases mem_append.mp q with q|q
  ·obtain⟨v,e,r⟩:=h.val o d (mem_append_left _ q)
   rw[yc]at r;exact⟨v,e,r.mono st.same⟩
  ·exact g.val o d q
 own:=λo s ds q e=>by
  rw[yc];rcases mem_append.mp q with q|q
  ·obtain⟨a,xs,e1,e2,e3,r⟩:=h.own o s ds (mem_append_left _ q) e
   rw[yc]at r;exact⟨a,xs,e1,st.keep a _ (.inr (yu q e e1)) e2,e3,r.mono st.same⟩
  ·obtain⟨a,xs,e1,e2,e3,r⟩:=g.own o s ds q e
   exact⟨a,xs,e1,e2,λm=>e3 (.inl m),r⟩
 nd:=by
  rw[zT];have nd:=h.nd;rw[zT]at nd;refine nodup_append.mpr ⟨(nodup_append.mp nd).1,g.nd,λa ha b hb e=>?_⟩;subst e;obtain⟨xs,_,q⟩:=g.ownAt hb;exact q (.inr ha)
 mal:=λb q=>g.mal b (.inl q)
theorem Step.outer(st:Step (Mo M T) H Z H' Z'):Step M H (T++Z) H' (T++Z') :=
 ⟨by rw[yc,yc];exact st.same,λb o m h=>st.keep b o (.inl m) h⟩
theorem yH{p:Addr}{o:HO}(hp:H p=none):JO H (upd H p o):=λb u e=>by
 rw[zp (λq=>by subst q;rw[hp]at e;cases e)];exact e
theorem FR.grow(h:FR K mg M H Z){p:Addr}{o:HO}(hp:H p=none):FR K mg M (upd H p o) Z where
 val:=λo' d q=>by
  obtain⟨v,e,r⟩:=h.val o' d q;exact⟨v,e,r.mono λb u x=>zN.mpr ⟨(zN.mp x).1,yH hp b u (zN.mp x).2⟩⟩
 own:=λo' s ds q e=>by
  obtain⟨a,xs,e1,e2,e3,r⟩:=h.own o' s ds q e;exact⟨a,xs,e1,yH hp _ _ e2,e3,r.mono λb u x=>zN.mpr ⟨(zN.mp x).1,yH hp b u (zN.mp x).2⟩⟩
 nd:=h.nd
 mal:=λb q=>by obtain⟨u,e⟩:=h.mal b q;exact⟨u,yH hp _ _ e⟩
theorem Step.grow{p:Addr}{o:HO}(hp:H p=none):Step M H Z (upd H p o) Z :=
 ⟨λb u x=>zN.mpr ⟨(zN.mp x).1,yH hp b u (zN.mp x).2⟩,λb u _ e=>yH hp b u e⟩
theorem FR.add(h:FR K mg M H Z){v:V}{d:D}(r:Rep K mg (Hm (Mo M Z) H) d v):FR K mg M H ((some v,.val d)::Z) where
 val:=λo d' q=>by
  rw[YT];rcases mem_cons.mp q with q|q
  ·cases q;exact⟨v,rfl,r⟩
  ·exact h.val o d' q
 own:=λo s ds q e=>by
  rw[YT];rcases mem_cons.mp q with q|q
  ·cases q;cases e
  ·exact h.own o s ds q e
 nd:=by rw[zS];exact h.nd
 mal:=h.mal
theorem Step.add{v:Option V}{d:D}(st:Step M H Z H' Z'):Step M H Z H' ((v,.val d)::Z'):=by
 refine⟨?_,st.keep⟩;rw[YT];exact st.same
theorem wx(h:FR K mg M H Z){p:Addr}(hp:H p=none):¬Mo M Z p:=λq=>by
 obtain⟨o,e⟩:=h.moAl p q;rw[hp]at e;cases e
theorem jO(h:FR K mg M H Z){p:Addr}{ds:List D}{xs:List V}(hp:H p=none):JO (Hm (Mo M Z) H) (Hm (Mo M ((some (.ref p),.own ds)::Z)) (upd H p (.lst xs))):=λb u x=>by
 obtain⟨h1,h2⟩:=zN.mp x;refine zN.mpr ⟨λq=>?_,yH hp _ _ h2⟩;rcases q with q|q
 ·exact h1 (.inl q)
 ·rw[wv]at q
  rcases mem_cons.mp q with q|q
  ·subst q;rw[hp]at h2;cases h2
  ·exact h1 (.inr q)
theorem FR.newOwn(h:FR K mg M H Z){p:Addr}{ds:List D}{xs:List V}(hp:H p=none)(r:Reps K mg (Hm (Mo M Z) H) ds xs):FR K mg M (upd H p (.lst xs)) ((some (.ref p),.own ds)::Z) where
 val:=λo d q=>by
  rcases mem_cons.mp q with q|q
  ·cases q
  ·obtain⟨v,e,r⟩:=h.val o d q
   exact⟨v,e,r.mono (jO h hp)⟩
 own:=λo s ds' q e=>by
  rcases mem_cons.mp q with q|q
  ·cases q;cases e
   exact⟨p,xs,rfl,yX,λm=>wx h hp (.inl m),r.mono (jO h hp)⟩
  ·obtain⟨a,ys,e1,e2,e3,r⟩:=h.own o s ds' q e
   exact⟨a,ys,e1,yH hp _ _ e2,e3,r.mono (jO h hp)⟩
 nd:=by
  rw[wv];exact nodup_cons.mpr ⟨λq=>wx h hp (.inr q),h.nd⟩
 mal:=λb q=>by obtain⟨u,e⟩:=h.mal b q;exact⟨u,yH hp _ _ e⟩
theorem Step.newOwn(h:FR K mg M H Z){p:Addr}{ds:List D}{xs:List V}(hp:H p=none):Step M H Z (upd H p (.lst xs)) ((some (.ref p),.own ds)::Z) :=
 ⟨jO h hp,λb u _ e=>yH hp b u e⟩
theorem FR.newTup(h:FR K mg M H Z){p:Addr}{ds:List D}{xs:List V}(hp:H p=none)(r:Reps K mg (Hm (Mo M Z) H) ds xs):FR K mg M (upd H p (.tup xs)) ((some (.ref p),.val (.tup ds))::Z):=by
 refine(h.grow hp).add ?_;simp only[Rep];refine⟨p,xs,rfl,SqT.of (zN.mpr ⟨wx h hp,yX⟩),r.mono λb u x=>zN.mpr ⟨(zN.mp x).1,yH hp b u (zN.mp x).2⟩⟩
theorem Step.newVal{p:Addr}{o:HO}{v:Option V}{d:D}(hp:H p=none):Step M H Z (upd H p o) ((v,.val d)::Z):=(Step.grow hp).add
theorem FR.frz{o:Option V}{r:R}(h:FR K mg M H ((o,r.slot)::Z)):FR K mg M H ((o,.val r.d)::Z):=by
 cases r with
 |val d=>exact h
 |own ds =>
  obtain⟨a,xs,e1,e2,e3,rr⟩:=h.own o (.own ds) ds mem_cons_self rfl;subst e1;have hn:¬Mo M Z a:=λq=>by
   rcases q with q|q
   ·exact e3 q
   ·exact(nodup_cons.mp h.nd).1 q
  refine h.tail.add ?_;simp only[R.d,Rep];exact⟨a,xs,rfl,SqL.of (zN.mpr ⟨hn,e2⟩),rr.mono (jC (ww (zC (sublist_cons_self _ _))))⟩
theorem Step.frz{o:Option V}{r:R}(h:Step M H Z H' ((o,r.slot)::Z')):Step M H Z H' ((o,.val r.d)::Z'):=by
 cases r with
 |val d=>exact h
 |own ds =>
  refine h.weak λb q=>?_
  rw[zS]at q;exact(zC (sublist_cons_self _ _)) b q
theorem ZK:∀(σ:St) (E:zR) (i:Nat) (o:Option V) (s:Slot),(σ.set i o).zip (E.set i s)=(σ.zip E).set i (o,s)
 | [],_,_,_,_=>by simp
 |_::_,[],_,_,_=>by simp
 |x::σ,y::E,0,o,s=>by simp
 |x::σ,y::E,i+1,o,s=>by simp[ZK σ E i o s]
theorem zh{α:Type}(x:α):∀(l:List α) (i:Nat),i<l.length->(l.set i x).Perm (x::l.eraseIdx i)
 | [],_,h=>by simp at h
 |y::l,0,_=>List.Perm.refl _
 |y::l,i+1,h=>by
  have ih:=zh x l i (by simpa using h);simp only[List.set_cons_succ,List.eraseIdx_cons_succ];exact(ih.cons y).trans (List.Perm.swap x y _)
theorem FR.put(h:FR K mg M H (((o:Option V),s)::Z)){i:Nat}(hi:i<Z.length):FR K mg M H (Z.set i (o,s)) :=
 (h.sub ((List.eraseIdx_sublist Z i).cons_cons (o,s))).perm (zh _ _ _ hi).symm
theorem Step.put{o:Option V}{s:Slot}(h:Step M H Z H' ((o,s)::Z')){i:Nat}(hi:i<Z'.length):Step M H Z H' (Z'.set i (o,s)):=by
 refine h.weak λb q=>?_
 exact zC ((List.eraseIdx_sublist Z' i).cons_cons (o,s)) b (zB (zh _ _ _ hi) b q)
end
end DV
namespace DV
open PySem L2
inductive Out(α:Type) where
 |stuck
 |ok (a:α)
 |exc (x:Exn) (E:zR)
 deriving Inhabited
abbrev ME:=zR->Out (R×zR)
abbrev MA:=zR->Out (List R×zR)
abbrev MT:=zR->Out (Bool×zR)
def PKp(σ:St)(E:zR)(σ':St)(E':zR):Prop:=∀(i:Nat) ds,E[i]?=some (.par ds)->(∃ds',E'[i]?=some (.par ds'))/\σ'[i]?=σ[i]?
theorem PKp.refl{σ:St}{E:zR}:PKp σ E σ E:=λi ds h=>⟨⟨ds,h⟩,rfl⟩
theorem PKp.trans{σ σ1 σ2:St}{E E1 E2:zR}(a:PKp σ E σ1 E1)(b:PKp σ1 E1 σ2 E2):PKp σ E σ2 E2:=λi ds h=>by
 obtain⟨⟨ds1,h1⟩,e1⟩:=a i ds h;obtain⟨h2,e2⟩:=b i ds1 h1;exact⟨h2,e2.trans e1⟩
structure Got(K:PySem.W.Frag)(mg:Str->Option Value)(M:Addr->Prop)(σ:St)(E:zR)(H:Hp)(T0:Fz)(σ':St)(E':zR)(H':Hp)(T:Fz):Prop where
 len:E'.length=σ'.length
 fr:FR K mg M H' (T++(T0++σ'.zip E'))
 st:Step M H (T0++σ.zip E) H' (T++(T0++σ'.zip E'))
 pk:PKp σ E σ' E'
def GC(vs:List V)(rs:List R):Fz:=(vs.zip rs).map λp=>(some p.1,p.2.slot)
def KM(X:Cx)(M:Addr->Prop)(σ:St)(E:zR)(H:Hp)(T0:Fz)(Q:VK):Out (R×zR)->Prop
 | .stuck=>False
 | .ok (r,E')=>∀v H',Got X.K X.mg M σ E H T0 σ E' H' [(some v,r.slot)]->Q v H'
 | .exc x E'=>∀H',Got X.K X.mg M σ E H T0 σ E' H' []->XE X σ H' x
def KT(X:Cx)(M:Addr->Prop)(σ:St)(E:zR)(H:Hp)(T0:Fz)(Q:Bool->Hp->Prop):Out (Bool×zR)->Prop
 | .stuck=>False
 | .ok (b,E')=>∀H',Got X.K X.mg M σ E H T0 σ E' H' []->Q b H'
 | .exc x E'=>∀H',Got X.K X.mg M σ E H T0 σ E' H' []->XE X σ H' x
def KA(X:Cx)(M:Addr->Prop)(σ:St)(E:zR)(H:Hp)(T0:Fz)(Q:List V->Hp->Prop):Out (List R×zR)->Prop
 | .stuck=>False
 | .ok (rs,E')=>∀vs H',vs.length=rs.length->Got X.K X.mg M σ E H T0 σ E' H' (GC vs rs)->Q vs H'
 | .exc x E'=>∀H',Got X.K X.mg M σ E H T0 σ E' H' []->XE X σ H' x
def tM(X:Cx)(m:ME):TE:=λσ H Q=>∃M E,E.length=σ.length/\FR X.K X.mg M H (σ.zip E)/\KM X M σ E H [] Q (m E)
def tMT(X:Cx)(m:MT):TT:=λσ H Q=>∃M E,E.length=σ.length/\FR X.K X.mg M H (σ.zip E)/\KT X M σ E H [] Q (m E)
def tMA(X:Cx)(m:MA):TA:=λσ H Q=>∃M E,E.length=σ.length/\FR X.K X.mg M H (σ.zip E)/\KA X M σ E H [] Q (m E)
abbrev EOk(X:Cx)(e:Expr)(m:ME):Prop:=PE X e (tM X m)
abbrev TOk(X:Cx)(e:Expr)(m:MT):Prop:=PT X e (tMT X m)
abbrev AOk(X:Cx)(es:List Expr)(m:MA):Prop:=PA X es (tMA X m)
theorem zi{X:Cx}{e:Expr}{t t':TE}(h:PE X e t)(i:∀σ H Q,t' σ H Q->t σ H Q):PE X e t':=λpins s σ H Q I q=>h pins s σ H Q I (i σ H Q q)
theorem Zz{X:Cx}{e:Expr}{t t':TT}(h:PT X e t)(i:∀σ H Q,t' σ H Q->t σ H Q):PT X e t':=λpins s σ H Q I q=>h pins s σ H Q I (i σ H Q q)
theorem zAq{X:Cx}{e:Expr}{t t':TT}(h:PW X e t)(i:∀σ H Q,t' σ H Q->t σ H Q):PW X e t':=λwh pins s σ H Q I q=>h wh pins s σ H Q I (i σ H Q q)
theorem Z0{X:Cx}{e:List Expr}{t t':TA}(h:PA X e t)(i:∀σ H Q,t' σ H Q->t σ H Q):PA X e t':=λp pins s σ H Q I q=>h p pins s σ H Q I (i σ H Q q)
theorem jl{X:Cx}{e:Stmt}{t t':TS}(h:PS X e t)(i:∀D σ H,t' D σ H->t D σ H):PS X e t':=λpins s σ H D I q=>h pins s σ H D I (i D σ H q)
theorem GD{X:Cx}{e:List Stmt}{t t':TS}(h:PSs X e t)(i:∀D σ H,t' D σ H->t D σ H):PSs X e t':=λpins s σ H D I q=>h pins s σ H D I (i D σ H q)
section
variable{X:Cx}{K:PySem.W.Frag}{mg:Str->Option Value}{M:Addr->Prop}{σ σ' σ1 σ2:St}{E E' E1 E2:zR}{H H' H1 H2:Hp}{T0 T T1 T2:Fz}{Q:VK}
theorem swapP{α:Type}(A B C:List α):(A++(B++([]++C))).Perm (B++(A++C)):=by
 rw[nil_append,<- append_assoc,<- append_assoc];exact(perm_append_comm).append_right _
theorem J3{α:Type}{l:List α}{i:Nat}{x:α}(h:l[i]?=some x):l.set i x=l:=by
 obtain⟨hi,rfl⟩:=List.getElem?_eq_some_iff.mp h;exact List.set_getElem_self hi
theorem Got.outer(h:FR K mg M H (T0++σ.zip E))(g:Got K mg (Mo M T0) σ E H [] σ' E' H' T):Got K mg M σ E H T0 σ' E' H' T where
 len:=g.len
 fr:=by
  have q:=FR.outer h g.fr g.st;exact q.perm (swapP _ _ _)
 st:=by
  have q:=Step.outer g.st;refine q.weak λb hb=>?_
  exact zB (swapP _ _ _).symm b hb
 pk:=g.pk
theorem Got.trans(a:Got K mg M σ E H T0 σ1 E1 H1 T1)(b:Got K mg M σ1 E1 H1 (T1++T0) σ2 E2 H2 T2):Got K mg M σ E H T0 σ2 E2 H2 (T2++T1) where
 len:=b.len
 fr:=by
  have q:=b.fr;rw[append_assoc]at q;rw[append_assoc];exact q
 st:=by
  have q:=b.st;rw[append_assoc,append_assoc]at q;rw[append_assoc];exact a.st.trans q
 pk:=a.pk.trans b.pk
theorem Got.drop(a:Got K mg M σ E H T0 σ1 E1 H1 (T2++T1)):Got K mg M σ E H T0 σ1 E1 H1 T1 where
 len:=a.len
 fr:=a.fr.sub (by rw[append_assoc];exact sublist_append_right _ _)
 st:=a.st.weak (zC (by rw[append_assoc];exact sublist_append_right _ _))
 pk:=a.pk
theorem Got.dropAll(a:Got K mg M σ E H T0 σ1 E1 H1 T1):Got K mg M σ E H T0 σ1 E1 H1 [] where
 len:=a.len
 fr:=a.fr.sub (sublist_append_right _ _)
 st:=a.st.weak (zC (sublist_append_right _ _))
 pk:=a.pk
theorem Got.trans'(a:Got K mg M σ E H [] σ1 E1 H1 T1)(b:Got K mg M σ1 E1 H1 T1 σ2 E2 H2 T2):Got K mg M σ E H [] σ2 E2 H2 (T2++T1):=a.trans (by rw[append_nil];exact b)
theorem Got.refl(hl:E.length=σ.length)(h:FR K mg M H (T0++σ.zip E)):Got K mg M σ E H T0 σ E H []:=⟨hl,h,Step.refl,PKp.refl⟩
theorem Got.more(a:Got K mg M σ E H [] σ1 E1 H1 T1)(f:FR K mg M H2 (T++σ1.zip E1))(s:Step M H1 (σ1.zip E1) H2 (T++σ1.zip E1)):Got K mg M σ E H [] σ1 E1 H2 T where
 len:=a.len
 fr:=f
 st:=(a.st.weak (zC (sublist_append_right _ _))).trans s
 pk:=a.pk
theorem Got.frame(a:Got K mg M σ E H [] σ1 E1 H1 T1):FR K mg M H1 (σ1.zip E1):=a.fr.sub (sublist_append_right _ _)
theorem Y6(v:V)(r:R)(vs:List V)(rs:List R):GC (v::vs) (r::rs)=(some v,r.slot)::GC vs rs:=rfl
theorem GE:∀{vs:List V} {rs:List R} {Z:Fz},vs.length=rs.length->FR K mg M H (GC vs rs++Z)->Reps K mg (Hm (Mo M Z) H) (rs.map R.d) vs
 | [],[],Z,_,h=>Reps.nil
 |v::vs,r::rs,Z,hl,h=>by
  rw[Y6,List.cons_append]at h;refine Reps.cons ?_ (GE (by simpa using hl) h.tail);obtain⟨v',e,q⟩:=h.frz.val (some v) r.d mem_cons_self;cases e;refine q.mono (jC (ww λb hb=>?_));rw[zS,zT];exact mem_append_right _ hb
theorem Got.reps{vs:List V}{rs:List R}(hl:vs.length=rs.length)(a:Got K mg M σ E H [] σ1 E1 H1 (GC vs rs)):Reps K mg (Hm (Mo M (σ1.zip E1)) H1) (rs.map R.d) vs:=GE hl a.fr
theorem Got.rep{v:V}{r:R}(a:Got K mg M σ E H [] σ1 E1 H1 [(some v,r.slot)]):Rep K mg (Hm (Mo M (σ1.zip E1)) H1) r.d v:=by
 have q:=Got.reps (vs:=[v]) (rs:=[r]) rfl a;simp only[List.map,Reps]at q;obtain⟨v',r',e,h,_⟩:=q;cases e;exact h
theorem ze{m:ME}(hl:E.length=σ.length)(h:FR X.K X.mg M H (T0++σ.zip E))
  (k:KM X M σ E H T0 Q (m E)):tM X m σ H Q:=by
 refine⟨Mo M T0,E,hl,h.inner,?_⟩;cases e:m E with
 |stuck=>rw[e]at k;exact k
 |ok a=>rw[e]at k;exact λv H' g=>k v H' (g.outer h)
 |exc x E'=>rw[e]at k;exact λH' g=>k H' (g.outer h)
theorem wQ{m:MT}{Q:Bool->Hp->Prop}(hl:E.length=σ.length)(h:FR X.K X.mg M H (T0++σ.zip E))
  (k:KT X M σ E H T0 Q (m E)):tMT X m σ H Q:=by
 refine⟨Mo M T0,E,hl,h.inner,?_⟩;cases e:m E with
 |stuck=>rw[e]at k;exact k
 |ok a=>rw[e]at k;exact λH' g=>k H' (g.outer h)
 |exc x E'=>rw[e]at k;exact λH' g=>k H' (g.outer h)
theorem YU{m:MA}{Q:List V->Hp->Prop}(hl:E.length=σ.length)(h:FR X.K X.mg M H (T0++σ.zip E))
  (k:KA X M σ E H T0 Q (m E)):tMA X m σ H Q:=by
 refine⟨Mo M T0,E,hl,h.inner,?_⟩;cases e:m E with
 |stuck=>rw[e]at k;exact k
 |ok a=>rw[e]at k;exact λvs H' hv g=>k vs H' hv (g.outer h)
 |exc x E'=>rw[e]at k;exact λH' g=>k H' (g.outer h)
def eC(d:D):ME:=λE=>.ok (.val d,E)
def flat:D->Bool
 | .non | .bl _ | .int _ | .str _=>true
 |_=>false
def flV:D->V
 | .bl b=>.bl b
 | .int i=>.int i
 | .str x=>.str x
 |_=>.non
theorem vD{d:D}(h:flat d=true):Rep K mg H d (flV d):=by
 cases d<;>simp[flat]at h<;>simp[Rep,flV]
theorem Got.flat(a:Got K mg M σ E H [] σ1 E1 H1 T1){d:D}(h:flat d=true):Got K mg M σ E H [] σ1 E1 H1 [(some (flV d),.val d)] :=
 a.more (a.frame.add (vD h)) Step.refl.add
theorem ok_c{e:Expr}{d:D}(h:PE X e (tC (flV d)))(hf:flat d=true:=by rfl):EOk X e (eC d):=zi h λσ H Q ⟨M,E,hl,f,k⟩ =>
 k (flV d) H ((Got.refl (T0:=[]) hl f).flat hf)
theorem ok_int{i j pos}:EOk X (.Constant (.int i) j pos) (eC (.int i)):=ok_c pe_int
theorem ok_bl{b j pos}:EOk X (.Constant (.bool b) j pos) (eC (.bl b)):=ok_c pe_bl
theorem ok_non{j pos}:EOk X (.Constant .none j pos) (eC .non):=ok_c pe_non
theorem ok_str{x j pos}:EOk X (.Constant (.str x) j pos) (eC (.str x)):=ok_c pe_str
theorem ok_fn{x:Str}{f:Addr}{pos:Pos}(hg:Gl X x)(hm:X.mg x=some (.ref f))(hd:(x==("__debug__":Str))=false:=by decide):EOk X (.Name x pos) (eC (.fn x)) :=
 zi (Wd (v:=.ref f) hg hm rfl hd) λσ H Q ⟨M,E,hl,fr,k⟩=>k _ H ((Got.refl (T0:=[]) hl fr).more (T:=[(some (.ref f),.val (.fn x))]) (FR.add fr (by simp only[Rep];exact⟨f,rfl,hm⟩)) Step.refl.add)
def uO(i:Nat):ME:=λE=>match E[i]? with
 |some (.val d)=>.ok (.val d,E)
 |some (.own ds)=>.ok (.val (.lst ds),E.set i (.val (.lst ds)))
 |_=>.stuck
theorem JQ{i:Nat}{s:Slot}(hl:E.length=σ.length)(h:E[i]?=some s):∃o,σ[i]?=some o/\(σ.zip E)[i]?=some (o,s):=by
 have hi:i<E.length:=(List.getElem?_eq_some_iff.mp h).1;have:i<σ.length:=hl▸hi;refine⟨σ[i],by simp[this],?_⟩;rw[List.getElem?_zip_eq_some];exact⟨by simp[this],h⟩
theorem jm{i:Nat}{s:Slot}(hl:E.length=σ.length)(h:E[i]?=some s):∃o,σ[i]?=some o/\(o,s)∈σ.zip E:=by
 obtain⟨o,h1,h2⟩:=JQ hl h;exact⟨o,h1,mem_of_getElem? h2⟩
theorem z3{i:Nat}{o:Option V}(s:Slot)(h:σ[i]?=some o):σ.zip (E.set i s)=(σ.zip E).set i (o,s):=by
 rw[<- ZK];congr 1;have hi:i<σ.length:=(List.getElem?_eq_some_iff.mp h).1;apply List.ext_getElem?;intro j;by_cases e:i=j
 ·subst e;rw[getElem?_set_self hi,h]
 ·rw[getElem?_set_ne e]
theorem pk_set{i:Nat}{s:Slot}{ds0:List D}(h:E[i]?=some s)(hs:∀ds,s≠.par ds)(o:Slot):PKp σ E σ (E.set i o):=λj ds e=>by
 have ne:i≠j:=λq=>by subst q;rw[h]at e;exact hs ds (Option.some.inj e)
 exact⟨⟨ds,by rw[getElem?_set_ne ne];exact e⟩,rfl⟩
theorem ok_var(i:Nat){x:Str}{pos:Pos}(h:PE X (.Name x pos) (vq i)):EOk X (.Name x pos) (uO i):=zi h λσ H Q ⟨M,E,hl,f,k⟩=>by
 unfold uO at k;cases e:E[i]? with
 |none=>rw[e]at k;exact k.elim
 |some sl =>
 rw[e]at k;cases sl with
 |emp=>exact k.elim
 |par ds=>exact k.elim
 |val d =>
  obtain⟨o,h1,h2⟩:=jm hl e;obtain⟨v,rfl,r⟩:=f.val o d h2;exact⟨v,h1,k v H ⟨hl,f.add r,Step.refl.add,PKp.refl⟩⟩
 |own ds =>
  obtain⟨o,h1,h2⟩:=JQ hl e;obtain⟨a,xs,rfl,q1,q2,q3⟩:=f.own o (.own ds) ds (mem_of_getElem? h2) rfl;refine⟨.ref a,h1,k _ H ?_⟩;have hlt:i<(σ.zip E).length:=(List.getElem?_eq_some_iff.mp h2).1;have p:(σ.zip E).Perm ((some (.ref a),R.slot (.own ds))::(σ.zip E).eraseIdx i):=by
   have:=zh (some (V.ref a),Slot.own ds) (σ.zip E) i hlt;rw[J3 h2]at this;exact this
  have f1:=(f.perm p).frz;have f2:FR X.K X.mg M H ((σ.zip E).set i (some (.ref a),.val (.lst ds))):=f1.perm (zh _ _ _ hlt).symm;rw[<- z3 (.val (.lst ds)) h1]at f2;have r:=f1.val _ _ mem_cons_self;obtain⟨v,ev,rr⟩:=r;cases ev;have em:Mo M ((some (V.ref a),Slot.val (R.own ds).d)::(σ.zip E).eraseIdx i)=Mo M (σ.zip (E.set i (.val (.lst ds)))):=by
   rw[z3 (.val (.lst ds)) h1];exact(Wk (zh _ _ _ hlt)).symm
  rw[em]at rr;refine⟨by simp[hl],f2.add rr,?_,?_⟩
  ·refine Step.add ?_
   refine Step.weak Step.refl λb hb=>?_
   refine zB p.symm b ?_;rw[nil_append,z3 (.val (.lst ds)) h1]at hb;have hb':=zB (zh _ _ _ hlt) b hb;rw[zS]at hb';exact zC (sublist_cons_self _ _) b hb'
  ·exact pk_set (ds0:=[]) e (λds' q=>by cases q) _
end
def zO:Expr->Bool
 | .Starred _ _=>true
 |_=>false
def z9:List Expr->Bool
 | []=>true
 |e::es=>!zO e&&z9 es
theorem zI{e:Expr}{es:List Expr}{env:Env}(h:zO e=false):starEach (e::es) env=(false,eval e env)::starEach es env:=by
 cases e<;>first|rfl|(cases h)
theorem star2{a b:Expr}{env:Env}(ha:zO a=false)(hb:zO b=false):starEach [a,b] env=[(false,eval a env),(false,eval b env)]:=by
 rw[zI ha,zI hb];rfl
theorem star1{a:Expr}{env:Env}(ha:zO a=false):starEach [a] env=[(false,eval a env)]:=by
 rw[zI ha];rfl
def yi:Expr->Bool
 | .Set _ _ _=>false
 |_=>true
theorem wy{e:Expr}{env:Env}(h:yi e=true):∀x,foldedSetIterable e env x=pure x:=by
 intro x;cases e<;>first|rfl|(cases h)
def jP:Expr->Bool
 | .ListComp _ _ _ _=>false
 | .SetComp _ _ _ _=>false
 | .DictComp _ _ _ _ _=>false
 |_=>true
theorem ZL{e:Expr}{t:Option Expr}{l:Nat}{env:Env}(h:jP e=true):swapsWith e t l env=pure false:=by
 cases e<;>first|rfl|(cases h)
def zAr:Expr->Bool
 | .UnaryOp .Not _ _=>false
 | .BoolOp _ _ _=>false
 | .IfExp _ _ _ _=>false
 | .Compare _ _ _ _=>false
 |_=>true
theorem test_of{e:Expr}{env:Env}(h:zAr e=true):∀whole,isTrue e env whole=(do let v <- whole;standAt e.pos;holding [v] (truthy v)):=by
 intro x;cases e<;>first|rfl|(cases h)|skip;rename_i op _ _;cases op<;>first|rfl|(cases h)
def Z3:Expr->Bool
 | .Slice _ _ _ _=>false
 |_=>true
def Wm:Expr->Bool
 | .Attribute _ _ _=>false
 |_=>true
theorem call_of{fe:Expr}{args:List Expr}{pos:Pos}{env:Env}(h:Wm fe=true):eval (.Call fe args [] pos) env=(do callWith pos (<- eval fe env) [] (backTo pos (starEach args env)) (backToKw pos (keywordEach [] env))):=by
 cases fe<;>first|rfl|(cases h)
theorem Z4{env:Env}:∀{es:List Expr},z9 es=true->(starEach es env).any (·.1)=false
 | [],_=>rfl
 |e::es,h=>by
  simp only[z9,Bool.and_eq_true,Bool.not_eq_true']at h;rw[zI h.1];simp[Z4 h.2]
theorem Qn(pos:Pos)(l:List (Bool×Sem Value)):(backTo pos l).any (·.1)=l.any (·.1):=by
 unfold backTo;rw[List.any_map];rfl
theorem yd{env:Env}{es:List Expr}{pos:Pos}(h:z9 es=true):(backTo pos (starEach es env)).any (·.1)=false:=by
 rw[Qn,Z4 h]
end DV
namespace L2
open PySem PySem.Spec PyProof.Rows
section
variable{X:Cx}
def zAs(K:PySem.W.Frag):R2:=λx y H Q=>∃a b xs ys,x=.ref a/\y=.ref b/\SqT K H a xs/\SqT K H b ys/\xs.length+ys.length<=sizeLine /\
 (xs=[]->Q (.ref b) H)/\(xs≠[]->ys=[]->Q (.ref a) H)/\(xs≠[]->ys≠[]->∀p,H p=none->Q (.ref p) (upd H p (.tup (xs++ys))))
theorem Qo:OpR X (binaryOp .Add) (zAs X.K):=by
 intro pins s σ H x y v u Q I rx ry h;obtain⟨a,b,xs,ys,rfl,rfl,ha,hb,hz,q0,q1,q2⟩:=h;cases rx;cases ry;obtain⟨its,r1,p1,_⟩:=I.tuple ha;obtain⟨its2,r2,p2,_⟩:=I.tuple hb;by_cases hx:xs=[]
 ·have hi:its=[]:=r1.nil_iff.mpr hx
  obtain⟨⟨cls,dd,data,sl⟩,ho,hc,n,hd⟩:=id p1;obtain⟨⟨cls2,dd2,data2,sl2⟩,ho2,hc2,n2,hd2⟩:=id p2;simp only at hc hd hc2 hd2;subst hc hd hc2 hd2;exact concat_meets ⟨_,ho,rfl⟩ ⟨_,ho2,rfl⟩ noFill_tuple_add seq_tuple_add PySem.F.slot_tuple_add PySem.F.entry_tuple_add (PySem.F.args_tuple_add_2 _ _)
   (tuple_addW0 a b its.toArray its2.toArray n n2 dd dd2 sl sl2 (by simp[hi])) ⟨ho,ho2,⟨.ref b,H,I,rfl,q0 hx⟩⟩
 ·exact op_catT pins s σ H (.ref a) (.ref b) (.ref a) (.ref b) Q I rfl rfl ⟨a,b,xs,ys,rfl,rfl,ha,hb,hx,hz,q1 hx,q2 hx⟩
def rCatL(K:PySem.W.Frag):R2:=λx y H Q=>∃l b xs zs,x=.ref l/\y=.ref b/\SqL K H l xs/\SqL K H b zs/\xs.length+zs.length<=sizeLine/\∀p,H p=none->Q (.ref p) (upd H p (.lst (xs++zs)))
theorem op_catL:OpR X (binaryOp .Add) (rCatL X.K):=by
 intro pins s σ H x y v u Q I rx ry h;obtain⟨l,b,xs,zs,rfl,rfl,hH,hB,hz,q⟩:=h;cases rx;cases ry;obtain⟨its,r,pl,_⟩:=I.list hH;obtain⟨its2,r2,pl2,_⟩:=I.list hB;have hl:=r.length;have hl2:=r2.length;obtain⟨⟨cls,dd,data,sl⟩,n,ho,hc,hdd,hd⟩:=pl;obtain⟨⟨cls2,dd2,data2,sl2⟩,n2,ho2,hc2,hdd2,hd2⟩:=pl2;simp only at hc hd hc2 hd2;subst hc hd hc2 hd2;refine concat_meets ⟨_,ho,rfl⟩ ⟨_,ho2,rfl⟩ noFill_list_add seq_list_add PySem.F.slot_list_add PySem.F.entry_list_add (PySem.F.args_list_add_2 _ _) (list_addW l b its.toArray its2.toArray n n2 dd dd2 sl sl2 (by rw[size_toArray,size_toArray];omega)) ⟨ho,ho2,?_⟩;have ea:its.toArray++its2.toArray=(its++its2).toArray:=by simp
 rw[ea];exact⟨.ref _,_,I.lnew (t':=s.toks) (r.append r2) (by rw[length_append];omega),rfl,q _ I.fresh⟩
theorem wR{prog:Program}{w:World}{A:Around}{E:Value->Shared->Prop}{s:Shared}{t sl:Addr}{items:Array Value}{vl vu:Value}{lo hi:Option Int}{Q:Value->Shared->Prop}(ht:IsTup s.heap t items)(hs:s.heap.IsSliceOf sl vl vu .none)(pl:IsPart vl lo)(pu:IsPart vu hi)
  (h1:HT.sIx items.size 0 lo=0) (h2:HT.sIx items.size items.size hi=items.size)
  (h:Q (.ref t) s):wpAny (model prog w) A (getItem (.ref t) (.ref sl)) Q E s:=by
 obtain⟨os,hos,hcs,hds⟩:=id hs;have hTs:s.TypeIs (.ref sl) "slice":=⟨os,hos,hcs⟩;unfold getItem
 try with_reducible refine wpAny_holding ?_
 first|refine wpAny_bind (wpAny_pure ?_)|skip
 refine wpAny_bind (wpAny_sequenceKey ht.typeIs (by decide) ?_);refine wpAny_bind (wpAny_callSpecial?_slot (name:=Str.ofString "__getitem__") ht.typeIs PyProof.Rows.slot_tuple_getitem
  (wpAny_call_entry PyProof.Rows.slot_tuple_getitem ht.typeIs entry_tuple_getitem ?_ (args_tuple_getitem _ _)))
 show wpAny _ _ (Builtin.Tuple.tupleItemsOf (.ref t) >>= _) _ _ s
 refine wpAny_bind (tupleItemsOf_ ht ?_);refine wpAny_bind (wpAny_typeOf hTs ?_);rw[if_pos (by decide)];refine wpAny_bind (HT.sliceApplied_gen hs pl pu ?_);have hyes:(((HT.sIx items.size 0 lo:Nat):Int)==0&&(1:Int)==1&&(HT.sIx items.size items.size hi-HT.sIx items.size 0 lo)==items.size)=true:=by
  rw[h1,h2];simp
 show wpAny _ _ (if(((HT.sIx items.size 0 lo:Nat):Int)==0&&(1:Int)==1&&(HT.sIx items.size items.size hi-HT.sIx items.size 0 lo)==items.size)=true then _ else _) _ _ s
 rw[if_pos hyes];unfold Builtin.Tuple.tupleIsExact;refine wpAny_bind (wpAny_bind (wpAny_typeOf ht.typeIs (wpAny_pure ?_)));rw[if_pos (by decide)];exact wpAny_bind (wpAny_rule (wpAny_pure ⟨_,rfl,wpAny_pure h⟩))
def rSlTT(K:PySem.W.Frag):V->Option Int->Option Int->Hp->VK->Prop:=λx lo hi H Q=>∃a xs,x=.ref a/\SqT K H a xs /\
 ((HT.sIx xs.length 0 lo=0/\HT.sIx xs.length xs.length hi=xs.length)->Q (.ref a) H) /\
 (¬(HT.sIx xs.length 0 lo=0/\HT.sIx xs.length xs.length hi=xs.length)->∀p,H p=none->Q (.ref p) (upd H p (.tup (Qd xs lo hi))))
theorem sl_tupT:SlR X (rSlTT X.K):=by
 intro pins s σ H x v vl vu lo hi sl Q I rx hs pl pu h;obtain⟨a,xs,rfl,hx,q1,q2⟩:=h;by_cases hw:HT.sIx xs.length 0 lo=0/\HT.sIx xs.length xs.length hi=xs.length
 ·cases rx
  obtain⟨its,r,ht,hz⟩:=I.tuple hx;have hlen:its.toArray.size=xs.length:=by rw[size_toArray];exact r.length.symm
  refine⟨"tuple",_,PyProof.Rows.slot_tuple_getitem.lookup,ht.typeIs,?_⟩;exact wR ht hs pl pu (by rw[hlen];exact hw.1) (by rw[hlen];exact hw.2) ⟨.ref a,H,I,rfl,q1 hw⟩
 ·exact sl_tup pins s σ H (.ref a) v vl vu lo hi sl Q I rx hs pl pu ⟨a,xs,rfl,hx,hw,q2 hw⟩
theorem Z5:∀bs:List Bool,(List.range bs.length).all (λi=>bs.getD i false)=bs.all id
 | []=>rfl
 |b::bs=>by
  rw[length_cons,List.range_succ_eq_map,all_cons,all_cons,List.all_map,<- Z5 bs];rfl
theorem Qp(hc:X.calm=true):jA X (.builtin "all") (λxs H Q=>∃(p:Addr) (bs:List Bool),xs=[.ref p]/\SqL X.K H p (bs.map V.bl)/\Q (.bl (bs.all id)) H):=by
 intro pins s σ H xs us Q I r h;obtain⟨p,bs,rfl,hq,q⟩:=h;obtain⟨u,rfl,rx⟩:=Wf r;cases rx;obtain⟨its,rv,pl,hz⟩:=I.list hq;have hlen:=rv.length;refine call_all_walk (wpAny_pyIter_list pl.isList ?_);have hp:p<s.heap.objs.size:=by obtain⟨o,n,e,_⟩:=pl;exact lt_size e
 have hk:∀b o,s.heap.get? b=some o->(s.heap.push {cls:=.type "list_iterator",data:=.fields #[.ref p,.int 0 0]}).get? b=some o:=λb o e=>get?_push_of_some _ e
 have htr:∀(i:Nat) (v:Value),its.toArray[i]?=some v->v=Value.bool (bs.getD i false):=λi v hv=>by
  have hv':its[i]?=some v:=by simpa using hv
  have hi:i<its.length:=(List.getElem?_eq_some_iff.mp hv').1;have hx:i<(bs.map V.bl).length:=by rw[hlen];exact hi
  obtain⟨u',e1,e2⟩:=rv.get (i:=i) (x:=(bs.map V.bl)[i]) (by simp[hx]);rw[hv']at e1;cases e1;rw[length_map]at hx;rw[List.getElem_map]at e2;have:v=.bool (bs[i]):=e2;rw[this];simp[hx]
 refine⟨s.heap.objs.size,[s.heap.objs.size,p],[s.heap.objs.size],its.toArray.size,_,_,λi=>bs.getD i false,rfl,
  Walks.list (by show X.A.handled=none;exact I.ok.hd hc) _ p (ne_of_lt hp) its.toArray,⟨⟨_,get?_push_size _ rfl,rfl,rfl⟩,?_⟩,?_,?_⟩
 ·obtain⟨o,e,c⟩:=pl.isList
  exact⟨o,hk _ _ e,c⟩
 ·intro i v s' Q' E' hv hQ
  rw[htr i v hv];exact wpAny_truthy_bool hQ
 ·intro h' tk kp
  have e:(List.range its.toArray.size).all (λi=>bs.getD i false)=bs.all id:=by
   rw[size_toArray,<- hlen,length_map,Z5]
  rw[e];exact⟨.bl (bs.all id),H,I.kept (t':=tk) λb o eb=>kp b o (λm=>by
   have:b=s.heap.objs.size:=by simpa using m
   subst this;exact absurd (lt_size eb) (lt_irrefl _)) (hk b o eb),rfl,q⟩
theorem Jr:fillsNumberSlot (.type "tuple") "mul"=pure false :=
 PySem.fillsNumberSlot_seq (id:="tuple.__mul__") (r:=some (.builtin "tuple.__rmul__")) F.slot_tuple_mul.lookup (by decide +kernel) F.slot_tuple_rmul.lookup (by decide +kernel)
theorem Z6:seqRepeat? (.type "tuple")=pure (some (.builtin "tuple.__mul__")):=by
 unfold seqRepeat?;rw[PySem.seqSlot_of (T:="tuple") (name:="__mul__") (id:="tuple.__mul__") F.slot_tuple_mul.lookup (by decide +kernel),PySem.seqSlot_of (T:="tuple") (name:="__rmul__") (id:="tuple.__rmul__") F.slot_tuple_rmul.lookup (by decide +kernel)];rfl
theorem Ys(a:Int)(t:Tok)(l:Addr)(items:Array Value)(n:Nat)(dd:Option Addr)(sl:Array (Option Value)) :
  Meets (Builtin.«int.__rmul__» ⟨[.int a t,.ref l],[]⟩) (λ_ R s=>s.heap.get? l=some {cls:=.type "tuple",dict:=dd,data:=.seq items n,slots:=sl}/\R (.ok (.ret Value.notImplemented)) s) :=
 .of_wp λprog w A R s h=>by obtain⟨hp,g,d,tk,os⟩:=s;obtain⟨hl,h⟩:=h;wp_walk;exact⟨_,rfl,h⟩
theorem Yt{prog:Program}{w:World}{A:Around}{E:Value->Shared->Prop}{s:Shared}{l:Addr}{items:Array Value}{k:Int}{t:Tok}{Q:Value->Shared->Prop}(hl:IsTup s.heap l items)(h1:-(2^63)<=k)(h2:k<2^63)
  (hz:(items.size:Int)*k<=sizeLine) (q0:items.isEmpty=true\/k=1->Q (.ref l) s)
  (q1:k<=0->Q (.ref s.heap.objs.size) {s with heap:=s.heap.push {cls:=.type "tuple",data:=.seq #[]}})
  (q2:Q (.ref s.heap.objs.size) {s with heap:=s.heap.push {cls:=.type "tuple",data:=.seq ((replicate k.toNat items).foldl (·++·) #[])}})
  (hfit:sizeOk (.seq ((replicate k.toNat items).foldl (·++·) #[]))) :
  wpAny (model prog w) A (call (.builtin "tuple.__mul__") [.ref l,.int k t]) Q E s:=by
 refine wpAny_call_entry F.slot_tuple_mul hl.typeIs F.entry_tuple_mul ?_ (F.args_tuple_mul_2 _ _);show wpAny _ _ (asIndex (.int k t) >>= _) _ _ s;refine wpAny_bind (wpAny_of_eq (a:=k) rfl ?_);dsimp only;rw[if_neg (by simp only[Bool.or_eq_true,decide_eq_true_eq];omega)];refine wpAny_bind (tupleItemsOf_ hl ?_);by_cases e1:(items.isEmpty||k==1)=true
 ·rw[if_pos e1]
  unfold Builtin.Tuple.tupleIsExact;refine wpAny_bind (wpAny_bind (wpAny_typeOf hl.typeIs (wpAny_pure ?_)));rw[if_pos (by decide)];refine wpAny_bind (wpAny_rule (wpAny_pure ⟨_,rfl,q0 ?_⟩));rw[Bool.or_eq_true,beq_iff_eq]at e1;exact e1
 ·rw[if_neg e1]
  by_cases e2:(decide (k<=0)||items.isEmpty)=true
  ·rw[if_pos e2]
   have hk:k<=0:=by
    simp only[Bool.or_eq_true,decide_eq_true_eq,beq_iff_eq,not_or]at e1 e2;rcases e2 with e2|e2
    ·exact e2
    ·exact absurd e2 e1.1
   exact wpAny_bind (m:=Builtin.Tuple.tupleExact _) (wpAny_newObj_type (wpAny_pure ⟨_,rfl,q1 hk⟩) (by show(#[]:Array Value).size<=sizeLine;simp))
  ·rw[if_neg e2]
   have hs:sizeLine=16777216:=sizeLine_eq;rw[if_neg (by rw[hs]at hz;omega),if_neg (by unfold Builtin.Tuple.tupleTooMany;simp only[decide_eq_true_eq];omega)];exact wpAny_bind (m:=Builtin.Tuple.tupleExact _) (wpAny_newObj_type (wpAny_pure ⟨_,rfl,q2⟩) hfit)
def rRepT(K:PySem.W.Frag):R2:=λx y H Q=>∃l k xs,x=.ref l/\y=.int k/\SqT K H l xs/\-(2^63)<=k/\k<2^63/\xs.length*k.toNat<=sizeLine /\
 (xs=[]\/k=1->Q (.ref l) H)/\(∀p,H p=none->Q (.ref p) (upd H p (.tup (replicate k.toNat xs).flatten)))
theorem op_repT:OpR X (binaryOp .Mult) (rRepT X.K):=by
 intro pins s σ H x y v u Q I rx ry h;obtain⟨l,k,xs,rfl,rfl,hH,h1,h2,hz,q0,q⟩:=h;cases rx;obtain⟨t,rfl⟩:=ry;obtain⟨its,r,pt,_⟩:=I.tuple hH;have hl:=r.length;obtain⟨⟨cls,dd,data,sl⟩,ho,hc,n,hd⟩:=id pt;simp only at hc hd;subst hc hd;have hnew:foldl (λx1 x2=>x1++x2) #[] (replicate k.toNat its.toArray)=(replicate k.toNat its).flatten.toArray:=by
  have:=YR its k.toNat [];rw[nil_append]at this;exact this
 have hlen:(replicate k.toNat its).flatten.length<=sizeLine:=by rw[Wg,Nat.mul_comm,<- hl];exact hz
 have hzz:((its.toArray.size:Nat):Int)*k<=(sizeLine:Nat):=by
  rw[size_toArray,<- hl];by_cases hk:0<=k
  ·obtain⟨m,rfl⟩:=Int.eq_ofNat_of_zero_le hk
   have:xs.length*m<=sizeLine:=by simpa using hz
   exact_mod_cast this
  ·have:(xs.length:Int)*k<=0:=Int.mul_nonpos_of_nonneg_of_nonpos (Int.natCast_nonneg _) (by omega)
   omega
 refine wpAny_binaryOp_repeat_ref (T:="tuple") (U:="int") (by decide) ⟨_,ho,rfl⟩ (λs'=>typeIs_int s' k t) Jr F.fills_int_mul F.slot_int_rmul Z6 F.slot_int_index.lookup
  (call_meets F.slot_int_rmul (typeIs_int s k t) F.entry_int_rmul (F.args_int_rmul_2 _ _) (Ys k t l its.toArray n dd sl) ⟨ho,rfl,⟨_,ho,rfl⟩,?_⟩)
 refine Yt pt h1 h2 hzz (λe=>⟨.ref l,H,I,rfl,q0 ?_⟩) (λe=>?_) ?_ ?_
 ·rcases e with e|e
  ·left
   have:its=[]:=by simpa using e
   exact r.nil_iff.mp this
  ·right;exact e
 ·have ek:k.toNat=0:=by omega
  have q':=q s.heap.objs.size I.fresh;rw[ek]at q';exact⟨.ref s.heap.objs.size,_,I.laid (t':=s.toks) (o:=.tup []) (λb ob q=>get?_push_of_some _ q) (le_refl _) ⟨zero_le _,[],.nil,IsTup.new _ _⟩,rfl,q'⟩
 ·rw[hnew]
  exact⟨.ref s.heap.objs.size,_,I.laid (t':=s.toks) (o:=.tup (replicate k.toNat xs).flatten) (λb ob q=>get?_push_of_some _ q) (le_refl _) ⟨by rw[Wg,Nat.mul_comm];exact hz,_,r.rep k.toNat,IsTup.new _ _⟩,rfl,q _ I.fresh⟩
 ·rw[hnew]
  show(replicate k.toNat its).flatten.toArray.size<=sizeLine
  rw[size_toArray];exact hlen
end
end L2
namespace DV
open PySem L2
def cap:Nat:=1000000
theorem jf{n:Nat}(h:n<=cap):n<=sizeLine:=le_trans h (by rw[sizeLine_eq];decide)
abbrev Kt(K:PySem.W.Frag)(mg:Str->Option Value)(M:Addr->Prop)(H:Hp)(Z:Fz)(res:R)(Q:VK):Prop :=
 ∀v H',FR K mg M H' ((some v,res.slot)::Z)->Step M H Z H' ((some v,res.slot)::Z)->Q v H'
def ROk(K:PySem.W.Frag)(mg:Str->Option Value)(rel:R2)(f:D->D->Option R):Prop :=
 ∀(M:Addr->Prop) (H:Hp) (Z:Fz) (x y:V) (d1 d2:D) (res:R) (Q:VK),FR K mg M H Z->Rep K mg (Hm (Mo M Z) H) d1 x->Rep K mg (Hm (Mo M Z) H) d2 y->f d1 d2=some res->Kt K mg M H Z res Q->rel x y H Q
def COk(K:PySem.W.Frag)(mg:Str->Option Value)(rel:List V->Hp->VK->Prop)(f:List D->Option R):Prop :=
 ∀(M:Addr->Prop) (H:Hp) (Z:Fz) (xs:List V) (ds:List D) (res:R) (Q:VK),FR K mg M H Z->Reps K mg (Hm (Mo M Z) H) ds xs->f ds=some res->Kt K mg M H Z res Q->rel xs H Q
section
variable{X:Cx}{K:PySem.W.Frag}{mg:Str->Option Value}{M:Addr->Prop}{H H':Hp}{Z:Fz}{Q:VK}{σ:St}
theorem Kt.flat{d:D}(k:Kt K mg M H Z (.val d) Q)(f:FR K mg M H Z)(h:flat d=true):Q (flV d) H:=k _ _ (f.add (vD h)) Step.refl.add
theorem Kt.rep{d:D}{v:V}(k:Kt K mg M H Z (.val d) Q)(f:FR K mg M H Z)(h:Rep K mg (Hm (Mo M Z) H) d v):Q v H:=k _ _ (f.add h) Step.refl.add
theorem Kt.tup{ds:List D}{xs:List V}{p:Addr}(k:Kt K mg M H Z (.val (.tup ds)) Q)(f:FR K mg M H Z)(hp:H p=none)(h:Reps K mg (Hm (Mo M Z) H) ds xs):Q (.ref p) (upd H p (.tup xs)):=k _ _ (f.newTup hp h) (Step.newVal hp)
theorem Kt.own{ds:List D}{xs:List V}{p:Addr}(k:Kt K mg M H Z (.own ds) Q)(f:FR K mg M H Z)(hp:H p=none)(h:Reps K mg (Hm (Mo M Z) H) ds xs):Q (.ref p) (upd H p (.lst xs)):=k _ _ (f.newOwn hp h) (Step.newOwn f hp)
def YV(f:D->D->Option R)(a b:ME):ME:=λE=>match a E with
 | .stuck=>.stuck
 | .exc x E1=>.exc x E1
 | .ok (r1,E1)=>match b E1 with
  | .stuck=>.stuck
  | .exc x E2=>.exc x E2
  | .ok (r2,E2)=>match f r1.d r2.d with
   |some r=>.ok (r,E2)
   |none=>.stuck
theorem ZM{rel:R2}{f:D->D->Option R}{a b:ME}(hr:ROk X.K X.mg rel f){H:Hp}{Q:VK}(h:tM X (YV f a b) σ H Q):tOp rel (tM X a) (tM X b) σ H Q:=by
 obtain⟨M,E,hl,fr,k⟩:=h;unfold YV at k;refine ze (T0:=[]) hl fr ?_;cases ea:a E with
 |stuck=>rw[ea]at k;exact k
 |exc x E1=>rw[ea]at k;exact λH' g=>k H' g
 |ok p =>
  obtain⟨r1,E1⟩:=p;rw[ea]at k;intro x H1 g1;refine ze (T0:=[(some x,r1.slot)]) g1.len g1.fr ?_;dsimp only at k;cases eb:b E1 with
  |stuck=>rw[eb]at k;exact k
  |exc x E2=>rw[eb]at k;exact λH' g=>k H' (g1.trans' g).dropAll
  |ok p =>
   obtain⟨r2,E2⟩:=p;rw[eb]at k;intro y H2 g2;have g:=g1.trans' g2;have rp:=Got.reps (vs:=[y,x]) (rs:=[r2,r1]) rfl g;simp only[List.map,Reps]at rp;obtain⟨y',_,e1,ry,x',_,e2,rx,_⟩:=rp;cases e1;cases e2;dsimp only at k;cases ef:f r1.d r2.d with
   |none=>rw[ef]at k;exact k.elim
   |some r =>
    rw[ef]at k;exact hr M H2 _ x y r1.d r2.d r Q g.frame rx ry ef λv H' f' s'=>k v H' (g.more (T:=[(some v,r.slot)]) f' s')
theorem uB{op:Operator}{rel:R2}{f:D->D->Option R}{a b:Expr}{ma mb:ME}{pos:Pos}(ho:OpR X (binaryOp op) rel)(hr:ROk X.K X.mg rel f)(ha:EOk X a ma)(hb:EOk X b mb):EOk X (.BinOp a op b pos) (YV f ma mb) :=
 zi (pe_op ho ha hb) λσ H Q h=>ZM hr h
theorem wI{op:CmpOp}{rel:R2}{f:D->D->Option R}{a b:Expr}{ma mb:ME}{pos:Pos}(ho:OpR X (compareOp op) rel)(hr:ROk X.K X.mg rel f)(hm:behindInMarks op b=false)(ha:EOk X a ma)(hb:EOk X b mb):EOk X (.Compare a [op] [b] pos) (YV f ma mb) :=
 zi (pe_cmpR ho ha hb hm) λσ H Q h=>ZM hr h
theorem ok_ix{rel:R2}{f:D->D->Option R}{a b:Expr}{ma mb:ME}{pos:Pos}(ho:IxR X rel)(hr:ROk X.K X.mg rel f)(hs:ZH b)(ha:EOk X a ma)(hb:EOk X b mb):EOk X (.Subscript a b pos) (YV f ma mb) :=
 zi (pe_ix ho ha hb hs) λσ H Q h=>ZM hr h
def tT(m:ME):MT:=λE=>match m E with
 | .stuck=>.stuck
 | .exc x E1=>.exc x E1
 | .ok (.val (.bl b),E1)=>.ok (b,E1)
 |_=>.stuck
theorem GF{m:ME}{H:Hp}{Q:Bool->Hp->Prop}(h:tMT X (tT m) σ H Q):tM X m σ H λx H'=>∃k,x=.bl k/\Q k H':=by
 obtain⟨M,E,hl,fr,k⟩:=h;refine⟨M,E,hl,fr,?_⟩;unfold tT at k;cases e:m E with
 |stuck=>rw[e]at k;exact k
 |exc x E1=>rw[e]at k;exact k
 |ok p =>
  obtain⟨r,E1⟩:=p;rw[e]at k;cases r with
  |own ds=>exact k.elim
  |val d =>
   cases d with
   |bl b =>
    intro v H' g;have rp:=g.rep;simp only[R.d,Rep]at rp;exact⟨b,rp,k H' g.dropAll⟩
   |_=>exact k.elim
theorem ok_test{e:Expr}{m:ME}(h:EOk X e m)(he:∀whole,isTrue e X.env whole=(do let v <- whole;standAt e.pos;holding [v] (truthy v)):=by intro _;rfl):TOk X e (tT m) :=
 Zz (pt_val h he) λσ H Q q=>GF q
theorem jD{op:CmpOp}{rel:R2}{f:D->D->Option R}{a b:Expr}{ma mb:ME}{pos:Pos}(ho:OpR X (compareOp op) rel)(hr:ROk X.K X.mg rel f)(hm:behindInMarks op b=false)(ha:EOk X a ma)(hb:EOk X b mb):TOk X (.Compare a [op] [b] pos) (tT (YV f ma mb)) :=
 Zz (pt_cmpR ho ha hb hm) λσ H Q h=>ZM hr (GF h)
def JR(a b:MT):MT:=λE=>match a E with
 | .ok (true,E1)=>b E1
 |o=>o
def uC(a b:MT):MT:=λE=>match a E with
 | .ok (false,E1)=>b E1
 |o=>o
def Js(a:MT):MT:=λE=>match a E with
 | .stuck=>.stuck
 | .exc x E1=>.exc x E1
 | .ok (b,E1)=>.ok (!b,E1)
theorem and_run{a b:MT}{H:Hp}{Q:Bool->Hp->Prop}(h:tMT X (JR a b) σ H Q):tAnd (tMT X a) (tMT X b) σ H Q:=by
 obtain⟨M,E,hl,fr,k⟩:=h;unfold JR at k;refine wQ (T0:=[]) hl fr ?_;cases ea:a E with
 |stuck=>rw[ea]at k;exact k
 |exc x E1=>rw[ea]at k;exact k
 |ok p =>
  obtain⟨c,E1⟩:=p;rw[ea]at k;intro H1 g1;cases c with
  |false=>exact iteF (k H1 g1)
  |true =>
   refine iteT ?_;refine wQ (T0:=[]) g1.len g1.fr ?_;dsimp only at k;cases eb:b E1 with
   |stuck=>rw[eb]at k;exact k
   |exc x E2=>rw[eb]at k;exact λH' g=>k H' (g1.trans' g)
   |ok p=>rw[eb]at k;exact λH' g=>k H' (g1.trans' g)
theorem or_run{a b:MT}{H:Hp}{Q:Bool->Hp->Prop}(h:tMT X (uC a b) σ H Q):tOr (tMT X a) (tMT X b) σ H Q:=by
 obtain⟨M,E,hl,fr,k⟩:=h;unfold uC at k;refine wQ (T0:=[]) hl fr ?_;cases ea:a E with
 |stuck=>rw[ea]at k;exact k
 |exc x E1=>rw[ea]at k;exact k
 |ok p =>
  obtain⟨c,E1⟩:=p;rw[ea]at k;intro H1 g1;cases c with
  |true=>exact iteT (k H1 g1)
  |false =>
   refine iteF ?_;refine wQ (T0:=[]) g1.len g1.fr ?_;dsimp only at k;cases eb:b E1 with
   |stuck=>rw[eb]at k;exact k
   |exc x E2=>rw[eb]at k;exact λH' g=>k H' (g1.trans' g)
   |ok p=>rw[eb]at k;exact λH' g=>k H' (g1.trans' g)
theorem not_run{a:MT}{H:Hp}{Q:Bool->Hp->Prop}(h:tMT X (Js a) σ H Q):tNot (tMT X a) σ H Q:=by
 obtain⟨M,E,hl,fr,k⟩:=h;unfold Js at k;refine wQ (T0:=[]) hl fr ?_;cases ea:a E with
 |stuck=>rw[ea]at k;exact k
 |exc x E1=>rw[ea]at k;exact k
 |ok p=>rw[ea]at k;exact k
abbrev WOk(X:Cx)(e:Expr)(m:MT):Prop:=PW X e (tMT X m)
theorem wk_and1{a:Expr}{m:MT}{pos:Pos}(h:TOk X a m):WOk X (.BoolOp .And [a] pos) m:=pw_and1 h
theorem wk_or1{a:Expr}{m:MT}{pos:Pos}(h:TOk X a m):WOk X (.BoolOp .Or [a] pos) m:=pw_or1 h
theorem zAt{a b:Expr}{Jq:List Expr}{ma mb:MT}{pos:Pos}(ha:TOk X a ma)(hb:WOk X (.BoolOp .And (b::Jq) pos) mb):WOk X (.BoolOp .And (a::b::Jq) pos) (JR ma mb):=zAq (pw_and ha hb) λσ H Q=>and_run
theorem wk_or{a b:Expr}{Jq:List Expr}{ma mb:MT}{pos:Pos}(ha:TOk X a ma)(hb:WOk X (.BoolOp .Or (b::Jq) pos) mb):WOk X (.BoolOp .Or (a::b::Jq) pos) (uC ma mb):=zAq (pw_or ha hb) λσ H Q=>or_run
theorem tk_w{e:Expr}{m:MT}(h:WOk X e m):TOk X e m:=h.pt
theorem tk_not{a:Expr}{m:MT}{pos:Pos}(h:TOk X a m):TOk X (.UnaryOp .Not a pos) (Js m):=Zz (pt_not h) λσ H Q=>not_run
def GG(a:ME):ME:=λE=>match a E with
 | .ok (.val (.bl b),E1)=>.ok (.val (.bl (!b)),E1)
 | .exc x E1=>.exc x E1
 |_=>.stuck
def uD(a b:ME):ME:=λE=>match a E with
 | .ok (.val (.bl true),E1)=>b E1
 | .ok (.val (.bl false),E1)=>.ok (.val (.bl false),E1)
 | .exc x E1=>.exc x E1
 |_=>.stuck
def eOr(a b:ME):ME:=λE=>match a E with
 | .ok (.val (.bl false),E1)=>b E1
 | .ok (.val (.bl true),E1)=>.ok (.val (.bl true),E1)
 | .exc x E1=>.exc x E1
 |_=>.stuck
theorem Qq{a:ME}{H:Hp}{Q:VK}(h:tM X (GG a) σ H Q):tNotV (tM X a) σ H Q:=by
 obtain⟨M,E,hl,fr,k⟩:=h;unfold GG at k;refine ze (T0:=[]) hl fr ?_;cases ea:a E with
 |stuck=>rw[ea]at k;exact k
 |exc x E1=>rw[ea]at k;exact k
 |ok p =>
  obtain⟨r,E1⟩:=p;rw[ea]at k;cases r with
  |own ds=>exact k.elim
  |val d =>
   cases d with
   |bl b =>
    intro v H' g;have rp:=g.rep;simp only[R.d,Rep]at rp;exact⟨b,rp,k _ H' (g.flat (d:=.bl (!b)) rfl)⟩
   |_=>exact k.elim
theorem Qr{a b:ME}{H:Hp}{Q:VK}(h:tM X (uD a b) σ H Q):tAndV (tM X a) (tM X b) σ H Q:=by
 obtain⟨M,E,hl,fr,k⟩:=h;unfold uD at k;refine ze (T0:=[]) hl fr ?_;cases ea:a E with
 |stuck=>rw[ea]at k;exact k
 |exc x E1=>rw[ea]at k;exact k
 |ok p =>
  obtain⟨r,E1⟩:=p;rw[ea]at k;cases r with
  |own ds=>exact k.elim
  |val d =>
   cases d with
   |bl c =>
    intro v H' g;have rp:=g.rep;simp only[R.d,Rep]at rp;refine⟨c,rp,?_⟩;cases c with
    |false=>exact iteF (k _ H' (g.flat (d:=.bl false) rfl))
    |true =>
     refine iteT (ze (T0:=[]) g.len g.frame ?_);dsimp only at k;cases eb:b E1 with
     |stuck=>rw[eb]at k;exact k
     |exc x E2=>rw[eb]at k;exact λH'' g'=>k H'' (g.dropAll.trans' g')
     |ok p=>rw[eb]at k;exact λv'' H'' g'=>k v'' H'' (g.dropAll.trans' g')
   |_=>exact k.elim
theorem ok_not{a:Expr}{m:ME}{pos:Pos}(h:EOk X a m):EOk X (.UnaryOp .Not a pos) (GG m):=zi (pe_not h) λσ H Q=>Qq
theorem zAu{a b:Expr}{Jq:List Expr}{ma mb:ME}{pos:Pos}(ha:EOk X a ma)(hb:EOk X (.BoolOp .And (b::Jq) pos) mb):EOk X (.BoolOp .And (a::b::Jq) pos) (uD ma mb):=zi (pe_and ha hb) λσ H Q=>Qr
theorem ok_one{a:Expr}{op:BoolOp}{m:ME}{pos:Pos}(h:EOk X a m):EOk X (.BoolOp op [a] pos) m:=pe_one h
def eIf(c:MT)(a b:ME):ME:=λE=>match c E with
 | .ok (true,E1)=>a E1
 | .ok (false,E1)=>b E1
 | .exc x E1=>.exc x E1
 | .stuck=>.stuck
theorem if_run{c:MT}{a b:ME}{H:Hp}{Q:VK}(h:tM X (eIf c a b) σ H Q):tIf (tMT X c) (tM X a) (tM X b) σ H Q:=by
 obtain⟨M,E,hl,fr,k⟩:=h;unfold eIf at k;refine wQ (T0:=[]) hl fr ?_;cases ea:c E with
 |stuck=>rw[ea]at k;exact k
 |exc x E1=>rw[ea]at k;exact k
 |ok p =>
  obtain⟨t,E1⟩:=p;rw[ea]at k;intro H1 g1;cases t with
  |true =>
   refine iteT (ze (T0:=[]) g1.len g1.fr ?_);dsimp only at k;cases eb:a E1 with
   |stuck=>rw[eb]at k;exact k
   |exc x E2=>rw[eb]at k;exact λH' g=>k H' (g1.trans' g)
   |ok p=>rw[eb]at k;exact λv H' g=>k v H' (g1.trans' g)
  |false =>
   refine iteF (ze (T0:=[]) g1.len g1.fr ?_);dsimp only at k;cases eb:b E1 with
   |stuck=>rw[eb]at k;exact k
   |exc x E2=>rw[eb]at k;exact λH' g=>k H' (g1.trans' g)
   |ok p=>rw[eb]at k;exact λv H' g=>k v H' (g1.trans' g)
theorem ok_if{c a b:Expr}{mc:MT}{ma mb:ME}{pos:Pos}(hc:TOk X c mc)(ha:EOk X a ma)(hb:EOk X b mb):EOk X (.IfExp c a b pos) (eIf mc ma mb):=zi (QT hc ha hb) λσ H Q=>if_run
def QK:MA:=λE=>.ok ([],E)
def Jt(a:ME)(m:MA):MA:=λE=>match a E with
 | .stuck=>.stuck
 | .exc x E1=>.exc x E1
 | .ok (r,E1)=>match m E1 with
  | .stuck=>.stuck
  | .exc x E2=>.exc x E2
  | .ok (rs,E2)=>.ok (r::rs,E2)
theorem ak_nil:AOk X [] QK:=Z0 wo λσ H Q ⟨M,E,hl,fr,k⟩=>k [] H rfl (Got.refl (T0:=[]) hl fr)
theorem Got.perm{K:PySem.W.Frag}{mg:Str->Option Value}{M:Addr->Prop}{σ σ1:St}{E E1:zR}{H H1:Hp}{T0 T T':Fz}(a:Got K mg M σ E H T0 σ1 E1 H1 T)(p:T.Perm T'):Got K mg M σ E H T0 σ1 E1 H1 T' where
 len:=a.len
 fr:=a.fr.perm (p.append_right _)
 st:=a.st.weak (zB (p.append_right _).symm)
 pk:=a.pk
theorem Qs{a:ME}{m:MA}{H:Hp}{Q:List V->Hp->Prop}(h:tMA X (Jt a m) σ H Q):vw (tM X a) (tMA X m) σ H Q:=by
 obtain⟨M,E,hl,fr,k⟩:=h;unfold Jt at k;refine ze (T0:=[]) hl fr ?_;cases ea:a E with
 |stuck=>rw[ea]at k;exact k
 |exc x E1=>rw[ea]at k;exact k
 |ok p =>
  obtain⟨r1,E1⟩:=p;rw[ea]at k;intro x H1 g1;refine YU (T0:=[(some x,r1.slot)]) g1.len g1.fr ?_;dsimp only at k;cases eb:m E1 with
  |stuck=>rw[eb]at k;exact k
  |exc x E2=>rw[eb]at k;exact λH' g=>k H' (g1.trans' g).dropAll
  |ok p =>
   obtain⟨rs,E2⟩:=p;rw[eb]at k;intro vs H2 hv g2;refine k (x::vs) H2 (by simp[hv]) ?_;rw[Y6];exact(g1.trans' g2).perm (perm_append_comm)
theorem ak_cons{e:Expr}{es:List Expr}{a:ME}{m:MA}(ha:EOk X e a)(hm:AOk X es m)(hs:zO e=false:=by rfl):AOk X (e::es) (Jt a m):=Z0 (yR ha hm (zI hs)) λσ H Q=>Qs
def eCB(f:List D->Option R)(m:MA):ME:=λE=>match m E with
 | .stuck=>.stuck
 | .exc x E1=>.exc x E1
 | .ok (rs,E1)=>match f (rs.map R.d)with
  |some r=>.ok (r,E1)
  |none=>.stuck
theorem vE{rel:List V->Hp->VK->Prop}{f:List D->Option R}{m:MA}(hr:COk X.K X.mg rel f){H:Hp}{Q:VK}(h:tM X (eCB f m) σ H Q):tCB rel (tMA X m) σ H Q:=by
 obtain⟨M,E,hl,fr,k⟩:=h;unfold eCB at k;refine YU (T0:=[]) hl fr ?_;cases ea:m E with
 |stuck=>rw[ea]at k;exact k
 |exc x E1=>rw[ea]at k;exact k
 |ok p =>
  obtain⟨rs,E1⟩:=p;rw[ea]at k;intro vs H1 hv g;have rp:=Got.reps hv g;dsimp only at k;cases ef:f (rs.map R.d)with
  |none=>rw[ef]at k;exact k.elim
  |some r =>
   rw[ef]at k;exact hr M H1 _ vs _ r Q g.frame rp ef λv H' f' s'=>k v H' (g.more (T:=[(some v,r.slot)]) f' s')
def QL(m:MA):ME:=eCB (λds=>if ds.length<=cap then some (.val (.tup ds))else none) m
def QM(m:MA):ME:=eCB (λds=>if ds.length<=cap then some (.own ds)else none) m
theorem ok_tup{es:List Expr}{m:MA}{x1:Nat}{pos:Pos}(h:AOk X es m):EOk X (.Tuple es x1 pos) (QL m) :=
 zi (pe_tup h) λσ H Q q=>vE (rel:=λxs H1 Q=>xs.length<=sizeLine/\∀p,H1 p=none->Q (.ref p) (upd H1 p (.tup xs))) (λM H Z xs ds res Q f r e k=>by
  split at e
  ·rename_i hc
   cases e;exact⟨by rw[r.length];exact jf hc,λp hp=>k.tup f hp r⟩
  ·cases e) q
theorem ok_lst{es:List Expr}{m:MA}{pos:Pos}(h:AOk X es m):EOk X (.List es pos) (QM m) :=
 zi (pe_lst h) λσ H Q q=>vE (rel:=λxs H1 Q=>xs.length<=sizeLine/\∀p,H1 p=none->Q (.ref p) (upd H1 p (.lst xs))) (λM H Z xs ds res Q f r e k=>by
  split at e
  ·rename_i hc
   cases e;exact⟨by rw[r.length];exact jf hc,λp hp=>k.own f hp r⟩
  ·cases e) q
theorem J4{f:List D->Option R}{m:MA}{rel:List V->Hp->VK->Prop}{id:String}{x:Str}{p pos:Pos}{e:Expr}{es:List Expr}(hc:jA X (.builtin id) rel)(hr:COk X.K X.mg rel f)(hg:Gl X x)(hm:X.mg x=none)(hv:bootBuiltins x=some (.builtin id))(ha:AOk X (e::es) m)(hn:x≠"__name__":=by decide)(hdb:(x==("__debug__":Str))=false:=by decide)
  (he:zO e=false:=by rfl) (hpl:z9 es=true:=by rfl):EOk X (.Call (.Name x p) (e::es) [] pos) (eCB f m) :=
 zi (wq hc hg hm hv ha hn hdb (zI he) (yd hpl)) λσ H Q q=>vE hr q
theorem YW{f:List D->Option R}{m:MA}{rel:List V->Hp->VK->Prop}{T:String}{x:Str}{p pos:Pos}{e:Expr}{es:List Expr}(hc:jA X (.type T) rel)(hr:COk X.K X.mg rel f)(hg:Gl X x)(hm:X.mg x=none)(hv:bootBuiltins x=some (.type T))(ha:AOk X (e::es) m)(hn:x≠"__name__":=by decide)(hdb:(x==("__debug__":Str))=false:=by decide)
  (he:zO e=false:=by rfl) (hpl:z9 es=true:=by rfl):EOk X (.Call (.Name x p) (e::es) [] pos) (eCB f m) :=
 zi (um hc hg hm hv ha hn hdb (zI he) (yd hpl)) λσ H Q q=>vE hr q
end
end DV
namespace DV
open PySem L2
section
variable{X:Cx}{K:PySem.W.Frag}{mg:Str->Option Value}
theorem zL{H:Hp}{i:Int}{v:V}(h:Rep K mg H (.int i) v):v=.int i:=by simpa only[Rep]using h
theorem yD{H:Hp}{i:Bool}{v:V}(h:Rep K mg H (.bl i) v):v=.bl i:=by simpa only[Rep]using h
theorem jE{H:Hp}{i:Str}{v:V}(h:Rep K mg H (.str i) v):v=.str i:=by simpa only[Rep]using h
theorem yf{H:Hp}{v:V}(h:Rep K mg H .non v):v=.non:=by simpa only[Rep]using h
theorem zU{H:Hp}{ds:List D}{v:V}(h:Rep K mg H (.tup ds) v):∃a xs,v=.ref a/\SqT K H a xs/\Reps K mg H ds xs:=by simpa only[Rep]using h
theorem zM{H:Hp}{ds:List D}{v:V}(h:Rep K mg H (.lst ds) v):∃a xs,v=.ref a/\SqL K H a xs/\Reps K mg H ds xs:=by simpa only[Rep]using h
theorem zP{H:Hp}{d:D}{v:V}(hf:flat d=true)(h:Rep K mg H d v):v=flV d:=by
 cases d<;>simp[flat]at hf<;>simpa only[Rep,flV]using h
def uP:D->D->Option R
 | .int i,.int j=>some (.val (.int (i+j)))
 | .tup a,.tup b=>if a.length+b.length<=cap then some (.val (.tup (a++b)))else none
 | .lst a,.lst b=>if a.length+b.length<=cap then some (.own (a++b))else none
 |_,_=>none
def rAddD(K:PySem.W.Frag):R2:=λx y H Q=>rI0 (λi j=>.int (i+j)) x y H Q\/(zAs K x y H Q\/rCatL K x y H Q)
theorem op_addD:OpR X (binaryOp .Add) (rAddD X.K):=op_add.or (Qo.or op_catL)
theorem ro_add:ROk K mg (rAddD K) uP:=by
 intro M H Z x y d1 d2 res Q f r1 r2 e k;cases d1 with
 |int i =>
  cases d2 with
  |int j =>
   cases e;exact .inl ⟨i,j,zL r1,zL r2,k.flat f rfl⟩
  |_=>cases e
 |tup a =>
  cases d2 with
  |tup b =>
   simp only[uP]at e;split at e
   ·rename_i hc
    cases e;obtain⟨p,xs,rfl,h1,h2⟩:=zU r1;obtain⟨q,ys,rfl,h3,h4⟩:=zU r2;have l1:=h2.length;have l2:=h4.length;refine .inr (.inl ⟨p,q,xs,ys,rfl,rfl,zr zF h1,zr zF h3,by rw[l1,l2];exact jf hc,λe=>?_,λ_ e=>?_,λ_ _ p' hp=>k.tup f hp (h2.append h4)⟩)
    ·subst e
     have:a=[]:=by simpa using l1.symm
     subst this;exact k.rep f (by simpa using r2)
    ·subst e
     have:b=[]:=by simpa using l2.symm
     subst this;exact k.rep f (by simpa using r1)
   ·cases e
  |_=>cases e
 |lst a =>
  cases d2 with
  |lst b =>
   simp only[uP]at e;split at e
   ·rename_i hc
    cases e;obtain⟨p,xs,rfl,h1,h2⟩:=zM r1;obtain⟨q,ys,rfl,h3,h4⟩:=zM r2;have l1:=h2.length;have l2:=h4.length;exact .inr (.inr ⟨p,q,xs,ys,rfl,rfl,zF.seq h1,zF.seq h3,by rw[l1,l2];exact jf hc,λp' hp=>k.own f hp (h2.append h4)⟩)
   ·cases e
  |_=>cases e
 |_=>cases e
def GH(C:Int->Int->Bool)(g:Int->Int->D):D->D->Option R
 | .int i,.int j=>if C i j=true then some (.val (g i j))else none
 |_,_=>none
theorem GI{C:Int->Int->Bool}{P:Int->Int->Prop}{g:Int->Int->D}{gv:Int->Int->V}(hC:∀i j,C i j=true->P i j)(hg:∀i j,flat (g i j)=true/\flV (g i j)=gv i j):ROk K mg (rI P gv) (GH C g):=by
 intro M H Z x y d1 d2 res Q f r1 r2 e k;cases d1 with
 |int i =>
  cases d2 with
  |int j =>
   simp only[GH]at e;split at e
   ·rename_i hc
    cases e;refine⟨i,j,zL r1,zL r2,hC i j hc,?_⟩;have:=k.flat f (hg i j).1;rw[(hg i j).2]at this;exact this
   ·cases e
  |_=>cases e
 |_=>cases e
def Qt(g:Int->Int->D):D->D->Option R
 | .int i,.int j=>some (.val (g i j))
 |_,_=>none
theorem YX{g:Int->Int->D}{gv:Int->Int->V}(hg:∀i j,flat (g i j)=true/\flV (g i j)=gv i j):ROk K mg (rI0 gv) (Qt g):=by
 intro M H Z x y d1 d2 res Q f r1 r2 e k;cases d1 with
 |int i =>
  cases d2 with
  |int j =>
   cases e;refine⟨i,j,zL r1,zL r2,?_⟩;have:=k.flat f (hg i j).1;rw[(hg i j).2]at this;exact this
  |_=>cases e
 |_=>cases e
abbrev subD:=Qt λi j=>.int (i-j)
theorem ro_sub:ROk K mg (rI0 λi j=>.int (i-j)) subD:=YX λ_ _=>⟨rfl,rfl⟩
def Big:Nat:=2^4000
theorem GJ{n:Nat}(h:n<Big):n.log2<4000:=by
 by_cases h0:n=0
 ·subst h0;decide +kernel
 ·exact(Nat.log2_lt h0).mpr h
theorem vF{i:Int}(h:i.natAbs<Big):Builtin.Int.intBits i<=4000:=by
 unfold Builtin.Int.intBits;split
 ·exact zero_le _
 ·exact GJ h
theorem big_mul{i j:Int}(h1:i.natAbs<Big)(h2:j.natAbs<Big):IntMulOk i j:=by
 have b1:=vF h1;have b2:=vF h2;unfold IntMulOk;have:Builtin.Int.intTooBig (((Builtin.Int.intBits i:Nat):Int)+(Builtin.Int.intBits j:Nat))=false:=by
  unfold Builtin.Int.intTooBig bitsLine;simp only[decide_eq_false_iff_not];have:(2^27:Nat)=134217728:=by decide
  omega
 rw[this,Bool.and_false];decide
def CDivB(i j:Int):Prop:=0<j/\(j<1073741824\/j.natAbs<Big)
theorem Qu:OpR X (binaryOp .FloorDiv) (rI CDivB λi j=>.int (i/j)):=opI λi j _ _ _ _ _ hc q=>by
 have h1:(0:Int)<j:=hc.1;refine PyProof.Rows.floordiv_int (by omega) (by rw[Int.fdiv_eq_ediv_of_nonneg i (by omega)];exact q) (.inl ?_);rcases hc.2 with h|h
 ·exact PyProof.noPylong_small (by omega)
 ·exact PyProof.noPylong_of_log2 (lt_of_lt_of_le (GJ h) (by decide))
def CMulB(i j:Int):Prop:=CMul i j\/(i.natAbs<Big/\j.natAbs<Big)
theorem op_mulB:OpR X (binaryOp .Mult) (rI CMulB λi j=>.int (i*j)):=opI λ_ _ _ _ _ _ _ hc q=>PyProof.Rows.mul_int q (by
 rcases hc with h|h
 ·exact h.ok
 ·exact big_mul h.1 h.2)
abbrev Qv:=GH (λ_ j=>decide (0<j/\(j<1073741824\/j.natAbs<Big))) λi j=>.int (i/j)
theorem ro_fdiv:ROk K mg (rI CDivB λi j=>.int (i/j)) Qv:=GI (λi j h=>(of_decide_eq_true h:0<j/\(j<1073741824\/j.natAbs<Big))) λ_ _=>⟨rfl,rfl⟩
abbrev zAv:=GH (λ_ j=>decide (0<j)) λi j=>.int (i%j)
theorem ro_mod:ROk K mg (rI (λ_ j=>0<j) λi j=>.int (i%j)) zAv:=GI (λi j h=>of_decide_eq_true h) λ_ _=>⟨rfl,rfl⟩
abbrev powD:=GH (λi j=>decide (0<=j/\j<=1000000/\i.natAbs<2^64)) λi j=>.int (i^j.toNat)
theorem ro_pow:ROk K mg (rI CPow λi j=>.int (i^j.toNat)) powD:=GI (λi j h=>(of_decide_eq_true h:0<=j/\j<=1000000/\i.natAbs<2^64)) λ_ _=>⟨rfl,rfl⟩
def vG:D->D->Option R
 | .int i,.int j=>if((-(2^64)<i/\i<2^64)\/(-(2^64)<j/\j<2^64))\/(i.natAbs<Big/\j.natAbs<Big)then some (.val (.int (i*j)))else none
 | .tup a,.int k=>if -(2^63)<=k/\k<2^63/\a.length*k.toNat<=cap then some (.val (.tup (replicate k.toNat a).flatten))else none
 |_,_=>none
def rMulD(K:PySem.W.Frag):R2:=λx y H Q=>rI CMulB (λi j=>.int (i*j)) x y H Q\/rRepT K x y H Q
theorem op_mulD:OpR X (binaryOp .Mult) (rMulD X.K):=op_mulB.or op_repT
theorem ro_mul:ROk K mg (rMulD K) vG:=by
 intro M H Z x y d1 d2 res Q f r1 r2 e k;cases d1 with
 |int i =>
  cases d2 with
  |int j =>
   simp only[vG]at e;split at e
   ·rename_i hc
    cases e;exact .inl ⟨i,j,zL r1,zL r2,hc,k.flat f rfl⟩
   ·cases e
  |_=>cases e
 |tup a =>
  cases d2 with
  |int n =>
   simp only[vG]at e;split at e
   ·rename_i hc
    cases e;obtain⟨p,xs,rfl,h1,h2⟩:=zU r1;have l1:=h2.length;refine .inr ⟨p,n,xs,rfl,zL r2,zr zF h1,hc.1,hc.2.1,by rw[l1];exact jf hc.2.2,λe=>?_,λp' hp=>k.tup f hp (h2.flatten _)⟩;refine k.rep f ?_;rcases e with e|e
    ·subst e
     have:a=[]:=by simpa using l1.symm
     subst this;simpa using r1
    ·subst e
     simpa using r1
   ·cases e
  |_=>cases e
 |_=>cases e
abbrev ltD:=Qt λi j=>.bl (decide (i<j))
theorem ro_lt:ROk K mg (rI0 λi j=>.bl (decide (i<j))) ltD:=YX λ_ _=>⟨rfl,rfl⟩
abbrev leD:=Qt λi j=>.bl (decide (i<=j))
theorem ro_le:ROk K mg (rI0 λi j=>.bl (decide (i<=j))) leD:=YX λ_ _=>⟨rfl,rfl⟩
abbrev gtD:=Qt λi j=>.bl (decide (j<i))
theorem ro_gt:ROk K mg (rI0 λi j=>.bl (decide (j<i))) gtD:=YX λ_ _=>⟨rfl,rfl⟩
abbrev geD:=Qt λi j=>.bl (decide (j<=i))
theorem ro_ge:ROk K mg (rI0 λi j=>.bl (decide (j<=i))) geD:=YX λ_ _=>⟨rfl,rfl⟩
def eqF:D->D->Option R
 | .int i,.int j=>some (.val (.bl (decide (i=j))))
 | .bl i,.bl j=>some (.val (.bl (decide (i=j))))
 | .str i,.str j=>some (.val (.bl (decide (i=j))))
 |_,_=>none
def neF:D->D->Option R
 | .int i,.int j=>some (.val (.bl (!decide (i=j))))
 | .bl i,.bl j=>some (.val (.bl (!decide (i=j))))
 | .str i,.str j=>some (.val (.bl (!decide (i=j))))
 |_,_=>none
theorem vint{i j:Int}:decide (V.int i=V.int j)=decide (i=j):=by simp
theorem vbl{i j:Bool}:decide (V.bl i=V.bl j)=decide (i=j):=by simp
theorem vstr{i j:Str}:decide (V.str i=V.str j)=decide (i=j):=by simp
theorem ro_eq:ROk K mg rEq eqF:=by
 intro M H Z x y d1 d2 res Q f r1 r2 e k;cases d1<;>cases d2<;>cases e
 ·rw[yD r1,yD r2];refine⟨rfl,?_⟩;rw[vbl];exact k.flat f rfl
 ·rw[zL r1,zL r2];refine⟨rfl,?_⟩;rw[vint];exact k.flat f rfl
 ·rw[jE r1,jE r2];refine⟨rfl,?_⟩;rw[vstr];exact k.flat f rfl
theorem ro_ne:ROk K mg rNe neF:=by
 intro M H Z x y d1 d2 res Q f r1 r2 e k;cases d1<;>cases d2<;>cases e
 ·rw[yD r1,yD r2];refine⟨rfl,?_⟩;rw[vbl];exact k.flat f rfl
 ·rw[zL r1,zL r2];refine⟨rfl,?_⟩;rw[vint];exact k.flat f rfl
 ·rw[jE r1,jE r2];refine⟨rfl,?_⟩;rw[vstr];exact k.flat f rfl
def inF(neg:Bool)(d:D):D->Option R
 | .tup ds=>if flat d=true/\ds.all flat=true then some (.val (.bl (if neg then !inV (flV d) (ds.map flV)else inV (flV d) (ds.map flV))))else none
 | .lst ds=>if flat d=true/\ds.all flat=true then some (.val (.bl (if neg then !inV (flV d) (ds.map flV)else inV (flV d) (ds.map flV))))else none
 |_=>none
theorem YY{H:Hp}:∀{ds:List D} {xs:List V},ds.all flat=true->Reps K mg H ds xs->xs=ds.map flV
 | [],_,_,h=>by simp only[Reps]at h;subst h;rfl
 |d::ds,_,hf,h=>by
  simp only[Reps]at h;obtain⟨v,r,rfl,h1,h2⟩:=h;simp only[all_cons,Bool.and_eq_true]at hf;rw[zP hf.1 h1,YY hf.2 h2];rfl
theorem zu{d:D}(h:flat d=true):wA (flV d)=true:=by cases d<;>simp[flat]at h<;>rfl
theorem YZ:∀{ds:List D},ds.all flat=true->(ds.map flV).all wA=true
 | [],_=>rfl
 |d::ds,h=>by
  simp only[all_cons,Bool.and_eq_true]at h;simp only[map_cons,all_cons,Bool.and_eq_true];exact⟨zu h.1,YZ h.2⟩
theorem ro_in{neg:Bool}:ROk K mg (rIn K neg) (inF neg):=by
 intro M H Z x y d1 d2 res Q f r1 r2 e k;cases d2 with
 |tup ds =>
  simp only[inF]at e;split at e
  ·rename_i hc
   cases e;obtain⟨p,xs,rfl,h1,h2⟩:=zU r2;rw[zP hc.1 r1];have:=YY hc.2 h2;subst this;exact⟨p,_,rfl,.inr (zr zF h1),zu hc.1,YZ hc.2,k.flat f rfl⟩
  ·cases e
 |lst ds =>
  simp only[inF]at e;split at e
  ·rename_i hc
   cases e;obtain⟨p,xs,rfl,h1,h2⟩:=zM r2;rw[zP hc.1 r1];have:=YY hc.2 h2;subst this;exact⟨p,_,rfl,.inl (zF.seq h1),zu hc.1,YZ hc.2,k.flat f rfl⟩
  ·cases e
 |_=>cases e
def ixD:D->D->Option R
 | .tup ds,.int i=>(atI ds i).map .val
 | .lst ds,.int i=>(atI ds i).map .val
 |_,_=>none
theorem YA{H:Hp}{ds:List D}{xs:List V}{i:Int}{d:D}(h:Reps K mg H ds xs)(e:atI ds i=some d):∃v,atI xs i=some v/\Rep K mg H d v:=by
 unfold atI at e ⊢;have hl:=h.length;rw[hl];cases hj:ixN ds.length i with
 |none=>rw[hj]at e;cases e
 |some j =>
  rw[hj]at e;exact h.get' e
theorem ro_ix:ROk K mg (λx y H Q=>rIxL K x y H Q\/rIxT K x y H Q) ixD:=by
 intro M H Z x y d1 d2 res Q f r1 r2 e k;cases d1 with
 |tup ds =>
  cases d2 with
  |int i =>
   simp only[ixD]at e;cases ea:atI ds i with
   |none=>rw[ea]at e;cases e
   |some d =>
    rw[ea]at e;cases e;obtain⟨p,xs,rfl,h1,h2⟩:=zU r1;obtain⟨v,e1,e2⟩:=YA h2 ea;exact .inr ⟨p,xs,i,v,rfl,zL r2,zr zF h1,e1,k.rep f e2⟩
  |_=>cases e
 |lst ds =>
  cases d2 with
  |int i =>
   simp only[ixD]at e;cases ea:atI ds i with
   |none=>rw[ea]at e;cases e
   |some d =>
    rw[ea]at e;cases e;obtain⟨p,xs,rfl,h1,h2⟩:=zM r1;obtain⟨v,e1,e2⟩:=YA h2 ea;exact .inl ⟨p,xs,i,v,rfl,zL r2,zF.seq h1,e1,k.rep f e2⟩
  |_=>cases e
 |_=>cases e
theorem ix_both:IxR X (λx y H Q=>rIxL X.K x y H Q\/rIxT X.K x y H Q):=ut.or ix_tup
def lenD:List D->Option R
 | [.tup ds]=>some (.val (.int ds.length))
 | [.lst ds]=>some (.val (.int ds.length))
 |_=>none
theorem Ju{H:Hp}{d:D}{xs:List V}(h:Reps K mg H [d] xs):∃v,xs=[v]/\Rep K mg H d v:=by
 simp only[Reps]at h;obtain⟨v,r,rfl,h1,rfl⟩:=h;exact⟨v,rfl,h1⟩
theorem reps2{H:Hp}{d e:D}{xs:List V}(h:Reps K mg H [d,e] xs):∃v w,xs=[v,w]/\Rep K mg H d v/\Rep K mg H e w:=by
 simp only[Reps]at h;obtain⟨v,r,rfl,h1,w,r',rfl,h2,rfl⟩:=h;exact⟨v,w,rfl,h1,h2⟩
theorem co_len:COk K mg (λxs H Q=>∃p ys,xs=[.ref p]/\(SqL K H p ys\/SqT K H p ys)/\Q (.int ys.length) H) lenD:=by
 intro M H Z xs ds res Q f r e k
 match ds,e with
 | [.tup ds],e =>
  cases e;obtain⟨v,rfl,h⟩:=Ju r;obtain⟨p,ys,rfl,h1,h2⟩:=zU h;refine⟨p,ys,rfl,.inr (zr zF h1),?_⟩;rw[h2.length];exact k.flat f rfl
 | [.lst ds],e =>
  cases e;obtain⟨v,rfl,h⟩:=Ju r;obtain⟨p,ys,rfl,h1,h2⟩:=zM h;refine⟨p,ys,rfl,.inl (zF.seq h1),?_⟩;rw[h2.length];exact k.flat f rfl
def QN:List D->Option R
 | [.int i,.int j]=>some (.val (.int (if j > i then j else i)))
 |_=>none
theorem co_max:COk K mg (λxs H Q=>∃i j,xs=[.int i,.int j]/\Q (.int (if j > i then j else i)) H) QN:=by
 intro M H Z xs ds res Q f r e k
 match ds,e with
 | [.int i,.int j],e =>
  cases e;obtain⟨v,w,rfl,h1,h2⟩:=reps2 r;exact⟨i,j,by rw[zL h1,zL h2],k.flat f rfl⟩
def intF:List D->Option R
 | [.int i]=>some (.val (.int i))
 | [.bl b]=>some (.val (.int (if b then 1 else 0)))
 |_=>none
theorem co_int:COk K mg (λxs H Q=>(∃i,xs=[.int i]/\Q (.int i) H)\/∃k,xs=[.bl k]/\Q (.int (if k then 1 else 0)) H) intF:=by
 intro M H Z xs ds res Q f r e k
 match ds,e with
 | [.int i],e =>
  cases e;obtain⟨v,rfl,h1⟩:=Ju r;exact .inl ⟨i,by rw[zL h1],k.flat f rfl⟩
 | [.bl b],e =>
  cases e;obtain⟨v,rfl,h1⟩:=Ju r;exact .inr ⟨b,by rw[yD h1],k.flat f rfl⟩
def zAw:List D->Option R
 | [.lst ds]=>some (.val (.tup ds))
 | [.tup ds]=>some (.val (.tup ds))
 |_=>none
theorem Qw:COk K mg (λxs H Q=>∃p ys,xs=[.ref p]/\((SqL K H p ys/\∀l,H l=none->Q (.ref l) (upd H l (.tup ys)))\/(SqT K H p ys/\Q (.ref p) H))) zAw:=by
 intro M H Z xs ds res Q f r e k
 match ds,e with
 | [.lst ds],e =>
  cases e;obtain⟨v,rfl,h⟩:=Ju r;obtain⟨p,ys,rfl,h1,h2⟩:=zM h;exact⟨p,ys,rfl,.inl ⟨zF.seq h1,λl hl=>k.tup f hl h2⟩⟩
 | [.tup ds],e =>
  cases e;obtain⟨v,rfl,h⟩:=Ju r;have h':=h;obtain⟨p,ys,rfl,h1,h2⟩:=zU h;exact⟨p,ys,rfl,.inr ⟨zr zF h1,k.rep f h'⟩⟩
def listD:List D->Option R
 | [.lst ds]=>some (.own ds)
 | [.tup ds]=>some (.own ds)
 |_=>none
theorem co_list:COk K mg (λxs H Q=>∃p ys,xs=[.ref p]/\(SqL K H p ys\/SqT K H p ys)/\∀l,H l=none->Q (.ref l) (upd H l (.lst ys))) listD:=by
 intro M H Z xs ds res Q f r e k
 match ds,e with
 | [.lst ds],e =>
  cases e;obtain⟨v,rfl,h⟩:=Ju r;obtain⟨p,ys,rfl,h1,h2⟩:=zM h;exact⟨p,ys,rfl,.inl (zF.seq h1),λl hl=>k.own f hl h2⟩
 | [.tup ds],e =>
  cases e;obtain⟨v,rfl,h⟩:=Ju r;obtain⟨p,ys,rfl,h1,h2⟩:=zU h;exact⟨p,ys,rfl,.inr (zr zF h1),λl hl=>k.own f hl h2⟩
def yg:List D->Option (List Bool)
 | []=>some []
 | .bl b::ds=>(yg ds).map (b::·)
 |_=>none
theorem j6{H:Hp}:∀{ds:List D} {xs:List V} {bs:List Bool},yg ds=some bs->Reps K mg H ds xs->xs=bs.map V.bl
 | [],_,_,e,h=>by cases e;simp only[Reps]at h;subst h;rfl
 |d::ds,_,bs,e,h=>by
  simp only[Reps]at h;obtain⟨v,r,rfl,h1,h2⟩:=h;cases d with
  |bl b =>
   simp only[yg]at e;cases eb:yg ds with
   |none=>rw[eb]at e;cases e
   |some cs =>
    rw[eb]at e;cases e;rw[yD h1,j6 eb h2];rfl
  |_=>cases e
def allD:List D->Option R
 | [.lst ds]=>(yg ds).map λbs=>.val (.bl (bs.all id))
 |_=>none
theorem co_all:COk K mg (λxs H Q=>∃(p:Addr) (bs:List Bool),xs=[.ref p]/\SqL K H p (bs.map V.bl)/\Q (.bl (bs.all id)) H) allD:=by
 intro M H Z xs ds res Q f r e k
 match ds,e with
 | [.lst ds],e =>
  simp only[allD]at e;cases eb:yg ds with
  |none=>rw[eb]at e;cases e
  |some bs =>
   rw[eb]at e;cases e;obtain⟨v,rfl,h⟩:=Ju r;obtain⟨p,ys,rfl,h1,h2⟩:=zM h;have:=j6 eb h2;subst this;exact⟨p,bs,rfl,zF.seq h1,k.flat f rfl⟩
end
end DV
namespace DV
open PySem L2
abbrev MO:=zR->Out (Option Int×zR)
def tMO(X:Cx)(m:MO):TO:=λσ H Q=>∃M E,E.length=σ.length/\FR X.K X.mg M H (σ.zip E)/\match m E with
 | .stuck=>False
 | .ok (b,E')=>∀H',Got X.K X.mg M σ E H [] σ E' H' []->Q b H'
 | .exc x E'=>∀H',Got X.K X.mg M σ E H [] σ E' H' []->XE X σ H' x
section
variable{X:Cx}{K:PySem.W.Frag}{mg:Str->Option Value}{σ:St}{M:Addr->Prop}{E:zR}{H:Hp}{T0:Fz}
theorem GK{m:MO}{Q:Option Int->Hp->Prop}(hl:E.length=σ.length)(h:FR X.K X.mg M H (T0++σ.zip E))
  (k:match m E with | .stuck=>False | .ok (b,E')=>∀H',Got X.K X.mg M σ E H T0 σ E' H' []->Q b H' | .exc x E'=>∀H',Got X.K X.mg M σ E H T0 σ E' H' []->XE X σ H' x):tMO X m σ H Q:=by
 refine⟨Mo M T0,E,hl,h.inner,?_⟩;cases e:m E with
 |stuck=>rw[e]at k;exact k
 |ok a=>rw[e]at k;exact λH' g=>k H' (g.outer h)
 |exc x E'=>rw[e]at k;exact λH' g=>k H' (g.outer h)
abbrev OOk(X:Cx)(e:Option Expr)(m:MO):Prop:=PO X e (tMO X m)
theorem zAx{e:Option Expr}{t t':TO}(h:PO X e t)(i:∀σ H Q,t' σ H Q->t σ H Q):PO X e t':=λpins s σ H Q I q=>h pins s σ H Q I (i σ H Q q)
def oNone:MO:=λE=>.ok (none,E)
def Qx(m:ME):MO:=λE=>match m E with
 | .ok (.val (.int i),E1)=>.ok (some i,E1)
 | .exc x E1=>.exc x E1
 |_=>.stuck
theorem oo_none:OOk X none oNone:=zAx po_none λσ H Q ⟨M,E,hl,fr,k⟩=>k H (Got.refl (T0:=[]) hl fr)
theorem oo_some{e:Expr}{m:ME}(h:EOk X e m):OOk X (some e) (Qx m):=zAx (po_some h) λσ H Q ⟨M,E,hl,fr,k⟩=>by
 unfold Qx at k;refine ze (T0:=[]) hl fr ?_;cases ea:m E with
 |stuck=>rw[ea]at k;exact k
 |exc x E1=>rw[ea]at k;exact k
 |ok p =>
  obtain⟨r,E1⟩:=p;rw[ea]at k;cases r with
  |own ds=>exact k.elim
  |val d =>
   cases d with
   |int i =>
    intro v H' g;exact⟨i,zL g.rep,k H' g.dropAll⟩
   |_=>exact k.elim
def eSl(f:D->Option Int->Option Int->Option R)(a:ME)(lo hi:MO):ME:=λE=>match a E with
 | .stuck=>.stuck
 | .exc x E1=>.exc x E1
 | .ok (r,E1)=>match lo E1 with
  | .stuck=>.stuck
  | .exc x E2=>.exc x E2
  | .ok (l,E2)=>match hi E2 with
   | .stuck=>.stuck
   | .exc x E3=>.exc x E3
   | .ok (u,E3)=>match f r.d l u with
    |some r=>.ok (r,E3)
    |none=>.stuck
def vH(ds:List D)(lo hi:Option Int):List D:=(ds.drop (HT.sIx ds.length 0 lo)).take (HT.sIx ds.length ds.length hi-HT.sIx ds.length 0 lo)
def slD:D->Option Int->Option Int->Option R
 | .tup ds,lo,hi=>some (.val (.tup (vH ds lo hi)))
 | .lst ds,lo,hi=>some (.own (vH ds lo hi))
 |_,_,_=>none
theorem vI{ds:List D}{xs:List V}(h:Reps K mg H ds xs)(lo hi:Option Int):Reps K mg H (vH ds lo hi) (Qd xs lo hi):=by
 unfold vH Qd;rw[h.length];exact(h.drop _).take _
theorem sl_run{a:ME}{lo hi:MO}{Q:VK}(h:tM X (eSl slD a lo hi) σ H Q):tSl (λx l u H Q=>rSlTT X.K x l u H Q\/rSlL X.K x l u H Q) (tM X a) (tMO X lo) (tMO X hi) σ H Q:=by
 obtain⟨M,E,hl,fr,k⟩:=h;unfold eSl at k;refine ze (T0:=[]) hl fr ?_;cases ea:a E with
 |stuck=>rw[ea]at k;exact k
 |exc x E1=>rw[ea]at k;exact λH' g=>k H' g
 |ok p =>
  obtain⟨r1,E1⟩:=p;rw[ea]at k;intro x H1 g1;refine GK (T0:=[(some x,r1.slot)]) g1.len g1.fr ?_;dsimp only at k;cases eb:lo E1 with
  |stuck=>rw[eb]at k;exact k
  |exc x E2=>rw[eb]at k;exact λH' g=>k H' (g1.trans' g).dropAll
  |ok p =>
   obtain⟨l,E2⟩:=p;rw[eb]at k;intro H2 g2;have g12:=g1.trans' g2;refine GK (T0:=[(some x,r1.slot)]) g12.len g12.fr ?_;dsimp only at k;cases ec:hi E2 with
   |stuck=>rw[ec]at k;exact k
   |exc x E3=>rw[ec]at k;exact λH' g=>k H' (g12.trans' g).dropAll
   |ok p =>
    obtain⟨u,E3⟩:=p;rw[ec]at k;intro H3 g3;have g:=g12.trans' g3;have rx:=g.rep;dsimp only at k;have f:=g.frame;cases ed:r1.d with
    |tup ds =>
     rw[ed]at k rx;have k':Kt X.K X.mg M H3 (σ.zip E3) (.val (.tup (vH ds l u))) Q:=λv H' f' s'=>k v H' (g.more (T:=[(some v,_)]) f' s')
     obtain⟨p,xs,rfl,h1,h2⟩:=zU rx;refine .inl ⟨p,xs,rfl,zr zF h1,λhw=>k'.rep f ?_,λ_ p' hp=>k'.tup f hp (vI h2 l u)⟩;have:vH ds l u=ds:=by
      have hl:=h2.length;rw[hl]at hw;unfold vH;rw[hw.1,hw.2];simp
     rw[this];exact rx
    |lst ds =>
     rw[ed]at k rx;have k':Kt X.K X.mg M H3 (σ.zip E3) (.own (vH ds l u)) Q:=λv H' f' s'=>k v H' (g.more (T:=[(some v,_)]) f' s')
     obtain⟨p,xs,rfl,h1,h2⟩:=zM rx;exact .inr ⟨p,xs,rfl,zF.seq h1,λp' hp=>k'.own f hp (vI h2 l u)⟩
    |_=>rw[ed]at k;exact k.elim
theorem ok_sl{a:Expr}{lo hi:Option Expr}{ma:ME}{ml mh:MO}{p2 pos:Pos}(ha:EOk X a ma)(hl:OOk X lo ml)(hh:OOk X hi mh):EOk X (.Subscript a (.Slice lo hi none p2) pos) (eSl slD ma ml mh) :=
 zi (Qc (sl_tupT.or sl_list) ha hl hh) λσ H Q=>sl_run
def tyD:D->Option String
 | .non=>some "NoneType"
 | .bl _=>some "bool"
 | .int _=>some "int"
 | .str _=>some "str"
 | .tup _=>some "tuple"
 | .lst _=>some "list"
 | .dic=>some "dict"
 | .fn _=>none
 | .exn _=>none
def Z7(t T:String):Bool:=t==T||(t == "bool"&&T == "int")
theorem Qy{T:String}(hk:∀t∈["NoneType","bool","int","str","tuple","list","dict"],kitOne X.K (.type t) (.type T)=some (Z7 t T)) :
  jA X (.builtin "isinstance") (λxs H Q=>∃x d t,xs=[x,.ty T]/\Rep X.K X.mg H d x/\tyD d=some t/\Q (.bl (Z7 t T)) H):=by
 intro pins s σ H xs us Q I r h;obtain⟨x,d,t,rfl,rd,et,q⟩:=h;obtain⟨u,w',rfl,rx,ry⟩:=vals2 r;cases (show w'=Value.type T from ry);have fin:∀tk,EP X pins σ Q (.bool (Z7 t T)) {s with toks:=tk}:=λtk=>⟨.bl _,H,I.tok tk,rfl,q⟩
 cases d with
 |non=>cases et;rw[yf rd]at rx;cases (show u=Value.none from rx);exact kia_one PySem.W.kitx_none I.kIn True.intro (hk _ (by simp)) (λz=>nomatch z) fin
 |bl b=>cases et;rw[yD rd]at rx;cases (show u=Value.bool b from rx);exact kia_one PySem.W.kitx_bool I.kIn True.intro (hk _ (by simp)) (λz=>nomatch z) fin
 |int i=>cases et;rw[zL rd]at rx;obtain⟨t,q⟩:=(show ∃t,u=Value.int i t from rx);cases q;exact kia_one PySem.W.kitx_int I.kIn True.intro (hk _ (by simp)) (λz=>nomatch z) fin
 |str y=>cases et;rw[jE rd]at rx;obtain⟨t,q⟩:=(show ∃t,u=Value.str y t from rx);cases q;exact kia_one PySem.W.kitx_str I.kIn True.intro (hk _ (by simp)) (λz=>nomatch z) fin
 |tup ds =>
  cases et;obtain⟨a,xs,rfl,h1,_⟩:=zU rd;cases (show u=Value.ref a from rx);obtain⟨its,_,p,_⟩:=I.tuple h1;obtain⟨o,e1,e2,_⟩:=p;exact kia_one PySem.W.kitx_tuple I.kIn ⟨o,e1,e2⟩ (hk _ (by simp)) (λz=>nomatch z) fin
 |lst ds =>
  cases et;obtain⟨a,xs,rfl,h1,_⟩:=zM rd;cases (show u=Value.ref a from rx);obtain⟨its,_,p,_⟩:=I.list h1;obtain⟨o,n,e1,e2,_⟩:=p;exact kia_one PySem.W.kitx_list I.kIn ⟨o,e1,e2⟩ (hk _ (by simp)) (λz=>nomatch z) fin
 |dic =>
  cases et;simp only[Rep]at rd;obtain⟨a,rfl,e⟩:=rd;cases (show u=Value.ref a from rx);obtain⟨_,_,vs,_,p⟩:=(show ji X.prog X.w H s.heap a (.dK [])from I.hok a _ e);obtain⟨o,es,ep,h1,h2,_⟩:=p;exact kia_one PySem.W.kitx_dict I.kIn ⟨o,h1,h2.1⟩ (hk _ (by simp)) (λz=>nomatch z) fin
 |fn x=>cases et
 |exn x=>cases et
def eIs(T:String)(m:ME):ME:=λE=>match m E with
 | .stuck=>.stuck
 | .exc x E1=>.exc x E1
 | .ok (r,E1)=>match tyD r.d with
  |some t=>.ok (.val (.bl (Z7 t T)),E1)
  |none=>.stuck
theorem ok_is{T:String}{a:Expr}{m:ME}{x:Str}{p p1 pos:Pos}(hk:∀t∈["NoneType","bool","int","str","tuple","list","dict"],kitOne X.K (.type t) (.type T)=some (Z7 t T))(hg:Gl X "isinstance")(hm:X.mg "isinstance"=none)
  (hgT:Gl X x) (hmT:X.mg x=none) (hvT:bootBuiltins x=some (.type T)) (ha:EOk X a m) (hv:bootBuiltins "isinstance"=some (.builtin "isinstance")) (hn:x≠"__name__":=by decide) (hd:(x==("__debug__":Str))=false:=by decide)
  (he:zO a=false:=by rfl) :
  EOk X (.Call (.Name "isinstance" p) [a,.Name x p1] [] pos) (eIs T m):=by
 refine zi (wq (Qy hk) hg hm hv (yR ha (yR (uY (v:=.ty T) hgT hmT hvT rfl hn hd) wo (zI rfl)) (zI he)) (by decide) (by decide) (zI he) (yd rfl)) λσ H Q ⟨M,E,hl,fr,k⟩=>?_
 unfold eIs at k;refine ze (T0:=[]) hl fr ?_;cases ea:m E with
 |stuck=>rw[ea]at k;exact k
 |exc x E1=>rw[ea]at k;exact k
 |ok pr =>
  obtain⟨r,E1⟩:=pr;rw[ea]at k;intro v H' g;dsimp only at k;cases et:tyD r.d with
  |none=>rw[et]at k;exact k.elim
  |some t =>
   rw[et]at k;exact⟨v,r.d,t,rfl,g.rep.mono zF,et,k _ H' (g.flat (d:=.bl (Z7 t T)) rfl)⟩
inductive Fl where
 |nx
 |ret (r:R)
 |bk
 |ct
 deriving Inhabited
abbrev MS:=zR->Out (Fl×zR)
def KS(X:Cx)(M:Addr->Prop)(σ:St)(E:zR)(H:Hp)(T0:Fz)(D:Ends):Out (Fl×zR)->Prop
 | .stuck=>False
 | .ok (.nx,E')=>∀σ' H',Got X.K X.mg M σ E H T0 σ' E' H' []->D.nx σ' H'
 | .ok (.bk,E')=>∀σ' H',Got X.K X.mg M σ E H T0 σ' E' H' []->D.bk σ' H'
 | .ok (.ct,E')=>∀σ' H',Got X.K X.mg M σ E H T0 σ' E' H' []->D.ct σ' H'
 | .ok (.ret r,E')=>∀v σ' H',Got X.K X.mg M σ E H T0 σ' E' H' [(some v,r.slot)]->D.rt v H'
 | .exc x E'=>∀σ' H',Got X.K X.mg M σ E H T0 σ' E' H' []->XE X σ' H' x
def tS(X:Cx)(m:MS):TS:=λD σ H=>∃M E,E.length=σ.length/\FR X.K X.mg M H (σ.zip E)/\KS X M σ E H [] D (m E)
abbrev SOk(X:Cx)(st:Stmt)(m:MS):Prop:=PS X st (tS X m)
abbrev uQ(X:Cx)(st:List Stmt)(m:MS):Prop:=PSs X st (tS X m)
theorem Z8{m:MS}{D:Ends}(hl:E.length=σ.length)(h:FR X.K X.mg M H (T0++σ.zip E))
  (k:KS X M σ E H T0 D (m E)):tS X m D σ H:=by
 refine⟨Mo M T0,E,hl,h.inner,?_⟩;cases e:m E with
 |stuck=>rw[e]at k;exact k
 |ok a =>
  obtain⟨fl,E'⟩:=a;rw[e]at k;cases fl with
  |nx=>exact λσ' H' g=>k σ' H' (g.outer h)
  |bk=>exact λσ' H' g=>k σ' H' (g.outer h)
  |ct=>exact λσ' H' g=>k σ' H' (g.outer h)
  |ret r=>exact λv σ' H' g=>k v σ' H' (g.outer h)
 |exc x E'=>rw[e]at k;exact λσ' H' g=>k σ' H' (g.outer h)
def QO:MS:=λE=>.ok (.nx,E)
def vJ(a b:MS):MS:=λE=>match a E with
 | .ok (.nx,E1)=>b E1
 |o=>o
theorem sk_nil:uQ X [] QO:=GD pss_nil λD σ H ⟨M,E,hl,fr,k⟩=>k σ H (Got.refl (T0:=[]) hl fr)
theorem sk_one{st:Stmt}{m:MS}(h:SOk X st m):uQ X [st] m:=pss_one h
theorem seq_run{a b:MS}{D:Ends}(h:tS X (vJ a b) D σ H):tSeq (tS X a) (tS X b) D σ H:=by
 obtain⟨M,E,hl,fr,k⟩:=h;unfold vJ at k;refine Z8 (T0:=[]) hl fr ?_;cases ea:a E with
 |stuck=>rw[ea]at k;exact k
 |exc x E1=>rw[ea]at k;exact k
 |ok p =>
  obtain⟨fl,E1⟩:=p;rw[ea]at k;cases fl with
  |bk=>exact k
  |ct=>exact k
  |ret r=>exact k
  |nx =>
   intro σ1 H1 g1;refine Z8 (T0:=[]) g1.len g1.fr ?_;dsimp only at k;cases eb:b E1 with
   |stuck=>rw[eb]at k;exact k
   |exc x E2=>rw[eb]at k;exact λσ' H' g=>k σ' H' (g1.trans' g)
   |ok p =>
    obtain⟨fl2,E2⟩:=p;rw[eb]at k;cases fl2 with
    |nx=>exact λσ' H' g=>k σ' H' (g1.trans' g)
    |bk=>exact λσ' H' g=>k σ' H' (g1.trans' g)
    |ct=>exact λσ' H' g=>k σ' H' (g1.trans' g)
    |ret r=>exact λv σ' H' g=>k v σ' H' (g1.trans' g)
theorem sk_cons{st:Stmt}{Jq:List Stmt}{a b:MS}(h1:SOk X st a)(h2:uQ X Jq b):uQ X (st::Jq) (vJ a b):=GD (QU h1 h2) λD σ H=>seq_run
def sIf(c:MT)(a b:MS):MS:=λE=>match c E with
 | .ok (true,E1)=>a E1
 | .ok (false,E1)=>b E1
 | .exc x E1=>.exc x E1
 | .stuck=>.stuck
theorem tS_go{m:MS}{D:Ends}{σ1:St}{E1:zR}{H1:Hp}(g1:Got X.K X.mg M σ E H [] σ1 E1 H1 [])
  (k:match m E1 with
   | .stuck=>False
   | .ok (.nx,E')=>∀σ' H',Got X.K X.mg M σ E H [] σ' E' H' []->D.nx σ' H'
   | .ok (.bk,E')=>∀σ' H',Got X.K X.mg M σ E H [] σ' E' H' []->D.bk σ' H'
   | .ok (.ct,E')=>∀σ' H',Got X.K X.mg M σ E H [] σ' E' H' []->D.ct σ' H'
   | .ok (.ret r,E')=>∀v σ' H',Got X.K X.mg M σ E H [] σ' E' H' [(some v,r.slot)]->D.rt v H'
   | .exc x E'=>∀σ' H',Got X.K X.mg M σ E H [] σ' E' H' []->XE X σ' H' x):tS X m D σ1 H1:=by
 refine Z8 (T0:=[]) g1.len g1.fr ?_;cases eb:m E1 with
 |stuck=>rw[eb]at k;exact k
 |exc x E2=>rw[eb]at k;exact λσ' H' g=>k σ' H' (g1.trans' g)
 |ok p =>
  obtain⟨fl2,E2⟩:=p;rw[eb]at k;cases fl2 with
  |nx=>exact λσ' H' g=>k σ' H' (g1.trans' g)
  |bk=>exact λσ' H' g=>k σ' H' (g1.trans' g)
  |ct=>exact λσ' H' g=>k σ' H' (g1.trans' g)
  |ret r=>exact λv σ' H' g=>k v σ' H' (g1.trans' g)
theorem sif_run{c:MT}{a b:MS}{D:Ends}(h:tS X (sIf c a b) D σ H):tIfS (tMT X c) (tS X a) (tS X b) D σ H:=by
 obtain⟨M,E,hl,fr,k⟩:=h;unfold sIf at k;refine wQ (T0:=[]) hl fr ?_;cases ea:c E with
 |stuck=>rw[ea]at k;exact k
 |exc x E1=>rw[ea]at k;exact λH' g=>k σ H' g
 |ok p =>
  obtain⟨t,E1⟩:=p;rw[ea]at k;intro H1 g1;cases t with
  |true=>exact iteT (tS_go g1 k)
  |false=>exact iteF (tS_go g1 k)
theorem sk_if{c:Expr}{a b:List Stmt}{mc:MT}{ma mb:MS}{pos:Pos}(hc:TOk X c mc)(ha:uQ X a ma)(hb:uQ X b mb):SOk X (.If c a b pos) (sIf mc ma mb):=jl (ps_if hc ha hb) λD σ H=>sif_run
def YB(i:Nat)(r:R)(E:zR):Out zR:=match E[i]? with
 |none=>.stuck
 |some (.par _)=>.stuck
 |some _=>.ok (E.set i r.slot)
def sSet(i:Nat)(m:ME):MS:=λE=>match m E with
 | .stuck=>.stuck
 | .exc x E1=>.exc x E1
 | .ok (r,E1)=>match YB i r E1 with
  | .ok E2=>.ok (.nx,E2)
  |_=>.stuck
theorem ZN{σ1:St}{E1 E2:zR}{H1:Hp}{i:Nat}{r:R}{v:V}(g:Got K mg M σ E H T0 σ1 E1 H1 [(some v,r.slot)])(e:YB i r E1=.ok E2):Got K mg M σ E H T0 (σ1.set i (some v)) E2 H1 []:=by
 unfold YB at e;cases e1:E1[i]? with
 |none=>rw[e1]at e;cases e
 |some sl =>
  rw[e1]at e;have hne:∀ds,sl≠.par ds:=λds q=>by subst q;cases e
  have e2:E2=E1.set i r.slot:=by
   cases sl with
   |par ds=>exact absurd rfl (hne ds)
   |_=>cases e;rfl
  subst e2;have hi:i<E1.length:=(List.getElem?_eq_some_iff.mp e1).1;have hl:=g.len;have hz:i<(σ1.zip E1).length:=by rw[List.length_zip];omega
  have hT:T0++((σ1.set i (some v)).zip (E1.set i r.slot))=(T0++σ1.zip E1).set (T0.length+i) (some v,r.slot):=by
   rw[ZK,List.set_append_right _ _ (by omega)];congr 2;omega
  have hz2:T0.length+i<(T0++σ1.zip E1).length:=by rw[length_append];omega
  refine⟨by simp[hl],?_,?_,?_⟩
  ·show FR K mg M H1 (T0++((σ1.set i (some v)).zip (E1.set i r.slot)))
   rw[hT];exact FR.put g.fr hz2
  ·show Step M H _ H1 (T0++((σ1.set i (some v)).zip (E1.set i r.slot)))
   rw[hT];exact Step.put g.st hz2
  ·refine g.pk.trans λj ds q=>?_
   have ne:i≠j:=λz=>by subst z;rw[e1]at q;exact hne ds (Option.some.inj q)
   exact⟨⟨ds,by rw[getElem?_set_ne ne];exact q⟩,by rw[getElem?_set_ne ne]⟩
theorem GL{i:Nat}{m:ME}{D:Ends}(h:tS X (sSet i m) D σ H):tAsg (tM X m) (We i) D σ H:=by
 obtain⟨M,E,hl,fr,k⟩:=h;unfold sSet at k;refine ze (T0:=[]) hl fr ?_;cases ea:m E with
 |stuck=>rw[ea]at k;exact k
 |exc x E1=>rw[ea]at k;exact λH' g=>k σ H' g
 |ok p =>
  obtain⟨r,E1⟩:=p;rw[ea]at k;intro v H' g;dsimp only at k;cases ep:YB i r E1 with
  |stuck=>rw[ep]at k;exact k.elim
  |exc _ _=>rw[ep]at k;exact k.elim
  |ok E2 =>
   rw[ep]at k;exact k _ H' (ZN g ep)
theorem zAy{i:Nat}{x:Str}{e:Expr}{m:ME}{pos pos':Pos}(hN:X.N.Nodup)(hi:X.N[i]?=some x)(hx:Loc X.env.scope x)(he:EOk X e m)(hs:swapsWith e (some (.Name x pos')) pos.line X.env=pure false:=by rfl)
  (hf:X.fn x=true\/X.env.scope.names.lookup x=some .local:=by first|exact .inl rfl|exact .inr rfl|assumption):SOk X (.Assign [.Name x pos'] e pos) (sSet i m) :=
 jl (ps_set hN hi hx he hs hf) λD σ H=>GL
def sRet(m:ME):MS:=λE=>match m E with
 | .stuck=>.stuck
 | .exc x E1=>.exc x E1
 | .ok (r,E1)=>.ok (.ret r,E1)
theorem ret_run{m:ME}{D:Ends}(h:tS X (sRet m) D σ H):tRet (tM X m) D σ H:=by
 obtain⟨M,E,hl,fr,k⟩:=h;unfold sRet at k;refine ze (T0:=[]) hl fr ?_;cases ea:m E with
 |stuck=>rw[ea]at k;exact k
 |exc x E1=>rw[ea]at k;exact λH' g=>k σ H' g
 |ok p=>rw[ea]at k;exact λv H' g=>k v σ H' g
theorem sk_ret{e:Expr}{m:ME}{pos:Pos}(he:EOk X e m):SOk X (.Return (some e) pos) (sRet m):=jl (ps_ret he) λD σ H=>ret_run
def sDrop(m:ME):MS:=λE=>match m E with
 | .stuck=>.stuck
 | .exc x E1=>.exc x E1
 | .ok (_,E1)=>.ok (.nx,E1)
theorem Qz{m:ME}{D:Ends}(h:tS X (sDrop m) D σ H):tDrop (tM X m) D σ H:=by
 obtain⟨M,E,hl,fr,k⟩:=h;unfold sDrop at k;refine ze (T0:=[]) hl fr ?_;cases ea:m E with
 |stuck=>rw[ea]at k;exact k
 |exc x E1=>rw[ea]at k;exact λH' g=>k σ H' g
 |ok p=>rw[ea]at k;exact λv H' g=>k σ H' g.dropAll
theorem sk_drop{e:Expr}{m:ME}{pos:Pos}(he:EOk X e m)(hs:swapsWith e none pos.line X.env=pure false:=by rfl):SOk X (.Expr e pos) (sDrop m):=jl (uZ he hs) λD σ H=>Qz
end
end DV
namespace DV
open PySem L2
theorem yx{α β:Type}{f:α->Option β}{x y:α}(h:f y=f x):∀{l:List α} {i:Nat},l[i]?=some x->(l.set i y).filterMap f=l.filterMap f
 | [],_,e=>by simp at e
 |a::l,0,e=>by
  simp at e;subst e
  simp only[List.set_cons_zero,filterMap_cons,h]
 |a::l,i+1,e=>by
  simp at e
  simp only[List.set_cons_succ,filterMap_cons,yx h e]
section
variable{X:Cx}{K:PySem.W.Frag}{mg:Str->Option Value}{σ:St}{M:Addr->Prop}{E:zR}{H:Hp}{T0 Z:Fz}
def Slot.put:Slot->List D->Slot
 | .own _,es=>.own es
 | .par _,es=>.par es
 |s,_=>s
theorem ZO{p:Addr}{s:Slot}{ds es:List D}(hs:s.list?=some ds):WZ (some (.ref p),s.put es)=WZ (some (.ref p),s)/\(s.put es).list?=some es:=by
 cases s<;>simp[Slot.list?]at hs<;>exact⟨rfl,rfl⟩
theorem FR.mut(h:FR K mg M H Z){i:Nat}{p:Addr}{s:Slot}{ds es:List D}{ys:List V}(hi:Z[i]?=some (some (.ref p),s))(hs:s.list?=some ds)(r:Reps K mg (Hm (Mo M Z) H) es ys) :
  FR K mg M (upd H p (.lst ys)) (Z.set i (some (.ref p),s.put es))/\Step M H Z (upd H p (.lst ys)) (Z.set i (some (.ref p),s.put es)):=by
 have eo:zw (Z.set i (some (.ref p),s.put es))=zw Z:=yx (ZO hs).1 hi;have em:Mo M (Z.set i (some (.ref p),s.put es))=Mo M Z:=by unfold Mo;rw[eo]
 have hp:p∈zw Z:=yu (mem_of_getElem? hi) hs rfl;obtain⟨xs0,hH,hM⟩:=h.ownAt hp;have ehm:Hm (Mo M Z) (upd H p (.lst ys))=Hm (Mo M Z) H:=by
  funext b
  unfold Hm;by_cases hb:Mo M Z b
  ·simp[hb]
  ·have:b≠p:=λe=>hb (by subst e;exact .inr hp)
   simp[hb,zp this]
 have mem:∀{q:Option V×Slot},q∈Z.set i (some (.ref p),s.put es)->q=(some (.ref p),s.put es)\/q∈Z:=λ{q} hq=>(List.mem_or_eq_of_mem_set hq).symm
 have hlt:i<Z.length:=(List.getElem?_eq_some_iff.mp hi).1;have nd2:(zw (Z.eraseIdx i)).Nodup/\p∉zw (Z.eraseIdx i):=by
  have pz:Z.Perm ((some (.ref p),s)::Z.eraseIdx i):=by
   have:=zh (some (V.ref p),s) Z i hlt;rw[J3 hi]at this;exact this
  have nd:=(pz.filterMap WZ).nodup_iff.mp h.nd;have e:List.filterMap WZ ((some (V.ref p),s)::Z.eraseIdx i)=p::zw (Z.eraseIdx i):=by
   cases s<;>simp[Slot.list?]at hs<;>rfl
  rw[e]at nd;exact⟨(nodup_cons.mp nd).2,(nodup_cons.mp nd).1⟩
 have pz2:(Z.set i (some (.ref p),s.put es)).Perm ((some (.ref p),s.put es)::Z.eraseIdx i):=zh _ _ _ hlt;refine⟨⟨λo d q=>?_,λo s' ds' q e=>?_,by rw[eo];exact h.nd,λb q=>?_⟩,⟨by rw[em,ehm];exact JO.refl _,λb o m e=>?_⟩⟩
 ·rw[em,ehm]
  rcases mem q with q|q
  ·exfalso
   cases s<;>simp[Slot.list?]at hs<;>cases q
  ·exact h.val o d q
 ·rw[em,ehm]
  rcases mem_cons.mp (pz2.mem_iff.mp q)with q'|q'
  ·cases q'
   rw[(ZO (p:=p) hs).2]at e;cases e;exact⟨p,ys,rfl,yX,hM,r⟩
  ·have q'':(o,s')∈Z:=(List.eraseIdx_sublist Z i).subset q'
   obtain⟨a,xs,e1,e2,e3,rr⟩:=h.own o s' ds' q'' e;have ne:a≠p:=λz=>by
    subst z;exact nd2.2 (yu q' e e1)
   exact⟨a,xs,e1,by rw[zp ne];exact e2,e3,rr⟩
 ·obtain⟨o,e⟩:=h.mal b q
  by_cases z:b=p
  ·subst z;exact⟨_,yX⟩
  ·exact⟨o,by rw[zp z];exact e⟩
 ·have ne:b≠p:=λz=>hM (by subst z;exact m)
  rw[zp ne];exact e
theorem Got.mut{σ1:St}{E1:zR}{H1:Hp}{T:Fz}(g:Got K mg M σ E H [] σ1 E1 H1 T){i:Nat}{s:Slot}{ds es:List D}{ys:List V}(hi:E1[i]?=some s)(hs:s.list?=some ds)(r:Reps K mg (Hm (Mo M (σ1.zip E1)) H1) es ys) :
  ∃p,σ1[i]?=some (some (.ref p))/\Got K mg M σ E H [] σ1 (E1.set i (s.put es)) (upd H1 p (.lst ys)) []:=by
 obtain⟨o,h1,h2⟩:=JQ g.len hi;obtain⟨p,xs,rfl,_⟩:=g.frame.own o s ds (mem_of_getElem? h2) hs;refine⟨p,h1,?_⟩;obtain⟨f,st⟩:=FR.mut g.frame h2 hs r;have e:=z3 (E:=E1) (s.put es) h1;rw[<- e]at f st;refine⟨by simp[g.len],f,(g.st.weak (zC (sublist_append_right _ _))).trans st,g.pk.trans λj ds' q=>?_⟩;by_cases ej:i=j
 ·subst ej
  rw[hi]at q;cases q;have hlt:i<E1.length:=(List.getElem?_eq_some_iff.mp hi).1;exact⟨⟨es,by rw[getElem?_set_self hlt];rfl⟩,rfl⟩
 ·exact⟨⟨ds',by rw[getElem?_set_ne ej];exact q⟩,rfl⟩
theorem GM{i:Nat}{s:Slot}(hl:E.length=σ.length)(f:FR K mg M H (σ.zip E))(h:E[i]?=some s)(hs:s≠.emp):∃v,σ[i]?=some (some v):=by
 obtain⟨o,h1,h2⟩:=jm hl h;cases s with
 |emp=>exact absurd rfl hs
 |val d=>obtain⟨v,rfl,_⟩:=f.val o d h2;exact⟨v,h1⟩
 |own ds=>obtain⟨a,_,rfl,_⟩:=f.own o _ ds h2 rfl;exact⟨_,h1⟩
 |par ds=>obtain⟨a,_,rfl,_⟩:=f.own o _ ds h2 rfl;exact⟨_,h1⟩
def JS:Option Slot->Bool
 |none=>true
 |some .emp=>true
 |_=>false
theorem Wn{o:Option Slot}(h:JS o=false):∃s,o=some s/\s≠.emp:=by
 cases o with
 |none=>cases h
 |some s=>cases s<;>simp[JS]at h<;>exact⟨_,rfl,by intro q;cases q⟩
def ixS:Slot->Int->Option D
 | .own ds,i=>atI ds i
 | .par ds,i=>atI ds i
 | .val (.lst ds),i=>atI ds i
 |_,_=>none
def eIxO(i:Nat)(m:ME):ME:=λE=>if JS E[i]?=true then .stuck else match m E with
 | .stuck=>.stuck
 | .exc x E1=>.exc x E1
 | .ok (.val (.int k),E1)=>match E1[i]? with
  |some s=>match ixS s k with
   |some d=>.ok (.val d,E1)
   |none=>.stuck
  |none=>.stuck
 |_=>.stuck
theorem ixO_run{i:Nat}{m:ME}{Q:VK}(h:tM X (eIxO i m) σ H Q):tOp (rIxL X.K) (vq i) (tM X m) σ H Q:=by
 obtain⟨M,E,hl,fr,k⟩:=h;unfold eIxO at k;cases em:JS E[i]? with
 |true=>rw[em]at k;exact k.elim
 |false =>
  rw[em]at k;obtain⟨s,hs1,hs2⟩:=Wn em;obtain⟨v,hv⟩:=GM hl fr hs1 hs2;refine⟨v,hv,?_⟩;refine ze (T0:=[]) hl fr ?_;simp only[Bool.false_eq_true,if_false]at k;cases ea:m E with
  |stuck=>rw[ea]at k;exact k
  |exc x E1=>rw[ea]at k;exact k
  |ok p =>
   obtain⟨r,E1⟩:=p;rw[ea]at k;cases r with
   |own ds=>exact k.elim
   |val d =>
    cases d with
    |int n =>
     intro y H' g;dsimp only at k;cases e1:E1[i]? with
     |none=>rw[e1]at k;exact k.elim
     |some s1 =>
      rw[e1]at k;dsimp only at k;cases e2:ixS s1 n with
      |none=>rw[e2]at k;exact k.elim
      |some d =>
       rw[e2]at k;have f:=g.frame;have fin:∀{w:V},Rep X.K X.mg (Hm (Mo M (σ.zip E1)) H') d w->Q w H':=λ{w} rw'=>k w H' (g.more (T:=[(some w,.val d)]) (f.add rw') Step.refl.add)
       obtain⟨o,h1,h2⟩:=jm g.len e1;have ho:o=some v:=by rw[hv]at h1;exact(Option.some.inj h1).symm
       subst ho;have key:∀{ds:List D},s1.list?=some ds->atI ds n=some d->rIxL X.K v y H' Q:=λ{ds} hl1 ha=>by
        obtain⟨a,xs,ev,q1,_,q3⟩:=f.own _ s1 ds h2 hl1;cases ev;obtain⟨w,a1,a2⟩:=YA q3 ha;exact⟨a,xs,n,w,rfl,zL g.rep,SqL.of q1,a1,fin a2⟩
       cases s1 with
       |emp=>cases e2
       |own ds=>exact key rfl e2
       |par ds=>exact key rfl e2
       |val dd =>
        cases dd with
        |lst ds =>
         obtain⟨v',ev,rr⟩:=f.val _ _ h2;cases ev;obtain⟨a,xs,rfl,q1,q2⟩:=zM rr;obtain⟨w,a1,a2⟩:=YA q2 e2;exact⟨a,xs,n,w,rfl,zL g.rep,zF.seq q1,a1,fin a2⟩
        |_=>cases e2
    |_=>exact k.elim
theorem ok_ixO(i:Nat){x:Str}{b:Expr}{m:ME}{p pos:Pos}(hv:PE X (.Name x p) (vq i))(hb:EOk X b m)(hs:ZH b):EOk X (.Subscript (.Name x p) b pos) (eIxO i m) :=
 zi (pe_ix ut hv hb hs) λσ H Q=>ixO_run
def Y7(i:Nat)(mi mv:ME):MS:=λE=>if JS E[i]?=true then .stuck else match mv E with
 | .stuck=>.stuck
 | .exc x E1=>.exc x E1
 | .ok (r,E1)=>match mi E1 with
  | .stuck=>.stuck
  | .exc x E2=>.exc x E2
  | .ok (.val (.int k),E2)=>match E2[i]? with
   |none=>.stuck
   |some s=>match s.list? with
    |none=>.stuck
    |some ds=>match ixN ds.length k with
     |none=>.stuck
     |some j=>.ok (.nx,E2.set i (s.put (ds.set j r.d)))
  |_=>.stuck
theorem GN{i:Nat}{mi mv:ME}{D:Ends}(h:tS X (Y7 i mi mv) D σ H):tAsg (tM X mv) (gSub (vq i) (tM X mi) rSetL) D σ H:=by
 obtain⟨M,E,hl,fr,k⟩:=h;unfold Y7 at k;cases em:JS E[i]? with
 |true=>rw[em]at k;exact k.elim
 |false =>
  rw[em]at k;obtain⟨s,hs1,hs2⟩:=Wn em;obtain⟨v,hv⟩:=GM hl fr hs1 hs2;refine ze (T0:=[]) hl fr ?_;simp only[Bool.false_eq_true,if_false]at k;cases ea:mv E with
  |stuck=>rw[ea]at k;exact k
  |exc x E1=>rw[ea]at k;exact λH' g=>k σ H' g
  |ok p =>
   obtain⟨r,E1⟩:=p;rw[ea]at k;intro y H1 g1;refine⟨v,hv,?_⟩;refine ze (T0:=[(some y,r.slot)]) g1.len g1.fr ?_;dsimp only at k;cases eb:mi E1 with
   |stuck=>rw[eb]at k;exact k
   |exc x E2=>rw[eb]at k;exact λH' g=>k σ H' (g1.trans' g).dropAll
   |ok p =>
    obtain⟨r2,E2⟩:=p;rw[eb]at k;cases r2 with
    |own ds=>exact k.elim
    |val d =>
     cases d with
     |int n =>
      intro z H2 g2;have g:=g1.trans' g2;dsimp only at k;cases e1:E2[i]? with
      |none=>rw[e1]at k;exact k.elim
      |some s1 =>
       rw[e1]at k;dsimp only at k;cases e2:s1.list? with
       |none=>rw[e2]at k;exact k.elim
       |some ds =>
        rw[e2]at k;dsimp only at k;cases e3:ixN ds.length n with
        |none=>rw[e3]at k;exact k.elim
        |some j =>
         rw[e3]at k;have rp:=Got.reps (vs:=[z,y]) (rs:=[.val (.int n),r]) rfl g;simp only[List.map,Reps]at rp;obtain⟨z',_,q1,rz,y',_,q2,ry,_⟩:=rp;cases q1;cases q2;obtain⟨o,h1,h2⟩:=jm g.len e1;obtain⟨a,xs,ev,w1,_,w3⟩:=g.frame.own _ s1 ds h2 e2;subst ev;have ev:v=.ref a:=by rw[hv]at h1;exact Option.some.inj (Option.some.inj h1)
         subst ev;obtain⟨p,hp,g'⟩:=g.mut e1 e2 (w3.set j ry);have ep:p=a:=by rw[h1]at hp;cases hp;rfl
         subst ep;exact⟨p,xs,n,j,rfl,zL rz,w1,by rw[w3.length];exact e3,k σ _ g'⟩
     |_=>exact k.elim
theorem Q0(i:Nat){x:Str}{b e:Expr}{mi mv:ME}{p p1 pos:Pos}(hv:PE X (.Name x p) (vq i))(hb:EOk X b mi)(he:EOk X e mv)
  (ha:∀v,assign (.Subscript (.Name x p) b p1) X.env v=(do
   let ov <- holding [v] (eval (.Name x p) X.env)
   let iv <- holding [v,ov] (eval b X.env)
   standAt p1
   holding [v,ov,iv] (setItem ov iv v)
   release [v,ov,iv] []):=by intro _;rfl) (hs:swapsWithSole [.Subscript (.Name x p) b p1] e pos.line X.env=pure false:=by rfl):SOk X (.Assign [.Subscript (.Name x p) b p1] e pos) (Y7 i mi mv) :=
 jl (zAk he (pg_sub hv hb Qe ha) hs) λD σ H=>GN
def sApp(i:Nat)(m:ME):MS:=λE=>match E[i]? with
 |none=>.stuck
 |some s0=>match s0.list? with
  |none=>.stuck
  |some _=>match m E with
   | .stuck=>.stuck
   | .exc x E1=>.exc x E1
   | .ok (r,E1)=>match E1[i]? with
    |none=>.stuck
    |some s=>match s.list? with
     |none=>.stuck
     |some ds=>if ds.length<cap then .ok (.nx,E1.set i (s.put (ds++[r.d])))else .stuck
theorem app_run{i:Nat}{m:ME}{D:Ends}(h:tS X (sApp i m) D σ H):tDrop (tBM X.K "list" uv (vq i) (vw (tM X m) tNil)) D σ H:=by
 obtain⟨M,E,hl,fr,k⟩:=h;unfold sApp at k;cases e0:E[i]? with
 |none=>rw[e0]at k;exact k.elim
 |some s0 =>
  rw[e0]at k;dsimp only at k;cases e00:s0.list? with
  |none=>rw[e00]at k;exact k.elim
  |some ds0 =>
   rw[e00]at k;obtain⟨o,h1,h2⟩:=jm hl e0;obtain⟨a,xs,ev,w1,_,w3⟩:=fr.own _ s0 ds0 h2 e00;subst ev;refine⟨.ref a,h1,.inl ⟨rfl,xs,SqL.of w1⟩,?_⟩;refine ze (T0:=[]) hl fr ?_;dsimp only at k;cases ea:m E with
   |stuck=>rw[ea]at k;exact k
   |exc x E1=>rw[ea]at k;exact λH' g=>k σ H' g
   |ok p =>
    obtain⟨r,E1⟩:=p;rw[ea]at k;intro y H1 g;dsimp only at k;cases e1:E1[i]? with
    |none=>rw[e1]at k;exact k.elim
    |some s =>
     rw[e1]at k;dsimp only at k;cases e2:s.list? with
     |none=>rw[e2]at k;exact k.elim
     |some ds =>
      rw[e2]at k;dsimp only at k;by_cases hc:ds.length<cap
      ·rw[if_pos hc]at k
       obtain⟨o,h1',h2'⟩:=jm g.len e1;obtain⟨a',ys,ev,q1,_,q3⟩:=g.frame.own _ s ds h2' e2;subst ev;have ea':a'=a:=by rw[h1]at h1';cases h1';rfl
       subst ea';obtain⟨p,hp,g'⟩:=g.mut e1 e2 (q3.append (Reps.cons g.rep Reps.nil));have ep:p=a':=by rw[h1]at hp;cases hp;rfl
       subst ep;exact⟨p,ys,y,rfl,rfl,q1,by rw[q3.length];exact lt_of_lt_of_le hc (jf (le_refl _)),k σ _ g'⟩
      ·rw[if_neg hc]at k;exact k.elim
theorem sk_app(i:Nat){x:Str}{e:Expr}{m:ME}{p apos cpos pos:Pos}(hv:PE X (.Name x p) (vq i))(he:EOk X e m)
  (hbase:attributeBase (.Name x p) "append" X.env (eval (.Name x p) X.env)=eval (.Name x p) X.env:=by rfl)
  (hfew:((backTo cpos (starEach (e::[]) X.env)).all (λx=>!x.1)&&(backToKw cpos (keywordEach [] X.env)).all (λx=>x.1.isSome)
   && decide ((e::([]:List Expr)).length+([]:List Keyword).length+(if([]:List Keyword).isEmpty then 0 else 1)<30))=true:=by rfl)
  (hline:(apos.endLine==cpos.line)=true:=by rfl) (hs:starEach (e::[]) X.env=(false,eval e X.env)::starEach [] X.env:=by rfl) (hplain:(backTo cpos (starEach [] X.env)).any (·.1)=false:=by rfl)
  (hsw:swapsWith (.Call (.Attribute (.Name x p) "append" apos) [e] [] cpos) none pos.line X.env=pure false:=by rfl):SOk X (.Expr (.Call (.Attribute (.Name x p) "append" apos) [e] [] cpos) pos) (sApp i m) :=
 jl (uZ (pe_bm PySem.F.plainAttrs_list PySem.F.slot_list_append PySem.F.type_list_append Zx hv (yR he wo hs) hbase hfew hline hs hplain) hsw) λD σ H=>app_run
end
end DV
namespace DV
open PySem L2
section
variable{X:Cx}{K:PySem.W.Frag}{mg:Str->Option Value}{σ:St}{M:Addr->Prop}{E:zR}{H:Hp}{T0 Z:Fz}
abbrev MG:=D->zR->Out zR
def GOk(X:Cx)(g:TG)(tg:MG):Prop:=∀(M:Addr->Prop) (σ:St) (E:zR) (H:Hp) (T0:Fz) (x:V) (d:D) (E':zR) (Q:St->Hp->Prop),E.length=σ.length->FR X.K X.mg M H ((some x,.val d)::(T0++σ.zip E))->tg d E=.ok E' ->
 (∀σ',Got X.K X.mg M σ E H T0 σ' E' H []->Q σ' H)->g x σ H Q
def gN(i:Nat):MG:=λd E=>YB i (.val d) E
theorem go_name(i:Nat):GOk X (We i) (gN i):=λM σ E H T0 x d E' Q hl f e k =>
 k _ (ZN (σ1:=σ) (E1:=E) (H1:=H) (r:=.val d) (v:=x) ⟨hl,f,Step.refl.add,PKp.refl⟩ e)
def gNs:List Nat->List D->zR->Out zR
 | [],[],E=>.ok E
 |i::is,d::ds,E=>match YB i (.val d) E with
  | .ok E1=>gNs is ds E1
  |_=>.stuck
 |_,_,_=>.stuck
def gT(is:List Nat):MG:=λd E=>match d with
 | .tup ds=>gNs is ds E
 |_=>.stuck
def wS:List Nat->TGs
 | []=>gNil
 |i::is=>gCons (We i) (wS is)
theorem Z9:∀(is:List Nat) (ds:List D) (xs:List V) {M:Addr->Prop} {σ0 σ:St} {E0 E E':zR} {H:Hp} {T0:Fz} {a:Addr} {ts:List D} {Q:St->Hp->Prop},
  Got X.K X.mg M σ0 E0 H T0 σ E H []->Reps X.K X.mg (Hm (Mo M (T0++σ.zip E)) H) ds xs->gNs is ds E=.ok E'->(∀σ',Got X.K X.mg M σ0 E0 H T0 σ' E' H []->Q σ' H)->wS is xs σ H Q
 | [],[],xs,M,σ0,σ,E0,E,E',H,T0,a,ts,Q,g,r,e,k=>by
  cases e;simp only[Reps]at r;exact⟨r,k σ g⟩
 | [],d::ds,xs,M,σ0,σ,E0,E,E',H,T0,a,ts,Q,g,r,e,k=>by cases e
 |i::is,[],xs,M,σ0,σ,E0,E,E',H,T0,a,ts,Q,g,r,e,k=>by cases e
 |i::is,d::ds,xs,M,σ0,σ,E0,E,E',H,T0,a,ts,Q,g,r,e,k=>by
  simp only[Reps]at r;obtain⟨x,Jq,rfl,rx,rr⟩:=r;simp only[gNs]at e;cases e1:YB i (.val d) E with
  |stuck=>rw[e1]at e;cases e
  |exc _ _=>rw[e1]at e;cases e
  |ok E1 =>
   rw[e1]at e;refine⟨x,Jq,rfl,?_⟩;have g1:Got X.K X.mg M σ0 E0 H T0 σ E H [(some x,R.slot (.val d))]:=⟨g.len,g.fr.add rx,g.st.add,g.pk⟩;have g2:=ZN g1 e1;refine Z9 is ds Jq (a:=a) (ts:=ts) g2 (rr.mono ?_) e k;refine jC (ww λb hb=>?_);have st:=g2.fr
   -- the stored slot is a value: it zw nothing
   unfold YB at e1;cases e2:E[i]? with
   |none=>rw[e2]at e1;cases e1
   |some sl =>
    rw[e2]at e1;have e3:E1=E.set i (.val d):=by cases sl<;>cases e1<;>rfl
    subst e3;have hi:i<E.length:=(List.getElem?_eq_some_iff.mp e2).1;have hz:i<(σ.zip E).length:=by rw[List.length_zip];have:=g.len;omega
    rw[ZK]at hb;rw[zT]at hb ⊢;rcases mem_append.mp hb with hb|hb
    ·exact mem_append_left _ hb
    ·refine mem_append_right _ ?_
     have:=zB (zh _ _ _ hz) b hb;rw[zS]at this;exact zC (List.eraseIdx_sublist _ _) b this
theorem zAz{n:Nat}(is:List Nat)(hn:is.length=n):GOk X (gTup X.K n (wS is)) (gT is):=λM σ E H T0 x d E' Q hl f e k=>by
 cases d with
 |tup ds =>
  obtain⟨v,ev,r⟩:=f.val _ _ mem_cons_self;cases ev;obtain⟨a,xs,rfl,h1,h2⟩:=zU r;rw[YT]at h2;have hlen:ds.length=is.length:=by
   have:∀(is:List Nat) (ds:List D) (E E':zR),gNs is ds E=.ok E'->ds.length=is.length:=by
    intro is
    induction is with
    |nil=>intro ds E E' h;cases ds with|nil=>rfl|cons d ds=>cases h
    |cons i is ih =>
     intro ds E E' h;cases ds with
     |nil=>cases h
     |cons d ds =>
      simp only[gNs]at h;cases e1:YB i (.val d) E with
      |ok E1=>rw[e1]at h;simp[ih ds E1 E' h]
      |stuck=>rw[e1]at h;cases h
      |exc _ _=>rw[e1]at h;cases h
   exact this is ds E E' e
  refine⟨a,xs,rfl,zr zF h1,by rw[h2.length,hlen,hn],?_⟩;exact Z9 is ds xs (a:=a) (ts:=[]) (Got.refl hl f.tail) h2 e k
 |_=>cases e
def Y8(tg:MG)(body:MS):List D->zR->Out (Fl×zR)
 | [],E=>.ok (.nx,E)
 |d::ds,E=>match tg d E with
  | .ok E1=>match body E1 with
   | .ok (.nx,E2)=>Y8 tg body ds E2
   | .ok (.ct,E2)=>Y8 tg body ds E2
   | .ok (.bk,E2)=>.ok (.nx,E2)
   | .ok (.ret r,E2)=>.ok (.ret r,E2)
   | .exc x E2=>.exc x E2
   | .stuck=>.stuck
  |_=>.stuck
def Fin(X:Cx)(M:Addr->Prop)(σ:St)(E:zR)(H:Hp)(D:Ends)(o:Out (Fl×zR)):Prop:=match o with
 | .stuck=>False
 | .ok (.nx,E')=>∀σ' H',Got X.K X.mg M σ E H [] σ' E' H' []->D.nx σ' H'
 | .ok (.bk,E')=>∀σ' H',Got X.K X.mg M σ E H [] σ' E' H' []->D.bk σ' H'
 | .ok (.ct,E')=>∀σ' H',Got X.K X.mg M σ E H [] σ' E' H' []->D.ct σ' H'
 | .ok (.ret r,E')=>∀v σ' H',Got X.K X.mg M σ E H [] σ' E' H' [(some v,r.slot)]->D.rt v H'
 | .exc x E'=>∀σ' H',Got X.K X.mg M σ E H [] σ' E' H' []->XE X σ' H' x
theorem Got.dropT{K:PySem.W.Frag}{mg:Str->Option Value}{M:Addr->Prop}{σ σ1:St}{E E1:zR}{H H1:Hp}{T T':Fz}(a:Got K mg M σ E H [] σ1 E1 H1 (T++T')):Got K mg M σ E H [] σ1 E1 H1 T where
 len:=a.len
 fr:=a.fr.sub (by rw[append_assoc];exact(sublist_append_right _ _).append_left _)
 st:=a.st.weak (zC (by rw[append_assoc];exact(sublist_append_right _ _).append_left _))
 pk:=a.pk
theorem vK{tg:MG}{body:MS}{g:TG}{D:Ends}{d:DV.D}{ds:List DV.D}{σ1:St}{E1:zR}{H1:Hp}{T:Fz}{x:V}{P:St->Hp->Prop}(hg:GOk X g tg)
  (g1:Got X.K X.mg M σ E H [] σ1 E1 H1 T) (rx:Rep X.K X.mg (Hm (Mo M (T++σ1.zip E1)) H1) d x) (fin:Fin X M σ E H D (Y8 tg body (d::ds) E1))
  (next:∀σ2 E2 H2,Got X.K X.mg M σ E H [] σ2 E2 H2 T->Step M H1 (T++σ1.zip E1) H2 (T++σ2.zip E2)->Fin X M σ E H D (Y8 tg body ds E2)->P σ2 H2) :
  g x σ1 H1 λσ2 H2=>tS X body {D with nx:=P,ct:=P,bk:=D.nx} σ2 H2:=by
 simp only[Y8]at fin;cases e1:tg d E1 with
 |stuck=>rw[e1]at fin;exact fin.elim
 |exc _ _=>rw[e1]at fin;exact fin.elim
 |ok E2 =>
  rw[e1]at fin;dsimp only at fin;refine hg M σ1 E1 H1 T x d E2 _ g1.len (g1.fr.add rx) e1 λσ2 g2=>?_
  have g12:=g1.trans' g2;refine Z8 (T0:=T) g2.len g2.fr ?_;cases e2:body E2 with
  |stuck=>rw[e2]at fin;exact fin
  |exc y E3=>rw[e2]at fin;exact λσ' H' g'=>fin σ' H' (g12.trans' g').dropAll
  |ok p =>
   obtain⟨fl,E3⟩:=p;rw[e2]at fin;cases fl with
   |nx=>exact λσ' H' g'=>next σ' E3 H' (g12.trans' g') (g2.st.trans g'.st) fin
   |ct=>exact λσ' H' g'=>next σ' E3 H' (g12.trans' g') (g2.st.trans g'.st) fin
   |bk=>exact λσ' H' g'=>fin σ' H' (g12.trans' g').dropAll
   |ret r=>exact λv σ' H' g'=>fin v σ' H' (g12.trans' g').dropT
def sForL(m:ME)(tg:MG)(body:MS):MS:=λE=>match m E with
 | .stuck=>.stuck
 | .exc x E1=>.exc x E1
 | .ok (r,E1)=>match r.d with
  | .lst ds=>Y8 tg body ds E1
  |_=>.stuck
theorem zA0{m:MS}{D:Ends}(h:tS X m D σ H):∃M E,E.length=σ.length/\FR X.K X.mg M H (σ.zip E)/\Fin X M σ E H D (m E):=h
theorem Q1{m:ME}{tg:MG}{g:TG}{body:MS}{D:Ends}(hg:GOk X g tg)(h:tS X (sForL m tg body) D σ H):tFor (iList X.K (tM X m)) g (tS X body) D σ H:=by
 obtain⟨M,E,hl,fr,k⟩:=zA0 h;unfold sForL at k;refine ze (T0:=[]) hl fr ?_;cases ea:m E with
 |stuck=>rw[ea]at k;exact k
 |exc x E1=>rw[ea]at k;exact λH' g=>k σ H' g
 |ok p =>
  obtain⟨r,E1⟩:=p;rw[ea]at k;intro v H1 g0;have g1:Got X.K X.mg M σ E H [] σ E1 H1 [(some v,.val r.d)]:=⟨g0.len,g0.fr.frz,g0.st.frz,g0.pk⟩;dsimp only at k;cases ed:r.d with
  |lst ds =>
   rw[ed]at k g1;have rl:=g0.rep;rw[ed]at rl;obtain⟨a,xs,rfl,q1,q2⟩:=zM rl;refine⟨a,rfl,⟨xs,zF.seq q1⟩,?_⟩;have em:∀(σ':St) (E':zR),Mo M ([(some (V.ref a),Slot.val (.lst ds))]++σ'.zip E')=Mo M (σ'.zip E'):=λσ' E'=>YT _ _ _ _
   refine QX (K:=X.K) (a:=a) (xs:=xs) (λi σ1 H2=>∃E2,Got X.K X.mg M σ E H [] σ1 E2 H2 [(some (.ref a),.val (.lst ds))]/\SqL X.K (Hm (Mo M (σ1.zip E2)) H2) a xs/\Reps X.K X.mg (Hm (Mo M (σ1.zip E2)) H2) ds xs/\Fin X M σ E H D (Y8 tg body (ds.drop i) E2))
    ⟨E1,g1,q1,q2,k⟩ (λi σ' H' _ ⟨E2,_,q,_⟩=>zF.seq q) ?_ ?_
   ·rintro i x σ1 H2 hx ⟨E2,g2,s2,r2,fin⟩
    obtain⟨d,hd,rx⟩:=r2.get hx;have ed:ds.drop i=d::ds.drop (i+1):=by
     obtain⟨hi,rfl⟩:=List.getElem?_eq_some_iff.mp hd;exact List.drop_eq_getElem_cons hi
    rw[ed]at fin;refine vK hg g2 (by rw[em];exact rx) fin λσ3 E3 H3 g3 st fin3=>?_
    have sm:=st.same;rw[em,em]at sm;exact⟨E3,g3,sm.seq s2,r2.mono sm,fin3⟩
   ·rintro σ1 H2 ⟨E2,g2,s2,r2,fin⟩
    rw[r2.length,List.drop_length]at fin;exact fin σ1 H2 g2.dropAll
  |_=>rw[ed]at k;exact k.elim
def zK(lo:Int):Nat->List D
 |0=>[]
 |n+1=>.int lo::zK (lo+1) n
theorem z4(lo:Int):∀n,(zK lo n).length=n
 |0=>rfl
 |n+1=>by simp[zK,z4 (lo+1) n]
theorem jQ:∀(n i:Nat) (lo:Int),i<n->(zK lo n).drop i=.int (lo+i)::(zK lo n).drop (i+1)
 |0,_,_,h=>by omega
 |n+1,0,lo,_=>by simp[zK]
 |n+1,i+1,lo,h=>by
  have:=jQ n i (lo+1) (by omega);simp only[zK,List.drop_succ_cons];rw[this];congr 2;omega
def sForR1(m:MA)(tg:MG)(body:MS):MS:=λE=>match m E with
 | .stuck=>.stuck
 | .exc x E1=>.exc x E1
 | .ok ([r],E1)=>match r.d with
  | .int j=>if -(2^62)<=j/\j<2^62 then Y8 tg body (zK 0 j.toNat) E1 else .stuck
  |_=>.stuck
 |_=>.stuck
theorem Wo{tg:MG}{g:TG}{body:MS}{D:Ends}(hg:GOk X g tg){lo:Int}{n:Nat}{E1:zR}{H1:Hp}(g1:Got X.K X.mg M σ E H [] σ E1 H1 [])(fin:Fin X M σ E H D (Y8 tg body (zK lo n) E1)) :
  ∃W:Nat->Nat->St->Hp->Prop,(∃m,W 0 m σ H1)/\∀i m σ H,W i m σ H ->
   ((Itr lo n).stop i H/\D.nx σ H)\/((Itr lo n).go i H/\∃N:St->Hp->Prop,(∀σ' H',N σ' H'->∃m',m'<m/\W (i+1) m' σ' H')/\∀x H',(Itr lo n).yld i H x H'->g x σ H' λσ2 H2=>tS X body {D with nx:=N,ct:=N,bk:=D.nx} σ2 H2):=by
 refine uf (λi σ1 H2=>∃E2,Got X.K X.mg M σ E H [] σ1 E2 H2 []/\Fin X M σ E H D (Y8 tg body ((zK lo n).drop i) E2)) ⟨E1,g1,fin⟩ ?_ ?_
 ·rintro i σ1 H2 hi ⟨E2,g2,fin⟩
  rw[jQ n i lo hi]at fin;exact vK hg g2 (by simp only[Rep]) fin λσ3 E3 H3 g3 st fin3=>⟨E3,g3,fin3⟩
 ·rintro σ1 H2 ⟨E2,g2,fin⟩
  rw[List.drop_of_length_le (by rw[z4];exact le_refl _)]at fin;exact fin σ1 H2 g2
theorem GO{m:MA}{tg:MG}{g:TG}{body:MS}{D:Ends}(hg:GOk X g tg)(h:tS X (sForR1 m tg body) D σ H):tFor (iRng1 (tMA X m)) g (tS X body) D σ H:=by
 obtain⟨M,E,hl,fr,k⟩:=zA0 h;unfold sForR1 at k;refine YU (T0:=[]) hl fr ?_;cases ea:m E with
 |stuck=>rw[ea]at k;exact k
 |exc x E1=>rw[ea]at k;exact λH' g=>k σ H' g
 |ok p =>
  obtain⟨rs,E1⟩:=p;rw[ea]at k
  match rs,k with
  | [r],k =>
   intro vs H1 hv g1;have rp:=Got.reps hv g1;dsimp only at k;cases ed:r.d with
   |int j =>
    rw[ed]at k;simp only[List.map,ed]at rp;obtain⟨v,rfl,h1⟩:=Ju rp;dsimp only at k;by_cases hc:-(2^62)<=j/\j<2^62
    ·rw[if_pos hc]at k
     exact⟨j,by rw[zL h1],hc.1,hc.2,Wo hg g1.dropAll k⟩
    ·rw[if_neg hc]at k;exact k.elim
   |_=>rw[ed]at k;exact k.elim
  | [],k=>exact k.elim
  |_::_::_,k=>exact k.elim
theorem sk_forL{tgt iter:Expr}{body:List Stmt}{m:ME}{g:TG}{tg:MG}{mb:MS}{pos:Pos}(hp:PassesOwn (model X.prog X.w) X.A X.env X.xe)(hc:X.calm=true)(hi:EOk X iter m)(hg:PG X tgt g)(ho:GOk X g tg)(hb:uQ X body mb)
  (hs:∀x,foldedSetIterable iter X.env x=pure x:=by intro _;rfl):SOk X (.For tgt iter body [] pos) (sForL m tg mb):=jl (zAm hp hc (uc hi) hg hb hs) λD σ H=>Q1 ho
theorem Q2{tgt a:Expr}{body:List Stmt}{m:MA}{g:TG}{tg:MG}{mb:MS}{p cpos pos:Pos}(hp:PassesOwn (model X.prog X.w) X.A X.env X.xe)(hc:X.calm=true)(hgl:Gl X "range")(hm:X.mg "range"=none)(ha:AOk X [a] m)(hg:PG X tgt g)(ho:GOk X g tg)(hb:uQ X body mb)
  (hst:zO a=false:=by rfl) (hs:∀x,foldedSetIterable (.Call (.Name "range" p) [a] [] cpos) X.env x=pure x:=by intro _;rfl):SOk X (.For tgt (.Call (.Name "range" p) [a] [] cpos) body [] pos) (sForR1 m tg mb) :=
 jl (zAm hp hc (Zl hgl hm ha (star1 hst)) hg hb hs) λD σ H=>GO ho
end
end DV
namespace DV
open PySem L2
section
variable{X:Cx}{K:PySem.W.Frag}{mg:Str->Option Value}{σ:St}{M:Addr->Prop}{E:zR}{H H':Hp}{T0 Z T:Fz}
theorem Q3{o:Option V}{s s':Slot}{ds:List D}(h:s.list?=some ds)(h':s'.list?=some ds):WZ (o,s')=WZ (o,s):=by
 cases s<;>simp[Slot.list?]at h<;>cases s'<;>simp[Slot.list?]at h'<;>(cases o with|none=>rfl|some v=>cases v<;>rfl)
theorem YC{o:Option V}{s s':Slot}{ds:List D}(h:s.list?=some ds)(h':s'.list?=some ds):zw ((o,s')::Z)=zw ((o,s)::Z):=by
 unfold zw;rw[filterMap_cons,filterMap_cons,Q3 h h']
theorem FR.lab{o:Option V}{s s':Slot}{ds:List D}(f:FR K mg M H ((o,s)::Z))(h:s.list?=some ds)(h':s'.list?=some ds):FR K mg M H ((o,s')::Z):=by
 have em:Mo M ((o,s')::Z)=Mo M ((o,s)::Z):=by unfold Mo;rw[YC h h']
 refine⟨λo' d q=>?_,λo' t es q e=>?_,by rw[YC h h'];exact f.nd,f.mal⟩
 ·rw[em]
  rcases mem_cons.mp q with q|q
  ·cases q;cases h'
  ·exact f.val o' d (mem_cons_of_mem _ q)
 ·rw[em]
  rcases mem_cons.mp q with q|q
  ·cases q
   rw[h']at e;cases e;exact f.own o s ds mem_cons_self h
  ·exact f.own o' t es (mem_cons_of_mem _ q) e
theorem WA{o:Option V}{s1 s2:Slot}{i:Nat}(hi:Z[i]?=some (o,s2)):((o,s1)::(T++Z)).Perm ((o,s2)::(T++Z.set i (o,s1))):=by
 have hlt:i<Z.length:=(List.getElem?_eq_some_iff.mp hi).1;have p1:Z.Perm ((o,s2)::Z.eraseIdx i):=by
  have:=zh (o,s2) Z i hlt;rw[J3 hi]at this;exact this
 have p2:(Z.set i (o,s1)).Perm ((o,s1)::Z.eraseIdx i):=zh _ _ _ hlt;refine((p1.append_left T).cons _).trans ?_;refine List.Perm.trans ?_ ((p2.append_left T).cons _).symm;have a:(T++(o,s2)::Z.eraseIdx i).Perm ((o,s2)::(T++Z.eraseIdx i)):=perm_middle;have b:(T++(o,s1)::Z.eraseIdx i).Perm ((o,s1)::(T++Z.eraseIdx i)):=perm_middle;exact((a.cons _).trans (List.Perm.swap _ _ _)).trans (b.cons _).symm
inductive AR where
 |tmp (d:D)
 |ln (i:Nat)
 deriving Inhabited
def AR.slot:AR->Slot
 | .tmp d=>.val d
 | .ln _=>.emp
def zj(vs:List V)(as:List AR):Fz:=(vs.map some).zip (as.map AR.slot)
def AV(σ:St):List AR->List V->Prop
 | [],vs=>vs=[]
 | .tmp _::as,vs=>∃v r,vs=v::r/\AV σ as r
 | .ln i::as,vs=>∃v r,vs=v::r/\σ[i]?=some (some v)/\AV σ as r
theorem AV.length:∀{as:List AR} {vs:List V},AV σ as vs->vs.length=as.length
 | [],_,h=>by simp only[AV]at h;subst h;rfl
 | .tmp _::as,_,h=>by simp only[AV]at h;obtain⟨v,r,rfl,h⟩:=h;simp[AV.length h]
 | .ln i::as,_,h=>by simp only[AV]at h;obtain⟨v,r,rfl,_,h⟩:=h;simp[AV.length h]
def zG:List AR->zR->Out (List Slot×zR)
 | [],E=>.ok ([],E)
 | .tmp d::as,E=>match zG as E with
  | .ok (ss,E')=>.ok (.val d::ss,E')
  |_=>.stuck
 | .ln i::as,E=>match E[i]? with
  |none=>.stuck
  |some s=>match s.list? with
   |none=>.stuck
   |some ds=>match zG as (E.set i .emp)with
    | .ok (ss,E')=>.ok (.par ds::ss,E')
    |_=>.stuck
def zH:List AR->List Slot->zR->zR->Out zR
 | [],[],_,E=>.ok E
 | .tmp _::as,_::ss,E0,E=>zH as ss E0 E
 | .ln i::as,s'::ss,E0,E=>match E0[i]? with
  |none=>.stuck
  |some s=>match s.list?,s'.list?,E[i]? with
   |some _,some ds,some .emp=>zH as ss E0 (E.set i (s.put ds))
   |_,_,_=>.stuck
 |_,_,_,_=>.stuck
theorem Yb:∀(as:List AR) {vs:List V} {E E':zR} {ss:List Slot} {T:Fz},E.length=σ.length->AV σ as vs->zG as E=.ok (ss,E')->FR K mg M H (T++(zj vs as++σ.zip E)) ->
  FR K mg M H (T++((vs.map some).zip ss++σ.zip E'))/\(∀b,b∈zw (T++(zj vs as++σ.zip E))↔b∈zw (T++((vs.map some).zip ss++σ.zip E')))/\ss.length=as.length/\E'.length=σ.length
 | [],vs,E,E',ss,T,hl,av,e,f=>by
  cases e;simp only[AV]at av;subst av;exact⟨f,λb=>Iff.rfl,rfl,hl⟩
 | .tmp d::as,vs,E,E',ss,T,hl,av,e,f=>by
  simp only[AV]at av;obtain⟨v,r,rfl,av⟩:=av;simp only[zG]at e;cases e1:zG as E with
  |stuck=>rw[e1]at e;cases e
  |exc _ _=>rw[e1]at e;cases e
  |ok p =>
   obtain⟨ss1,E1⟩:=p;rw[e1]at e;cases e;have f1:FR K mg M H ((T++[(some v,.val d)])++(zj r as++σ.zip E)):=by
    rw[append_assoc];exact f
   obtain⟨g1,g2,g3,g4⟩:=Yb as hl av e1 f1;refine⟨by rw[append_assoc]at g1;exact g1,λb=>?_,by simp[g3],g4⟩;have:=g2 b;rw[append_assoc,append_assoc]at this;exact this
 | .ln i::as,vs,E,E',ss,T,hl,av,e,f=>by
  simp only[AV]at av;obtain⟨v,r,rfl,hv,av⟩:=av;simp only[zG]at e;cases e0:E[i]? with
  |none=>rw[e0]at e;cases e
  |some s =>
   rw[e0]at e;dsimp only at e;cases e2:s.list? with
   |none=>rw[e2]at e;cases e
   |some ds =>
    rw[e2]at e;dsimp only at e;cases e1:zG as (E.set i .emp)with
    |stuck=>rw[e1]at e;cases e
    |exc _ _=>rw[e1]at e;cases e
    |ok p =>
     obtain⟨ss1,E1⟩:=p;rw[e1]at e;cases e;obtain⟨o,h1,h2⟩:=JQ hl e0;have ho:o=some v:=by rw[hv]at h1;exact(Option.some.inj h1).symm
     subst ho;have ez:σ.zip (E.set i .emp)=(σ.zip E).set i (some v,.emp):=z3 .emp hv;have pA:(T++(((some v,Slot.emp)::zj r as)++σ.zip E)).Perm ((some v,s)::(T++(zj r as++σ.zip (E.set i .emp)))):=by
      rw[ez];have a:(T++(((some v,Slot.emp)::zj r as)++σ.zip E)).Perm ((some v,Slot.emp)::((T++zj r as)++σ.zip E)):=by
       rw[append_assoc];exact perm_middle
      refine a.trans ((WA h2).trans ?_);rw[append_assoc]
     have f1:=(f.perm pA).lab e2 (s':=.par ds) rfl;have f2:FR K mg M H ((((some v,Slot.par ds))::T)++(zj r as++σ.zip (E.set i .emp))):=f1;obtain⟨g1,g2,g3,g4⟩:=Yb as (by simp[hl]) av e1 f2;have pB:(((some v,Slot.par ds)::T)++((r.map some).zip ss1++σ.zip E')).Perm (T++(((some v,Slot.par ds)::(r.map some).zip ss1)++σ.zip E')):=perm_middle.symm;refine⟨g1.perm pB,λb=>?_,by simp[g3],g4⟩;have x1:b∈zw (T++(((some v,Slot.emp)::zj r as)++σ.zip E))↔b∈zw ((some v,s)::(T++(zj r as++σ.zip (E.set i .emp)))):=(pA.filterMap WZ).mem_iff;have x2:zw ((some v,Slot.par ds)::(T++(zj r as++σ.zip (E.set i .emp))))=zw ((some v,s)::(T++(zj r as++σ.zip (E.set i .emp)))):=YC e2 rfl;have x3:=g2 b;have x4:b∈zw (((some v,Slot.par ds)::T)++((r.map some).zip ss1++σ.zip E'))↔b∈zw (T++(((some v,Slot.par ds)::(r.map some).zip ss1)++σ.zip E')):=(pB.filterMap WZ).mem_iff;refine x1.trans ?_;rw[<- x2];exact x3.trans x4
theorem ZP:∀(as:List AR) {vs:List V} {E0 E E':zR} {ss:List Slot} {T:Fz},E.length=σ.length->AV σ as vs->zH as ss E0 E=.ok E'->FR K mg M H (T++((vs.map some).zip ss++σ.zip E)) ->
  FR K mg M H (T++σ.zip E')/\(∀b,b∈zw (T++σ.zip E')->b∈zw (T++((vs.map some).zip ss++σ.zip E)))/\E'.length=σ.length
 | [],vs,E0,E,E',ss,T,hl,av,e,f=>by
  cases ss with
  |cons _ _=>cases e
  |nil =>
   cases e;simp only[AV]at av;subst av;exact⟨f,λb q=>q,hl⟩
 | .tmp d::as,vs,E0,E,E',ss,T,hl,av,e,f=>by
  simp only[AV]at av;obtain⟨v,r,rfl,av⟩:=av;cases ss with
  |nil=>cases e
  |cons s ss =>
   simp only[zH]at e;have sub:(T++((r.map some).zip ss++σ.zip E)).Sublist (T++(((some v,s)::(r.map some).zip ss)++σ.zip E)):=(sublist_cons_self _ _).append_left _;obtain⟨g1,g2,g3⟩:=ZP as hl av e (f.sub sub);exact⟨g1,λb q=>zC sub b (g2 b q),g3⟩
 | .ln i::as,vs,E0,E,E',ss,T,hl,av,e,f=>by
  simp only[AV]at av;obtain⟨v,r,rfl,hv,av⟩:=av;cases ss with
  |nil=>cases e
  |cons s' ss =>
   simp only[zH]at e;cases e0:E0[i]? with
   |none=>rw[e0]at e;cases e
   |some s =>
    rw[e0]at e;dsimp only at e;cases e1:s.list? with
    |none=>rw[e1]at e;cases e
    |some ds0 =>
     cases e2:s'.list? with
     |none=>rw[e1,e2]at e;cases e
     |some ds =>
      cases e3:E[i]? with
      |none=>rw[e1,e2,e3]at e;cases e
      |some se =>
       rw[e1,e2,e3]at e;cases se with
       |emp =>
        dsimp only at e;obtain⟨o,h1,h2⟩:=JQ hl e3;have ho:o=some v:=by rw[hv]at h1;exact(Option.some.inj h1).symm
        subst ho;have ez:σ.zip (E.set i (s.put ds))=(σ.zip E).set i (some v,s.put ds):=z3 _ hv;have hp:(s.put ds).list?=some ds:=(ZO (p:=0) e1).2;have pA:(T++(((some v,s')::(r.map some).zip ss)++σ.zip E)).Perm ((some v,s')::((T++(r.map some).zip ss)++σ.zip E)):=by
         rw[append_assoc];exact perm_middle
        have f1:=(f.perm pA).lab e2 hp;have pB:((some v,s.put ds)::((T++(r.map some).zip ss)++σ.zip E)).Perm ((some v,Slot.emp)::((T++(r.map some).zip ss)++σ.zip (E.set i (s.put ds)))):=by
         rw[ez];exact WA h2
        have f2:=(f1.perm pB).tail;rw[append_assoc]at f2;obtain⟨g1,g2,g3⟩:=ZP as (by simp[hl]) av e f2;refine⟨g1,λb q=>?_,g3⟩;have q1:=g2 b q;rw[<- append_assoc]at q1;have q2:b∈zw ((some v,Slot.emp)::((T++(r.map some).zip ss)++σ.zip (E.set i (s.put ds)))):=zC (sublist_cons_self _ _) b q1;have q3:=zB pB.symm b q2;rw[YC e2 hp]at q3;exact zB pA.symm b q3
       |_=>cases e
def Wp:List AR->List Nat
 | []=>[]
 | .tmp _::as=>Wp as
 | .ln i::as=>i::Wp as
theorem ZQ:∀(as:List AR) {E E':zR} {ss:List Slot},zG as E=.ok (ss,E')->∀(k:Nat),k∉Wp as->E'[k]?=E[k]?
 | [],E,E',ss,e,k,h=>by cases e;rfl
 | .tmp d::as,E,E',ss,e,k,h=>by
  simp only[zG]at e;cases e1:zG as E with
  |stuck=>rw[e1]at e;cases e
  |exc _ _=>rw[e1]at e;cases e
  |ok p =>
   obtain⟨ss1,E1⟩:=p;rw[e1]at e;cases e;exact ZQ as e1 k h
 | .ln i::as,E,E',ss,e,k,h=>by
  simp only[zG]at e;cases e0:E[i]? with
  |none=>rw[e0]at e;cases e
  |some s =>
   rw[e0]at e;dsimp only at e;cases e2:s.list? with
   |none=>rw[e2]at e;cases e
   |some ds =>
    rw[e2]at e;dsimp only at e;cases e1:zG as (E.set i .emp)with
    |stuck=>rw[e1]at e;cases e
    |exc _ _=>rw[e1]at e;cases e
    |ok p =>
     obtain⟨ss1,E1⟩:=p;rw[e1]at e;cases e;simp only[Wp,mem_cons,not_or]at h;rw[ZQ as e1 k h.2,getElem?_set_ne (λq=>h.1 q.symm)]
theorem YD:∀(as:List AR) {E0 E E':zR} {ss:List Slot},zH as ss E0 E=.ok E'->∀(k:Nat),E'[k]?=E[k]?\/∃(s:Slot) (ds:List D),E0[k]?=some s/\E'[k]?=some (s.put ds)
 | [],E0,E,E',ss,e,k=>by
  cases ss with
  |cons _ _=>cases e
  |nil=>cases e;exact .inl rfl
 | .tmp d::as,E0,E,E',ss,e,k=>by
  cases ss with
  |nil=>cases e
  |cons s ss=>exact YD as e k
 | .ln i::as,E0,E,E',ss,e,k=>by
  cases ss with
  |nil=>cases e
  |cons s' ss =>
   simp only[zH]at e;cases e0:E0[i]? with
   |none=>rw[e0]at e;cases e
   |some s =>
    rw[e0]at e;dsimp only at e;cases e1:s.list? with
    |none=>rw[e1]at e;cases e
    |some ds0 =>
     cases e2:s'.list? with
     |none=>rw[e1,e2]at e;cases e
     |some ds =>
      cases e3:E[i]? with
      |none=>rw[e1,e2,e3]at e;cases e
      |some se =>
       rw[e1,e2,e3]at e;cases se with
       |emp =>
        dsimp only at e;rcases YD as e k with q|q
        ·by_cases ek:i=k
         ·subst ek
          have hlt:i<E.length:=(List.getElem?_eq_some_iff.mp e3).1;rw[getElem?_set_self hlt]at q;exact .inr ⟨s,ds,e0,q⟩
         ·rw[getElem?_set_ne ek]at q
          exact .inl q
        ·exact .inr q
       |_=>cases e
theorem Yc:∀(as:List AR) {E0 E E':zR} {ss:List Slot},zH as ss E0 E=.ok E'->∀(k:Nat),k∈Wp as->∃(s:Slot) (ds:List D),E0[k]?=some s/\E'[k]?=some (s.put ds)
 | [],E0,E,E',ss,e,k,h=>by cases h
 | .tmp d::as,E0,E,E',ss,e,k,h=>by
  cases ss with
  |nil=>cases e
  |cons s ss=>exact Yc as e k h
 | .ln i::as,E0,E,E',ss,e,k,h=>by
  cases ss with
  |nil=>cases e
  |cons s' ss =>
   simp only[zH]at e;cases e0:E0[i]? with
   |none=>rw[e0]at e;cases e
   |some s =>
    rw[e0]at e;dsimp only at e;cases e1:s.list? with
    |none=>rw[e1]at e;cases e
    |some ds0 =>
     cases e2:s'.list? with
     |none=>rw[e1,e2]at e;cases e
     |some ds =>
      cases e3:E[i]? with
      |none=>rw[e1,e2,e3]at e;cases e
      |some se =>
       rw[e1,e2,e3]at e;cases se with
       |emp =>
        dsimp only at e;by_cases ek:i=k
        ·subst ek
         rcases YD as e i with q|q
         ·have hlt:i<E.length:=(List.getElem?_eq_some_iff.mp e3).1
          rw[getElem?_set_self hlt]at q;exact⟨s,ds,e0,q⟩
         ·exact q
        ·simp only[Wp,mem_cons]at h
         rcases h with h|h
         ·exact absurd h.symm ek
         ·exact Yc as e k h
       |_=>cases e
theorem GP{as:List AR}{E1 E2 E3:zR}{ss outs:List Slot}(h1:zG as E1=.ok (ss,E2))(h2:zH as outs E1 E2=.ok E3):PKp σ E1 σ E3:=λk ds e=>by
 refine⟨?_,rfl⟩;by_cases hk:k∈Wp as
 ·obtain⟨s,es,q1,q2⟩:=Yc as h2 k hk
  rw[e]at q1;cases q1;exact⟨es,q2⟩
 ·rcases YD as h2 k with q|⟨s,es,q1,q2⟩
  ·rw[q,ZQ as h1 k hk];exact⟨ds,e⟩
  ·rw[e]at q1;cases q1
   exact⟨es,q2⟩
abbrev MF:=List Slot->Out (R×List Slot)
def spM(K:PySem.W.Frag)(mg:Str->Option Value)(n:Nat)(F:MF):Sp:=λvs H Q XQ=>vs.length=n/\∃(M:Addr->Prop) (ss:List Slot),ss.length=vs.length/\FR K mg M H ((vs.map some).zip ss)/\match F ss with
 | .stuck=>False
 | .ok (r,outs)=>∀v H',outs.length=vs.length->FR K mg M H' ((some v,r.slot)::(vs.map some).zip outs)->Step M H ((vs.map some).zip ss) H' ((some v,r.slot)::(vs.map some).zip outs)->Q v H'
 | .exc x _=>∀C H',mg x.cls=some (.ref C)->FR K mg M H' []->Step M H ((vs.map some).zip ss) H' []->XQ (.ref C) none H'
inductive Arg where
 |ev (m:ME)
 |lend (i:Nat)
def zf:List Arg->zR->Out (List AR×zR)
 | [],E=>.ok ([],E)
 | .ev m::as,E=>match m E with
  | .stuck=>.stuck
  | .exc x E1=>.exc x E1
  | .ok (r,E1)=>match zf as E1 with
   | .ok (ars,E2)=>.ok (.tmp r.d::ars,E2)
   | .exc x E2=>.exc x E2
   | .stuck=>.stuck
 | .lend i::as,E=>if JS E[i]?=true then .stuck else match zf as E with
  | .ok (ars,E2)=>.ok (.ln i::ars,E2)
  | .exc x E2=>.exc x E2
  | .stuck=>.stuck
def Q4(X:Cx)(as:List Arg):TA:=λσ H Q=>∃M E,E.length=σ.length/\FR X.K X.mg M H (σ.zip E)/\match zf as E with
 | .stuck=>False
 | .ok (ars,E')=>∀vs H',AV σ ars vs->Got X.K X.mg M σ E H [] σ E' H' (zj vs ars)->Q vs H'
 | .exc x E'=>∀H',Got X.K X.mg M σ E H [] σ E' H' []->XE X σ H' x
abbrev Q5(X:Cx)(es:List Expr)(as:List Arg):Prop:=PA X es (Q4 X as)
theorem Yd{as:List Arg}{Q:List V->Hp->Prop}(hl:E.length=σ.length)(h:FR X.K X.mg M H (T0++σ.zip E))
  (k:match zf as E with | .stuck=>False | .ok (ars,E')=>∀vs H',AV σ ars vs->Got X.K X.mg M σ E H T0 σ E' H' (zj vs ars)->Q vs H' | .exc x E'=>∀H',Got X.K X.mg M σ E H T0 σ E' H' []->XE X σ H' x):Q4 X as σ H Q:=by
 refine⟨Mo M T0,E,hl,h.inner,?_⟩;cases e:zf as E with
 |stuck=>rw[e]at k;exact k
 |ok a=>rw[e]at k;exact λvs H' av g=>k vs H' av (g.outer h)
 |exc x E'=>rw[e]at k;exact λH' g=>k H' (g.outer h)
theorem ga_nil:Q5 X [] []:=Z0 wo λσ H Q ⟨M,E,hl,fr,k⟩=>k [] H (by simp only[AV]) (Got.refl (T0:=[]) hl fr)
theorem ga_ev{e:Expr}{es:List Expr}{m:ME}{as:List Arg}(he:EOk X e m)(hr:Q5 X es as)(hs:zO e=false:=by rfl):Q5 X (e::es) (.ev m::as):=Z0 (yR he hr (zI hs)) λσ H Q ⟨M,E,hl,fr,k⟩=>by
 simp only[zf]at k;refine ze (T0:=[]) hl fr ?_;cases ea:m E with
 |stuck=>rw[ea]at k;exact k
 |exc x E1=>rw[ea]at k;exact k
 |ok p =>
  obtain⟨r1,E1⟩:=p;rw[ea]at k;intro x H1 g0;have g1:Got X.K X.mg M σ E H [] σ E1 H1 [(some x,.val r1.d)]:=⟨g0.len,g0.fr.frz,g0.st.frz,g0.pk⟩;refine Yd (T0:=[(some x,.val r1.d)]) g1.len g1.fr ?_;dsimp only at k;cases eb:zf as E1 with
  |stuck=>rw[eb]at k;exact k
  |exc x E2=>rw[eb]at k;exact λH' g=>k H' (g1.trans' g).dropAll
  |ok p =>
   obtain⟨ars,E2⟩:=p;rw[eb]at k;intro vs H2 av g2;refine k (x::vs) H2 (by simp only[AV];exact⟨x,vs,rfl,av⟩) ?_;exact(g1.trans' g2).perm (perm_append_comm)
theorem ga_lend{x:Str}{p:Pos}{es:List Expr}{i:Nat}{as:List Arg}(hv:PE X (.Name x p) (vq i))(hr:Q5 X es as)  : Q5 X (.Name x p::es) (.lend i::as):=Z0 (yR hv hr (zI rfl)) λσ H Q ⟨M,E,hl,fr,k⟩=>by
 simp only[zf]at k;cases em:JS E[i]? with
 |true=>rw[em]at k;exact k.elim
 |false =>
  rw[em]at k;simp only[Bool.false_eq_true,if_false]at k;obtain⟨s,hs1,hs2⟩:=Wn em;obtain⟨v,hv⟩:=GM hl fr hs1 hs2;refine⟨v,hv,?_⟩;refine Yd (T0:=[]) hl fr ?_;cases eb:zf as E with
  |stuck=>rw[eb]at k;exact k
  |exc x E2=>rw[eb]at k;exact k
  |ok p =>
   obtain⟨ars,E2⟩:=p;rw[eb]at k;intro vs H2 av g2;refine k (v::vs) H2 (by simp only[AV];exact⟨v,vs,rfl,hv,av⟩) ?_;have em2:Mo M ((some v,Slot.emp)::(zj vs ars++([]++σ.zip E2)))=Mo M (zj vs ars++([]++σ.zip E2)):=Mo_emp _ _ _;refine⟨g2.len,⟨λo d q=>?_,λo t ds q e=>?_,?_,g2.fr.mal⟩,⟨?_,g2.st.keep⟩,g2.pk⟩
   ·show ∃v',_/\Rep X.K X.mg (Hm (Mo M ((some v,Slot.emp)::(zj vs ars++([]++σ.zip E2)))) H2) d v'
    rw[em2];rcases mem_cons.mp q with q|q
    ·cases q
    ·exact g2.fr.val o d q
   ·show ∃a xs,_/\_/\_/\Reps X.K X.mg (Hm (Mo M ((some v,Slot.emp)::(zj vs ars++([]++σ.zip E2)))) H2) ds xs
    rw[em2];rcases mem_cons.mp q with q|q
    ·cases q;cases e
    ·exact g2.fr.own o t ds q e
   ·show(zw ((some v,Slot.emp)::(zj vs ars++([]++σ.zip E2)))).Nodup
    rw[yG];exact g2.fr.nd
   ·show JO _ (Hm (Mo M ((some v,Slot.emp)::(zj vs ars++([]++σ.zip E2)))) H2)
    rw[em2];exact g2.st.same
def Ji:List AR->Bool
 | []=>true
 | .tmp _::as=>Ji as
 | .ln _::_=>false
theorem Y9:∀{as:List AR} {E E':zR} {ss:List Slot},Ji as=true->zG as E=.ok (ss,E')->E'=E
 | [],E,E',ss,_,e=>by cases e;rfl
 | .tmp d::as,E,E',ss,h,e=>by
  simp only[zG]at e;cases q:zG as E with
  |stuck=>rw[q]at e;cases e
  |exc _ _=>rw[q]at e;cases e
  |ok p=>obtain⟨s1,E1⟩:=p;rw[q]at e;cases e;exact Y9 (as:=as) h q
 | .ln i::as,E,E',ss,h,e=>by cases h
def yj(F:MF)(as:List Arg):ME:=λE=>match zf as E with
 | .stuck=>.stuck
 | .exc x E1=>.exc x E1
 | .ok (ars,E1)=>match zG ars E1 with
  | .ok (ss,E2)=>match F ss with
   | .ok (r,outs)=>match zH ars outs E1 E2 with
    | .ok E3=>.ok (r,E3)
    |_=>.stuck
   | .exc x _=>if Ji ars=true then .exc ⟨x.cls,false⟩ E1 else .stuck
   | .stuck=>.stuck
  |_=>.stuck
theorem Q6{F:MF}{n:Nat}{ars:List AR}{E1 E2 E3:zR}{ss outs:List Slot}{r:R}{vs:List V}{H1:Hp}{Q:VK}{XQ:XK}(hn:ars.length=n)(e1:zG ars E1=.ok (ss,E2))(e2:F ss=.ok (r,outs))(e3:zH ars outs E1 E2=.ok E3)
  (av:AV σ ars vs) (g:Got K mg M σ E H [] σ E1 H1 (zj vs ars)) (k:∀v H',Got K mg M σ E H [] σ E3 H' [(some v,r.slot)]->Q v H'):spM K mg n F vs H1 Q XQ:=by
 obtain⟨f1,o1,l1,l2⟩:=Yb (T:=[]) ars g.len av e1 g.fr;have f1':FR K mg M H1 (σ.zip E2++(vs.map some).zip ss):=FR.perm (T:=σ.zip E2++(vs.map some).zip ss) (Z:=(vs.map some).zip ss++σ.zip E2) f1 perm_append_comm;have hlen:=av.length;refine⟨hlen.trans hn,Mo M (σ.zip E2),ss,l1.trans hlen.symm,f1'.inner,?_⟩;rw[e2];intro v H' ol f2 s2;have f3:=FR.outer f1' f2 s2;have s3:=Step.outer s2;have p:(σ.zip E2++((some v,r.slot)::(vs.map some).zip outs)).Perm ([(some v,r.slot)]++((vs.map some).zip outs++σ.zip E2)):=by
  refine perm_append_comm.trans ?_;exact List.Perm.refl _
 obtain⟨f4,o4,l4⟩:=ZP ars l2 av e3 (f3.perm p);refine k v H' ⟨l4,f4,?_,g.pk.trans (GP e1 e3)⟩;have st1:Step M H (σ.zip E) H1 (σ.zip E2++(vs.map some).zip ss):=g.st.weak λb hb=>(o1 b).mpr (zB (T:=σ.zip E2++(vs.map some).zip ss) (Z:=(vs.map some).zip ss++σ.zip E2) perm_append_comm b hb)
 have st2:=st1.trans s3;exact st2.weak λb hb=>zB p.symm b (o4 b hb)
theorem Q7{F:MF}{n:Nat}{ars:List AR}{E1 E2:zR}{ss outs:List Slot}{x:Exn}{vs:List V}{H1:Hp}{Q:VK}{XQ:XK}(hn:ars.length=n)(hl:Ji ars=true)(e1:zG ars E1=.ok (ss,E2))(e2:F ss=.exc x outs)
  (av:AV σ ars vs) (g:Got K mg M σ E H [] σ E1 H1 (zj vs ars)) (k:∀C H',mg x.cls=some (.ref C)->Got K mg M σ E H [] σ E1 H' []->XQ (.ref C) none H'):spM K mg n F vs H1 Q XQ:=by
 obtain⟨f1,o1,l1,l2⟩:=Yb (T:=[]) ars g.len av e1 g.fr;have f1':FR K mg M H1 (σ.zip E2++(vs.map some).zip ss):=FR.perm (T:=σ.zip E2++(vs.map some).zip ss) (Z:=(vs.map some).zip ss++σ.zip E2) f1 perm_append_comm;have hlen:=av.length;refine⟨hlen.trans hn,Mo M (σ.zip E2),ss,l1.trans hlen.symm,f1'.inner,?_⟩;rw[e2];intro C H' hm f2 s2;have f3:=FR.outer f1' f2 s2;have s3:=Step.outer s2;rw[append_nil]at f3 s3;have st1:Step M H (σ.zip E) H1 (σ.zip E2++(vs.map some).zip ss):=g.st.weak λb hb=>(o1 b).mpr (zB (T:=σ.zip E2++(vs.map some).zip ss) (Z:=(vs.map some).zip ss++σ.zip E2) perm_append_comm b hb)
 obtain rfl:=Y9 hl e1;exact k C H' hm ⟨g.len,f3,st1.trans s3,g.pk⟩
theorem yk:∀(as:List Arg) {E E':zR} {ars:List AR},zf as E=.ok (ars,E')->ars.length=as.length
 | [],E,E',ars,e=>by cases e;rfl
 | .ev m::as,E,E',ars,e=>by
  simp only[zf]at e;cases ea:m E with
  |stuck=>rw[ea]at e;cases e
  |exc _ _=>rw[ea]at e;cases e
  |ok p =>
   obtain⟨r,E1⟩:=p;rw[ea]at e;dsimp only at e;cases eb:zf as E1 with
   |stuck=>rw[eb]at e;cases e
   |exc _ _=>rw[eb]at e;cases e
   |ok p=>obtain⟨a,b⟩:=p;rw[eb]at e;cases e;simp[yk as eb]
 | .lend i::as,E,E',ars,e=>by
  simp only[zf]at e;split at e
  ·cases e
  ·cases eb:zf as E with
   |stuck=>rw[eb]at e;cases e
   |exc _ _=>rw[eb]at e;cases e
   |ok p=>obtain⟨a,b⟩:=p;rw[eb]at e;cases e;simp[yk as eb]
theorem vL{F:MF}{n:Nat}{as:List Arg}{Q:VK}(hn:as.length=n)(h:tM X (yj F as) σ H Q):Q4 X as σ H λvs H1=>spM X.K X.mg n F vs H1 Q (EX X σ):=by
 obtain⟨M,E,hl,fr,k⟩:=h;unfold yj at k;refine Yd (T0:=[]) hl fr ?_;cases ea:zf as E with
 |stuck=>rw[ea]at k;exact k
 |exc x E1=>rw[ea]at k;exact k
 |ok p =>
  obtain⟨ars,E1⟩:=p;rw[ea]at k;intro vs H1 av g;dsimp only at k;cases e1:zG ars E1 with
  |stuck=>rw[e1]at k;exact k.elim
  |exc _ _=>rw[e1]at k;exact k.elim
  |ok p =>
   obtain⟨ss,E2⟩:=p;rw[e1]at k;dsimp only at k;cases e2:F ss with
   |stuck=>rw[e2]at k;exact k.elim
   |exc x o =>
    rw[e2]at k;dsimp only at k;cases hl:Ji ars with
    |false=>rw[hl]at k;exact k.elim
    |true =>
     rw[hl]at k;exact Q7 ((yk as ea).trans hn) hl e1 e2 av g λC H' hm g'=>⟨⟨x.cls,false⟩,C,rfl,hm,rfl,k H' g'⟩
   |ok p =>
    obtain⟨r,outs⟩:=p;rw[e2]at k;dsimp only at k;cases e3:zH ars outs E1 E2 with
    |stuck=>rw[e3]at k;exact k.elim
    |exc _ _=>rw[e3]at k;exact k.elim
    |ok E3 =>
     rw[e3]at k;exact Q6 ((yk as ea).trans hn) e1 e2 e3 av g k
inductive Mask:Fz->Fz->Prop
 |nil (Z:Fz):Mask Z []
 |keep {z:Option V×Slot} {Z W:Fz}:Mask Z W->Mask (z::Z) (z::W)
 |skip {z:Option V×Slot} {Z W:Fz}:Mask Z W->Mask (z::Z) W
 |extra {o:Option V} {Z W:Fz}:Mask Z W->Mask Z ((o,.emp)::W)
theorem Mask.emp{z:Option V×Slot}{o:Option V}{Z W:Fz}(h:Mask Z W):Mask (z::Z) ((o,.emp)::W):=.skip (.extra h)
theorem Mask.sub:∀{Z W:Fz},Mask Z W->(zw W).Sublist (zw Z)
 |_,_,.nil Z=>by simp[zw]
 |_,_,.keep (z:=z) (Z:=Z) (W:=W) h=>by
  have e:∀W:Fz,zw (z::W)=zw [z]++zw W:=λW=>zT [z] W
  rw[e Z,e W];exact h.sub.append_left _
 |_,_,.skip (z:=z) (Z:=Z) (W:=W) h=>by
  have e:∀W:Fz,zw (z::W)=zw [z]++zw W:=λW=>zT [z] W
  rw[e Z];exact h.sub.trans (sublist_append_right _ _)
 |_,_,.extra (Z:=Z) (W:=W) h=>by
  rw[yG];exact h.sub
theorem Mask.mem:∀{Z W:Fz},Mask Z W->∀o s,s≠Slot.emp->(o,s)∈W->(o,s)∈Z
 |_,_,.nil Z,o,s,hs,h=>by cases h
 |_,_,.keep h,o,s,hs,q=>by
  rcases mem_cons.mp q with q|q
  ·subst q;exact mem_cons_self
  ·exact mem_cons_of_mem _ (h.mem o s hs q)
 |_,_,.skip h,o,s,hs,q=>mem_cons_of_mem _ (h.mem o s hs q)
 |_,_,.extra h,o,s,hs,q=>by
  rcases mem_cons.mp q with q|q
  ·cases q;exact absurd rfl hs
  ·exact h.mem o s hs q
theorem FR.mask{Z W:Fz}(f:FR K mg M H Z)(h:Mask Z W):FR K mg M H W where
 val:=λo d q=>by
  obtain⟨v,e,r⟩:=f.val o d (h.mem o _ (by intro z;cases z) q);exact⟨v,e,r.mono (jC (ww λb hb=>h.sub.subset hb))⟩
 own:=λo s ds q e=>by
  obtain⟨a,xs,e1,e2,e3,r⟩:=f.own o s ds (h.mem o s (by intro z;subst z;cases e) q) e;exact⟨a,xs,e1,e2,e3,r.mono (jC (ww λb hb=>h.sub.subset hb))⟩
 nd:=f.nd.sublist h.sub
 mal:=f.mal
def zl:List Slot->zR->List Slot
 | [],_=>[]
 | .par _::ss,s::E=>s::zl ss E
 |_::ss,_::E=>.emp::zl ss E
 |_::ss,[]=>.emp::zl ss []
def fnM(N:Nat)(body:MS):MF:=λss=>match body (ss++replicate (N-ss.length) .emp)with
 | .ok (.ret r,E')=>.ok (r,zl ss E')
 | .ok (.nx,E')=>.ok (.val .non,zl ss E')
 | .exc x E'=>.exc x (zl ss E')
 |_=>.stuck
theorem zg:∀(ss:List Slot) (E:zR),(zl ss E).length=ss.length
 | [],_=>rfl
 | .par _::ss,s::E=>by simp[zl,zg ss E]
 | .emp::ss,s::E=>by simp[zl,zg ss E]
 | .val _::ss,s::E=>by simp[zl,zg ss E]
 | .own _::ss,s::E=>by simp[zl,zg ss E]
 | .par _::ss,[]=>by simp[zl,zg ss []]
 | .emp::ss,[]=>by simp[zl,zg ss []]
 | .val _::ss,[]=>by simp[zl,zg ss []]
 | .own _::ss,[]=>by simp[zl,zg ss []]
theorem YE:∀(ss:List Slot) (vs:List (Option V)) (σ:St) (E:zR),E.length=σ.length->vs.length=ss.length->(∀(i:Nat) ds,ss[i]?=some (.par ds)->σ[i]?=vs[i]?)->Mask (σ.zip E) (vs.zip (zl ss E))
 | [],vs,σ,E,_,_,_=>by
  simp only[zl,List.zip_nil_right];exact .nil _
 |s::ss,[],σ,E,_,h,_=>by simp at h
 |s::ss,v::vs,[],y::E,h,_,_=>by simp at h
 |s::ss,v::vs,x::σ,[],h,_,_=>by simp at h
 |s::ss,v::vs,[],[],h1,h2,h4=>by
  have ih:=YE ss vs [] [] rfl (by simpa using h2) λi ds e=>by
   have:=h4 (i+1) ds (by simpa using e);simpa using this
  cases s<;>exact .extra ih
 |s::ss,v::vs,x::σ,y::E,h1,h2,h4=>by
  have ih:=YE ss vs σ E (by simpa using h1) (by simpa using h2) λi ds e=>by
   have:=h4 (i+1) ds (by simpa using e);simpa using this
  cases s with
  |par ds =>
   have e:=h4 0 ds rfl;simp at e;subst e;simp only[zl,zip_cons_cons];exact .keep ih
  |emp=>simp only[zl,zip_cons_cons];exact .emp ih
  |val d=>simp only[zl,zip_cons_cons];exact .emp ih
  |own ds=>simp only[zl,zip_cons_cons];exact .emp ih
theorem Wq:∀n:Nat,(replicate n (none:Option V)).zip (replicate n Slot.emp)=replicate n (none,Slot.emp)
 |0=>rfl
 |n+1=>by simp[replicate_succ,Wq n]
theorem ZR(n:Nat):zw (replicate n ((none:Option V),Slot.emp))=[]:=by
 induction n with
 |zero=>rfl
 |succ n ih=>rw[replicate_succ,yG,ih]
theorem FR.emps(f:FR K mg M H Z)(n:Nat):FR K mg M H (Z++replicate n (none,.emp)):=by
 have eo:zw (Z++replicate n (none,Slot.emp))=zw Z:=by rw[zT,ZR,append_nil]
 have em:Mo M (Z++replicate n (none,Slot.emp))=Mo M Z:=by unfold Mo;rw[eo]
 refine⟨λo d q=>?_,λo s ds q e=>?_,by rw[eo];exact f.nd,f.mal⟩
 ·rw[em]
  rcases mem_append.mp q with q|q
  ·exact f.val o d q
  ·have:=List.eq_of_mem_replicate q;cases this
 ·rw[em]
  rcases mem_append.mp q with q|q
  ·exact f.own o s ds q e
  ·have:=List.eq_of_mem_replicate q;cases this;cases e
theorem body_ok{N:List Str}{n:Nat}{body:MS}{vs:List V}{Q:VK}{XQ:XK}(hx:∀x σ' H',(∀C,X.mg x.cls=some (.ref C)->XQ (.ref C) none H')->XE X σ' H' x)(h:spM X.K X.mg n (fnM N.length body) vs H Q XQ):tS X body {nx:=λ_ H'=>Q .non H',rt:=Q} (L2.jB N vs) H:=by
 obtain⟨hv,M,ss,hl,f,k⟩:=h;have e0:(L2.jB N vs).zip (ss++replicate (N.length-ss.length) Slot.emp)=(vs.map some).zip ss++replicate (N.length-ss.length) (none,.emp):=by
  unfold L2.jB;rw[List.zip_append (by simp[hl]),hl,Wq]
 have hE:(ss++replicate (N.length-ss.length) Slot.emp).length=(L2.jB N vs).length:=by
  unfold L2.jB;simp[hl]
 have f0:FR X.K X.mg M H ((L2.jB N vs).zip (ss++replicate (N.length-ss.length) Slot.emp)):=by rw[e0];exact f.emps _
 have eo:∀b,b∈zw ((L2.jB N vs).zip (ss++replicate (N.length-ss.length) Slot.emp))->b∈zw ((vs.map some).zip ss):=λb hb=>by
  rw[e0,zT,ZR,append_nil]at hb;exact hb
 refine⟨M,ss++replicate (N.length-ss.length) Slot.emp,hE,f0,?_⟩;unfold fnM at k;have fin:∀{σ':St} {E':zR} {H':Hp} {v:V} {r:R},Got X.K X.mg M (L2.jB N vs) (ss++replicate (N.length-ss.length) Slot.emp) H [] σ' E' H' [(some v,r.slot)] ->
   (∀v H',(zl ss E').length=vs.length->FR X.K X.mg M H' ((some v,r.slot)::(vs.map some).zip (zl ss E'))->Step M H ((vs.map some).zip ss) H' ((some v,r.slot)::(vs.map some).zip (zl ss E'))->Q v H')->Q v H':=λ{σ' E' H' v r} g kk=>by
  have mk:Mask (σ'.zip E') ((vs.map some).zip (zl ss E')):=YE ss _ σ' E' g.len (by simp[hl]) λi ds e=>by
   have hi:i<ss.length:=(List.getElem?_eq_some_iff.mp e).1;have e1:(ss++replicate (N.length-ss.length) Slot.emp)[i]?=some (.par ds):=by rw[List.getElem?_append_left hi];exact e
   have:=(g.pk i ds e1).2;rw[this];unfold L2.jB;rw[List.getElem?_append_left (by simp;omega)]
  refine kk v H' (by rw[zg,hl]) (g.fr.mask (.keep mk)) ?_;exact(g.st.weak λb hb=>(Mask.keep mk).sub.subset hb).left eo
 cases eb:body (ss++replicate (N.length-ss.length) Slot.emp)with
 |stuck=>rw[eb]at k;exact k
 |exc x E' =>
  rw[eb]at k;intro σ' H' g;refine hx x σ' H' λC hm=>k C H' hm (g.fr.sub (List.nil_sublist _)) ?_
  exact(g.st.weak λb hb=>by cases hb).left eo
 |ok p =>
  obtain⟨fl,E'⟩:=p;rw[eb]at k;cases fl with
  |bk=>exact k.elim
  |ct=>exact k.elim
  |ret r=>exact λv σ' H' g=>fin g k
  |nx=>exact λσ' H' g=>fin (r:=.val .non) (g.flat (d:=.non) rfl) k
end
section
variable{P:Program}{w:World}{K:PySem.W.Frag}{mg:Str->Option Value}{base:Heap}
theorem fn_ok{c:Bool}{x qual:Str}{st:Stmt}{f:Addr}{fd:FuncData}{N ps:List Str}{k:Nat}{body:MS}(F:Fun K x qual st f fd)(S:FnScope N ps (zX st))
  (hb:∀(cdv:Value) (A:Around) (outer:List Env) (s:Shared) (H:Hp) (E:XK),(c=true->A.handled=none)->RoomN k (A.deeper (PyProof.Rows.envOfC qual (zX st) s.heap.objs.size f cdv)) ->
   uQ (cxN c P w K mg base N qual (zX st) f cdv A outer s H E) (yP st) body):FnOkN c P w K mg base (k+1) f fd ps (spM K mg ps.length (fnM N.length body)):=by
 obtain⟨oc,od,kV,doc,pm,an,cdv,ct,osl,rfl,lk,hcd⟩:=F.ex;exact fn_ofN lk hcd S (λvs H Q E h=>h.1) λA outer s H vs Q E hd hr h=>⟨_,hb cdv A outer s H E hd hr,body_ok (X:=cxN c P w K mg base N qual (zX st) f cdv A outer s H E) (λx σ' H' hE=>Qj hE) h⟩
end
section
variable{X:Cx}{k:Nat}{f:Addr}{fd:FuncData}{ps:List Str}{F:MF}{x:Str}{p pos:Pos}{e:Expr}{es:List Expr}{as:List Arg}
theorem ok_call{c:Bool}(G:FnOkN c X.prog X.w X.K X.mg X.base k f fd ps (spM X.K X.mg ps.length F))(hd:c=true->X.A.handled=none)(hr:RoomN k X.A)(hg:Gl X x)(hm:X.mg x=some (.ref f))(hk:keepIn X.K (.ref f)=true)(hb:wP X.K fd ps [])(ha:Q5 X (e::es) as)(hn:as.length=ps.length:=by rfl)
  (hdb:(x==("__debug__":Str))=false:=by decide) (he:zO e=false:=by rfl) (hpl:z9 es=true:=by rfl):EOk X (.Call (.Name x p) (e::es) [] pos) (yj F as) :=
 zi (Qi G hd hr hg hm hk hb ha hdb (zI he) (yd hpl)) λσ H Q=>vL hn
end
end DV
namespace DV
open PySem L2
section
variable{X:Cx}{σ:St}{H:Hp}
theorem Q8{fe e:Expr}{es:List Expr}{pos:Pos}{tf:TE}{ta:TA}(hf:PE X fe tf)(ha:PA X (e::es) ta)
  (hc:eval (.Call fe (e::es) [] pos) X.env=(do callWith pos (<- eval fe X.env) [] (backTo pos (starEach (e::es) X.env)) (backToKw pos (keywordEach [] X.env))):=by rfl)
  (he:zO e=false:=by rfl) (hpl:z9 es=true:=by rfl) :
  PE X (.Call fe (e::es) [] pos) (λσ H Q=>tf σ H λv H1=>∃f fd ps k sp,v=.ref f/\keepIn X.K (.ref f)=true/\(∃c,FnOkN c X.prog X.w X.K X.mg X.base k f fd ps sp/\(c=true->X.A.handled=none))/\RoomN k X.A/\wP X.K fd ps []/\ta σ H1 λvs H2=>sp vs H2 Q (EX X σ)):=by
 intro pins s σ H Q I h;refine PyProof.Rows.Call_ (thn (hf pins s σ H _ I h) λv s1 ⟨x,H1,I1,r1,f,fd,ps,k,sp,ex,hk,⟨c,G,hd⟩,hr,hb,q⟩=>?_) hc;subst ex;cases r1;refine callWith_K (h₀:=X.base) I1.ok.mod.kin hk (thn (ha pos pins s1 σ H1 _ I1 q) λus s2 ⟨vs,H2,I2,r,q⟩=>⟨I2.kIn,?_⟩) (zI he) (yd hpl);exact u8 G hd hr hb I2 r q
def uE(X:Cx)(n:Nat)(tab:Str->Option MF):Prop:=∀x F,tab x=some F->∃f fd ps k,X.mg x=some (.ref f)/\keepIn X.K (.ref f)=true/\(∃c,FnOkN c X.prog X.w X.K X.mg X.base k f fd ps (spM X.K X.mg n F)/\(c=true->X.A.handled=none))/\RoomN k X.A/\wP X.K fd ps []
def WB(tab:Str->Option MF)(mf:ME)(as:List Arg):ME:=λE=>match mf E with
 | .stuck=>.stuck
 | .exc x E1=>.exc x E1
 | .ok (.val (.fn x),E1)=>match tab x with
  |some F=>yj F as E1
  |none=>.stuck
 |_=>.stuck
theorem GQ{tab:Str->Option MF}{mf:ME}{as:List Arg}{n:Nat}{Q:VK}(ht:uE X n tab)(hn:as.length=n)(h:tM X (WB tab mf as) σ H Q) :
  tM X mf σ H λv H1=>∃f fd ps k sp,v=.ref f/\keepIn X.K (.ref f)=true/\(∃c,FnOkN c X.prog X.w X.K X.mg X.base k f fd ps sp/\(c=true->X.A.handled=none))/\RoomN k X.A/\wP X.K fd ps []/\Q4 X as σ H1 λvs H2=>sp vs H2 Q (EX X σ):=by
 obtain⟨M,E,hl,fr,k⟩:=h;unfold WB at k;refine ze (T0:=[]) hl fr ?_;cases ea:mf E with
 |stuck=>rw[ea]at k;exact k
 |exc x E1=>rw[ea]at k;exact k
 |ok p =>
  obtain⟨r,E1⟩:=p;rw[ea]at k;cases r with
  |own ds=>exact k.elim
  |val d =>
   cases d with
   |fn x =>
    intro v H1 g;dsimp only at k;cases et:tab x with
    |none=>rw[et]at k;exact k.elim
    |some F =>
     rw[et]at k;have rf:=g.rep;simp only[R.d,Rep]at rf;obtain⟨f,rfl,hm⟩:=rf;obtain⟨f',fd,ps,kk,hm',hk,G,hr,hb⟩:=ht x F et;rw[hm]at hm';cases hm';refine⟨f,fd,ps,kk,_,rfl,hk,G,hr,hb,?_⟩;have g1:=g.dropAll;have q:tM X (yj F as) σ H1 Q:=by
      refine ze (T0:=[]) g1.len g1.fr ?_;dsimp only at k;cases eb:yj F as E1 with
      |stuck=>rw[eb]at k;exact k
      |exc x E2=>rw[eb]at k;exact λH'' g'=>k H'' (g1.trans' g')
      |ok p=>rw[eb]at k;exact λv'' H'' g'=>k v'' H'' (g1.trans' g')
     exact vL hn q
   |_=>exact k.elim
theorem Q9{fe e:Expr}{es:List Expr}{pos:Pos}{mf:ME}{as:List Arg}{n:Nat}{tab:Str->Option MF}(ht:uE X n tab)(hf:EOk X fe mf)(ha:Q5 X (e::es) as)(hn:as.length=n:=by rfl)
  (hc:eval (.Call fe (e::es) [] pos) X.env=(do callWith pos (<- eval fe X.env) [] (backTo pos (starEach (e::es) X.env)) (backToKw pos (keywordEach [] X.env))):=by rfl)
  (he:zO e=false:=by rfl) (hpl:z9 es=true:=by rfl):EOk X (.Call fe (e::es) [] pos) (WB tab mf as) :=
 zi (Q8 hf ha hc he hpl) λσ H Q=>GQ ht hn
theorem ok_dic{pos:Pos}(h:PE X (.Dict [] [] pos) (λ_ H Q=>∀p,H p=none->Q (.ref p) (upd H p (.dK [])))):EOk X (.Dict [] [] pos) (eC .dic):=zi h λσ H Q ⟨M,E,hl,fr,k⟩=>λp hp=>by
 refine k _ _ ((Got.refl (T0:=[]) hl fr).more (T:=[(some (.ref p),.val .dic)]) ((fr.grow hp).add ?_) (Step.newVal hp));simp only[Rep];exact⟨p,rfl,zN.mpr ⟨wx fr hp,yX⟩⟩
end
end DV
namespace L2
open PySem PySem.Spec PyProof.Rows
theorem Inv.big{X:Cx}{pins:List (Addr×Obj)}{σ:St}{H:Hp}{s:Shared}(I:Inv X pins σ H s):sysModules<s.heap.objs.size:=by
 have h:mainGlobals<s.heap.objs.size:=(I.mod.glob.keeps I.bk).lt;exact Nat.lt_trans (by decide) h
theorem pe_dicK{X:Cx}{pos:Pos}:PE X (.Dict [] [] pos) (λ_ H Q=>∀p,H p=none->Q (.ref p) (upd H p (.dK []))):=λpins s σ H Q I h =>
 wpAny_Dict_empty ⟨.ref s.heap.objs.size,_,I.laid (a:=s.heap.objs.size) (o:=.dK []) (t':=s.toks) (λ_ _ q=>get?_push_of_some _ q) (le_refl _)
  ⟨zero_le _,beq_eq_false_iff_ne.mpr (Ne.symm (ne_of_lt I.big)),[],.nil,Heap.DictOf.new s.heap⟩,rfl,h _ (I.hok.fresh (le_refl _))⟩
def cxB(X:Cx)(N:List Str)(scope:Scope)(cl:List (Str×Addr))(C:Addr)(ex:List Addr)(s:Shared)(H:Hp):Cx :=
 {X with N:=N,s₀:=s,H₀:=H,env:=compEnvC scope cl C X.env,outer:=X.stack,ex:=ex,fn:=λy=>scope.names.lookup y==some NameKind.cell,pn:=[]}
theorem wT{prog:Program}{w:World}{A:Around}{R:Result->Shared->Prop}{s:Shared}{elt target iter:Expr}{ifs:List Expr}{scope:Scope}{pos:Pos}{it acc:Value}{env:Env}(I:Nat->Shared->Prop)
  (turn:∀n s,I n s->wpAny (model prog w) A (pyNext it) (λr s₁=>match r with
   |none=>R (.ok .next) s₁
   |some v=>wpAny (model prog w) A (letOwnedTupleGo target it v) (λ_ s₁=>wpAny (model prog w) A (assign target env v) (λ_ s₂ =>
     wpAny (model prog w) A (forIn ifs true λc r=>if r=true then do let ok <- isTrue c env (eval c env);pure (ForInStep.yield ok)else pure (ForInStep.yield r)) (λok s₃ =>
      if ok=true then wpAny (model prog w) A (eval elt env) (λx s₄ =>
       wpAny (model prog w) A (call (.builtin "list.append") [acc,x]) (λ_ s₅=>∃m,m<n/\I m s₅) (notedBy (model prog w) A env λe s'=>R (.error e) s') s₄) (notedBy (model prog w) A env λe s'=>R (.error e) s') s₃
      else ∃m,m<n/\I m s₃) (notedBy (model prog w) A env λe s'=>R (.error e) s') s₂) (notedBy (model prog w) A env λe s'=>R (.error e) s') s₁) (notedBy (model prog w) A env λe s'=>R (.error e) s') s₁) (notedBy (model prog w) A env λe s'=>R (.error e) s') s)
  (n:Nat) (h:I n s) :
  codeAny (model prog w) A (.compLoop (.ListComp elt [⟨target,iter,ifs,0⟩] scope pos) 0 it acc env) R s:=by
 refine codeAny_loop rfl I (λn s hI=>?_) n h;show wpAny _ A ((compTurn (.ListComp elt [⟨target,iter,ifs,0⟩] scope pos) 0 it acc env).onRaise (λx=>do noteFrame x env;theTreesLotGoes x)) _ _ s;refine wpAny_noted ?_;rw[compTurn_list];refine wpAny_bind (wpAny_standAt (wpAny_bind (wpAny_mono (turn n s hI) (λr s₁ h₁=>?_) λ_ _ h'=>h')));cases r with
 |none=>exact wpAny_pure h₁
 |some v =>
  refine wpAny_bind (wpAny_mono h₁ (λ_ s₁' h₁'=>?_) λ_ _ h'=>h');refine wpAny_bind (wpAny_mono h₁' (λ_ s₂ h₂=>wpAny_bind (wpAny_mono h₂ (λok s₃ h₃=>?_) λ_ _ h'=>h')) λ_ _ h'=>h');cases ok with
  |false=>exact wpAny_pure ⟨rfl,h₃⟩
  |true =>
   exact wpAny_bind (wpAny_bind (wpAny_mono h₃ (λx s₄ h₄=>wpAny_bind (wpAny_mono h₄ (λ_ s₅ h₅=>wpAny_pure (wpAny_pure ⟨rfl,h₅⟩)) λ_ _ h'=>h')) λ_ _ h'=>h'))
def zA1(X:Cx)(ifs:List Expr)(t:TT):Prop:=∀(pins:List (Addr×Obj)) (s:Shared) (σ:St) (H:Hp) (Q:Bool->Hp->Prop),Inv X pins σ H s->t σ H Q ->
 wpAny (model X.prog X.w) X.A (forIn ifs true λc r=>if r=true then do let ok <- isTrue c X.env (eval c X.env);pure (ForInStep.yield ok)else pure (ForInStep.yield r)) (TP X pins σ Q) X.xe s
theorem pif_nil{X:Cx}:zA1 X [] (λσ H Q=>Q true H):=λpins s σ H Q I h=>wpAny_tests_nil ⟨H,I,h⟩
theorem pif_one{X:Cx}{c:Expr}{t:TT}(h:PT X c t):zA1 X [c] t:=λpins s σ H Q I q=>wpAny_tests_one (h pins s σ H Q I q)
def z6(nl:Nat)(caps:List Nat)(σ:St):St:=replicate nl none++caps.map λj=>(σ[j]?).getD none
def zAA(nl:Nat)(caps:List Nat)(wi:TI)(g:TG)(tt:TT)(te:TE):TE:=λσ H Q=>wi σ H λJ H1=>∀D,H1 D=none->∃W:Nat->Nat->St->Hp->Prop,(∃m,W 0 m (z6 nl caps σ) (upd H1 D (.lst [])))/\∀i m σ' H',W i m σ' H' ->
 (J.stop i H'/\Q (.ref D) H')\/(J.go i H'/\∃Nx:St->Hp->Prop,(∀σ'' H'',Nx σ'' H''->∃m',m'<m/\W (i+1) m' σ'' H'')/\∀x H'',J.yld i H' x H''->g x σ' H'' λσ2 H2 =>
  tt σ2 H2 λb H3=>if b=true then te σ2 H3 λy H4=>∃ys,H4 D=some (.lst ys)/\ys.length<sizeLine/\Nx σ2 (upd H4 D (.lst (ys++[y])))else Nx σ2 H3)
theorem wJ{env:Env}:∀{names:List (Str×NameKind)} {x:Str} {k:NameKind},(names.map λ(n,k)=>if(k==NameKind.free&&env.scope.kind==.function&&env.kindOf n==some .cell)then(n,NameKind.cell)else(n,k)).lookup x=some k ->
  ∃k0,names.lookup x=some k0/\(k=k0\/(k0=.free/\k=.cell))
 | [],_,_,h=>by simp at h
 | (n,k1)::r,x,k,h=>by
  have ih:=@wJ env r x k;rw[map_cons]at h;by_cases hc:(k1==NameKind.free&&env.scope.kind==.function&&env.kindOf n==some .cell)=true
  ·simp only[hc,if_true]at h
   cases hx:x==n with
   |true =>
    simp only[lookup_cons,hx]at h ⊢;cases h;refine⟨k1,rfl,.inr ⟨?_,rfl⟩⟩;simp only[Bool.and_eq_true,beq_iff_eq]at hc;exact hc.1.1
   |false=>simp only[lookup_cons,hx]at h ⊢;exact ih h
  ·have hc':(k1==NameKind.free&&env.scope.kind==.function&&env.kindOf n==some .cell)=false:=by simpa using hc
   simp only[hc',Bool.false_eq_true,if_false]at h;cases hx:x==n with
   |true=>simp only[lookup_cons,hx]at h ⊢;cases h;exact⟨k1,rfl,.inl rfl⟩
   |false=>simp only[lookup_cons,hx]at h ⊢;exact ih h
theorem Jj{env:Env}:∀{names:List (Str×NameKind)} {x:Str},names.lookup x=some .free->env.scope.kind=.function->env.kindOf x=some .cell ->
  (names.map λ(n,k)=>if(k==NameKind.free&&env.scope.kind==.function&&env.kindOf n==some .cell)then(n,NameKind.cell)else(n,k)).lookup x=some .cell
 | [],_,h,_,_=>by simp at h
 | (n,k1)::r,x,h,hk,hc=>by
  have ih:=@Jj env r x;rw[map_cons];cases hx:x==n with
  |true =>
   have:x=n:=by simpa using hx
   subst this;simp only[lookup_cons,hx]at h;cases h;have:(NameKind.free==NameKind.free&&env.scope.kind==.function&&env.kindOf x==some .cell)=true:=by simp[hk,hc]
   simp only[this,if_true,lookup_cons,hx]
  |false =>
   simp only[lookup_cons,hx]at h;by_cases hcc:(k1==NameKind.free&&env.scope.kind==.function&&env.kindOf n==some .cell)=true
   ·simp only[hcc,if_true,lookup_cons,hx];exact ih h hk hc
   ·have hcc':(k1==NameKind.free&&env.scope.kind==.function&&env.kindOf n==some .cell)=false:=by simpa using hcc
    simp only[hcc',Bool.false_eq_true,if_false,lookup_cons,hx];exact ih h hk hc
def uR(env:Env):List (Str×NameKind)->List (Str×Addr)->List (Str×Addr)
 | [],cs=>cs
 | (n,k)::r,cs=>if k==.free then uR env r ((n,(env.cells.lookup n).getD 0)::cs)else uR env r cs
theorem JT{env:Env}:∀(names:List (Str×NameKind)) (cs:List (Str×Addr)),(∀y∈names,y.2=.free->∃c,env.cells.lookup y.1=some c) ->
  (forIn names cs (λx r=>if(x.snd==NameKind.free)=true then do
    let c <- cellOf env x.fst
    pure (ForInStep.yield ((x.fst,c)::r))
   else pure (ForInStep.yield r)):Sem (List (Str×Addr)))=pure (uR env names cs)
 | [],cs,_=>by rfl
 | (n,k)::r,cs,h=>by
  rw[forIn_cons];dsimp only;by_cases hk:(k==NameKind.free)=true
  ·obtain⟨c,hc⟩:=h (n,k) mem_cons_self (by simpa using hk)
   have ec:cellOf env n=pure c:=by unfold cellOf;rw[hc]
   rw[if_pos hk,ec];show(forIn r ((n,c)::cs) _:Sem (List (Str×Addr)))=_;rw[JT r _ λy hy=>h y (mem_cons_of_mem _ hy)]
   conv=>rhs;unfold uR
   rw[if_pos hk,hc];rfl
  ·rw[if_neg hk]
   show(forIn r cs _:Sem (List (Str×Addr)))=_
   rw[JT r _ λy hy=>h y (mem_cons_of_mem _ hy)]
   conv=>rhs;unfold uR
   rw[if_neg hk]
theorem jR{env:Env}:∀(names:List (Str×NameKind)) (cs:List (Str×Addr)) (x:Str),(∀y∈names,y.2=.free->∃c,env.cells.lookup y.1=some c)->(∀c,cs.lookup x=some c->env.cells.lookup x=some c) ->
  (∀c,(uR env names cs).lookup x=some c->env.cells.lookup x=some c)/\(((∃c,cs.lookup x=some c)\/∃y∈names,y.1=x/\y.2=.free)->∃c,(uR env names cs).lookup x=some c)
 | [],cs,x,_,hcs=>⟨hcs,λh=>h.elim id λ⟨y,hy,_⟩=>by cases hy⟩
 | (n,k)::r,cs,x,h,hcs=>by
  unfold uR;by_cases hk:(k==NameKind.free)=true
  ·rw[if_pos hk]
   obtain⟨c,hc⟩:=h (n,k) mem_cons_self (by simpa using hk);have ih:=jR r ((n,(env.cells.lookup n).getD 0)::cs) x (λy hy=>h y (mem_cons_of_mem _ hy)) (λc' e=>by
    rw[lookup_cons]at e;cases hx:x==n with
    |true =>
     have:x=n:=by simpa using hx
     subst this;rw[hx]at e;simp only[hc,Option.getD_some]at e;rw[hc];exact e
    |false=>rw[hx]at e;exact hcs c' e)
   refine⟨ih.1,λq=>ih.2 ?_⟩;rcases q with⟨c',q⟩|⟨y,hy,q1,q2⟩
   ·left
    rw[lookup_cons];cases hx:x==n with
    |true=>exact⟨_,rfl⟩
    |false=>exact⟨c',q⟩
   ·rcases mem_cons.mp hy with hy|hy
    ·subst hy
     left
     have q1:n=x:=q1;subst q1;exact⟨(env.cells.lookup n).getD 0,by rw[lookup_cons,beq_self_eq_true]⟩
    ·right;exact⟨y,hy,q1,q2⟩
  ·rw[if_neg hk]
   have ih:=jR r cs x (λy hy=>h y (mem_cons_of_mem _ hy)) hcs;refine⟨ih.1,λq=>ih.2 ?_⟩;rcases q with q|⟨y,hy,q1,q2⟩
   ·exact .inl q
   ·rcases mem_cons.mp hy with hy|hy
    ·subst hy
     exact absurd (by simpa using q2) hk
    ·exact .inr ⟨y,hy,q1,q2⟩
theorem Ye:∀(names:List (Str×NameKind)) (h:Heap) (acc:List (Str×Addr)) (x:Str) (c:Addr),(cellsFrom h.objs.size names acc).lookup x=some c ->
  acc.lookup x=some c\/((x,NameKind.cell)∈names/\h.objs.size<=c/\(pushCells h names).IsCell c none)
 | [],h,acc,x,c,e=>.inl e
 | (n,k)::r,h,acc,x,c,e=>by
  unfold cellsFrom at e;unfold pushCells;split at e
  ·rename_i hk
   rw[if_pos hk];have sz:(h.push {cls:=.type "cell",data:=.cell none}).objs.size=h.objs.size+1:=size_push ..;rw[<- sz]at e;rcases Ye r (h.push {cls:=.type "cell",data:=.cell none}) _ x c e with q|⟨q1,q2,q3⟩
   ·rw[lookup_cons]at q
    cases hx:x==n with
    |true =>
     rw[hx]at q;cases q;have hx':x=n:=by simpa using hx
     have hk':k=.cell:=by simpa using hk
     subst hx';subst hk';exact .inr ⟨mem_cons_self,le_refl _,⟨_,pushCells_keeps _ _ _ _ (get?_push_size _ rfl),rfl⟩⟩
    |false=>rw[hx]at q;exact .inl q
   ·exact .inr ⟨mem_cons_of_mem _ q1,by rw[sz]at q2;omega,q3⟩
  ·rename_i hk
   rw[if_neg hk];rcases Ye r h acc x c e with q|⟨q1,q2,q3⟩
   ·exact .inl q
   ·exact .inr ⟨mem_cons_of_mem _ q1,q2,q3⟩
theorem ZS:∀(names:List (Str×NameKind)) (n:Nat) (acc:List (Str×Addr)) (x:Str),(x,NameKind.cell)∉names->(cellsFrom n names acc).lookup x=acc.lookup x
 | [],n,acc,x,_=>rfl
 | (y,k)::r,n,acc,x,h=>by
  simp only[mem_cons,not_or]at h;unfold cellsFrom;split
  ·rename_i hk
   rw[ZS r _ _ x h.2,lookup_cons];cases hx:x==y with
   |true =>
    have hx':x=y:=by simpa using hx
    have hk':k=.cell:=by simpa using hk
    subst hx';subst hk';exact absurd rfl h.1
   |false=>rfl
  ·exact ZS r _ _ x h.2
theorem GR:∀(names:List (Str×NameKind)) (n:Nat) (acc:List (Str×Addr)) (x:Str) (c:Addr),(x,NameKind.cell)∈names->(cellsFrom n names acc).lookup x=some c->n<=c
 | [],_,_,_,_,h,_=>by cases h
 | (y,k)::r,n,acc,x,c,h,e=>by
  unfold cellsFrom at e;by_cases hr:(x,NameKind.cell)∈r
  ·split at e
   ·exact Nat.le_of_succ_le (GR r _ _ x c hr e)
   ·exact GR r _ _ x c hr e
  ·rcases mem_cons.mp h with q|q
   ·cases q
    rw[if_pos (by rfl),ZS r _ _ _ hr,lookup_cons,beq_self_eq_true]at e;cases e;exact le_refl _
   ·exact absurd q hr
theorem GS:∀(names:List (Str×NameKind)) (n:Nat) (acc:List (Str×Addr)),(∀x y c,acc.lookup x=some c->acc.lookup y=some c->x=y)->(∀x c,acc.lookup x=some c->c<n) ->
  ∀x y c,(cellsFrom n names acc).lookup x=some c->(cellsFrom n names acc).lookup y=some c->x=y
 | [],n,acc,hi,_,x,y,c,e1,e2=>hi x y c e1 e2
 | (z,k)::r,n,acc,hi,hb,x,y,c,e1,e2=>by
  unfold cellsFrom at e1 e2;split at e1
  ·refine GS r (n+1) ((z,n)::acc) (λx y c e1 e2=>?_) (λx c e=>?_) x y c e1 (by rename_i hk;rwa [if_pos hk]at e2)
   ·rw[lookup_cons]at e1 e2
    cases hx:x==z with
    |true =>
     rw[hx]at e1;cases e1;have hx':x=z:=by simpa using hx
     cases hy:y==z with
     |true =>
      have hy':y=z:=by simpa using hy
      rw[hx',hy']
     |false=>rw[hy]at e2;exact absurd (hb y _ e2) (lt_irrefl _)
    |false =>
     rw[hx]at e1;cases hy:y==z with
     |true=>rw[hy]at e2;cases e2;exact absurd (hb x _ e1) (lt_irrefl _)
     |false=>rw[hy]at e2;exact hi x y c e1 e2
   ·rw[lookup_cons]at e
    cases hx:x==z with
    |true=>rw[hx]at e;cases e;exact Nat.lt_succ_self _
    |false=>rw[hx]at e;exact Nat.lt_succ_of_lt (hb x c e)
  ·exact GS r n acc hi hb x y c e1 (by rename_i hk;rwa [if_neg hk]at e2)
theorem Jv{M:Model}{A:Around}{E:Value->Shared->Prop}{s:Shared}{scope:Scope}{globals:Addr}{cl:List (Str×Addr)}{qual:Str}{env:Env}{Q:Env->Shared->Prop}
  (hQ:Q (newEnv scope s.heap.objs.size globals (cellsFrom (s.heap.objs.size+1) scope.names cl) qual none .none (some env) builtinsNs) {s with heap:=pushCells (s.heap.push {cls:=.type "dict",data:=.dict #[]}) scope.names}) :
  wpAny M A (newFunctionEnv scope globals cl [] qual none .none (some env)) Q E s:=by
 simp only[newFunctionEnv,Option.isSome_some,if_true];refine wpAny_bind (wpAny_alloc ?_);refine wpAny_bind (wpAny_layCells _ (λname kind cells=>by cases hkc:kind==NameKind.cell<;>simp[hkc]) _ _ _ _ ?_);rw[show({s with heap:=s.heap.push {cls:=.type "dict",data:=.dict #[]}}:Shared).heap.objs.size=s.heap.objs.size+1 from size_push ..]
 rw[List.forIn_nil];exact wpAny_bind (wpAny_pure (wpAny_pure hQ))
section
variable{X:Cx}{elt target iter:Expr}{ifs:List Expr}{scope:Scope}{pos:Pos}{nl:Nat}{caps:List Nat}{N':List Str}
theorem WC{wi:TI}{g:TG}{tt:TT}{te:TE}{use:Option (Value->Sem Unit)}{QQ:Value->Shared->Prop}{pins:List (Addr×Obj)}{s:Shared}{σ:St}{H:Hp}{Q:VK}{p0:Pos}(hx:∀e s,¬X.xe e s)(hc:X.calm=true)(hkind:scope.kind=.function)(hnames:∀y∈scope.names,y.2=.local->scope.names.lookup y.1=some .local)(hcell:∀y∈scope.names,y.2=.cell->scope.names.lookup y.1=some .cell)
  (hfree:(scope.names.all λy=>y.2 != .free||X.env.kindOf y.1==some .cell)=true)
  (hlen:N'.length=nl+caps.length) (hcap:∀(i j:Nat),caps[i]?=some j->∃x,N'[nl+i]?=some x/\X.N[j]?=some x/\scope.names.lookup x=some .free)
  (hi:PI X target iter wi) (hg:∀cl C ex s H,PG (cxB X N' scope cl C ex s H) target g) (ht:∀cl C ex s H,zA1 (cxB X N' scope cl C ex s H) ifs tt) (he:∀cl C ex s H,PE (cxB X N' scope cl C ex s H) elt te)
  (hs:∀x,foldedSetIterable iter X.env x=pure x) (I:Inv X pins σ H s) (h:zAA nl caps wi g tt te σ H Q)
  (hfin:∀(D C:Addr) (H5:Hp) (s6:Shared) (m6:Str->Option Value),Inv X pins σ H5 s6->zAl X pins H5 C->s6.heap.Ns C m6->Q (.ref D) H5->compPost (model X.prog X.w) X.A X.xe use QQ (.ref D) C (.ok .next) s6) :
  wpAny (model X.prog X.w) X.A (comprehension (.ListComp elt [⟨target,iter,ifs,0⟩] scope pos) scope X.env p0 (newList []) false (eval iter X.env) use) QQ X.xe s:=by
 have hfr:∀y∈scope.names,y.2=.free->X.env.kindOf y.1=some .cell:=λy hy e=>by
  have:=all_eq_true.mp hfree y hy;rw[e]at this;simpa using this
 have hcl:∀y∈scope.names,y.2=.free->∃c,X.env.cells.lookup y.1=some c:=λy hy e=>I.ok.has y.1 (.inl (hfr y hy e))
 have hclos:closureFor scope X.env=pure (uR X.env scope.names []):=by
  simp only[closureFor];rw[JT scope.names [] hcl];rfl
 have cl1:∀x c,(uR X.env scope.names []).lookup x=some c->X.env.cells.lookup x=some c:=λx c e=>(jR scope.names [] x hcl (λ_ z=>by cases z)).1 c e
 have cl2:∀x,(∃y∈scope.names,y.1=x/\y.2=.free)->∃c,(uR X.env scope.names []).lookup x=some c:=λx q=>(jR scope.names [] x hcl (λ_ z=>by cases z)).2 (.inr q)
 generalize uR X.env scope.names []=cl at hclos cl1 cl2;refine wpAny_comprehension_free (use:=use) rfl hs hclos hkind hnames (thn (hi pins s σ H _ I h) λxv s1 h1=>thn h1 λitv s2 h2=>?_);obtain⟨it,fp,tn,J,H2,e,I2,T,st2,f2,turn⟩:=h2;subst e;refine wpAny_newObj_type (Jv ?_) (by show(#[]:Array Value).size<=sizeLine;simp);dsimp only;generalize hH3:s2.heap.push {cls:=.type "list",dict:=none,data:=.seq ([]:List Value).toArray}=h3;have hC:h3.objs.size=s2.heap.objs.size+1:=by rw[<- hH3,size_push]
 have hD:H2 s2.heap.objs.size=none:=I2.hok.fresh (le_refl _);obtain⟨W,⟨m0,w0⟩,step⟩:=turn s2.heap.objs.size hD
 -- the state at the block's entry
 have I3:Inv X pins σ (upd H2 s2.heap.objs.size (.lst [])) {s2 with heap:=h3}:=by
  rw[<- hH3];exact I2.laid (t':=s2.toks) (λb o q=>get?_push_of_some _ q) (le_refl _) ⟨zero_le _,[],0,.nil,get?_push_size _ rfl⟩
 have hcfr:∀x,scope.names.lookup x=some .free->(x,NameKind.cell)∉scope.names:=λx e z=>by
  have:=hcell _ z rfl;rw[e]at this;cases this
 have szp:(h3.push {cls:=.type "dict",data:=.dict #[]}).objs.size=h3.objs.size+1:=size_push ..;have cw:∀x c,(cellsFrom (h3.objs.size+1) scope.names cl).lookup x=some c->cl.lookup x=some c\/((x,NameKind.cell)∈scope.names/\h3.objs.size+1<=c/\(pushCells (h3.push {cls:=.type "dict",data:=.dict #[]}) scope.names).IsCell c none):=λx c e=>by
  rw[<- szp]at e ⊢;exact Ye _ _ _ x c e
 have cfr:∀x,scope.names.lookup x=some .free->(cellsFrom (h3.objs.size+1) scope.names cl).lookup x=cl.lookup x:=λx e=>ZS _ _ _ x (hcfr x e)
 have chas:∀x,scope.names.lookup x=some .cell->∃c,(cellsFrom (h3.objs.size+1) scope.names cl).lookup x=some c:=λx e=>by
  have:=cellsFrom_some scope.names (h3.objs.size+1) cl (x:=x) (.inl e);exact Option.isSome_iff_exists.mp this
 have clt:∀x c,cl.lookup x=some c->c<h3.objs.size:=λx c e=>by
  obtain⟨v,q⟩:=I3.cell x c (cl1 x c e);exact q.lt
 have cinj:=GS scope.names (h3.objs.size+1) cl (λx y c e1 e2=>I.ok.inj x y c (cl1 x c e1) (cl1 y c e2)) λx c e=>Nat.lt_succ_of_lt (clt x c e)
 have hns₁:(pushCells (h3.push {cls:=.type "dict",data:=.dict #[]}) scope.names).Ns h3.objs.size λ_=>none:=(Heap.Ns.new h3 (.type "dict")).keeps (pushCells_keeps _ _)
 have old:∀b o,h3.get? b=some o->(pushCells (h3.push {cls:=.type "dict",data:=.dict #[]}) scope.names).get? b=some o:=λb o e=>pushCells_keeps _ _ b o (get?_push_of_some _ e)
 generalize hh1:pushCells (h3.push {cls:=.type "dict",data:=.dict #[]}) scope.names=h₁ at hns₁ old cw ⊢;generalize hcs:cellsFrom (h3.objs.size+1) scope.names cl=cs at cw cfr chas cinj ⊢;have fpD:∀b∈fp,b≠s2.heap.objs.size:=λb hb z=>by
  obtain⟨o,e,_⟩:=T.obj 0 s2.heap st2 b hb;subst z;exact absurd (lt_size e) (lt_irrefl _)
 have fp3:∀b∈fp,upd H2 s2.heap.objs.size (.lst []) b=none:=λb hb=>by rw[zp (fpD b hb)];exact(f2 b hb).1
 have fpC:∀b∈fp,b≠h3.objs.size:=λb hb z=>by
  obtain⟨o,e,_⟩:=T.obj 0 s2.heap st2 b hb;have q:b<s2.heap.objs.size:=lt_size e;rw[z,hC]at q;exact absurd q (not_lt.mpr (le_succ _))
 have hCn:upd H2 s2.heap.objs.size (.lst []) h3.objs.size=none:=I3.hok.fresh (le_refl _);have fpok:∀b∈fp,(b∈X.ex\/X.s₀.heap.objs.size<=b)/\b≠X.env.locals/\(∀x c,X.env.cells.lookup x=some c->c≠b)/\∀p∈X.pn++pins,p.1≠b:=λb hb=>by
  obtain⟨_,q2,_,q4,q5,q6⟩:=f2 b hb;exact⟨q4,q2,q5,q6⟩
 have fpH:∀b∈fp,b<h3.objs.size:=λb hb=>by
  obtain⟨o,e,_⟩:=T.obj 0 s2.heap st2 b hb;have q:b<s2.heap.objs.size:=lt_size e;rw[hC];exact Nat.lt_succ_of_lt q
 have fpcs:∀b∈fp,∀x c,cs.lookup x=some c->c≠b:=λb hb x c e=>by
  rcases cw x c e with q|⟨_,q,_⟩
  ·exact(fpok b hb).2.2.1 x c (cl1 x c q)
  ·intro z;subst z
   exact absurd (lt_of_lt_of_le (fpH _ hb) (Nat.le_of_succ_le q)) (lt_irrefl _)
 let Y:Cx:=cxB X N' scope cs h3.objs.size fp {s2 with heap:=h3} (upd H2 s2.heap.objs.size (.lst []))
 have kindY:∀x k,Y.env.kindOf x=some k->∃k0,scope.names.lookup x=some k0/\(k=k0\/(k0=.free/\k=.cell)):=λx k e=>wJ e
 have okY:Y.Ok:={
  mod:=I.ok.mod
  kind:=hkind
  glob:=I.ok.glob
  blt:=I.ok.blt
  above:=le_refl _
  inj:=cinj
  has:=λx q=>by
   have:scope.names.lookup x=some .cell\/scope.names.lookup x=some .free:=by
    rcases q with q|q
    ·obtain⟨k0,e,z⟩:=kindY x _ q
     rcases z with z|z
     ·subst z;exact .inl e
     ·rw[z.1]at e;exact .inr e
    ·obtain⟨k0,e,z⟩:=kindY x _ q
     rcases z with z|z
     ·subst z;exact .inr e
     ·rw[z.1]at e;exact .inr e
   rcases this with q|q
   ·exact chas x q
   ·obtain⟨c,e⟩:=cl2 x ⟨(x,.free),PySem.mem_of_lookup q,rfl,rfl⟩
    exact⟨c,by show cs.lookup x=_;rw[cfr x q];exact e⟩
  cab:=λx c z e=>by
   have z:scope.names.lookup x=some .cell:=by
    have z:(scope.names.lookup x==some NameKind.cell)=true:=z;simpa using z
   have e:cs.lookup x=some c:=e;rw[<- hcs]at e;exact le_trans (le_succ _) (GR _ _ _ x c (PySem.mem_of_lookup z) e)
  hd:=I.ok.hd
  frames:=I.ok.frames
  stk:=.inl rfl
  exf:=λb hb=>⟨fpC b hb,fpcs b hb⟩
  bs:=λb o e=>I3.bs b o e
  bsz:=le_trans I.ok.bsz I3.sz
  noex:=λb o e hb=>by
   obtain⟨q,_⟩:=fpok b hb;rcases q with q|q
   ·exact I.ok.noex b o e q
   ·exact absurd (lt_of_lt_of_le (lt_size e) I.ok.bsz) (not_lt.mpr q)
  exfs:=λb hb z=>by
   have:=I2.stkSub b z;rcases mem_cons.mp this with q|q
   ·exact(fpok b hb).2.1 q
   ·exact(f2 b hb).2.2.1 q
  funs:=I3.stack
  frf:=I3.stkFree}
 have keep1:∀b o,h3.get? b=some o->h₁.get? b=some o:=old;have lenY:(z6 nl caps σ).length=N'.length:=by unfold z6;simp[hlen]
 have IY:Inv Y [] (z6 nl caps σ) (upd H2 s2.heap.objs.size (.lst [])) {s2 with heap:=h₁}:={
  ok:=okY
  os:=rfl
  bare:=I3.bare
  base:=Un.kept keep1
  loc:=by
   refine⟨_,hns₁,λi x v e1 e2 e3=>?_⟩;have e1:N'[i]?=some x:=e1;have hi:nl<=i:=by
    by_cases z:nl<=i
    ·exact z
    ·unfold z6 at e2
     rw[List.getElem?_append_left (by simp;omega),List.getElem?_replicate]at e2;split at e2<;>cases e2
   unfold z6 at e2;rw[List.getElem?_append_right (by simpa using hi),List.length_replicate,List.getElem?_map]at e2;cases ej:caps[i-nl]? with
   |none=>rw[ej]at e2;cases e2
   |some j =>
    rw[ej]at e2;simp only[Option.map_some,Option.some.injEq]at e2;obtain⟨x',c1,c2,c3⟩:=hcap (i-nl) j ej;have ex:x'=x:=by
     rw[show nl+(i-nl)=i by omega,e1]at c1;exact(Option.some.inj c1).symm
    subst ex;have e4:σ[j]?=some (some v):=by
     cases z:σ[j]? with
     |none=>rw[z]at e2;cases e2
     |some o=>rw[z]at e2;simp at e2;rw[e2]
    have kx:X.env.kindOf x'=some .cell:=hfr (x',.free) (PySem.mem_of_lookup c3) rfl;obtain⟨mm,_,lk⟩:=I3.loc;obtain⟨u,ru,lu⟩:=lk j x' v c2 e4 (.inr (.inl kx));refine⟨u,ru,?_⟩;rcases lu with⟨z,_⟩|⟨_,c,d1,d2⟩
    ·rw[kx]at z;cases z
    ·obtain⟨c',d3⟩:=cl2 x' ⟨(x',.free),PySem.mem_of_lookup c3,rfl,rfl⟩
     have:c'=c:=by have:=cl1 x' c' d3;rw[d1]at this;exact(Option.some.inj this).symm
     subst this;exact .inr ⟨.inl (Jj c3 I.ok.kind kx),c',by show cs.lookup _=_;rw[cfr x' c3];exact d3,d2.keeps old⟩
  cell:=λx c e=>by
   rcases cw x c e with e|⟨_,_,q⟩
   ·obtain⟨v,q⟩:=I3.cell x c (cl1 x c e)
    exact⟨v,q.keeps old⟩
   ·exact⟨_,q⟩
  free:=hCn
  freeC:=λx c e=>by
   rcases cw x c e with e|⟨_,q,_⟩
   ·exact I3.freeC x c (cl1 x c e)
   ·exact I3.hok.fresh (le_trans (le_succ _) q)
  pin:=λp hp=>absurd (show p∈([]:List (Addr×Obj))from hp) (by simp)
  hok:=I3.hok.kept old
  len:=lenY}
 have st1:tn 0 h₁:=T.keep 0 s2.heap h₁ st2 λb hb o e=>old b o (by rw[<- hH3];exact get?_push_of_some _ e)
 have fpY:∀{H':Hp},(∀b∈fp,H' b=none)->∀b∈fp,zAl Y [] H' b:=λhn b hb =>
  ⟨hn b hb,fpC b hb,okY.exfs b hb,.inl hb,fpcs b hb,λp hp=>absurd (show p∈([]:List (Addr×Obj))from hp) (by simp)⟩
 have hA:Y.A=X.A:=rfl;have noE:∀{E':Value->Shared->Prop} {e:Value} {s:Shared},X.xe e s->E' e s:=λq=>absurd q (hx _ _)
 have fin:∀s₄:Shared,s₄={s2 with heap:=h₁} ->
   codeAny (model X.prog X.w) X.A (.compLoop (.ListComp elt [⟨target,iter,ifs,0⟩] scope pos) 0 (.ref it) (.ref s2.heap.objs.size) Y.env)
    (compPost (model X.prog X.w) X.A X.xe use QQ (.ref s2.heap.objs.size) h3.objs.size) s₄:=by
  rintro s₄ rfl
  refine wT (λn s'=>∃i σ' H',Inv Y [] σ' H' s'/\tn i s'.heap/\(∀b∈fp,H' b=none)/\W i n σ' H') ?_ m0 ⟨0,z6 nl caps σ,_,IY,st1,fp3,w0⟩
  rintro n s5 ⟨i,σ5,H5,I5,st5,fr5,w5⟩
  rcases step i n σ5 H5 w5 with⟨stop,q⟩|⟨go,Nx,hN,turn⟩
  ·refine wpAny_mono (T.done Y rfl rfl rfl hc i [] s5 σ5 H5 (λ_ _=>False) I5 (fpY fr5) st5 stop) (λr s6 ⟨hr,I6⟩=>?_) (λ_ _ z=>z.elim)
   subst hr;obtain⟨m6,n6,_⟩:=I6.loc;have u:Un (frs X.stack) fp (upd H2 s2.heap.objs.size (.lst [])) H5 h3 s6.heap:=I6.base;have I7:Inv X pins σ H5 s6:=I3.call' (s':=s6) (ch:=fp) I6.os u I6.hok I6.bare fpok;exact hfin _ _ H5 s6 m6 I7 (I3.fpOk (le_refl _) I6.free) n6 q
  ·refine wpAny_mono (T.item Y rfl rfl rfl hc i [] s5 σ5 H5 (λ_ _=>False) I5 (fpY fr5) st5 go) (λr s6 ⟨u,hr,h6⟩=>?_) (λ_ _ z=>z.elim)
   subst hr;refine wpAny_mono h6 (λ_ s7 ⟨x,H7,I7,r7,y7,st7,fr7⟩=>?_) (λ_ _ z=>z.elim);have I7':=I7.pinned (fpY fr7) (T.obj _ _ st7);refine wpAny_mono (hg _ _ _ _ _ _ s7 σ5 H7 x u _ I7' r7 (turn x H7 y7)) (λ_ s8 ⟨σ8,H8,I8,q8⟩=>?_) (λ_ _ z=>noE z);refine wpAny_mono (ht _ _ _ _ _ _ s8 σ8 H8 _ I8 q8) (λb s9 ⟨H9,I9,q9⟩=>?_) (λ_ _ z=>noE z);have again:∀{σ7:St} {H':Hp} {s':Shared},Inv Y ([]++Zm fp s7.heap) σ7 H' s'->Nx σ7 H'->∃m,m<n/\∃i σ' H',Inv Y [] σ' H' s'/\tn i s'.heap/\(∀b∈fp,H' b=none)/\W i m σ' H':=λ{σ7 H' s'} I' n7=>by
    obtain⟨m',hm,w7⟩:=hN σ7 H' n7;refine⟨m',hm,i+1,σ7,H',I'.unpinned,T.keep _ _ _ st7 λb hb o e=>(I'.pin (b,o) (mem_append_right _ (mem_append_right _ (j5 hb e)))).1,λb hb=>?_,w7⟩;obtain⟨o,e,d⟩:=T.obj _ _ st7 b hb;exact(I'.pin (b,o) (mem_append_right _ (mem_append_right _ (j5 hb e)))).2.1
   cases b with
   |false =>
    rw[if_neg Bool.false_ne_true]at q9 ⊢;exact again I9 q9
   |true =>
    rw[if_pos rfl]at q9 ⊢;refine wpAny_mono (he _ _ _ _ _ _ s9 σ8 H9 _ I9 q9) (λy s10 ⟨vy,H10,I10,r10,ys,hy,hz,n10⟩=>?_) (λ_ _ z=>noE z);have ap:=Zx (X:=Y) _ s10 σ8 H10 (.ref s2.heap.objs.size) [vy] (.ref s2.heap.objs.size) [y] (λv H'=>Nx σ8 H') I10 rfl (.cons r10 .nil) ⟨_,ys,vy,rfl,rfl,hy,hz,n10⟩;refine wpAny_mono ap (λ_ s11 ⟨v11,H11,I11,_,n11⟩=>?_) (λ_ _ z=>noE z);exact again I11 n11
 exact codeAny_compStart_list (fin _ rfl) (T.self X.A 0 _ _ _ st1 (fin _ rfl))
theorem pe_comp{wi:TI}{g:TG}{tt:TT}{te:TE}(hx:∀e s,¬X.xe e s)(hc:X.calm=true)(hkind:scope.kind=.function)(hnames:∀y∈scope.names,y.2=.local->scope.names.lookup y.1=some .local)(hcell:∀y∈scope.names,y.2=.cell->scope.names.lookup y.1=some .cell)
  (hfree:(scope.names.all λy=>y.2 != .free||X.env.kindOf y.1==some .cell)=true)
  (hlen:N'.length=nl+caps.length) (hcap:∀(i j:Nat),caps[i]?=some j->∃x,N'[nl+i]?=some x/\X.N[j]?=some x/\scope.names.lookup x=some .free)
  (hi:PI X target iter wi) (hg:∀cl C ex s H,PG (cxB X N' scope cl C ex s H) target g) (ht:∀cl C ex s H,zA1 (cxB X N' scope cl C ex s H) ifs tt) (he:∀cl C ex s H,PE (cxB X N' scope cl C ex s H) elt te)
  (hs:∀x,foldedSetIterable iter X.env x=pure x:=by intro _;rfl):PE X (.ListComp elt [⟨target,iter,ifs,0⟩] scope pos) (zAA nl caps wi g tt te):=by
 intro pins s σ H Q I h;rw[eval_ListComp];refine WC (use:=none) hx hc hkind hnames hcell hfree hlen hcap hi hg ht he hs I h λD C H5 s6 m6 I7 f n6 q=>?_
 refine⟨m6,n6,λh' hs'=>?_⟩;obtain⟨f1,f2,f3,f4,f5,f6⟩:=f;exact⟨.ref D,H5,I7.turned (it:=C) (t':=s6.toks) (λb o hb e=>hs'.extBut b o hb e) f1 (λz=>f2 z) f4 f5 f6,rfl,q⟩
theorem ps_setC{i:Nat}{y:Str}{py spos:Pos}{wi:TI}{g:TG}{tt:TT}{te:TE}(hN:X.N.Nodup)(hi':X.N[i]?=some y)(hy:Loc X.env.scope y)(hf:X.fn y=true\/X.env.scope.names.lookup y=some .local)(hx:∀e s,¬X.xe e s)(hc:X.calm=true)(hkind:scope.kind=.function)(hnames:∀y∈scope.names,y.2=.local->scope.names.lookup y.1=some .local)(hcell:∀y∈scope.names,y.2=.cell->scope.names.lookup y.1=some .cell)
  (hfree:(scope.names.all λy=>y.2 != .free||X.env.kindOf y.1==some .cell)=true)
  (hlen:N'.length=nl+caps.length) (hcap:∀(i j:Nat),caps[i]?=some j->∃x,N'[nl+i]?=some x/\X.N[j]?=some x/\scope.names.lookup x=some .free)
  (hi:PI X target iter wi) (hg:∀cl C ex s H,PG (cxB X N' scope cl C ex s H) target g) (ht:∀cl C ex s H,zA1 (cxB X N' scope cl C ex s H) ifs tt) (he:∀cl C ex s H,PE (cxB X N' scope cl C ex s H) elt te)
  (hs:∀x,foldedSetIterable iter X.env x=pure x) (hsw:swapsWith (.ListComp elt [⟨target,iter,ifs,0⟩] scope pos) (some (.Name y py)) spos.line X.env=pure true) :
  PS X (.Assign [.Name y py] (.ListComp elt [⟨target,iter,ifs,0⟩] scope pos) spos) (tAsg (zAA nl caps wi g tt te) (We i)):=by
 intro pins s σ H D I h;rw[exec_Assign_Name_used _ _ _ _ hsw];refine wpAny_bind (wpAny_standAt (wpAny_bind ?_));show wpAny _ X.A (do let _ <- comprehension (.ListComp elt [⟨target,iter,ifs,0⟩] scope pos) scope X.env _ (newList []) false (eval iter X.env) (some (assign (.Name y py) X.env))) _ _ s;refine wpAny_bind (wpAny_mono (WC (use:=some (assign (.Name y py) X.env)) (QQ:=λ_ s'=>SP X pins D .next s') hx hc hkind hnames hcell hfree hlen hcap hi hg ht he hs I h λDa C H5 s6 m6 I7 f n6 q=>?_) (λ_ s' hq=>wpAny_pure (wpAny_pure hq)) λ_ _ e=>e);obtain⟨f1,f2,f3,f4,f5,f6⟩:=f;show wpAny _ X.A (assign (.Name y py) X.env (.ref Da)) _ _ s6;refine wpAny_assign_Name (Zi I7 hN hi' hy (v:=.ref Da) rfl (λs7 I8 ⟨a,sb,ha⟩=>?_) hf);have hne:C≠a:=by
  rcases ha with ha|ha
  ·rw[ha];exact f2
  ·exact λz=>f5 y a ha z.symm
 refine⟨m6,n6.sameBut sb hne,λh' hs'=>?_⟩;exact⟨_,H5,I8.turned (it:=C) (t':=s7.toks) (λb o hb e=>hs'.extBut b o hb e) f1 (λz=>f2 z) f4 f5 f6,q⟩
end
end L2
namespace DV
open PySem L2
section
variable{X:Cx}{K:PySem.W.Frag}{mg:Str->Option Value}{σ:St}{M:Addr->Prop}{E:zR}{H:Hp}{T0 Z T:Fz}
structure ItOk(K:PySem.W.Frag)(mg:Str->Option Value)(J:It)(ds:List D)(Iv:Hp->Prop):Prop where
 mono:∀H H',JO H H'->Iv H->Iv H'
 go:∀i Hh H,JO Hh H->Iv Hh->i<ds.length->J.go i H
 yld:∀i Hh H x H',JO Hh H->Iv Hh->i<ds.length->J.yld i H x H'->∃d,ds[i]?=some d/\((H'=H/\Rep K mg Hh d x)\/∃q xs es,H q=none/\H'=upd H q (.tup xs)/\x=.ref q/\d=.tup es/\Reps K mg Hh es xs)
 stop:∀i Hh H,JO Hh H->Iv Hh->ds.length<=i->J.stop i H
abbrev MI:=zR->Out (List D×zR)
def tMI(X:Cx)(m:MI):TI:=λσ H R=>∃M E,E.length=σ.length/\FR X.K X.mg M H (σ.zip E)/\match m E with
 | .stuck=>False
 | .ok (ds,E')=>∀J Iv H',ItOk X.K X.mg J ds Iv->Iv (Hm (Mo M (σ.zip E')) H')->Got X.K X.mg M σ E H [] σ E' H' []->R J H'
 | .exc x E'=>∀H',Got X.K X.mg M σ E H [] σ E' H' []->XE X σ H' x
abbrev IOk(X:Cx)(tg e:Expr)(m:MI):Prop:=PI X tg e (tMI X m)
theorem vM{tg e:Expr}{t t':TI}(h:PI X tg e t)(i:∀σ H R,t' σ H R->t σ H R):PI X tg e t':=λpins s σ H R I q=>h pins s σ H R I (i σ H R q)
def iL(m:ME):MI:=λE=>match m E with
 | .stuck=>.stuck
 | .exc x E1=>.exc x E1
 | .ok (r,E1)=>match r.d with
  | .lst ds=>.ok (ds,E1)
  |_=>.stuck
def iT(m:ME):MI:=λE=>match m E with
 | .stuck=>.stuck
 | .exc x E1=>.exc x E1
 | .ok (r,E1)=>match r.d with
  | .tup ds=>.ok (ds,E1)
  |_=>.stuck
theorem it_list{a:Addr}{xs:List V}{ds:List D}:ItOk K mg (Itl K a) ds (λH=>SqL K H a xs/\Reps K mg H ds xs) where
 mono:=λH H' s h=>⟨s.seq h.1,h.2.mono s⟩
 go:=λi Hh H s h hi=>⟨xs,xs[i]'(by rw[h.2.length];exact hi),s.seq h.1,by simp⟩
 yld:=λi Hh H x H' s h hi y=>by
  obtain⟨e,y⟩:=y;obtain⟨d,h1,h2⟩:=h.2.get (y xs (s.seq h.1));exact⟨d,h1,.inl ⟨e,h2⟩⟩
 stop:=λi Hh H s h hi=>⟨xs,s.seq h.1,by rw[h.2.length];exact hi⟩
theorem it_tup{a:Addr}{xs:List V}{ds:List D}:ItOk K mg (Itt K a) ds (λH=>SqT K H a xs/\Reps K mg H ds xs) where
 mono:=λH H' s h=>⟨zr s h.1,h.2.mono s⟩
 go:=λi Hh H s h hi=>⟨xs,xs[i]'(by rw[h.2.length];exact hi),zr s h.1,by simp⟩
 yld:=λi Hh H x H' s h hi y=>by
  obtain⟨e,y⟩:=y;obtain⟨d,h1,h2⟩:=h.2.get (y xs (zr s h.1));exact⟨d,h1,.inl ⟨e,h2⟩⟩
 stop:=λi Hh H s h hi=>⟨xs,zr s h.1,by rw[h.2.length];exact hi⟩
theorem WD:∀(n i:Nat) (lo:Int),i<n->(zK lo n)[i]?=some (.int (lo+i)):=λn i lo h=>by
 have:=jQ n i lo h;have e:((zK lo n).drop i)[0]?=some (.int (lo+i)):=by rw[this];rfl
 rw[List.getElem?_drop]at e;simpa using e
theorem zA2{lo:Int}{n:Nat}:ItOk K mg (Itr lo n) (zK lo n) (λ_=>True) where
 mono:=λ_ _ _ h=>h
 go:=λi Hh H s h hi=>by rw[z4]at hi;exact hi
 yld:=λi Hh H x H' s h hi y=>by
  obtain⟨e,y⟩:=y;rw[z4]at hi;exact⟨_,WD n i lo hi,.inl ⟨e,by rw[y];simp only[Rep]⟩⟩
 stop:=λi Hh H s h hi=>by rw[z4]at hi;exact hi
theorem io_list{tg e:Expr}{m:ME}(h:EOk X e m):IOk X tg e (iL m):=vM (uc h) λσ H R ⟨M,E,hl,fr,k⟩=>by
 unfold iL at k;refine ze (T0:=[]) hl fr ?_;cases ea:m E with
 |stuck=>rw[ea]at k;exact k
 |exc x E1=>rw[ea]at k;exact k
 |ok p =>
  obtain⟨r,E1⟩:=p;rw[ea]at k;intro v H1 g;dsimp only at k;cases ed:r.d with
  |lst ds =>
   rw[ed]at k;have rl:=g.rep;rw[ed]at rl;obtain⟨a,xs,rfl,q1,q2⟩:=zM rl;exact⟨a,rfl,⟨xs,zF.seq q1⟩,k _ _ H1 it_list ⟨q1,q2⟩ g.dropAll⟩
  |_=>rw[ed]at k;exact k.elim
theorem io_tup{tg e:Expr}{m:ME}(h:EOk X e m):IOk X tg e (iT m):=vM (pi_tup h) λσ H R ⟨M,E,hl,fr,k⟩=>by
 unfold iT at k;refine ze (T0:=[]) hl fr ?_;cases ea:m E with
 |stuck=>rw[ea]at k;exact k
 |exc x E1=>rw[ea]at k;exact k
 |ok p =>
  obtain⟨r,E1⟩:=p;rw[ea]at k;intro v H1 g;dsimp only at k;cases ed:r.d with
  |tup ds =>
   rw[ed]at k;have rl:=g.rep;rw[ed]at rl;obtain⟨a,xs,rfl,q1,q2⟩:=zU rl;exact⟨a,rfl,⟨xs,zr zF q1⟩,k _ _ H1 it_tup ⟨q1,q2⟩ g.dropAll⟩
  |_=>rw[ed]at k;exact k.elim
def iR1(m:MA):MI:=λE=>match m E with
 | .stuck=>.stuck
 | .exc x E1=>.exc x E1
 | .ok ([r],E1)=>match r.d with
  | .int j=>if -(2^62)<=j/\j<2^62 then .ok (zK 0 j.toNat,E1)else .stuck
  |_=>.stuck
 |_=>.stuck
def iR2(m:MA):MI:=λE=>match m E with
 | .stuck=>.stuck
 | .exc x E1=>.exc x E1
 | .ok ([r,r'],E1)=>match r.d,r'.d with
  | .int i,.int j=>if -(2^62)<=i/\i<2^62/\-(2^62)<=j/\j<2^62 then .ok (zK i (j-i).toNat,E1)else .stuck
  |_,_=>.stuck
 |_=>.stuck
theorem io_r1{tg a:Expr}{m:MA}{p cpos:Pos}(hgl:Gl X "range")(hm:X.mg "range"=none)(ha:AOk X [a] m)(hst:zO a=false:=by rfl):IOk X tg (.Call (.Name "range" p) [a] [] cpos) (iR1 m):=vM (Zl hgl hm ha (star1 hst)) λσ H R ⟨M,E,hl,fr,k⟩=>by
 unfold iR1 at k;refine YU (T0:=[]) hl fr ?_;cases ea:m E with
 |stuck=>rw[ea]at k;exact k
 |exc x E1=>rw[ea]at k;exact k
 |ok p =>
  obtain⟨rs,E1⟩:=p;rw[ea]at k
  match rs,k with
  | [r],k =>
   intro vs H1 hv g1;have rp:=Got.reps hv g1;dsimp only at k;cases ed:r.d with
   |int j =>
    rw[ed]at k;simp only[List.map,ed]at rp;obtain⟨v,rfl,h1⟩:=Ju rp;dsimp only at k;by_cases hc:-(2^62)<=j/\j<2^62
    ·rw[if_pos hc]at k
     exact⟨j,by rw[zL h1],hc.1,hc.2,k _ _ H1 zA2 trivial g1.dropAll⟩
    ·rw[if_neg hc]at k;exact k.elim
   |_=>rw[ed]at k;exact k.elim
  | [],k=>exact k.elim
  |_::_::_,k=>exact k.elim
theorem io_r2{tg a b:Expr}{m:MA}{p cpos:Pos}(hgl:Gl X "range")(hm:X.mg "range"=none)(ha:AOk X [a,b] m)(hst:zO a=false:=by rfl)(hst2:zO b=false:=by rfl) :
  IOk X tg (.Call (.Name "range" p) [a,b] [] cpos) (iR2 m):=vM (ud hgl hm ha (star2 hst hst2) (star1 hst2)) λσ H R ⟨M,E,hl,fr,k⟩=>by
 unfold iR2 at k;refine YU (T0:=[]) hl fr ?_;cases ea:m E with
 |stuck=>rw[ea]at k;exact k
 |exc x E1=>rw[ea]at k;exact k
 |ok p =>
  obtain⟨rs,E1⟩:=p;rw[ea]at k
  match rs,k with
  | [r,r'],k =>
   intro vs H1 hv g1;have rp:=Got.reps hv g1;dsimp only at k;cases ed:r.d with
   |int i =>
    cases ed':r'.d with
    |int j =>
     rw[ed,ed']at k;simp only[List.map,ed,ed']at rp;obtain⟨v,w,rfl,h1,h2⟩:=reps2 rp;dsimp only at k;by_cases hc:-(2^62)<=i/\i<2^62/\-(2^62)<=j/\j<2^62
     ·rw[if_pos hc]at k
      exact⟨i,j,by rw[zL h1,zL h2],hc,k _ _ H1 zA2 trivial g1.dropAll⟩
     ·rw[if_neg hc]at k;exact k.elim
    |_=>rw[ed,ed']at k;exact k.elim
   |_=>rw[ed]at k;exact k.elim
  | [],k=>exact k.elim
  | [_],k=>exact k.elim
  |_::_::_::_,k=>exact k.elim
def wU(tg:MG)(tt:MT)(el:ME):List D->zR->List D->Out (List D×zR)
 | [],E,acc=>.ok (acc,E)
 |d::ds,E,acc=>match tg d E with
  | .ok E1=>match tt E1 with
   | .ok (true,E2)=>match el E2 with
    | .ok (r,E3)=>if acc.length<cap then wU tg tt el ds E3 (acc++[r.d])else .stuck
    |_=>.stuck
   | .ok (false,E2)=>wU tg tt el ds E2 acc
   |_=>.stuck
  |_=>.stuck
def wz(E:zR):List Nat->Out (List AR)
 | []=>.ok []
 |j::js=>match E[j]? with
  |some (.val d)=>match wz E js with
   | .ok as=>.ok (.tmp d::as)
   |_=>.stuck
  |some s=>match s.list? with
   |some _=>match wz E js with
    | .ok as=>.ok (.ln j::as)
    |_=>.stuck
   |none=>.stuck
  |none=>.stuck
def Yg(nl:Nat)(caps:List Nat)(mi:MI)(tg:MG)(tt:MT)(el:ME):ME:=λE=>match mi E with
 | .stuck=>.stuck
 | .exc x E1=>.exc x E1
 | .ok (ds,E1)=>match wz E1 caps with
  | .ok ars=>match zG ars E1 with
   | .ok (ss,E2)=>match wU tg tt el ds (replicate nl .emp++ss) []with
    | .ok (res,Eb)=>match zH ars ((zl (replicate nl .emp++ss) Eb).drop nl) E1 E2 with
     | .ok E3=>.ok (.own res,E3)
     |_=>.stuck
    |_=>.stuck
   |_=>.stuck
  |_=>.stuck
def uF:MT:=λE=>.ok (true,E)
abbrev IfOk(X:Cx)(ifs:List Expr)(m:MT):Prop:=zA1 X ifs (tMT X m)
theorem ZT{ifs:List Expr}{t t':TT}(h:zA1 X ifs t)(i:∀σ H Q,t' σ H Q->t σ H Q):zA1 X ifs t':=λpins s σ H Q I q=>h pins s σ H Q I (i σ H Q q)
theorem GT:IfOk X [] uF:=ZT pif_nil λσ H Q ⟨M,E,hl,fr,k⟩=>k H (Got.refl (T0:=[]) hl fr)
theorem GU{c:Expr}{m:MT}(h:TOk X c m):IfOk X [c] m:=pif_one h
theorem GV:∀(js:List Nat) {as:List AR} {T:Fz},E.length=σ.length->wz E js=.ok as->FR K mg M H (T++σ.zip E) ->
  ∃vs,AV σ as vs/\vs.map some=js.map (λj=>(σ[j]?).getD none)/\FR K mg M H (T++(zj vs as++σ.zip E))/\∀b,b∈zw (T++(zj vs as++σ.zip E))->b∈zw (T++σ.zip E)
 | [],as,T,hl,e,f=>by
  cases e;exact⟨[],by simp only[AV],rfl,f,λb q=>q⟩
 |j::js,as,T,hl,e,f=>by
  simp only[wz]at e;cases ej:E[j]? with
  |none=>rw[ej]at e;cases e
  |some s =>
   rw[ej]at e;obtain⟨o,h1,h2⟩:=jm hl ej;have lnk:∀{ds:List D},s.list?=some ds->(match wz E js with | .ok as=>Out.ok (AR.ln j::as)|_=>.stuck)=.ok as->∃vs,AV σ as vs/\vs.map some=(j::js).map (λj=>(σ[j]?).getD none)/\FR K mg M H (T++(zj vs as++σ.zip E))/\∀b,b∈zw (T++(zj vs as++σ.zip E))->b∈zw (T++σ.zip E):=λ{ds} hs e=>by
    cases ec:wz E js with
    |stuck=>rw[ec]at e;cases e
    |exc _ _=>rw[ec]at e;cases e
    |ok as1 =>
     rw[ec]at e;cases e;obtain⟨a,xs,ev,_⟩:=f.own o s ds (mem_append_right _ h2) hs;subst ev;obtain⟨vs,q1,q2,q3,q4⟩:=GV js hl ec f;have p:(T++(((some (V.ref a),Slot.emp)::zj vs as1)++σ.zip E)).Perm ((some (V.ref a),Slot.emp)::(T++(zj vs as1++σ.zip E))):=perm_middle;have fe:FR K mg M H ((some (V.ref a),Slot.emp)::(T++(zj vs as1++σ.zip E))):=q3.mask (.extra (by
      have:∀W:Fz,Mask W W:=by
       intro W
       induction W with
       |nil=>exact .nil _
       |cons x W ih=>exact .keep ih
      exact this _))
     refine⟨.ref a::vs,by simp only[AV];exact⟨_,vs,rfl,h1,q1⟩,by simp[h1,q2],fe.perm p.symm,λb hb=>?_⟩;have:=zB p b hb;rw[yG]at this;exact q4 b this
   cases s with
   |emp=>cases e
   |own ds=>exact lnk rfl e
   |par ds=>exact lnk rfl e
   |val d =>
    dsimp only at e;cases ec:wz E js with
    |stuck=>rw[ec]at e;cases e
    |exc _ _=>rw[ec]at e;cases e
    |ok as1 =>
     rw[ec]at e;cases e;obtain⟨v,ev,r⟩:=f.val o d (mem_append_right _ h2);subst ev;obtain⟨vs,q1,q2,q3,q4⟩:=GV js hl ec f;obtain⟨v',ev',r'⟩:=q3.val (some v) d (mem_append_right _ (mem_append_right _ h2));cases ev';have p:(T++(((some v,Slot.val d)::zj vs as1)++σ.zip E)).Perm ((some v,Slot.val d)::(T++(zj vs as1++σ.zip E))):=perm_middle;refine⟨v::vs,by simp only[AV];exact⟨v,vs,rfl,q1⟩,by simp[h1,q2],(q3.add r').perm p.symm,λb hb=>?_⟩;have:=zB p b hb;rw[zS]at this;exact q4 b this
theorem GW(n:Nat)(Z:Fz):zw (replicate n ((none:Option V),Slot.emp)++Z)=zw Z:=by rw[zT,ZR,nil_append]
theorem FR.emps0(f:FR K mg M H Z)(n:Nat):FR K mg M H (replicate n (none,.emp)++Z):=(f.emps n).perm perm_append_comm
end
end DV
namespace DV
open PySem L2
def tN(K:PySem.W.Frag)(mg:Str->Option Value)(m:ME):TE:=λσ H Q=>∃M E,E.length=σ.length/\FR K mg M H (σ.zip E)/\match m E with
 | .ok (r,E')=>∀v H',Got K mg M σ E H [] σ E' H' [(some v,r.slot)]->Q v H'
 |_=>False
def tNT(K:PySem.W.Frag)(mg:Str->Option Value)(m:MT):TT:=λσ H Q=>∃M E,E.length=σ.length/\FR K mg M H (σ.zip E)/\match m E with
 | .ok (b,E')=>∀H',Got K mg M σ E H [] σ E' H' []->Q b H'
 |_=>False
section
variable{X:Cx}{K:PySem.W.Frag}{mg:Str->Option Value}{σ:St}{M:Addr->Prop}{E:zR}{H:Hp}{T0 Z T:Fz}
theorem tN_M{m:ME}{Q:VK}(h:tN X.K X.mg m σ H Q):tM X m σ H Q:=by
 obtain⟨M,E,hl,fr,k⟩:=h;refine⟨M,E,hl,fr,?_⟩;cases e:m E with
 |stuck=>rw[e]at k;exact k
 |exc x E1=>rw[e]at k;exact k.elim
 |ok p=>rw[e]at k;exact k
theorem tNT_M{m:MT}{Q:Bool->Hp->Prop}(h:tNT X.K X.mg m σ H Q):tMT X m σ H Q:=by
 obtain⟨M,E,hl,fr,k⟩:=h;refine⟨M,E,hl,fr,?_⟩;cases e:m E with
 |stuck=>rw[e]at k;exact k
 |exc x E1=>rw[e]at k;exact k.elim
 |ok p=>rw[e]at k;exact k
theorem tN_run{m:ME}{r:R}{E':zR}{Q:VK}(hl:E.length=σ.length)(h:FR K mg M H (T0++σ.zip E))(e:m E=.ok (r,E'))(k:∀v H',Got K mg M σ E H T0 σ E' H' [(some v,r.slot)]->Q v H'):tN K mg m σ H Q:=by
 refine⟨Mo M T0,E,hl,h.inner,?_⟩;rw[e];exact λv H' g=>k v H' (g.outer h)
theorem tNT_run{m:MT}{b:Bool}{E':zR}{Q:Bool->Hp->Prop}(hl:E.length=σ.length)(h:FR K mg M H (T0++σ.zip E))(e:m E=.ok (b,E'))(k:∀H',Got K mg M σ E H T0 σ E' H' []->Q b H'):tNT K mg m σ H Q:=by
 refine⟨Mo M T0,E,hl,h.inner,?_⟩;rw[e];exact λH' g=>k H' (g.outer h)
theorem GX{ars:List AR}{E1 E2 E3:zR}{ss outs:List Slot}{r:R}{vs:List V}{v:V}{H1 H':Hp}(e1:zG ars E1=.ok (ss,E2))(e3:zH ars outs E1 E2=.ok E3)
  (av:AV σ ars vs) (f1':FR K mg M H1 (σ.zip E2++(vs.map some).zip ss)) (st1:Step M H (σ.zip E) H1 (σ.zip E2++(vs.map some).zip ss)) (l2:E2.length=σ.length) (pk:PKp σ E σ E1)
  (f2:FR K mg (Mo M (σ.zip E2)) H' ((some v,r.slot)::(vs.map some).zip outs)) (s2:Step (Mo M (σ.zip E2)) H1 ((vs.map some).zip ss) H' ((some v,r.slot)::(vs.map some).zip outs)):Got K mg M σ E H [] σ E3 H' [(some v,r.slot)]:=by
 have f3:=FR.outer f1' f2 s2;have s3:=Step.outer s2;have p:(σ.zip E2++((some v,r.slot)::(vs.map some).zip outs)).Perm ([(some v,r.slot)]++((vs.map some).zip outs++σ.zip E2)):=by
  refine perm_append_comm.trans ?_;exact List.Perm.refl _
 obtain⟨f4,o4,l4⟩:=ZP ars l2 av e3 (f3.perm p);refine⟨l4,f4,?_,pk.trans (GP e1 e3)⟩;have st2:=st1.trans s3;exact st2.weak λb hb=>zB p.symm b (o4 b hb)
theorem w4:∀(n:Nat) {Z W:Fz},Mask Z W->Mask Z (W.drop n)
 |0,_,_,h=>h
 |n+1,_,_,.nil Z=>by simp only[List.drop_nil];exact .nil _
 |n+1,_,_,.keep h=>.skip (w4 n h)
 |n+1,_,_,.skip h=>.skip (w4 (n+1) h)
 |n+1,_,_,.extra h=>w4 n h
theorem WE{α β:Type}:∀(n:Nat) (l:List α) (m:List β),(l.zip m).drop n=(l.drop n).zip (m.drop n)
 |0,_,_=>rfl
 |n+1,[],_=>by simp
 |n+1,_::_,[]=>by simp
 |n+1,_::l,_::m=>by simp[WE n l m]
theorem yld_got{J:It}{ds:List D}{Iv:Hp->Prop}{σ0 σ':St}{E0 E':zR}{H1 H' H'':Hp}{Da:Addr}{acc:List D}{i:Nat}{x:V}(it:ItOk K mg J ds Iv)(hlt:i<ds.length)(gb:Got K mg M σ0 E0 H1 [] σ' E' H' [(some (.ref Da),.own acc)])(ivb:Iv (Hm (Mo M ((some (.ref Da),Slot.own acc)::σ'.zip E')) H'))(y:J.yld i H' x H'') :
  ∃d,ds[i]?=some d/\Got K mg M σ0 E0 H1 [] σ' E' H'' [(some (.ref Da),.own acc)]/\Iv (Hm (Mo M ((some (.ref Da),Slot.own acc)::σ'.zip E')) H'')/\Rep K mg (Hm (Mo M ((some (.ref Da),Slot.own acc)::σ'.zip E')) H'') d x:=by
 obtain⟨d,hd,h⟩:=it.yld i _ _ x _ zF ivb hlt y;rcases h with⟨rfl,rx⟩|⟨q,xs,es,hq,rfl,rfl,rfl,rs⟩
 ·exact⟨d,hd,gb,ivb,rx⟩
 ·have f:FR K mg M H' ((some (.ref Da),Slot.own acc)::σ'.zip E'):=gb.fr
  have f1:=f.newTup hq rs;have s1:Step M H' ((some (.ref Da),Slot.own acc)::σ'.zip E') (upd H' q (.tup xs)) ((some (.ref q),.val (.tup es))::((some (.ref Da),Slot.own acc)::σ'.zip E')):=Step.newVal hq;obtain⟨v,ev,rv⟩:=f1.val _ _ mem_cons_self;cases ev;have sm:=s1.same;rw[YT]at rv sm;have s2:Step M H' ((some (.ref Da),Slot.own acc)::σ'.zip E') (upd H' q (.tup xs)) ((some (.ref Da),Slot.own acc)::σ'.zip E'):=⟨sm,s1.keep⟩;exact⟨_,hd,⟨gb.len,f1.tail,gb.st.trans s2,gb.pk⟩,it.mono _ _ sm ivb,rv⟩
theorem vN{nl:Nat}{caps:List Nat}{mi:MI}{tg:MG}{tt:MT}{el:ME}{g:TG}{Q:VK}(ho:GOk X g tg)(h:tM X (Yg nl caps mi tg tt el) σ H Q):zAA nl caps (tMI X mi) g (tNT X.K X.mg tt) (tN X.K X.mg el) σ H Q:=by
 obtain⟨M,E,hl,fr,k⟩:=h;unfold Yg at k;refine⟨M,E,hl,fr,?_⟩;cases ei:mi E with
 |stuck=>rw[ei]at k;exact k
 |exc x E1=>rw[ei]at k;exact k
 |ok p =>
  obtain⟨ds,E1⟩:=p;rw[ei]at k;intro J Iv H1 it iv g1 D hD;dsimp only at k;cases ec:wz E1 caps with
  |stuck=>rw[ec]at k;exact k.elim
  |exc _ _=>rw[ec]at k;exact k.elim
  |ok ars =>
   rw[ec]at k;dsimp only at k;cases el1:zG ars E1 with
   |stuck=>rw[el1]at k;exact k.elim
   |exc _ _=>rw[el1]at k;exact k.elim
   |ok p =>
    obtain⟨ss,E2⟩:=p;rw[el1]at k;dsimp only at k;cases em:wU tg tt el ds (replicate nl .emp++ss) []with
    |stuck=>rw[em]at k;exact k.elim
    |exc _ _=>rw[em]at k;exact k.elim
    |ok p =>
     obtain⟨res,Eb⟩:=p;rw[em]at k;dsimp only at k;cases eb:zH ars ((zl (replicate nl .emp++ss) Eb).drop nl) E1 E2 with
     |stuck=>rw[eb]at k;exact k.elim
     |exc _ _=>rw[eb]at k;exact k.elim
     |ok E3 =>
      rw[eb]at k;obtain⟨vs,av,evs,f1,o1⟩:=GV (T:=[]) caps g1.len ec g1.fr;obtain⟨f2,o2,l2,l3⟩:=Yb (T:=[]) ars g1.len av el1 f1;have hv:=av.length;have f2':FR X.K X.mg M H1 (σ.zip E2++(vs.map some).zip ss):=FR.perm (T:=σ.zip E2++(vs.map some).zip ss) (Z:=(vs.map some).zip ss++σ.zip E2) f2 perm_append_comm;have osub:∀b,b∈zw (σ.zip E2++(vs.map some).zip ss)->b∈zw (σ.zip E1):=λb hb =>
       o1 b ((o2 b).mpr (zB (T:=σ.zip E2++(vs.map some).zip ss) (Z:=(vs.map some).zip ss++σ.zip E2) perm_append_comm b hb))
      have st1:Step M H (σ.zip E) H1 (σ.zip E2++(vs.map some).zip ss):=g1.st.weak osub;have eσ:z6 nl caps σ=replicate nl none++vs.map some:=by unfold L2.z6;rw[evs]
      rw[eσ];have ez:(replicate nl (none:Option V)++vs.map some).zip (replicate nl Slot.emp++ss)=replicate nl (none,.emp)++(vs.map some).zip ss:=by
       rw[List.zip_append (by simp),Wq]
      have f4:FR X.K X.mg (Mo M (σ.zip E2)) H1 ((replicate nl (none:Option V)++vs.map some).zip (replicate nl Slot.emp++ss)):=by
       rw[ez];exact(FR.inner f2').emps0 nl
      have oo:zw ((replicate nl (none:Option V)++vs.map some).zip (replicate nl Slot.emp++ss))=zw ((vs.map some).zip ss):=by rw[ez,GW]
      generalize hσ0:replicate nl (none:Option V)++vs.map some=σ0 at f4 oo ⊢;generalize hE0:replicate nl Slot.emp++ss=E0 at f4 oo em eb ⊢;have hl0:E0.length=σ0.length:=by rw[<- hσ0,<- hE0];simp[l2,hv]
      have f5:=f4.newOwn (ds:=[]) (xs:=[]) hD Reps.nil;have s5:=Step.newOwn (ds:=[]) (xs:=[]) f4 hD;have iv5:Iv (Hm (Mo (Mo M (σ.zip E2)) ((some (.ref D),Slot.own [])::σ0.zip E0)) (upd H1 D (.lst []))):=by
       refine it.mono _ _ s5.same (it.mono _ _ (jC λb hb=>?_) iv);rcases hb with hb|hb
       ·rcases hb with hb|hb
        ·exact .inl hb
        ·exact .inr (osub b (by rw[zT];exact mem_append_left _ hb))
       ·rw[oo]at hb
        exact .inr (osub b (by rw[zT];exact mem_append_right _ hb))
      refine⟨λi m σ' H'=>m=ds.length-i/\i<=ds.length/\∃E' acc,Got X.K X.mg (Mo M (σ.zip E2)) σ0 E0 H1 [] σ' E' H' [(some (.ref D),.own acc)]/\Iv (Hm (Mo (Mo M (σ.zip E2)) ((some (.ref D),Slot.own acc)::σ'.zip E')) H')/\wU tg tt el (ds.drop i) E' acc=.ok (res,Eb),
       ⟨ds.length,by simp,zero_le _,E0,[],⟨hl0,f5,s5,PKp.refl⟩,iv5,em⟩,?_⟩
      rintro i m σ' H' ⟨rfl,hi,E',acc,gb,ivb,cm⟩
      by_cases hlt:i<ds.length
      ·refine .inr ⟨it.go i _ H' zF ivb hlt,λσ'' H''=>(i+1<=ds.length/\∃E' acc,Got X.K X.mg (Mo M (σ.zip E2)) σ0 E0 H1 [] σ'' E' H'' [(some (.ref D),.own acc)]/\Iv (Hm (Mo (Mo M (σ.zip E2)) ((some (.ref D),Slot.own acc)::σ''.zip E')) H'')/\wU tg tt el (ds.drop (i+1)) E' acc=.ok (res,Eb)),
        λσ'' H'' q=>⟨ds.length-(i+1),by omega,rfl,q⟩,λx H'' y=>?_⟩
       obtain⟨d,hd,gb,ivb,rx⟩:=yld_got it hlt gb ivb y;have ed:ds.drop i=d::ds.drop (i+1):=by
        obtain⟨hi',rfl⟩:=List.getElem?_eq_some_iff.mp hd;exact List.drop_eq_getElem_cons hi'
       rw[ed]at cm;simp only[wU]at cm;cases e1:tg d E' with
       |stuck=>rw[e1]at cm;cases cm
       |exc _ _=>rw[e1]at cm;cases cm
       |ok Ea =>
        rw[e1]at cm;dsimp only at cm;refine ho _ σ' E' _ [(some (.ref D),.own acc)] x d Ea _ gb.len (gb.fr.add rx) e1 λσ2 ga=>?_
        have g2:=gb.trans' ga;cases e2:tt Ea with
        |stuck=>rw[e2]at cm;cases cm
        |exc _ _=>rw[e2]at cm;cases cm
        |ok p =>
         obtain⟨b,Eb2⟩:=p;rw[e2]at cm;refine tNT_run ga.len ga.fr e2 λH3 gt=>?_
         have g3:=g2.trans' gt;have iv3:=it.mono _ _ (ga.st.same.trans gt.st.same) ivb;cases b with
         |false =>
          refine iteF ⟨hlt,Eb2,acc,g3,iv3,cm⟩
         |true =>
          refine iteT ?_;dsimp only at cm;cases e3:el Eb2 with
          |stuck=>rw[e3]at cm;cases cm
          |exc _ _=>rw[e3]at cm;cases cm
          |ok p =>
           obtain⟨r,Ec⟩:=p;rw[e3]at cm;dsimp only at cm;by_cases hcap:acc.length<cap
           ·rw[if_pos hcap]at cm
            refine tN_run g3.len g3.fr e3 λyv H4 ge=>?_
            have g4:=g3.trans' ge;have fz:FR X.K X.mg (Mo M (σ.zip E2)) H4 ((some yv,.val r.d)::((some (.ref D),Slot.own acc)::σ2.zip Ec)):=g4.fr.frz;obtain⟨yv',ey,ry⟩:=fz.val _ _ mem_cons_self;cases ey;rw[YT]at ry;have fo:=fz.tail;obtain⟨a,ys,ea,ha,_,rys⟩:=fo.own _ _ acc mem_cons_self rfl;cases ea;refine⟨ys,ha,by rw[rys.length];exact lt_of_lt_of_le hcap (jf (le_refl _)),hlt,Ec,acc++[r.d],?_⟩;obtain⟨fm,sm⟩:=FR.mut (i:=0) (s:=.own acc) fo rfl rfl (rys.append (Reps.cons ry Reps.nil));have fm':FR X.K X.mg (Mo M (σ.zip E2)) (upd H4 D (.lst (ys++[yv]))) ((some (.ref D),Slot.own (acc++[r.d]))::σ2.zip Ec):=fm;have sm':Step (Mo M (σ.zip E2)) H4 ((some (.ref D),Slot.own acc)::σ2.zip Ec) (upd H4 D (.lst (ys++[yv]))) ((some (.ref D),Slot.own (acc++[r.d]))::σ2.zip Ec):=sm;have sz:Step (Mo M (σ.zip E2)) H3 ((some (.ref D),Slot.own acc)::σ2.zip Eb2) H4 ((some (.ref D),Slot.own acc)::σ2.zip Ec):=ge.st.weak (zC (sublist_cons_self _ _));have sz0:Step (Mo M (σ.zip E2)) H1 (σ0.zip E0) H4 ((some (.ref D),Slot.own acc)::σ2.zip Ec):=g4.st.weak (zC (sublist_cons_self _ _));exact⟨⟨g4.len,fm',sz0.trans sm',g4.pk⟩,it.mono _ _ (sz.same.trans sm'.same) iv3,cm⟩
           ·rw[if_neg hcap]at cm;cases cm
      ·have ei2:i=ds.length:=by omega
       subst ei2;rw[List.drop_length]at cm;simp only[wU]at cm;cases cm;refine .inl ⟨it.stop _ _ H' zF ivb (le_refl _),k _ H' ?_⟩;have mk0:Mask (σ'.zip Eb) (σ0.zip (zl E0 Eb)):=YE E0 σ0 σ' Eb gb.len (hl0.symm) λj ds' e=>(gb.pk j ds' e).2
       have mk:Mask (σ'.zip Eb) ((vs.map some).zip ((zl E0 Eb).drop nl)):=by
        have:=w4 nl mk0;have e:(σ0.zip (zl E0 Eb)).drop nl=(vs.map some).zip ((zl E0 Eb).drop nl):=by
         rw[WE,<- hσ0];congr 1;rw[List.drop_left' (by simp)]
        rw[e]at this;exact this
       refine GX (r:=.own res) el1 eb av f2' st1 l3 g1.pk (gb.fr.mask (.keep mk)) ?_;refine(gb.st.weak λb hb=>(Mask.keep mk).sub.subset hb).left λb hb=>?_
       show b∈zw _
       rw[nil_append,oo]at hb;exact hb
end
section
variable{X:Cx}{elt target iter:Expr}{ifs:List Expr}{scope:Scope}{pos:Pos}
theorem ok_comp{mi:MI}{tg:MG}{tt:MT}{el:ME}{g:TG}(nl:Nat)(caps:List Nat)(N':List Str)(hx:∀e s,¬X.xe e s)(hc:X.calm=true)(hkind:scope.kind=.function)(hnames:∀y∈scope.names,y.2=.local->scope.names.lookup y.1=some .local)(hcell:∀y∈scope.names,y.2=.cell->scope.names.lookup y.1=some .cell)
  (hfree:(scope.names.all λy=>y.2 != .free||X.env.kindOf y.1==some .cell)=true)
  (hlen:N'.length=nl+caps.length) (hcap:∀(i j:Nat),caps[i]?=some j->∃x,N'[nl+i]?=some x/\X.N[j]?=some x/\scope.names.lookup x=some .free)
  (hi:IOk X target iter mi) (hg:∀cl C ex s H,PG (cxB X N' scope cl C ex s H) target g) (ho:GOk X g tg) (ht:∀cl C ex s H,IfOk (cxB X N' scope cl C ex s H) ifs tt) (he:∀cl C ex s H,EOk (cxB X N' scope cl C ex s H) elt el)
  (hs:∀x,foldedSetIterable iter X.env x=pure x:=by intro _;rfl):EOk X (.ListComp elt [⟨target,iter,ifs,0⟩] scope pos) (Yg nl caps mi tg tt el) :=
 zi (pe_comp (te:=tN X.K X.mg el) (tt:=tNT X.K X.mg tt) hx hc hkind hnames hcell hfree hlen hcap hi hg (λcl C ex s H=>ZT (ht cl C ex s H) λσ H Q q=>tNT_M (X:=cxB X N' scope cl C ex s _) q) (λcl C ex s H=>zi (he cl C ex s H) λσ H Q q=>tN_M (X:=cxB X N' scope cl C ex s _) q) hs) λσ H Q=>vN ho
theorem sk_comp{mi:MI}{tg:MG}{tt:MT}{el:ME}{g:TG}{i:Nat}{y:Str}{py spos:Pos}(nl:Nat)(caps:List Nat)(N':List Str)(hN:X.N.Nodup)(hi':X.N[i]?=some y)(hy:Loc X.env.scope y)(hf:X.fn y=true\/X.env.scope.names.lookup y=some .local)(hx:∀e s,¬X.xe e s)(hc:X.calm=true)(hkind:scope.kind=.function)(hnames:∀y∈scope.names,y.2=.local->scope.names.lookup y.1=some .local)(hcell:∀y∈scope.names,y.2=.cell->scope.names.lookup y.1=some .cell)
  (hfree:(scope.names.all λy=>y.2 != .free||X.env.kindOf y.1==some .cell)=true)
  (hlen:N'.length=nl+caps.length) (hcap:∀(i j:Nat),caps[i]?=some j->∃x,N'[nl+i]?=some x/\X.N[j]?=some x/\scope.names.lookup x=some .free)
  (hi:IOk X target iter mi) (hg:∀cl C ex s H,PG (cxB X N' scope cl C ex s H) target g) (ho:GOk X g tg) (ht:∀cl C ex s H,IfOk (cxB X N' scope cl C ex s H) ifs tt) (he:∀cl C ex s H,EOk (cxB X N' scope cl C ex s H) elt el)
  (hs:∀x,foldedSetIterable iter X.env x=pure x) (hsw:swapsWith (.ListComp elt [⟨target,iter,ifs,0⟩] scope pos) (some (.Name y py)) spos.line X.env=pure true) :
  SOk X (.Assign [.Name y py] (.ListComp elt [⟨target,iter,ifs,0⟩] scope pos) spos) (sSet i (Yg nl caps mi tg tt el)) :=
 jl (ps_setC (te:=tN X.K X.mg el) (tt:=tNT X.K X.mg tt) hN hi' hy hf hx hc hkind hnames hcell hfree hlen hcap hi hg (λcl C ex s H=>ZT (ht cl C ex s H) λσ H Q q=>tNT_M (X:=cxB X N' scope cl C ex s _) q) (λcl C ex s H=>zi (he cl C ex s H) λσ H Q q=>tN_M (X:=cxB X N' scope cl C ex s _) q) hs hsw) λD σ H h=>vN ho (GL h)
end
end DV
namespace DV
open PySem L2
theorem mem7{P:String->Prop}(h1:P "NoneType")(h2:P "bool")(h3:P "int")(h4:P "str")(h5:P "tuple")(h6:P "list")(h7:P "dict"):∀t∈["NoneType","bool","int","str","tuple","list","dict"],P t:=by
 intro t ht;simp only[mem_cons,mem_nil_iff,or_false]at ht;rcases ht with rfl|rfl|rfl|rfl|rfl|rfl|rfl<;>assumption
abbrev Kit(K:PySem.W.Frag)(T:String):Prop:=∀t∈["NoneType","bool","int","str","tuple","list","dict"],kitOne K (.type t) (.type T)=some (Z7 t T)
theorem kit_int(K:PySem.W.Frag):Kit K "int":=mem7 rfl rfl rfl rfl rfl rfl rfl
theorem zAB(K:PySem.W.Frag):Kit K "bool":=mem7 rfl rfl rfl rfl rfl rfl rfl
theorem GY(K:PySem.W.Frag):Kit K "tuple":=mem7 rfl rfl rfl rfl rfl rfl rfl
theorem zAC(K:PySem.W.Frag):Kit K "list":=mem7 rfl rfl rfl rfl rfl rfl rfl
theorem kit_str(K:PySem.W.Frag):Kit K "str":=mem7 rfl rfl rfl rfl rfl rfl rfl
theorem zAD(K:PySem.W.Frag):Kit K "dict":=mem7 rfl rfl rfl rfl rfl rfl rfl
theorem jS:bootBuiltins "isinstance"=some (.builtin "isinstance"):=by decide +kernel
theorem bt_len:bootBuiltins "len"=some (.builtin "len"):=by decide +kernel
theorem bt_max:bootBuiltins "max"=some (.builtin "max"):=by decide +kernel
theorem bt_all:bootBuiltins "all"=some (.builtin "all"):=by decide +kernel
theorem zA3:bootBuiltins "int"=some (.type "int"):=by decide +kernel
theorem bt_bool:bootBuiltins "bool"=some (.type "bool"):=by decide +kernel
theorem vO:bootBuiltins "tuple"=some (.type "tuple"):=by decide +kernel
theorem GZ:bootBuiltins "list"=some (.type "list"):=by decide +kernel
theorem bt_str:bootBuiltins "str"=some (.type "str"):=by decide +kernel
theorem bt_dict:bootBuiltins "dict"=some (.type "dict"):=by decide +kernel
section
variable{X:Cx}{K:PySem.W.Frag}{mg:Str->Option Value}{σ:St}{H:Hp}
def eNeg(a:ME):ME:=λE=>match a E with
 | .ok (.val (.int i),E1)=>.ok (.val (.int (-i)),E1)
 | .exc x E1=>.exc x E1
 |_=>.stuck
theorem ok_neg{a:Expr}{m:ME}{pos:Pos}(h:EOk X a m):EOk X (.UnaryOp .USub a pos) (eNeg m):=zi (pe_un un_neg h) λσ H Q ⟨M,E,hl,fr,k⟩=>by
 unfold eNeg at k;refine ze (T0:=[]) hl fr ?_;cases ea:m E with
 |stuck=>rw[ea]at k;exact k
 |exc x E1=>rw[ea]at k;exact k
 |ok p =>
  obtain⟨r,E1⟩:=p;rw[ea]at k;cases r with
  |own ds=>exact k.elim
  |val d =>
   cases d with
   |int i =>
    intro v H' g;exact⟨i,zL g.rep,k _ H' (g.flat (d:=.int (-i)) rfl)⟩
   |_=>exact k.elim
def yy(p p':Int->Int->Bool)(a b c:ME):ME:=λE=>match a E with
 | .stuck=>.stuck
 | .exc x E1=>.exc x E1
 | .ok (.val (.int i),E1)=>match b E1 with
  | .stuck=>.stuck
  | .exc x E2=>.exc x E2
  | .ok (.val (.int j),E2)=>if p i j=true then match c E2 with
    | .stuck=>.stuck
    | .exc x E3=>.exc x E3
    | .ok (.val (.int k),E3)=>.ok (.val (.bl (p' j k)),E3)
    |_=>.stuck
   else .ok (.val (.bl false),E2)
  |_=>.stuck
 |_=>.stuck
theorem WF{p p':Int->Int->Bool}{a b c:ME}{Q:VK}(h:tM X (yy p p' a b c) σ H Q):uj (rI0 λi j=>.bl (p i j)) (rI0 λi j=>.bl (p' i j)) (tM X a) (tM X b) (tM X c) σ H Q:=by
 obtain⟨M,E,hl,fr,k⟩:=h;unfold yy at k;refine ze (T0:=[]) hl fr ?_;cases ea:a E with
 |stuck=>rw[ea]at k;exact k
 |exc x E1=>rw[ea]at k;exact k
 |ok q =>
  obtain⟨r,E1⟩:=q;rw[ea]at k;cases r with
  |own ds=>exact k.elim
  |val d =>
   cases d with
   |int i =>
    intro x H1 g1;have g1':=g1.dropAll;refine ze (T0:=[]) g1'.len g1'.fr ?_;dsimp only at k;cases eb:b E1 with
    |stuck=>rw[eb]at k;exact k
    |exc x E2=>rw[eb]at k;exact λH' g=>k H' (g1'.trans' g)
    |ok q =>
     obtain⟨r2,E2⟩:=q;rw[eb]at k;cases r2 with
     |own ds=>exact k.elim
     |val d2 =>
      cases d2 with
      |int j =>
       intro y H2 g2;have g12:=(g1'.trans' g2).dropAll;refine⟨i,j,zL g1.rep,zL g2.rep,p i j,rfl,?_⟩;dsimp only at k;cases ep:p i j with
       |false =>
        rw[ep]at k;exact iteF (k _ H2 (g12.flat (d:=.bl false) rfl))
       |true =>
        rw[ep]at k;simp only[if_true]at k;refine iteT (ze (T0:=[]) g12.len g12.fr ?_);cases ec:c E2 with
        |stuck=>rw[ec]at k;exact k
        |exc x E3=>rw[ec]at k;exact λH' g=>k H' (g12.trans' g)
        |ok q =>
         obtain⟨r3,E3⟩:=q;rw[ec]at k;cases r3 with
         |own ds=>exact k.elim
         |val d3 =>
          cases d3 with
          |int n =>
           intro w H3 g3;exact⟨j,n,zL g2.rep,zL g3.rep,k _ H3 ((g12.trans' g3).flat (d:=.bl (p' j n)) rfl)⟩
          |_=>exact k.elim
      |_=>exact k.elim
   |_=>exact k.elim
theorem zAE{op op':CmpOp}{p p':Int->Int->Bool}{a b c:Expr}{ma mb mc:ME}{pos:Pos}(ho:OpR X (compareOp op) (rI0 λi j=>.bl (p i j)))(ho':OpR X (compareOp op') (rI0 λi j=>.bl (p' i j)))(ha:EOk X a ma)(hb:EOk X b mb)(hc:EOk X c mc)
  (hm:lastMarks [op,op'] [b,c]=false:=by with_unfolding_all rfl):EOk X (.Compare a [op,op'] [b,c] pos) (yy p p' ma mb mc):=zi (QY ho ho' ha hb hc hm) λσ H Q=>WF
theorem Ga{op op':CmpOp}{p p':Int->Int->Bool}{a b c:Expr}{ma mb mc:ME}{pos:Pos}(ho:OpR X (compareOp op) (rI0 λi j=>.bl (p i j)))(ho':OpR X (compareOp op') (rI0 λi j=>.bl (p' i j)))(ha:EOk X a ma)(hb:EOk X b mb)(hc:EOk X c mc)
  (hm:lastMarks [op,op'] [b,c]=false:=by with_unfolding_all rfl):TOk X (.Compare a [op,op'] [b,c] pos) (tT (yy p p' ma mb mc)):=Zz (QZ ho ho' ha hb hc hm) λσ H Q q=>WF (GF q)
abbrev ltB:Int->Int->Bool:=λi j=>decide (i<j)
abbrev leB:Int->Int->Bool:=λi j=>decide (i<=j)
abbrev gtB:Int->Int->Bool:=λi j=>decide (j<i)
abbrev geB:Int->Int->Bool:=λi j=>decide (j<=i)
def Gb(X:Cx)(scope:Scope):List Nat->List Str->Prop
 | [],[]=>True
 |j::js,x::xs=>X.N[j]?=some x/\scope.names.lookup x=some .free/\Gb X scope js xs
 |_,_=>False
theorem Gc{scope:Scope}{loc:List Str}:∀{caps:List Nat} {capn:List Str},Gb X scope caps capn->capn.length=caps.length/\∀(i j:Nat),caps[i]?=some j->∃x,capn[i]?=some x/\X.N[j]?=some x/\scope.names.lookup x=some .free
 | [],[],h=>⟨rfl,λi j e=>by simp at e⟩
 | [],_::_,h=>h.elim
 |_::_,[],h=>h.elim
 |j::js,x::xs,h=>by
  obtain⟨h1,h2,h3⟩:=h;obtain⟨i1,i2⟩:=Gc (loc:=loc) h3;refine⟨by simp[i1],λi k e=>?_⟩;cases i with
  |zero=>simp at e;subst e;exact⟨x,rfl,h1,h2⟩
  |succ i=>simp at e;obtain⟨y,q⟩:=i2 i k e;exact⟨y,by simpa using q⟩
theorem ok_lc{elt target iter:Expr}{ifs:List Expr}{scope:Scope}{pos:Pos}{mi:MI}{tg:MG}{tt:MT}{el:ME}{g:TG}{nl:Nat}{caps:List Nat}(loc capn:List Str)(hnl:loc.length=nl)(hx:∀e s,¬X.xe e s)(hc:X.calm=true)(hkind:scope.kind=.function)(hnames:∀y∈scope.names,y.2=.local->scope.names.lookup y.1=some .local)(hcell:∀y∈scope.names,y.2=.cell->scope.names.lookup y.1=some .cell)
  (hfree:(scope.names.all λy=>y.2 != .free||X.env.kindOf y.1==some .cell)=true) (hcap:Gb X scope caps capn)
  (hi:IOk X target iter mi) (hg:∀cl C ex s H,PG (cxB X (loc++capn) scope cl C ex s H) target g) (ho:GOk X g tg) (ht:∀cl C ex s H,IfOk (cxB X (loc++capn) scope cl C ex s H) ifs tt) (he:∀cl C ex s H,EOk (cxB X (loc++capn) scope cl C ex s H) elt el)
  (hs:∀x,foldedSetIterable iter X.env x=pure x:=by intro _;rfl):EOk X (.ListComp elt [⟨target,iter,ifs,0⟩] scope pos) (Yg nl caps mi tg tt el):=by
 obtain⟨c1,c2⟩:=Gc (loc:=loc) hcap;refine ok_comp nl caps (loc++capn) hx hc hkind hnames hcell hfree (by simp[hnl,c1]) (λi j e=>?_) hi hg ho ht he hs;obtain⟨x,q1,q2,q3⟩:=c2 i j e;refine⟨x,?_,q2,q3⟩;rw[List.getElem?_append_right (by omega),hnl,Nat.add_sub_cancel_left];exact q1
theorem sk_lc{elt target iter:Expr}{ifs:List Expr}{scope:Scope}{pos:Pos}{mi:MI}{tg:MG}{tt:MT}{el:ME}{g:TG}{nl:Nat}{caps:List Nat}{i:Nat}{y:Str}{py spos:Pos}(loc capn:List Str)(hN:X.N.Nodup)(hi':X.N[i]?=some y)(hy:Loc X.env.scope y)(hf:X.fn y=true\/X.env.scope.names.lookup y=some .local)(hnl:loc.length=nl)(hx:∀e s,¬X.xe e s)(hc:X.calm=true)(hkind:scope.kind=.function)(hnames:∀y∈scope.names,y.2=.local->scope.names.lookup y.1=some .local)(hcell:∀y∈scope.names,y.2=.cell->scope.names.lookup y.1=some .cell)
  (hfree:(scope.names.all λy=>y.2 != .free||X.env.kindOf y.1==some .cell)=true) (hcap:Gb X scope caps capn)
  (hi:IOk X target iter mi) (hg:∀cl C ex s H,PG (cxB X (loc++capn) scope cl C ex s H) target g) (ho:GOk X g tg) (ht:∀cl C ex s H,IfOk (cxB X (loc++capn) scope cl C ex s H) ifs tt) (he:∀cl C ex s H,EOk (cxB X (loc++capn) scope cl C ex s H) elt el)
  (hs:∀x,foldedSetIterable iter X.env x=pure x) (hsw:swapsWith (.ListComp elt [⟨target,iter,ifs,0⟩] scope pos) (some (.Name y py)) spos.line X.env=pure true) :
  SOk X (.Assign [.Name y py] (.ListComp elt [⟨target,iter,ifs,0⟩] scope pos) spos) (sSet i (Yg nl caps mi tg tt el)):=by
 obtain⟨c1,c2⟩:=Gc (loc:=loc) hcap;refine sk_comp nl caps (loc++capn) hN hi' hy hf hx hc hkind hnames hcell hfree (by simp[hnl,c1]) (λi j e=>?_) hi hg ho ht he hs hsw;obtain⟨x,q1,q2,q3⟩:=c2 i j e;refine⟨x,?_,q2,q3⟩;rw[List.getElem?_append_right (by omega),hnl,Nat.add_sub_cancel_left];exact q1
end
section
variable(P:Program)(w:World)(K:PySem.W.Frag)(mg:Str->Option Value)(base:Heap)
def JU(x:Str)(st:Stmt)(ps:List Str):Prop:=∃(a:Addr) (fd:FuncData),mg x=some (.ref a)/\Fun K x x st a fd/\wP K fd ps []
def FOk(c:Bool)(x:Str)(k:Nat)(ps:List Str)(F:MF):Prop:=∃(a:Addr) (fd:FuncData),mg x=some (.ref a)/\keepIn K (.ref a)=true/\wP K fd ps []/\FnOkN c P w K mg base k a fd ps (spM K mg ps.length F)
end
end DV
namespace DV
open PySem L2
def WG(l:List (Str×MF)):Str->Option MF:=λx=>l.lookup x
section
variable{X:Cx}{n:Nat}
theorem tab_nil:uE X n (WG []):=λx F e=>by cases e
theorem zAF{x:Str}{F:MF}{l:List (Str×MF)}{f:Addr}{fd:FuncData}{ps:List Str}{k:Nat}{c:Bool}(hm:X.mg x=some (.ref f))(hk:keepIn X.K (.ref f)=true)(G:FnOkN c X.prog X.w X.K X.mg X.base k f fd ps (spM X.K X.mg n F))(hd:c=true->X.A.handled=none)(hr:RoomN k X.A)(hb:wP X.K fd ps [])
  (h:uE X n (WG l)):uE X n (WG ((x,F)::l)):=λy F' e=>by
 unfold WG at e;rw[lookup_cons]at e;cases hy:y==x with
 |true =>
  rw[hy]at e;cases e;have:y=x:=by simpa using hy
  subst this;exact⟨f,fd,ps,k,hm,hk,⟨c,G,hd⟩,hr,hb⟩
 |false=>rw[hy]at e;exact h y F' e
end
end DV
namespace DV
open PySem L2
mutual
def deq:D->D->Bool
 | .tup a,d=>match d with
  | .tup b=>deqs a b
  |_=>false
 | .lst a,d=>match d with
  | .lst b=>deqs a b
  |_=>false
 |a,d=>match d with
  | .tup _=>false
  | .lst _=>false
  |b=>eqV (flV a) (flV b)
def deqs:List D->List D->Bool
 | [],[]=>true
 |a::as,b::bs=>deq a b&&deqs as bs
 | [],_::_=>false
 |_::_,[]=>false
end
def eqb:Nat->D->Bool
 |_,.non=>true
 |_,.bl _=>true
 |_,.int _=>true
 |_,.str _=>true
 |n+1,.tup ds=>ds.all (eqb n)
 |n+1,.lst ds=>ds.all (eqb n)
 |_,_=>false
theorem jT:∀(a b:List D),deqs a b=((List.range (min a.length b.length)).all (λj=>deq (a.getD j .non) (b.getD j .non))&&a.length==b.length)
 | [],[]=>by simp[deqs]
 | [],_::_=>by simp[deqs]
 |_::_,[]=>by simp[deqs]
 |a::as,b::bs=>by
  simp only[deqs,jT as bs,length_cons];have e:min (as.length+1) (bs.length+1)=min as.length bs.length+1:=by omega
  rw[e,List.range_succ_eq_map,all_cons,List.all_map];simp[Function.comp_def,Bool.and_assoc]
section
variable{X:Cx}{pins:List (Addr×Obj)}{σ:St}{H:Hp}{s:Shared}
theorem yz{d:D}(h:eqb 0 d=true):flat d=true:=by cases d<;>first|rfl|(simp[eqb]at h)
theorem vP{v:V}(h:wA v=true):eqV v v=true:=by cases v<;>simp[wA]at h<;>simp[eqV]
theorem j7{a b:D}(ha:flat a=true)(hb:flat b=true):deq a b=eqV (flV a) (flV b):=by
 cases a<;>cases b<;>first|(simp[flat]at ha;done)|(simp[flat]at hb;done)|simp[deq]
theorem zb{n:Nat}{d:D}(h:eqb n d=true):flat d=true\/(∃m ds,n=m+1/\d=.tup ds/\∀e∈ds,eqb m e=true)\/(∃m ds,n=m+1/\d=.lst ds/\∀e∈ds,eqb m e=true):=by
 cases d with
 |tup ds =>
  cases n with
  |zero=>simp[eqb]at h
  |succ m=>exact .inr (.inl ⟨m,ds,rfl,rfl,by simpa[eqb]using h⟩)
 |lst ds =>
  cases n with
  |zero=>simp[eqb]at h
  |succ m=>exact .inr (.inr ⟨m,ds,rfl,rfl,by simpa[eqb]using h⟩)
 |fn x=>cases n<;>simp[eqb]at h
 |dic=>cases n<;>simp[eqb]at h
 |exn x=>cases n<;>simp[eqb]at h
 |_=>exact .inl rfl
theorem vQ(I:Inv X pins σ H s):∀(n:Nat) (d e:D) (x:V),eqb n d=true->eqb n e=true->Rep X.K X.mg H d x->Rep X.K X.mg H e x->deq d e=true:=by
 intro n
 induction n with
 |zero =>
  intro d e x hd he rd re;have fd:=yz hd;have fe:=yz he;rw[j7 fd fe,<- zP fd rd,<- zP fe re];exact vP (by rw[zP fd rd];exact zu fd)
 |succ n ih =>
  intro d e x hd he rd re;have seq:∀(ds es:List D) (xs:List V),(∀e∈ds,eqb n e=true)->(∀e∈es,eqb n e=true)->Reps X.K X.mg H ds xs->Reps X.K X.mg H es xs->deqs ds es=true:=by
   intro ds
   induction ds with
   |nil =>
    intro es xs _ _ r1 r2;simp only[Reps]at r1;subst r1;cases es with
    |nil=>rfl
    |cons e es=>simp only[Reps]at r2;obtain⟨v,r,q,_⟩:=r2;cases q
   |cons d ds ihd =>
    intro es xs h1 h2 r1 r2;simp only[Reps]at r1;obtain⟨v,r,rfl,a1,a2⟩:=r1;cases es with
    |nil=>simp only[Reps]at r2;cases r2
    |cons e es =>
     simp only[Reps]at r2;obtain⟨v',r',q,b1,b2⟩:=r2;cases q;simp only[deqs,Bool.and_eq_true];exact⟨ih d e v (h1 d mem_cons_self) (h2 e mem_cons_self) a1 b1,ihd es r (λz hz=>h1 z (mem_cons_of_mem _ hz)) (λz hz=>h2 z (mem_cons_of_mem _ hz)) a2 b2⟩
  have isRef:∀{d:D} {a:Addr},flat d=true->Rep X.K X.mg H d (.ref a)->False:=λ{d a} fd r=>by
   have:=zP fd r;cases d<;>simp[flat]at fd<;>cases this
  have kinds:∀{a:Addr} {xs ys:List V},SqT X.K H a xs->SqL X.K H a ys->False:=λ{a xs ys} h1 h2=>by
   obtain⟨i1,_,⟨o,e1,c1,_⟩,_⟩:=I.tuple h1;obtain⟨i2,_,⟨o2,n2,e2,c2,_⟩,_⟩:=I.list h2;rw[e1]at e2;cases e2;rw[c1]at c2;simp at c2
  rcases zb hd with fd|⟨m,ds,em,rfl,hds⟩|⟨m,ds,em,rfl,hds⟩
  ·rcases zb he with fe|⟨m,es,em,rfl,hes⟩|⟨m,es,em,rfl,hes⟩
   ·rw[j7 fd fe,<- zP fd rd,<- zP fe re]
    exact vP (by rw[zP fd rd];exact zu fd)
   ·obtain⟨a,xs,rfl,_,_⟩:=zU re
    exact(isRef fd rd).elim
   ·obtain⟨a,xs,rfl,_,_⟩:=zM re
    exact(isRef fd rd).elim
  ·cases em
   obtain⟨a,xs,rfl,q1,q2⟩:=zU rd;rcases zb he with fe|⟨m,es,em,rfl,hes⟩|⟨m,es,em,rfl,hes⟩
   ·exact(isRef fe re).elim
   ·cases em
    obtain⟨b,ys,e,p1,p2⟩:=zU re;cases e;have:=I.tuple_inj q1 p1;subst this;simp only[deq];exact seq ds es xs hds hes q2 p2
   ·obtain⟨b,ys,e,p1,p2⟩:=zM re
    cases e;exact(kinds q1 p1).elim
  ·cases em
   obtain⟨a,xs,rfl,q1,q2⟩:=zM rd;rcases zb he with fe|⟨m,es,em,rfl,hes⟩|⟨m,es,em,rfl,hes⟩
   ·exact(isRef fe re).elim
   ·obtain⟨b,ys,e,p1,p2⟩:=zU re
    cases e;exact(kinds p1 q1).elim
   ·cases em
    obtain⟨b,ys,e,p1,p2⟩:=zM re;cases e;have:=I.list_inj q1 p1;subst this;simp only[deq];exact seq ds es xs hds hes q2 p2
theorem JV{ds:List D}{xs:List V}{us:List Value}(r:Reps X.K X.mg H ds xs)(v:zd xs us){j:Nat}(h:j<us.length):j<ds.length/\∃x,Rep X.K X.mg H (ds.getD j .non) x/\zv x us[j]:=by
 have l1:=r.length;have l2:=v.length;have hd:j<ds.length:=by omega
 refine⟨hd,?_⟩;obtain⟨x,q1,q2⟩:=r.get' (i:=j) (d:=ds[j]) (by simp[hd]);obtain⟨u,e1,e2⟩:=v.get q1;have:us[j]=u:=by
  have:=List.getElem?_eq_some_iff.mp e1;exact this.2
 refine⟨x,?_,by rw[this];exact e2⟩;rw[getD_eq_getElem?_getD,getElem?_eq_getElem hd];exact q2
theorem eqAt_ft{A:Around}{d:D}{x:V}{u:Value}{b:Addr}{its:Array Value}(hd:flat d=true)(rx:zv x u)(ex:x=flV d)(hb:s.heap.IsTuple b its)(hu:A.units<cLine):SeqAt.EqAt A s u (.ref b) false:=by
 subst ex;cases d with
 |non=>cases rx;exact SeqAt.EqAt.none_tuple hb hu
 |bl c=>cases rx;exact SeqAt.EqAt.bool_tuple c hb hu
 |int i=>obtain⟨t,rfl⟩:=rx;exact SeqAt.EqAt.int_tuple i t hb hu
 |str z=>obtain⟨t,rfl⟩:=rx;exact SeqAt.EqAt.str_tuple z t hb hu
 |_=>simp[flat]at hd
theorem eqAt_fl{A:Around}{d:D}{x:V}{u:Value}{b:Addr}{its:Array Value}(hd:flat d=true)(rx:zv x u)(ex:x=flV d)(hb:s.heap.IsList b its)(hu:A.units<cLine):SeqAt.EqAt A s u (.ref b) false:=by
 subst ex;cases d with
 |non=>cases rx;exact SeqAt.EqAt.none_list hb hu
 |bl c=>cases rx;exact SeqAt.EqAt.bool_list c hb hu
 |int i=>obtain⟨t,rfl⟩:=rx;exact SeqAt.EqAt.int_list i t hb hu
 |str z=>obtain⟨t,rfl⟩:=rx;exact SeqAt.EqAt.str_list z t hb hu
 |_=>simp[flat]at hd
theorem eqAt_tf{A:Around}{d:D}{x:V}{u:Value}{b:Addr}{its:Array Value}(hd:flat d=true)(rx:zv x u)(ex:x=flV d)(hb:s.heap.IsTuple b its)(hu:A.units<cLine):SeqAt.EqAt A s (.ref b) u false:=by
 subst ex;cases d with
 |non=>cases rx;exact SeqAt.EqAt.tuple_none hb hu
 |bl c=>cases rx;exact SeqAt.EqAt.tuple_bool c hb hu
 |int i=>obtain⟨t,rfl⟩:=rx;exact SeqAt.EqAt.tuple_int i t hb hu
 |str z=>obtain⟨t,rfl⟩:=rx;exact SeqAt.EqAt.tuple_str z t hb hu
 |_=>simp[flat]at hd
theorem eqAt_lf{A:Around}{d:D}{x:V}{u:Value}{b:Addr}{its:Array Value}(hd:flat d=true)(rx:zv x u)(ex:x=flV d)(hb:s.heap.IsList b its)(hu:A.units<cLine):SeqAt.EqAt A s (.ref b) u false:=by
 subst ex;cases d with
 |non=>cases rx;exact SeqAt.EqAt.list_none hb hu
 |bl c=>cases rx;exact SeqAt.EqAt.list_bool c hb hu
 |int i=>obtain⟨t,rfl⟩:=rx;exact SeqAt.EqAt.list_int i t hb hu
 |str z=>obtain⟨t,rfl⟩:=rx;exact SeqAt.EqAt.list_str z t hb hu
 |_=>simp[flat]at hd
theorem Gd{d:D}{ds:List D}(h:flat d=true):deq d (.tup ds)=false:=by cases d<;>simp[flat]at h<;>simp[deq]
theorem Ge{d:D}{ds:List D}(h:flat d=true):deq d (.lst ds)=false:=by cases d<;>simp[flat]at h<;>simp[deq]
theorem Gf{d:D}{ds:List D}(h:flat d=true):deq (.tup ds) d=false:=by cases d<;>simp[flat]at h<;>simp[deq]
theorem Gg{d:D}{ds:List D}(h:flat d=true):deq (.lst ds) d=false:=by cases d<;>simp[flat]at h<;>simp[deq]
theorem eqAtD(I:Inv X pins σ H s):∀(n:Nat) (A:Around) (d e:D) (x y:V) (u v:Value),eqb n d=true->eqb n e=true->Rep X.K X.mg H d x->Rep X.K X.mg H e y->zv x u->zv y v->A.units+n<cLine->SeqAt.EqAt A s u v (deq d e):=by
 intro n
 induction n with
 |zero =>
  intro A d e x y u v hd he rd re rx ry hu;have fd:=yz hd;have fe:=yz he;rw[j7 fd fe,<- zP fd rd,<- zP fe re];exact uu rx ry (by rw[zP fd rd];exact zu fd) (by rw[zP fe re];exact zu fe)
 |succ n ih =>
  intro A d e x y u v hd he rd re rx ry hu;have hu0:A.units<cLine:=by omega
  have item:∀{ds es:List D} {xs ys:List V} {us vs:List Value},(∀e∈ds,eqb n e=true)->(∀e∈es,eqb n e=true)->Reps X.K X.mg H ds xs->Reps X.K X.mg H es ys->zd xs us->zd ys vs ->
    ∀j (h1:j<us.toArray.size) (h2:j<vs.toArray.size),SeqAt.EqAt A.in1 s us.toArray[j] vs.toArray[j] (deq (ds.getD j .non) (es.getD j .non)):=by
   intro ds es xs ys us vs k1 k2 r1 r2 v1 v2 j h1 h2;have h1':j<us.length:=by simpa using h1
   have h2':j<vs.length:=by simpa using h2
   obtain⟨l1,x1,a1,b1⟩:=JV r1 v1 h1';obtain⟨l2,x2,a2,b2⟩:=JV r2 v2 h2';rw[getElem_toArray,getElem_toArray];have m1:ds.getD j .non∈ds:=by rw[getD_eq_getElem?_getD,getElem?_eq_getElem l1];exact getElem_mem l1
   have m2:es.getD j .non∈es:=by rw[getD_eq_getElem?_getD,getElem?_eq_getElem l2];exact getElem_mem l2
   exact ih A.in1 _ _ x1 x2 _ _ (k1 _ m1) (k2 _ m2) a1 a2 b1 b2 (by show A.units+1+n<cLine;omega)
  rcases zb hd with fd|⟨m,ds,em,rfl,hds⟩|⟨m,ds,em,rfl,hds⟩
  ·have ex:=zP fd rd
   rcases zb he with fe|⟨m,es,em,rfl,hes⟩|⟨m,es,em,rfl,hes⟩
   ·rw[j7 fd fe,<- zP fd rd,<- zP fe re]
    exact uu rx ry (by rw[zP fd rd];exact zu fd) (by rw[zP fe re];exact zu fe)
   ·obtain⟨b,ys,rfl,p1,p2⟩:=zU re
    cases ry;obtain⟨its,_,pl,_⟩:=I.tuple p1;rw[Gd fd];exact eqAt_ft fd rx ex pl hu0
   ·obtain⟨b,ys,rfl,p1,p2⟩:=zM re
    cases ry;obtain⟨its,_,pl,_⟩:=I.list p1;rw[Ge fd];exact eqAt_fl fd rx ex pl.isList hu0
  ·cases em
   obtain⟨a,xs,rfl,q1,q2⟩:=zU rd;cases rx;obtain⟨us,v1,pl1,_⟩:=I.tuple q1;rcases zb he with fe|⟨m,es,em,rfl,hes⟩|⟨m,es,em,rfl,hes⟩
   ·rw[Gf fe];exact eqAt_tf fe ry (zP fe re) pl1 hu0
   ·cases em
    obtain⟨b,ys,rfl,p1,p2⟩:=zU re;cases ry;obtain⟨vs,v2,pl2,_⟩:=I.tuple p1;by_cases hab:a=b
    ·subst hab
     rw[vQ I (n+1) _ _ _ hd he rd re];exact SeqAt.EqAt.same _
    ·have q:=SeqAt.EqAt.of_refs hab (SeqAt.RcAt.tuples pl1 pl2 hu0 (item hds hes q2 p2 v1 v2))
     simp only[deq];rw[jT];have l1:us.toArray.size=ds.length:=by rw[size_toArray,<- v1.length,q2.length]
     have l2:vs.toArray.size=es.length:=by rw[size_toArray,<- v2.length,p2.length]
     rw[l1,l2]at q;exact q
   ·obtain⟨b,ys,rfl,p1,p2⟩:=zM re
    cases ry;obtain⟨vs,v2,pl2,_⟩:=I.list p1;simp only[deq];exact SeqAt.EqAt.tuple_list pl1 pl2.isList hu0
  ·cases em
   obtain⟨a,xs,rfl,q1,q2⟩:=zM rd;cases rx;obtain⟨us,v1,pl1,_⟩:=I.list q1;rcases zb he with fe|⟨m,es,em,rfl,hes⟩|⟨m,es,em,rfl,hes⟩
   ·rw[Gg fe];exact eqAt_lf fe ry (zP fe re) pl1.isList hu0
   ·obtain⟨b,ys,rfl,p1,p2⟩:=zU re
    cases ry;obtain⟨vs,v2,pl2,_⟩:=I.tuple p1;simp only[deq];exact SeqAt.EqAt.list_tuple pl1.isList pl2 hu0
   ·cases em
    obtain⟨b,ys,rfl,p1,p2⟩:=zM re;cases ry;obtain⟨vs,v2,pl2,_⟩:=I.list p1;have l1:us.toArray.size=ds.length:=by rw[size_toArray,<- v1.length,q2.length]
    have l2:vs.toArray.size=es.length:=by rw[size_toArray,<- v2.length,p2.length]
    by_cases hab:a=b
    ·subst hab
     rw[vQ I (n+1) _ _ _ hd he rd re];exact SeqAt.EqAt.same _
    ·simp only[deq]
     rw[jT];by_cases hl:ds.length=es.length
     ·have q:=SeqAt.EqAt.of_refs hab (SeqAt.RcAt.lists pl1.isList pl2.isList (by rw[l1,l2,hl]) hu0 (item hds hes q2 p2 v1 v2))
      rw[l1]at q;rw[hl]at q ⊢;simpa using q
     ·have q:=SeqAt.EqAt.of_refs hab (SeqAt.RcAt.lists_lengths (A:=A) pl1.isList pl2.isList (by rw[l1,l2];simpa using hl) hu0)
      have e:(ds.length==es.length)=false:=by simpa using hl
      rw[e,Bool.and_false];exact q
theorem rcAt_V{A:Around}{y x:V}{u v:Value}(ry:zv y u)(rx:zv x v)(fy:wA y=true)(fx:wA x=true):SeqAt.RcAt A s u v (eqV y x):=by
 cases y with
 |non =>
  cases ry;cases x with
  |non=>cases rx;exact SeqAt.RcAt.none_none
  |bl b=>cases rx;exact SeqAt.RcAt.none_bool  b
  |int b=>obtain⟨t2,rfl⟩:=rx;exact SeqAt.RcAt.none_int  b t2
  |str b=>obtain⟨t2,rfl⟩:=rx;exact SeqAt.RcAt.none_str  b t2
  |_=>exact absurd (show false=true from fx) Bool.false_ne_true
 |bl a =>
  cases ry;cases x with
  |non=>cases rx;exact SeqAt.RcAt.bool_none a
  |bl b=>cases rx;exact SeqAt.RcAt.bool_bool a b
  |int b=>obtain⟨t2,rfl⟩:=rx;exact SeqAt.RcAt.bool_int a b t2
  |str b=>obtain⟨t2,rfl⟩:=rx;exact SeqAt.RcAt.bool_str a b t2
  |_=>exact absurd (show false=true from fx) Bool.false_ne_true
 |int a =>
  obtain⟨t,rfl⟩:=ry;cases x with
  |non=>cases rx;exact SeqAt.RcAt.int_none a t
  |bl b=>cases rx;exact SeqAt.RcAt.int_bool a t b
  |int b=>obtain⟨t2,rfl⟩:=rx;exact SeqAt.RcAt.int_int a t b t2
  |str b=>obtain⟨t2,rfl⟩:=rx;exact SeqAt.RcAt.int_str a t b t2
  |_=>exact absurd (show false=true from fx) Bool.false_ne_true
 |str a =>
  obtain⟨t,rfl⟩:=ry;cases x with
  |non=>cases rx;exact SeqAt.RcAt.str_none a t
  |bl b=>cases rx;exact SeqAt.RcAt.str_bool a t b
  |int b=>obtain⟨t2,rfl⟩:=rx;exact SeqAt.RcAt.str_int a t b t2
  |str b=>obtain⟨t2,rfl⟩:=rx;exact SeqAt.RcAt.str_str a t b t2
  |_=>exact absurd (show false=true from fx) Bool.false_ne_true
 |_=>exact absurd (show false=true from fy) Bool.false_ne_true
theorem rcNe_V{A:Around}{y x:V}{u v:Value}(ry:zv y u)(rx:zv x v)(fy:wA y=true)(fx:wA x=true):SeqAt.RcNeAt A s u v (!eqV y x):=by
 cases y with
 |non =>
  cases ry;cases x with
  |non=>cases rx;exact SeqAt.RcNeAt.none_none
  |bl b=>cases rx;exact SeqAt.RcNeAt.none_bool  b
  |int b=>obtain⟨t2,rfl⟩:=rx;exact SeqAt.RcNeAt.none_int  b t2
  |str b=>obtain⟨t2,rfl⟩:=rx;exact SeqAt.RcNeAt.none_str  b t2
  |_=>exact absurd (show false=true from fx) Bool.false_ne_true
 |bl a =>
  cases ry;cases x with
  |non=>cases rx;exact SeqAt.RcNeAt.bool_none a
  |bl b=>cases rx;exact SeqAt.RcNeAt.bool_bool a b
  |int b=>obtain⟨t2,rfl⟩:=rx;exact SeqAt.RcNeAt.bool_int a b t2
  |str b=>obtain⟨t2,rfl⟩:=rx;exact SeqAt.RcNeAt.bool_str a b t2
  |_=>exact absurd (show false=true from fx) Bool.false_ne_true
 |int a =>
  obtain⟨t,rfl⟩:=ry;cases x with
  |non=>cases rx;exact SeqAt.RcNeAt.int_none a t
  |bl b=>cases rx;exact SeqAt.RcNeAt.int_bool a t b
  |int b=>obtain⟨t2,rfl⟩:=rx;exact SeqAt.RcNeAt.int_int a t b t2
  |str b=>obtain⟨t2,rfl⟩:=rx;exact SeqAt.RcNeAt.int_str a t b t2
  |_=>exact absurd (show false=true from fx) Bool.false_ne_true
 |str a =>
  obtain⟨t,rfl⟩:=ry;cases x with
  |non=>cases rx;exact SeqAt.RcNeAt.str_none a t
  |bl b=>cases rx;exact SeqAt.RcNeAt.str_bool a t b
  |int b=>obtain⟨t2,rfl⟩:=rx;exact SeqAt.RcNeAt.str_int a t b t2
  |str b=>obtain⟨t2,rfl⟩:=rx;exact SeqAt.RcNeAt.str_str a t b t2
  |_=>exact absurd (show false=true from fx) Bool.false_ne_true
 |_=>exact absurd (show false=true from fy) Bool.false_ne_true
theorem rc_ft{A:Around}{d:D}{x:V}{u:Value}{b:Addr}{its:Array Value}(hd:flat d=true)(rx:zv x u)(ex:x=flV d)(hb:s.heap.IsTuple b its)(hu:A.units<cLine):SeqAt.RcAt A s u (.ref b) false:=by
 subst ex;cases d with
 |non=>cases rx;exact SeqAt.RcAt.none_tuple hb hu
 |bl c=>cases rx;exact SeqAt.RcAt.bool_tuple c hb hu
 |int c=>obtain⟨t,rfl⟩:=rx;exact SeqAt.RcAt.int_tuple c t hb hu
 |str c=>obtain⟨t,rfl⟩:=rx;exact SeqAt.RcAt.str_tuple c t hb hu
 |_=>simp[flat]at hd
theorem rc_fl{A:Around}{d:D}{x:V}{u:Value}{b:Addr}{its:Array Value}(hd:flat d=true)(rx:zv x u)(ex:x=flV d)(hb:s.heap.IsList b its)(hu:A.units<cLine):SeqAt.RcAt A s u (.ref b) false:=by
 subst ex;cases d with
 |non=>cases rx;exact SeqAt.RcAt.none_list hb hu
 |bl c=>cases rx;exact SeqAt.RcAt.bool_list c hb hu
 |int c=>obtain⟨t,rfl⟩:=rx;exact SeqAt.RcAt.int_list c t hb hu
 |str c=>obtain⟨t,rfl⟩:=rx;exact SeqAt.RcAt.str_list c t hb hu
 |_=>simp[flat]at hd
theorem rc_tf{A:Around}{d:D}{x:V}{u:Value}{b:Addr}{its:Array Value}(hd:flat d=true)(rx:zv x u)(ex:x=flV d)(hb:s.heap.IsTuple b its)(hu:A.units<cLine):SeqAt.RcAt A s (.ref b) u false:=by
 subst ex;cases d with
 |non=>cases rx;exact SeqAt.RcAt.tuple_none hb hu
 |bl c=>cases rx;exact SeqAt.RcAt.tuple_bool c hb hu
 |int c=>obtain⟨t,rfl⟩:=rx;exact SeqAt.RcAt.tuple_int c t hb hu
 |str c=>obtain⟨t,rfl⟩:=rx;exact SeqAt.RcAt.tuple_str c t hb hu
 |_=>simp[flat]at hd
theorem rc_lf{A:Around}{d:D}{x:V}{u:Value}{b:Addr}{its:Array Value}(hd:flat d=true)(rx:zv x u)(ex:x=flV d)(hb:s.heap.IsList b its)(hu:A.units<cLine):SeqAt.RcAt A s (.ref b) u false:=by
 subst ex;cases d with
 |non=>cases rx;exact SeqAt.RcAt.list_none hb hu
 |bl c=>cases rx;exact SeqAt.RcAt.list_bool c hb hu
 |int c=>obtain⟨t,rfl⟩:=rx;exact SeqAt.RcAt.list_int c t hb hu
 |str c=>obtain⟨t,rfl⟩:=rx;exact SeqAt.RcAt.list_str c t hb hu
 |_=>simp[flat]at hd
theorem rn_ft{A:Around}{d:D}{x:V}{u:Value}{b:Addr}{its:Array Value}(hd:flat d=true)(rx:zv x u)(ex:x=flV d)(hb:s.heap.IsTuple b its)(hu:A.units<cLine):SeqAt.RcNeAt A s u (.ref b) true:=by
 subst ex;cases d with
 |non=>cases rx;exact SeqAt.RcNeAt.none_tuple hb hu
 |bl c=>cases rx;exact SeqAt.RcNeAt.bool_tuple c hb hu
 |int c=>obtain⟨t,rfl⟩:=rx;exact SeqAt.RcNeAt.int_tuple c t hb hu
 |str c=>obtain⟨t,rfl⟩:=rx;exact SeqAt.RcNeAt.str_tuple c t hb hu
 |_=>simp[flat]at hd
theorem rn_fl{A:Around}{d:D}{x:V}{u:Value}{b:Addr}{its:Array Value}(hd:flat d=true)(rx:zv x u)(ex:x=flV d)(hb:s.heap.IsList b its)(hu:A.units<cLine):SeqAt.RcNeAt A s u (.ref b) true:=by
 subst ex;cases d with
 |non=>cases rx;exact SeqAt.RcNeAt.none_list hb hu
 |bl c=>cases rx;exact SeqAt.RcNeAt.bool_list c hb hu
 |int c=>obtain⟨t,rfl⟩:=rx;exact SeqAt.RcNeAt.int_list c t hb hu
 |str c=>obtain⟨t,rfl⟩:=rx;exact SeqAt.RcNeAt.str_list c t hb hu
 |_=>simp[flat]at hd
theorem rn_tf{A:Around}{d:D}{x:V}{u:Value}{b:Addr}{its:Array Value}(hd:flat d=true)(rx:zv x u)(ex:x=flV d)(hb:s.heap.IsTuple b its)(hu:A.units<cLine):SeqAt.RcNeAt A s (.ref b) u true:=by
 subst ex;cases d with
 |non=>cases rx;exact SeqAt.RcNeAt.tuple_none hb hu
 |bl c=>cases rx;exact SeqAt.RcNeAt.tuple_bool c hb hu
 |int c=>obtain⟨t,rfl⟩:=rx;exact SeqAt.RcNeAt.tuple_int c t hb hu
 |str c=>obtain⟨t,rfl⟩:=rx;exact SeqAt.RcNeAt.tuple_str c t hb hu
 |_=>simp[flat]at hd
theorem rn_lf{A:Around}{d:D}{x:V}{u:Value}{b:Addr}{its:Array Value}(hd:flat d=true)(rx:zv x u)(ex:x=flV d)(hb:s.heap.IsList b its)(hu:A.units<cLine):SeqAt.RcNeAt A s (.ref b) u true:=by
 subst ex;cases d with
 |non=>cases rx;exact SeqAt.RcNeAt.list_none hb hu
 |bl c=>cases rx;exact SeqAt.RcNeAt.list_bool c hb hu
 |int c=>obtain⟨t,rfl⟩:=rx;exact SeqAt.RcNeAt.list_int c t hb hu
 |str c=>obtain⟨t,rfl⟩:=rx;exact SeqAt.RcNeAt.list_str c t hb hu
 |_=>simp[flat]at hd
theorem rcAtD(I:Inv X pins σ H s)(n:Nat)(A:Around)(d e:D)(x y:V)(u v:Value)(hd:eqb n d=true)(he:eqb n e=true)(rd:Rep X.K X.mg H d x)(re:Rep X.K X.mg H e y)(rx:zv x u)(ry:zv y v)(hu:A.units+n<cLine):SeqAt.RcAt A s u v (deq d e):=by
 have hu0:A.units<cLine:=by omega
 have item:∀{m:Nat} {ds es:List D} {xs ys:List V} {us vs:List Value},n=m+1->(∀e∈ds,eqb m e=true)->(∀e∈es,eqb m e=true)->Reps X.K X.mg H ds xs->Reps X.K X.mg H es ys->zd xs us->zd ys vs ->
   ∀j (h1:j<us.toArray.size) (h2:j<vs.toArray.size),SeqAt.EqAt A.in1 s us.toArray[j] vs.toArray[j] (deq (ds.getD j .non) (es.getD j .non)):=by
  intro m ds es xs ys us vs hm k1 k2 r1 r2 v1 v2 j h1 h2;have h1':j<us.length:=by simpa using h1
  have h2':j<vs.length:=by simpa using h2
  obtain⟨l1,x1,a1,b1⟩:=JV r1 v1 h1';obtain⟨l2,x2,a2,b2⟩:=JV r2 v2 h2';rw[getElem_toArray,getElem_toArray];have m1:ds.getD j .non∈ds:=by rw[getD_eq_getElem?_getD,getElem?_eq_getElem l1];exact getElem_mem l1
  have m2:es.getD j .non∈es:=by rw[getD_eq_getElem?_getD,getElem?_eq_getElem l2];exact getElem_mem l2
  exact eqAtD I m A.in1 _ _ x1 x2 _ _ (k1 _ m1) (k2 _ m2) a1 a2 b1 b2 (by show A.units+1+m<cLine;omega)
 rcases zb hd with fd|⟨m,ds,em,rfl,hds⟩|⟨m,ds,em,rfl,hds⟩
 ·have ex:=zP fd rd
  rcases zb he with fe|⟨m,es,em,rfl,hes⟩|⟨m,es,em,rfl,hes⟩
  ·rw[j7 fd fe,<- zP fd rd,<- zP fe re]
   exact rcAt_V rx ry (by rw[zP fd rd];exact zu fd) (by rw[zP fe re];exact zu fe)
  ·obtain⟨b,ys,rfl,p1,p2⟩:=zU re
   cases ry;obtain⟨its,_,pl,_⟩:=I.tuple p1;rw[Gd fd];exact rc_ft fd rx ex pl hu0
  ·obtain⟨b,ys,rfl,p1,p2⟩:=zM re
   cases ry;obtain⟨its,_,pl,_⟩:=I.list p1;rw[Ge fd];exact rc_fl fd rx ex pl.isList hu0
 ·obtain⟨a,xs,rfl,q1,q2⟩:=zU rd
  cases rx;obtain⟨us,v1,pl1,_⟩:=I.tuple q1;rcases zb he with fe|⟨m',es,em',rfl,hes⟩|⟨m',es,em',rfl,hes⟩
  ·rw[Gf fe];exact rc_tf fe ry (zP fe re) pl1 hu0
  ·have:m=m':=by omega
   subst this;obtain⟨b,ys,rfl,p1,p2⟩:=zU re;cases ry;obtain⟨vs,v2,pl2,_⟩:=I.tuple p1;have q:=SeqAt.RcAt.tuples pl1 pl2 hu0 (item em hds hes q2 p2 v1 v2);simp only[deq];rw[jT];have l1:us.toArray.size=ds.length:=by rw[size_toArray,<- v1.length,q2.length]
   have l2:vs.toArray.size=es.length:=by rw[size_toArray,<- v2.length,p2.length]
   rw[l1,l2]at q;exact q
  ·obtain⟨b,ys,rfl,p1,p2⟩:=zM re
   cases ry;obtain⟨vs,v2,pl2,_⟩:=I.list p1;simp only[deq];exact SeqAt.RcAt.tuple_list pl1 pl2.isList hu0
 ·obtain⟨a,xs,rfl,q1,q2⟩:=zM rd
  cases rx;obtain⟨us,v1,pl1,_⟩:=I.list q1;rcases zb he with fe|⟨m',es,em',rfl,hes⟩|⟨m',es,em',rfl,hes⟩
  ·rw[Gg fe];exact rc_lf fe ry (zP fe re) pl1.isList hu0
  ·obtain⟨b,ys,rfl,p1,p2⟩:=zU re
   cases ry;obtain⟨vs,v2,pl2,_⟩:=I.tuple p1;simp only[deq];exact SeqAt.RcAt.list_tuple pl1.isList pl2 hu0
  ·have:m=m':=by omega
   subst this;obtain⟨b,ys,rfl,p1,p2⟩:=zM re;cases ry;obtain⟨vs,v2,pl2,_⟩:=I.list p1;have l1:us.toArray.size=ds.length:=by rw[size_toArray,<- v1.length,q2.length]
   have l2:vs.toArray.size=es.length:=by rw[size_toArray,<- v2.length,p2.length]
   simp only[deq];rw[jT];by_cases hl:ds.length=es.length
   ·have q:=SeqAt.RcAt.lists pl1.isList pl2.isList (by rw[l1,l2,hl]) hu0 (item em hds hes q2 p2 v1 v2)
    rw[l1]at q;rw[hl]at q ⊢;simpa using q
   ·have q:=SeqAt.RcAt.lists_lengths (A:=A) pl1.isList pl2.isList (by rw[l1,l2];simpa using hl) hu0
    have e:(ds.length==es.length)=false:=by simpa using hl
    rw[e,Bool.and_false];exact q
theorem rcNeD(I:Inv X pins σ H s)(n:Nat)(A:Around)(d e:D)(x y:V)(u v:Value)(hd:eqb n d=true)(he:eqb n e=true)(rd:Rep X.K X.mg H d x)(re:Rep X.K X.mg H e y)(rx:zv x u)(ry:zv y v)(hu:A.units+n<cLine):SeqAt.RcNeAt A s u v (!deq d e):=by
 have hu0:A.units<cLine:=by omega
 have item:∀{m:Nat} {ds es:List D} {xs ys:List V} {us vs:List Value},n=m+1->(∀e∈ds,eqb m e=true)->(∀e∈es,eqb m e=true)->Reps X.K X.mg H ds xs->Reps X.K X.mg H es ys->zd xs us->zd ys vs ->
   ∀j (h1:j<us.toArray.size) (h2:j<vs.toArray.size),SeqAt.EqAt A.in1 s us.toArray[j] vs.toArray[j] (deq (ds.getD j .non) (es.getD j .non)):=by
  intro m ds es xs ys us vs hm k1 k2 r1 r2 v1 v2 j h1 h2;have h1':j<us.length:=by simpa using h1
  have h2':j<vs.length:=by simpa using h2
  obtain⟨l1,x1,a1,b1⟩:=JV r1 v1 h1';obtain⟨l2,x2,a2,b2⟩:=JV r2 v2 h2';rw[getElem_toArray,getElem_toArray];have m1:ds.getD j .non∈ds:=by rw[getD_eq_getElem?_getD,getElem?_eq_getElem l1];exact getElem_mem l1
  have m2:es.getD j .non∈es:=by rw[getD_eq_getElem?_getD,getElem?_eq_getElem l2];exact getElem_mem l2
  exact eqAtD I m A.in1 _ _ x1 x2 _ _ (k1 _ m1) (k2 _ m2) a1 a2 b1 b2 (by show A.units+1+m<cLine;omega)
 rcases zb hd with fd|⟨m,ds,em,rfl,hds⟩|⟨m,ds,em,rfl,hds⟩
 ·have ex:=zP fd rd
  rcases zb he with fe|⟨m,es,em,rfl,hes⟩|⟨m,es,em,rfl,hes⟩
  ·rw[j7 fd fe,<- zP fd rd,<- zP fe re]
   exact rcNe_V rx ry (by rw[zP fd rd];exact zu fd) (by rw[zP fe re];exact zu fe)
  ·obtain⟨b,ys,rfl,p1,p2⟩:=zU re
   cases ry;obtain⟨its,_,pl,_⟩:=I.tuple p1;rw[Gd fd];exact rn_ft fd rx ex pl hu0
  ·obtain⟨b,ys,rfl,p1,p2⟩:=zM re
   cases ry;obtain⟨its,_,pl,_⟩:=I.list p1;rw[Ge fd];exact rn_fl fd rx ex pl.isList hu0
 ·obtain⟨a,xs,rfl,q1,q2⟩:=zU rd
  cases rx;obtain⟨us,v1,pl1,_⟩:=I.tuple q1;rcases zb he with fe|⟨m',es,em',rfl,hes⟩|⟨m',es,em',rfl,hes⟩
  ·rw[Gf fe];exact rn_tf fe ry (zP fe re) pl1 hu0
  ·have:m=m':=by omega
   subst this;obtain⟨b,ys,rfl,p1,p2⟩:=zU re;cases ry;obtain⟨vs,v2,pl2,_⟩:=I.tuple p1;have q:=SeqAt.RcNeAt.tuples pl1 pl2 hu0 (item em hds hes q2 p2 v1 v2);simp only[deq];rw[jT];have l1:us.toArray.size=ds.length:=by rw[size_toArray,<- v1.length,q2.length]
   have l2:vs.toArray.size=es.length:=by rw[size_toArray,<- v2.length,p2.length]
   rw[l1,l2]at q;exact q
  ·obtain⟨b,ys,rfl,p1,p2⟩:=zM re
   cases ry;obtain⟨vs,v2,pl2,_⟩:=I.list p1;simp only[deq];exact SeqAt.RcNeAt.tuple_list pl1 pl2.isList hu0
 ·obtain⟨a,xs,rfl,q1,q2⟩:=zM rd
  cases rx;obtain⟨us,v1,pl1,_⟩:=I.list q1;rcases zb he with fe|⟨m',es,em',rfl,hes⟩|⟨m',es,em',rfl,hes⟩
  ·rw[Gg fe];exact rn_lf fe ry (zP fe re) pl1.isList hu0
  ·obtain⟨b,ys,rfl,p1,p2⟩:=zU re
   cases ry;obtain⟨vs,v2,pl2,_⟩:=I.tuple p1;simp only[deq];exact SeqAt.RcNeAt.list_tuple pl1.isList pl2 hu0
  ·have:m=m':=by omega
   subst this;obtain⟨b,ys,rfl,p1,p2⟩:=zM re;cases ry;obtain⟨vs,v2,pl2,_⟩:=I.list p1;have l1:us.toArray.size=ds.length:=by rw[size_toArray,<- v1.length,q2.length]
   have l2:vs.toArray.size=es.length:=by rw[size_toArray,<- v2.length,p2.length]
   simp only[deq];rw[jT];by_cases hl:ds.length=es.length
   ·have q:=SeqAt.RcNeAt.lists pl1.isList pl2.isList (by rw[l1,l2,hl]) hu0 (item em hds hes q2 p2 v1 v2)
    rw[l1]at q;rw[hl]at q ⊢;simpa using q
   ·have q:=SeqAt.RcNeAt.lists_lengths (A:=A) pl1.isList pl2.isList (by rw[l1,l2];simpa using hl) hu0
    have e:(ds.length==es.length)=false:=by simpa using hl
    rw[e,Bool.and_false];exact q
end
section
variable{X:Cx}{K:PySem.W.Frag}{mg:Str->Option Value}
def rEqD(K:PySem.W.Frag)(mg:Str->Option Value)(neg:Bool):R2:=λx y H Q=>∃d e,eqb 20 d=true/\eqb 20 e=true/\Rep K mg H d x/\Rep K mg H e y/\Q (.bl (if neg then !deq d e else deq d e)) H
theorem zA4(hu:X.A.units+20<cLine):OpR X (compareOp .Eq) (rEqD X.K X.mg false):=by
 intro pins s σ H x y v u Q I rx ry h;obtain⟨d,e,h1,h2,r1,r2,q⟩:=h;exact rcAtD I 20 X.A d e x y v u h1 h2 r1 r2 rx ry hu X.prog X.w _ _ ⟨.bl (deq d e),H,I,rfl,q⟩
theorem zA5(hu:X.A.units+20<cLine):OpR X (compareOp .NotEq) (rEqD X.K X.mg true):=by
 intro pins s σ H x y v u Q I rx ry h;obtain⟨d,e,h1,h2,r1,r2,q⟩:=h;exact rcNeD I 20 X.A d e x y v u h1 h2 r1 r2 rx ry hu X.prog X.w _ _ ⟨.bl (!deq d e),H,I,rfl,q⟩
def eqDD(neg:Bool)(d e:D):Option R:=if eqb 20 d=true/\eqb 20 e=true then some (.val (.bl (if neg then !deq d e else deq d e)))else none
theorem zA6{neg:Bool}:ROk K mg (rEqD K mg neg) (eqDD neg):=by
 intro M H Z x y d1 d2 res Q f r1 r2 e k;unfold eqDD at e;split at e
 ·rename_i hc
  cases e;exact⟨d1,d2,hc.1,hc.2,r1.mono zF,r2.mono zF,k.flat f rfl⟩
 ·cases e
end
end DV
namespace L2
open PySem PySem.Spec PyProof.Rows
section
variable{X:Cx}
theorem vR{ns:List Int}{its:List Value}(rv:zd (ns.map V.int) its)(i:Nat)(v:Value)(hv:its.toArray[i]?=some v):∃t,v=.int (ns.getD i 0) t:=by
 have hv':its[i]?=some v:=by simpa using hv
 have hi:i<its.length:=(List.getElem?_eq_some_iff.mp hv').1;have hl:=rv.length;have hx:i<(ns.map V.int).length:=by rw[hl];exact hi
 obtain⟨u',e1,e2⟩:=rv.get (i:=i) (x:=(ns.map V.int)[i]) (by simp[hx]);rw[hv']at e1;cases e1;rw[length_map]at hx;rw[List.getElem_map]at e2;obtain⟨t,e⟩:=(show ∃t,v=.int (ns[i]) t from e2);exact⟨t,by rw[e];simp[hx]⟩
def zAG(ns:List Int):Int:=ns.getD (argBest (λi j=>decide (ns.getD i 0 > ns.getD j 0)) (ns.length-1)) 0
theorem Gh(hc:X.calm=true):jA X (.builtin "max") (λxs H Q=>∃(p:Addr) (ns:List Int),xs=[.ref p]/\SqL X.K H p (ns.map V.int)/\0<ns.length/\Q (.int (zAG ns)) H):=by
 intro pins s σ H xs us Q I r h;obtain⟨p,ns,rfl,hq,hpos,q⟩:=h;obtain⟨u,rfl,rx⟩:=Wf r;cases rx;obtain⟨its,rv,pl,hz⟩:=I.list hq;have hlen:its.length=ns.length:=by rw[<- rv.length,length_map]
 have hp:p<s.heap.objs.size:=by obtain⟨o,n,e,_⟩:=pl;exact lt_size e
 have hk:∀b o,s.heap.get? b=some o->(s.heap.push {cls:=.type "list_iterator",data:=.fields #[.ref p,.int 0 0]}).get? b=some o:=λb o e=>get?_push_of_some _ e
 refine call_max_walk (wpAny_pyIter_list pl.isList ?_);refine⟨s.heap.objs.size,[s.heap.objs.size,p],[s.heap.objs.size],its.toArray.size,_,_,_,rfl,
  Walks.list (by show X.A.handled=none;exact I.ok.hd hc) _ p (ne_of_lt hp) its.toArray,⟨⟨_,get?_push_size _ rfl,rfl,rfl⟩,?_⟩,?_,?_,CmpOf.ints_gt (λi=>ns.getD i 0) (vR rv),?_⟩
 ·obtain⟨o,e,c⟩:=pl.isList
  exact⟨o,hk _ _ e,c⟩
 ·intro b hb
  rw[size_push];rcases mem_cons.mp hb with rfl|hb
  ·exact Nat.lt_succ_self _
  ·have:b=p:=by simpa using hb
   subst this;exact Nat.lt_succ_of_lt hp
 ·rw[size_toArray,hlen];exact hpos
 ·intro v h' tk hP kp
  obtain⟨t,e⟩:=vR rv _ v hP;subst e;rw[size_toArray,hlen];exact⟨.int (zAG ns),H,I.kept (t':=tk) λb o eb=>kp b o (λm=>by
   have:b=s.heap.objs.size:=by simpa using m
   subst this;exact absurd (lt_size eb) (lt_irrefl _)) (hk b o eb),⟨_,rfl⟩,q⟩
theorem uG(a:Int)(t:Tok)(l:Addr)(its:Array Value)(n:Nat)(dd:Option Addr)(sl:Array (Option Value)) :
  Meets (Builtin.«int.__rmul__» ⟨[.int a t,.ref l],[]⟩) (λ_ R s=>s.heap.get? l=some {cls:=.type "list",dict:=dd,data:=.seq its n,slots:=sl}/\R (.ok (.ret Value.notImplemented)) s) :=
 .of_wp λprog w A R s h=>by
  obtain⟨hp,g,d,tk,os⟩:=s;obtain⟨hl,h⟩:=h
  wp_walk
  exact⟨_,rfl,h⟩
theorem Gi(l:Addr)(its:Array Value)(n:Nat)(dd:Option Addr)(sl:Array (Option Value))(k:Int)(u:Tok)(h0:¬(!Builtin.List.listFitsIndex k)=true)(h1:¬its.size*k.toNat > (2^63-1)/8)(h2:¬Builtin.List.listTooLong (its.size*k.toNat)=true) :
  Meets (Builtin.«list.__mul__» ⟨[.ref l,.int k u],[]⟩) (λ_ R s=>s.heap.get? l=some {cls:=.type "list",dict:=dd,data:=.seq its n,slots:=sl} /\
   R (.ok (.ret (Value.ref s.heap.objs.size))) {s with heap:=s.heap.push {cls:=Value.type "list",data:=Data.seq (foldl (λa b=>a++b) #[] (replicate (if its.isEmpty=true then 0 else k.toNat) its))},toks:=s.toks}) :=
 .of_wp λprog w A R s h=>by
  obtain⟨hp,g,d,tk,os⟩:=s;obtain⟨hl,h⟩:=h;have fits:=AutoListH.joined_fits h2
  wp_walk
  refine wpAny_ite_false (decide_eq_false (not_lt.mpr fits)) ?_
  wp_walk
  exact⟨_,rfl,h⟩
def rRepL(K:PySem.W.Frag):R2:=λx y H Q=>∃l k xs,x=.ref l/\y=.int k/\SqL K H l xs/\-(2^63)<=k/\k<2^63/\xs.length*k.toNat<=sizeLine /\
 ∀p,H p=none->Q (.ref p) (upd H p (.lst (replicate k.toNat xs).flatten))
theorem op_repL:OpR X (binaryOp .Mult) (rRepL X.K):=by
 intro pins s σ H x y v u Q I rx ry h;obtain⟨l,k,xs,rfl,rfl,hH,h1,h2,hz,q⟩:=h;cases rx;obtain⟨t,rfl⟩:=ry;obtain⟨its,r,pl,_⟩:=I.list hH;have hl:=r.length;obtain⟨⟨cls,dd,data,sl⟩,n,ho,hc,hdd,hd⟩:=pl;simp only at hc hd;subst hc hd;have hlen:its.toArray.size*k.toNat<=sizeLine:=by rw[size_toArray,<- hl];exact hz
 have c1:¬its.toArray.size*k.toNat > (2^63-1)/8:=by
  have:(sizeLine:Nat)<=(2^63-1)/8:=by decide
  omega
 have c2:¬(!Builtin.List.listFitsIndex k)=true:=by rw[fitsIndex_both h1 h2];exact Bool.false_ne_true
 have c3:¬Builtin.List.listTooLong (its.toArray.size*k.toNat)=true:=by rw[Qf hlen];exact Bool.false_ne_true
 have hnew:foldl (λa b=>a++b) #[] (replicate (if its.toArray.isEmpty=true then 0 else k.toNat) its.toArray)=(replicate k.toNat its).flatten.toArray:=by
  have f0:∀m:Nat,foldl (λa b=>a++b) #[] (replicate m its.toArray)=(replicate m its).flatten.toArray:=λm=>by
   have:=YR its m [];rw[nil_append]at this;exact this
  rw[f0];cases its with
  |nil=>simp
  |cons a r'=>rw[if_neg (by simp)]
 refine wpAny_binaryOp_repeat_ref (T:="list") (U:="int") (by decide) ⟨_,ho,rfl⟩ (λs'=>typeIs_int s' k t) noFill_list_mul F.fills_int_mul F.slot_int_rmul repeat_list F.slot_int_index.lookup
  (call_meets F.slot_int_rmul (typeIs_int s k t) F.entry_int_rmul (F.args_int_rmul_2 _ _) (uG k t l its.toArray n dd sl) ⟨ho,rfl,⟨_,ho,rfl⟩,?_⟩)
 refine call_meets F.slot_list_mul ⟨_,ho,rfl⟩ F.entry_list_mul (F.args_list_mul_2 _ _) (Gi l its.toArray n dd sl k t c2 c1 c3) ⟨ho,?_⟩;rw[hnew];exact⟨.ref _,_,I.lnew (t':=s.toks) (r.rep k.toNat) (by rw[Wg,Nat.mul_comm];exact hz),rfl,q _ I.fresh⟩
def isV:V->V->Option Bool
 | .non,.non=>some true
 | .non,.bl _=>some false
 | .bl _,.non=>some false
 | .bl a,.bl b=>some (a==b)
 | .non,.int _=>some false
 | .int _,.non=>some false
 | .non,.str _=>some false
 | .str _,.non=>some false
 | .ref _,.non=>some false
 | .non,.ref _=>some false
 | .ref _,.bl _=>some false
 | .bl _,.ref _=>some false
 | .int _,.bl _=>some false
 | .bl _,.int _=>some false
 | .str _,.bl _=>some false
 | .bl _,.str _=>some false
 |_,_=>none
theorem Gj{x y:V}{u v:Value}{b:Bool}(h:isV x y=some b)(rx:zv x u)(ry:zv y v):isSame u v=pure b:=by
 cases x<;>cases y<;>simp[isV]at h<;>subst h<;>first
  | (cases rx;cases ry;rfl)
  | (rename_i a b;cases rx;cases ry;cases a<;>cases b<;>rfl)
  | (cases rx;obtain⟨t,rfl⟩:=ry;rfl)
  | (obtain⟨t,rfl⟩:=rx;cases ry;rfl)
theorem op_is:OpR X (compareOp .Is) (λx y H Q=>∃b,isV x y=some b/\Q (.bl b) H):=by
 intro pins s σ H x y v u Q I rx ry h;obtain⟨b,hb,q⟩:=h;show wpAny _ _ (isSame v u >>= λc=>pure (Value.bool c)) _ _ _;rw[Gj hb rx ry];exact wpAny_pure ⟨.bl b,H,I,rfl,q⟩
theorem vS:OpR X (compareOp .IsNot) (λx y H Q=>∃b,isV x y=some b/\Q (.bl (!b)) H):=by
 intro pins s σ H x y v u Q I rx ry h;obtain⟨b,hb,q⟩:=h;show wpAny _ _ (isSame v u >>= λc=>pure (Value.bool (!c))) _ _ _;rw[Gj hb rx ry];exact wpAny_pure ⟨.bl (!b),H,I,rfl,q⟩
end
end L2
namespace L2
open PySem PySem.Spec PyProof.Rows
def evens{α:Type}:List α->List α
 | []=>[]
 | [a]=>[a]
 |a::_::r=>a::evens r
def WH{α:Type}(k:Bool)(xs:List α):List α:=if k then evens xs else xs.reverse
theorem zd.evens:∀{xs:List V} {us:List Value},zd xs us->zd (evens xs) (L2.evens us)
 |_,_,.nil=>.nil
 |_,_,.cons a .nil=>.cons a .nil
 |_,_,.cons a (.cons b r)=>.cons a (zd.evens r)
theorem zd.rev{xs:List V}{us:List Value}(r:zd xs us):zd xs.reverse us.reverse:=by
 induction r with
 |nil=>exact .nil
 |cons a r ih=>rw[reverse_cons,reverse_cons];exact ih.append (.cons a .nil)
theorem zd.step(k:Bool){xs:List V}{us:List Value}(r:zd xs us):zd (WH k xs) (WH k us):=by
 cases k
 ·simp only[WH,Bool.false_eq_true,if_false];exact r.rev
 ·simp only[WH,if_true];exact r.evens
section
variable{prog:Program}{w:World}{A:Around}{E:Value->Shared->Prop}{s:Shared}
end
section
variable{X:Cx}{e st:Expr}{te:TE}{pos p2:Pos}
end
end L2
namespace DV
open PySem PySem.W PyProof.Rows
variable{κ:Nat->Int}
def ev(κ:Nat->Int){α:Type}:KasT α->α
 | .ret a=>a
 | .ask i j k=>ev κ (k (decide (κ i<κ j)))
def Kp(κ:Nat->Int)(p:Array Nat)(t:Nat):Int:=κ (p.getD t 0)
theorem getD_q(p:Array Nat)(t:Nat):p.getD t 0=(p[t]?).getD 0:=by simp
def Srt(κ:Nat->Int)(p:Array Nat)(m:Nat):Prop:=∀i,0<i->i<m->Kp κ p (i-1)<=Kp κ p i
def Dsc(κ:Nat->Int)(p:Array Nat)(m:Nat):Prop:=∀i,0<i->i<m->Kp κ p i<=Kp κ p (i-1)
theorem Srt.le{p:Array Nat}{m:Nat}(h:Srt κ p m):∀(d i:Nat),i+d<m->Kp κ p i<=Kp κ p (i+d)
 |0,i,_=>Int.le_refl _
 |d+1,i,hi=>by
  have h1:=Srt.le h d i (by omega);have h2:=h (i+(d+1)) (by omega) hi;rw[show i+(d+1)-1=i+d by omega]at h2;omega
theorem Srt.same{p q:Array Nat}{m:Nat}(h:Srt κ p m)(e:∀t,Kp κ q t=Kp κ p t):Srt κ q m:=λi h0 hi=>by rw[e,e];exact h i h0 hi
theorem Dsc.same{p q:Array Nat}{m:Nat}(h:Dsc κ p m)(e:∀t,Kp κ q t=Kp κ p t):Dsc κ q m:=λi h0 hi=>by rw[e,e];exact h i h0 hi
theorem zAH(p:Array Nat)(i j:Nat):(kas_rev p i j).Perm p:=mirror_perm _ _ _ _
def Bd(n:Nat)(p:Array Nat):Prop:=0<n/\∀x∈p,x<n
theorem Bd.at{n:Nat}{p:Array Nat}(h:Bd n p)(t:Nat):p.getD t 0<n:=by
 rw[getD_q];cases e:p[t]? with
 |none=>exact h.1
 |some x=>exact h.2 x (Array.mem_of_getElem? e)
theorem Bd.perm{n:Nat}{p q:Array Nat}(h:Bd n p)(e:q.Perm p):Bd n q:=⟨h.1,λx hx=>h.2 x (e.mem_iff.mp hx)⟩
theorem Bd.rev{n:Nat}{p:Array Nat}(h:Bd n p)(i j:Nat):Bd n (kas_rev p i j):=h.perm (zAH _ _ _)
end DV
namespace L2
open PySem PySem.Spec PyProof.Rows PySem.W
section
variable{prog:Program}{w:World}{A:Around}{E:Value->Shared->Prop}{s:Shared}{κ:Nat->Int}
end
end L2
namespace DV
open PySem L2 PyProof.Rows PySem.W
def tlt:List D->List D->Option Bool
 | [],[]=>some false
 | [],_::_=>some true
 |_::_,[]=>some false
 |p::ps,q::qs=>if deq p q=true then tlt ps qs else match p,q with
  | .int i,.int j=>some (decide (i<j))
  |_,_=>none
def Gm:D->List D
 | .tup es=>es
 |_=>[]
def ltAtD(ds:List D)(i j:Nat):Option Bool:=tlt (Gm (ds.getD i .non)) (Gm (ds.getD j .non))
def rkD(ds:List D)(i:Nat):Int:=(((List.range ds.length).filter λk=>ltAtD ds k i==some true).length:Nat)
structure SortOk(ds:List D):Prop where
 few:ds.length<64
 tups:∀d∈ds,∃es,d=.tup es/\(∀e∈es,eqb 18 e=true)/\(2<=ds.length->∃i r,es=.int i::r)
 lt:∀i j,i<ds.length->j<ds.length->ltAtD ds i j=some (decide (rkD ds i<rkD ds j))
 one:∀i j,i<ds.length->j<ds.length->rkD ds i=rkD ds j->ds.getD i .non=ds.getD j .non
section
variable{X:Cx}{pins:List (Addr×Obj)}{σ:L2.St}{H:Hp}{s:Shared}{prog:Program}{w:World}{A:Around}
end
end DV
namespace L2
open PySem PySem.Spec PyProof.Rows
section
variable{prog:Program}{w:World}{A:Around}{R:Result->Shared->Prop}{I:Addr}{fp wr:List Addr}{n:Nat}{P:Nat->Value->Prop}{St:Nat->Heap->Prop}
end
section
variable{prog:Program}{w:World}{A:Around}{E:Value->Shared->Prop}{s:Shared}
end
section
variable{X:Cx}{e d:Expr}{te td:TE}{p pos kp:Pos}
end
end L2
namespace DV
open PySem L2
section
variable{X:Cx}{K:PySem.W.Frag}{mg:Str->Option Value}
theorem call_or{f:Value}{r r':List V->Hp->VK->Prop}(h:jA X f r)(h':jA X f r'):jA X f (λxs H Q=>r xs H Q\/r' xs H Q):=by
 intro pins s σ H xs us Q I rv q;rcases q with q|q
 ·exact h pins s σ H xs us Q I rv q
 ·exact h' pins s σ H xs us Q I rv q
def eqG(d e:D):Option R:=match eqF d e with
 |some r=>some r
 |none=>eqDD false d e
def neG(d e:D):Option R:=match neF d e with
 |some r=>some r
 |none=>eqDD true d e
theorem zA7:ROk K mg (λx y H Q=>rEq x y H Q\/rEqD K mg false x y H Q) eqG:=by
 intro M H Z x y d1 d2 res Q f r1 r2 e k;unfold eqG at e;cases h:eqF d1 d2 with
 |some r=>rw[h]at e;cases e;exact .inl (ro_eq M H Z x y d1 d2 res Q f r1 r2 h k)
 |none=>rw[h]at e;exact .inr (zA6 M H Z x y d1 d2 res Q f r1 r2 e k)
theorem zA8:ROk K mg (λx y H Q=>rNe x y H Q\/rEqD K mg true x y H Q) neG:=by
 intro M H Z x y d1 d2 res Q f r1 r2 e k;unfold neG at e;cases h:neF d1 d2 with
 |some r=>rw[h]at e;cases e;exact .inl (ro_ne M H Z x y d1 d2 res Q f r1 r2 h k)
 |none=>rw[h]at e;exact .inr (zA6 M H Z x y d1 d2 res Q f r1 r2 e k)
def isD:D->D->Option Bool
 | .non,.non=>some true
 | .bl a,.bl b=>some (a==b)
 | .non,.bl _=>some false
 | .bl _,.non=>some false
 | .non,.int _=>some false
 | .int _,.non=>some false
 | .non,.str _=>some false
 | .str _,.non=>some false
 | .int _,.bl _=>some false
 | .bl _,.int _=>some false
 | .str _,.bl _=>some false
 | .bl _,.str _=>some false
 | .tup _,.non=>some false
 | .lst _,.non=>some false
 | .tup _,.bl _=>some false
 | .lst _,.bl _=>some false
 |_,_=>none
def isG(neg:Bool)(d e:D):Option R:=(isD d e).map λb=>.val (.bl (if neg then !b else b))
theorem zA9{H:Hp}{d e:D}{x y:V}{b:Bool}(h:isD d e=some b)(rx:Rep K mg H d x)(ry:Rep K mg H e y):isV x y=some b:=by
 cases d<;>cases e<;>simp only[isD]at h<;>first
  | (cases h;done)
  | (cases h;rw[yf rx,yf ry];rfl)
  | (cases h;rw[yD rx,yD ry];rfl)
  | (cases h;rw[yf rx,yD ry];rfl)
  | (cases h;rw[yD rx,yf ry];rfl)
  | (cases h;rw[yf rx,zL ry];rfl)
  | (cases h;rw[zL rx,yf ry];rfl)
  | (cases h;rw[yf rx,jE ry];rfl)
  | (cases h;rw[jE rx,yf ry];rfl)
  | (cases h;rw[zL rx,yD ry];rfl)
  | (cases h;rw[yD rx,zL ry];rfl)
  | (cases h;rw[jE rx,yD ry];rfl)
  | (cases h;rw[yD rx,jE ry];rfl)
  | (cases h;obtain⟨a,xs,rfl,_⟩:=zU rx;rw[yf ry];rfl)
  | (cases h;obtain⟨a,xs,rfl,_⟩:=zM rx;rw[yf ry];rfl)
  | (cases h;obtain⟨a,xs,rfl,_⟩:=zU rx;rw[yD ry];rfl)
  | (cases h;obtain⟨a,xs,rfl,_⟩:=zM rx;rw[yD ry];rfl)
theorem ro_is:ROk K mg (λx y H Q=>∃b,isV x y=some b/\Q (.bl b) H) (isG false):=by
 intro M H Z x y d1 d2 res Q f r1 r2 e k;unfold isG at e;cases h:isD d1 d2 with
 |none=>rw[h]at e;cases e
 |some b=>rw[h]at e;cases e;exact⟨b,zA9 h r1 r2,k.flat f rfl⟩
theorem vT:ROk K mg (λx y H Q=>∃b,isV x y=some b/\Q (.bl (!b)) H) (isG true):=by
 intro M H Z x y d1 d2 res Q f r1 r2 e k;unfold isG at e;cases h:isD d1 d2 with
 |none=>rw[h]at e;cases e
 |some b=>rw[h]at e;cases e;exact⟨b,zA9 h r1 r2,k.flat f rfl⟩
def uS(d e:D):Option R:=match vG d e with
 |some r=>some r
 |none=>match d,e with
  | .lst a,.int k=>if -(2^63)<=k/\k<2^63/\a.length*k.toNat<=cap then some (.own (replicate k.toNat a).flatten)else none
  |_,_=>none
theorem ro_mulG:ROk K mg (λx y H Q=>rMulD K x y H Q\/rRepL K x y H Q) uS:=by
 intro M H Z x y d1 d2 res Q f r1 r2 e k;unfold uS at e;cases h:vG d1 d2 with
 |some r=>rw[h]at e;cases e;exact .inl (ro_mul M H Z x y d1 d2 res Q f r1 r2 h k)
 |none =>
  rw[h]at e;cases d1 with
  |lst a =>
   cases d2 with
   |int n =>
    dsimp only at e;split at e
    ·rename_i hc
     cases e;obtain⟨p,xs,rfl,h1,h2⟩:=zM r1;rw[zL r2];exact .inr ⟨p,n,xs,rfl,rfl,zF.seq h1,hc.1,hc.2.1,by rw[h2.length];exact jf hc.2.2,λq hq=>k.own f hq (h2.flatten _)⟩
    ·cases e
   |_=>cases e
  |_=>cases e
def JW:List D->Option (List Int)
 | []=>some []
 | .int i::ds=>(JW ds).map (i::·)
 |_::_=>none
theorem JX{H:Hp}:∀{ds:List D} {xs:List V} {ns:List Int},JW ds=some ns->Reps K mg H ds xs->xs=ns.map V.int
 | [],_,_,e,h=>by cases e;simp only[Reps]at h;subst h;rfl
 |d::ds,_,ns,e,h=>by
  simp only[Reps]at h;obtain⟨v,r,rfl,h1,h2⟩:=h;cases d with
  |int i =>
   simp only[JW]at e;cases eb:JW ds with
   |none=>rw[eb]at e;cases e
   |some cs =>
    rw[eb]at e;cases e;rw[zL h1,JX eb h2];rfl
  |_=>cases e
def QP:List D->Option R
 | [.int i,.int j]=>QN [.int i,.int j]
 | [.lst ds]=>match JW ds with
  |some ns=>if 0<ns.length then some (.val (.int (zAG ns)))else none
  |none=>none
 |_=>none
theorem co_maxG:COk K mg (λxs H Q=>(∃i j,xs=[.int i,.int j]/\Q (.int (if j > i then j else i)) H)\/∃(p:Addr) (ns:List Int),xs=[.ref p]/\SqL K H p (ns.map V.int)/\0<ns.length/\Q (.int (zAG ns)) H) QP:=by
 intro M H Z xs ds res Q f r e k
 match ds,e with
 | [.int i,.int j],e=>exact .inl (co_max M H Z xs _ res Q f r e k)
 | [.lst ds],e =>
  simp only[QP]at e;cases hi:JW ds with
  |none=>rw[hi]at e;cases e
  |some ns =>
   rw[hi]at e;dsimp only at e;split at e
   ·rename_i hp
    cases e;obtain⟨v,rfl,h⟩:=Ju r;obtain⟨p,ys,rfl,h1,h2⟩:=zM h;rw[JX hi h2]at h1;exact .inr ⟨p,ns,rfl,zF.seq h1,hp,k.flat f rfl⟩
   ·cases e
end
end DV
namespace DV
open PySem L2
section
variable{X:Cx}{σ:St}{H:Hp}
theorem Reps.evens{K:PySem.W.Frag}{mg:Str->Option Value}{H:Hp}:∀{ds:List D} {xs:List V},Reps K mg H ds xs->Reps K mg H (L2.evens ds) (L2.evens xs)
 | [],_,h=>by simp only[Reps]at h;subst h;simp only[L2.evens];exact Reps.nil
 | [d],_,h=>by
  simp only[Reps]at h;obtain⟨v,r,rfl,h1,rfl⟩:=h;simp only[L2.evens];exact Reps.cons h1 Reps.nil
 |d::e::ds,_,h=>by
  simp only[Reps]at h;obtain⟨v,r,rfl,h1,v',r',rfl,h2,h3⟩:=h;simp only[L2.evens];exact Reps.cons h1 (Reps.evens h3)
theorem Reps.rev{K:PySem.W.Frag}{mg:Str->Option Value}{H:Hp}:∀{ds:List D} {xs:List V},Reps K mg H ds xs->Reps K mg H ds.reverse xs.reverse
 | [],_,h=>by simp only[Reps]at h;subst h;exact Reps.nil
 |d::ds,_,h=>by
  simp only[Reps]at h;obtain⟨v,r,rfl,h1,h2⟩:=h;rw[reverse_cons,reverse_cons];exact(Reps.rev h2).append (Reps.cons h1 Reps.nil)
theorem Reps.step{K:PySem.W.Frag}{mg:Str->Option Value}{H:Hp}(k:Bool){ds:List D}{xs:List V}(h:Reps K mg H ds xs):Reps K mg H (WH k ds) (WH k xs):=by
 cases k
 ·simp only[WH,Bool.false_eq_true,if_false];exact h.rev
 ·simp only[WH,if_true];exact h.evens
def sTup(is:List Nat)(m:ME):MS:=λE=>match m E with
 | .stuck=>.stuck
 | .exc x E1=>.exc x E1
 | .ok (r,E1)=>match gT is r.d E1 with
  | .ok E2=>.ok (.nx,E2)
  |_=>.stuck
theorem zAI{is:List Nat}{m:ME}{D:Ends}(h:tS X (sTup is m) D σ H):tAsg (tM X m) (gTup X.K is.length (wS is)) D σ H:=by
 obtain⟨M,E,hl,fr,k⟩:=h;unfold sTup at k;refine ze (T0:=[]) hl fr ?_;cases ea:m E with
 |stuck=>rw[ea]at k;exact k
 |exc x E1=>rw[ea]at k;exact λH' g=>k σ H' g
 |ok p =>
  obtain⟨r,E1⟩:=p;rw[ea]at k;intro v H1 g;dsimp only at k;cases eg:gT is r.d E1 with
  |stuck=>rw[eg]at k;exact k.elim
  |exc _ _=>rw[eg]at k;exact k.elim
  |ok E2 =>
   rw[eg]at k;have g0:=g.dropAll;exact zAz (X:=X) is rfl M σ E1 H1 [] v r.d E2 _ g0.len (FR.add g0.frame g.rep) eg λσ' g'=>k σ' H1 (g0.trans' g')
theorem sk_tup{is:List Nat}{es:List Expr}{e:Expr}{m:ME}{k:Nat}{p pos:Pos}(hg:PG X (.Tuple es k p) (gTup X.K is.length (wS is)))(he:EOk X e m)(hs:swapsWithSole [.Tuple es k p] e pos.line X.env=pure false)(hw:swappedStores [.Tuple es k p] e X.env=pure none):SOk X (.Assign [.Tuple es k p] e pos) (sTup is m) :=
 jl (zAk he hg hs hw) λD σ H=>zAI
theorem sk_any{st:Stmt}:SOk X st (λ_=>.stuck):=jl QV λD σ H ⟨M,E,hl,fr,k⟩=>k
end
end DV
namespace DV
open PySem L2
section
variable{X:Cx}{pins:List (Addr×Obj)}{σ:L2.St}{H:Hp}{s:Shared}
theorem Gn(I:Inv X pins σ H s){a:Addr}(h:s.heap.get? a=none):H a=none:=by
 cases q:H a with
 |none=>rfl
 |some o=>obtain⟨u,e⟩:=vC (I.hok a o q);rw[h]at e;cases e
def sRaise(c:Str):MS:=λE=>.exc ⟨c,true⟩ E
theorem zAJ{c:Str}{C:Addr}{np cpos pos:Pos}(hc:X.calm=true)(hg:Gl X c)(hm:X.mg c=some (.ref C))(q:excIn X.K C VB "ValueError.__new__"=true)(hd:(c==("__debug__":Str))=false):SOk X (.Raise (some (.Call (.Name c np) [] [] cpos)) none pos) (sRaise c):=by
 intro pins s σ H D I ⟨M,E,hl,fr,k⟩;have k':XE X σ H ⟨c,true⟩:=k σ H (Got.refl (T0:=[]) hl fr);obtain⟨bm,N,nm,qn,bs,hdct,sn,sub,ab,col,dd,k0,k1,k2,k3,k5,mN,hC,hN,hni,T⟩:=own_at I.kIn q;refine wpAny_Raise_call_subT (nm:=nm) (q:=qn) (C:=C) (N:=N) (bs:=bs) (bm:=bm) (hdct:=hdct) (sn:=sn) (sub:=sub) (ab:=ab) (col:=col) (dd:=dd) (k0:=k0) (k1:=k1) (k2:=k2) (k3:=k3) (k5:=k5) PySem.F.excBase_ValueError (T.hasType (by decide +kernel)) (I.ok.hd hc) rfl hni (ZG I hg hm ⟨rfl,?_⟩ hd);refine wpAny_pure ⟨rfl,zero_le _,hC,hN,T,λh' e hx=>?_⟩;refine k' pins _ _ (I.kept hx.keeps) ⟨e,C,rfl,hm,Gn I hx.new,.inl ⟨rfl,s,I,rfl,hx⟩⟩
theorem Go{A:Around}{M:Model}{E:Value->Shared->Prop}{i:Nat}{x:Str}{v:V}{Q:Unit->Shared->Prop}(I:Inv X pins σ H s)(hN:X.N.Nodup)(hi:X.N[i]?=some x)(hx:X.env.scope.names.lookup x=some .local)(hv:σ[i]?=some (some v))
  (h:∀s',Inv X pins (σ.set i none) H s'->Q () s'):wpAny M A (unbindName X.env x) Q E s:=by
 obtain⟨m,hn,hl⟩:=id I.loc;have hcls:(X.env.scope.kind==.class||(X.env.scope.kind==.module&&X.env.locals != X.env.globals))=false:=by rw[I.ok.kind];rfl
 obtain⟨u,_,lk⟩:=hl i x v hi hv (.inl hx);have hm:m x=some u:=by
  rcases lk with⟨_,e⟩|⟨z,_⟩
  ·exact e
  ·have z':X.env.scope.names.lookup x=some .cell\/X.env.scope.names.lookup x=some .free:=z
   rcases z' with z'|z'<;>(rw[hx]at z';cases z')
 refine wpAny_unbindName_local hx hn hm hcls λh' u' hn' hs=>?_
 obtain⟨oL,_,_,hoL,_⟩:=id hn;have keep:∀b,b≠X.env.locals->h'.get? b=s.heap.get? b:=λb hb=>hs.2 b hb
 have neL:∀b o,X.s₀.heap.get? b=some o->b≠X.env.locals:=λb o e=>ne_of_lt (lt_of_lt_of_le (lt_size e) I.ok.above)
 refine h _ ⟨I.ok,I.os,I.bare,⟨λb o e n hb hx=>(keep b (neL b o e)).trans (I.base.keep b o e n hb hx),λb o e n hb hx=>?_,I.base.free,λb o e hx=>?_,I.base.tups,I.base.frzs,I.base.tbls⟩,⟨_,hn',λj y v' e1 e2 e3=>?_⟩,λy c e=>?_,I.free,I.freeC,λp hp=>?_,λb o e=>?_,by simpa using I.len⟩
 ·obtain⟨sl,q⟩:=I.base.slot b o e n hb hx
  exact⟨sl,(keep b (neL b o e)).trans q⟩
 ·obtain⟨o',q⟩:=I.base.there b o e hx
  exact⟨o',(keep b (neL b o e)).trans q⟩
 ·have hiσ:i<σ.length:=(List.getElem?_eq_some_iff.mp hv).1
  have hj:j≠i:=λz=>by
   subst z;rw[getElem?_set_self hiσ]at e2;cases e2
  rw[getElem?_set_ne (Ne.symm hj)]at e2;obtain⟨u2,r2,q⟩:=hl j y v' e1 e2 e3;refine⟨u2,r2,?_⟩;rcases q with⟨k,e⟩|⟨k,c,e,z⟩
  ·have ny:y≠x:=λe=>hj (ZF hN e1 (e▸hi))
   exact .inl ⟨k,by simp[ny,e]⟩
  ·exact .inr ⟨k,c,e,z.sameBut hs (I.cne y c e)⟩
 ·obtain⟨w',z⟩:=I.cell y c e
  exact⟨w',z.sameBut hs (I.cne y c e)⟩
 ·obtain⟨e,n,ne,nf,d⟩:=I.pin p hp
  exact⟨(keep p.1 ne).trans e,n,ne,nf,d⟩
 ·refine(I.hok b o e).stay (λc w' hc q=>(keep c λz=>?_).trans q) (λ_ q=>q) λ_ _ q=>q
  subst z;rcases hc with rfl|hc
  ·rw[I.free]at e;cases e
  ·rw[I.free]at hc;cases hc
theorem Gp{sc:Shared}{Hc:Hp}{B:Heap}{a C:Addr}{t:Value}{h6:Heap}(I:Inv X pins σ H s)(Ic:Inv X pins σ Hc sc)(un:Un (frs X.stack) [] Hc H sc.heap s.heap)(fl:Heap.FlyingW B X.stack a (.ref C) t s.heap)(kb:QJ B H sc.heap (frs X.stack) s.heap)(hn:H a=none)
  (fl6:Heap.FlyingW B X.stack a (.ref C) t h6) (sl:s.heap.UpToSlots h6):Inv X pins σ (upd H a (ExO C a)) {s with heap:=h6}:=by
 obtain⟨oe,vs,he,hec,hed,_⟩:=fl.first;have naf:a∉frs X.stack:=λz=>by
  obtain⟨_,o,q,nd⟩:=I.stack.mem z;rw[he]at q;cases q;exact nd vs hed
 have nac:sc.heap.get? a=none:=by
  cases q:sc.heap.get? a with
  |none=>rfl
  |some o =>
   have:=kb a oe he (.inl ⟨o,q⟩) naf;rw[fl.2.1]at this;cases this
 have kb':QJ B H sc.heap (a::frs X.stack) s.heap:=λb o e z nf=>kb b o e z λq=>nf (mem_cons_of_mem _ q)
 have hN:∀b∈a::frs X.stack,H b=none:=λb hb=>by
  rcases mem_cons.mp hb with rfl|hb
  ·exact hn
  ·exact I.stkFree b hb
 have hfs:∀b∈frs X.stack,∀o,s.heap.get? b=some o->∃sl,h6.get? b=some {o with slots:=sl}:=λb hb o e=>by
  obtain⟨_,o',q,nd⟩:=I.stack.mem hb;rw[e]at q;cases q;exact sl b o e nd
 have u6:=un_on un I.hok kb' fl6.1 nac hfs;have ok6:HOk X.prog X.w H h6:=uz I.hok kb' fl6.1 hN;obtain⟨o6,e6,c6⟩:=fl6.there;have ne:∀{b:Addr} {o:HO},H b=some o->b≠a:=λ{b o} e z=>by subst z;rw[hn]at e;cases e
 refine Ic.call' (s':={s with heap:=h6}) (ch:=[]) (I.os.trans Ic.os.symm) ?_ (λb o e=>?_) I.bare (λb z=>absurd z (by simp))
 ·exact⟨u6.keep,u6.slot,λb o e n hx=>by
   have:b≠a:=λz=>by subst z;rw[nac]at e;cases e
   rw[zp this];exact u6.free b o e n hx,u6.there,λb xs e=>by have q:=u6.tups b xs e;rw[zp (ne q)];exact q,λb o u e=>by have q:=u6.frzs b o u e;rw[zp (ne q)];exact q,λb ps e=>by obtain⟨m,q⟩:=u6.tbls b ps e;exact⟨m,by rw[zp (ne q)];exact q⟩⟩
 ·by_cases hb:b=a
  ·subst hb
   rw[yX]at e;cases e;exact uy e6 c6
  ·rw[zp hb]at e
   exact(ok6 b o e).stay (λc w' _ q=>q) (λc q=>by rw[zp (ne q)];exact q) λc xs q=>by rw[zp (ne q)];exact q
abbrev trX(X:Cx)(pn:List (Addr×Obj))(E:Value->Shared->Prop):Cx:={X with pn:=pn,xe:=E}
abbrev hdX(X:Cx)(a:Addr):Cx:={X with A:=X.A.mark (some (.ref a)),calm:=false,xe:=λ_ _=>False}
theorem inv_tr(I:Inv X pins σ H s)(E:Value->Shared->Prop):Inv (trX X (X.pn++pins) E) [] σ H s :=
 ⟨⟨I.ok.mod,I.ok.kind,I.ok.glob,I.ok.blt,I.ok.above,I.ok.inj,I.ok.has,I.ok.cab,I.ok.hd,I.ok.frames,I.ok.stk,I.ok.exf,I.ok.bs,I.ok.bsz,I.ok.noex,I.ok.exfs,I.ok.funs,I.ok.frf⟩,I.os,I.bare,I.base,I.loc,I.cell,I.free,I.freeC,λp hp=>I.pin p (by simpa using hp),I.hok,I.len⟩
theorem j8{pins':List (Addr×Obj)}{E:Value->Shared->Prop}(I:Inv (trX X (X.pn++pins) E) pins' σ H s):Inv X pins σ H s :=
 ⟨⟨I.ok.mod,I.ok.kind,I.ok.glob,I.ok.blt,I.ok.above,I.ok.inj,I.ok.has,I.ok.cab,I.ok.hd,I.ok.frames,I.ok.stk,I.ok.exf,I.ok.bs,I.ok.bsz,I.ok.noex,I.ok.exfs,I.ok.funs,I.ok.frf⟩,I.os,I.bare,I.base,I.loc,I.cell,I.free,I.freeC,λp hp=>I.pin p (mem_append_left _ hp),I.hok,I.len⟩
theorem ZU{pins':List (Addr×Obj)}{E:Value->Shared->Prop}{D:Ends}{f:Flow}{s':Shared}(h:SP (trX X (X.pn++pins) E) pins' D f s'):SP X pins D f s':=by
 cases f with
 |next=>obtain⟨σ',H',I,q⟩:=h;exact⟨σ',H',j8 I,q⟩
 |brk=>obtain⟨σ',H',I,q⟩:=h;exact⟨σ',H',j8 I,q⟩
 |cont=>obtain⟨σ',H',I,q⟩:=h;exact⟨σ',H',j8 I,q⟩
 |ret u=>obtain⟨v,σ',H',I,r,q⟩:=h;exact⟨v,σ',H',j8 I,r,q⟩
theorem zBA(I:Inv X pins σ H s)(a:Addr):Inv (hdX X a) pins σ H s:=JP I _ false _ (λz=>by cases z) I.ok.frames
theorem zAK{a:Addr}(I:Inv (hdX X a) pins σ H s)(hd:X.calm=true->X.A.handled=none):Inv X pins σ H s :=
 ⟨⟨I.ok.mod,I.ok.kind,I.ok.glob,I.ok.blt,I.ok.above,I.ok.inj,I.ok.has,I.ok.cab,hd,I.ok.frames,I.ok.stk,I.ok.exf,I.ok.bs,I.ok.bsz,I.ok.noex,I.ok.exfs,I.ok.funs,I.ok.frf⟩,I.os,I.bare,I.base,I.loc,I.cell,I.free,I.freeC,I.pin,I.hok,I.len⟩
def sTry(cl:List Str)(i:Nat)(b h:MS):MS:=λE=>match b E with
 | .exc x E1=>if(!x.made&&cl.contains x.cls)=true then(match YB i (.val (.exn x.cls)) E1 with
   | .ok E2=>(match h E2 with
    | .ok (.ret r,E3)=>.ok (.ret r,E3)
    |_=>.stuck)
   |_=>.stuck)else .stuck
 |o=>o
theorem sk_try{body suite:List Stmt}{b0:Stmt}{n t:Str}{i:Nat}{T:Addr}{np hp pos:Pos}{mb mh:MS}{cl:List Str}(hst:X.stack=X.env::X.outer/\X.env.frame=some X.env.locals)(hN:X.N.Nodup)(hi:X.N[i]?=some n)(hx:X.env.scope.names.lookup n=some .local)
  (hg:Gl X t) (hd:(t==("__debug__":Str))=false) (hm:X.mg t=some (.ref T)) (hT:TCls X.K T) (hcl:∀c∈cl,∃C,X.mg c=some (.ref C)/\XCls X.K c C T)
  (hb:∀pn E,uQ (trX X pn E) body mb) (hh:∀a,uQ (hdX X a) (b0::suite) mh) :
  SOk X (.Try body [.ExceptHandler (some (.Name t np)) (some n) (b0::suite) hp] [] [] pos) (sTry cl i mb mh):=by
 intro pins s σ H D I ⟨M,E,hl,fr,k⟩;rw[arm_exec_Try];refine wpAny_bind (wpAny_standAt (wpAny_tryStmt_except ?_));unfold sTry at k;refine wpAny_mono (hb (X.pn++pins) _ [] s σ H D (inv_tr I _) ⟨M,E,hl,fr,?_⟩) (λf s1 q=>?_) λ_ _ z=>z
 ·cases eb:mb E with
  |stuck=>rw[eb]at k;exact k
  |ok p =>
   rw[eb]at k;obtain⟨fl,E1⟩:=p;cases fl<;>exact k
  |exc x E1 =>
   rw[eb]at k;dsimp only at k;intro σ1 H1 g;intro pins' s1 e I1 ⟨a,C,he,hmx,hn,rel⟩;subst he;cases hq:(!x.made&&cl.contains x.cls)with
   |false=>rw[hq]at k;exact k.elim
   |true =>
   rw[hq]at k;simp only[Bool.and_eq_true,Bool.not_eq_true']at hq;obtain⟨hmd,hin⟩:=hq;rcases rel with⟨z,_⟩|⟨_,sc,Hc,Ic,un,B,tt,fl,kb⟩
   ·rw[hmd]at z;cases z
   obtain⟨C',hmc,FC⟩:=hcl x.cls (by simpa using hin);have ec:C=C':=by
    have z:X.mg x.cls=some (.ref C):=hmx;rw[hmc]at z;cases z;rfl
   subst ec;have J1:Inv X pins σ1 H1 s1:=j8 I1;have Jc:Inv X pins σ1 Hc sc:=j8 Ic;have hfr:X.A.frames=some (X.env::X.outer):=by rw[<- hst.1];exact J1.ok.frames
   have fl':Heap.FlyingW B (X.env::X.outer) a (.ref C) (.ref tt) s1.heap:=by rw[<- hst.1];exact fl
   refine wpAny_looks_onW hfr hst.2 fl' λh4 held sl4=>?_
   refine wpAny_landsW held λh5 fl5 sl5=>?_
   have fl5':Heap.FlyingW B X.stack a (.ref C) (.ref tt) h5:=by rw[hst.1];exact fl5
   have J5:=Gp J1 Jc un fl kb hn fl5' (sl4.trans sl5);obtain⟨o5,e5,c5⟩:=fl5.there;refine wpAny_handleBy_cons (codeAny_handlers_test ?_) (by intro z;cases z);refine ZG (X:=hdX X a) (zBA J5 a) hg hm ?_ hd;refine Wj FC hT J5.kIn e5 c5 ?_;refine codeAny_handlers_suite_as ?_;refine PyProof.Rows.lands_againW fl5 λh6 fl6 sl6=>?_
   have fl6':Heap.FlyingW B X.stack a (.ref C) (.ref tt) h6:=by rw[hst.1];exact fl6
   have J6:=Gp J1 Jc un fl kb hn fl6' ((sl4.trans sl5).trans sl6);have g2:Got X.K X.mg M σ E H [] σ1 E1 (upd H1 a (ExO C a)) [(some (.ref a),R.slot (.val (.exn x.cls)))]:=by
    refine g.more (T:=[(some (.ref a),.val (.exn x.cls))]) ((g.frame.grow hn).add ?_) (Step.newVal hn);simp only[Rep];exact⟨a,C,rfl,hmx,zN.mpr ⟨wx g.frame hn,yX⟩⟩
   cases ep:YB i (.val (.exn x.cls)) E1 with
   |stuck=>rw[ep]at k;exact k.elim
   |exc _ _=>rw[ep]at k;exact k.elim
   |ok E2 =>
   rw[ep]at k;dsimp only at k;have g3:=ZN g2 ep;refine J2 (i:=i) (v:=.ref a) J6 hN hi (.inl hx) rfl (λs7 J7=>?_) (.inr hx);refine wpAny_mono (hh a pins s7 (σ1.set i (some (.ref a))) (upd H1 a (ExO C a)) {D with nx:=λ_ _=>False,bk:=λ_ _=>False,ct:=λ_ _=>False} (zBA J7 a) (Z8 (T0:=[]) g3.len g3.fr ?_)) (λf s8 q=>?_) λ_ _ z=>z.elim
   ·cases eh:mh E2 with
    |stuck=>rw[eh]at k;exact k.elim
    |exc _ _=>rw[eh]at k;exact k.elim
    |ok p =>
     obtain⟨fl,E3⟩:=p;rw[eh]at k;cases fl with
     |nx=>exact k.elim
     |bk=>exact k.elim
     |ct=>exact k.elim
     |ret r=>exact λv σ' H' g4=>k v σ' H' (g3.trans' g4)
   ·cases f with
    |next=>obtain⟨_,_,_,z⟩:=q;exact z.elim
    |brk=>obtain⟨_,_,_,z⟩:=q;exact z.elim
    |cont=>obtain⟨_,_,_,z⟩:=q;exact z.elim
    |ret u =>
     obtain⟨v,σ3,H3,J8,ru,dr⟩:=q;have J8':=zAK J8 I.ok.hd;refine wpAny_bind (wpAny_bindName (J2 (i:=i) (v:=.non) J8' hN hi (.inl hx) rfl (λs9 J9=>?_) (.inr hx)));unfold unbindBehindTheSuite;refine wpAny_onRaise ?_;refine Go (v:=.non) J9 hN hi hx ?_ λs10 J10=>⟨v,_,H3,J10,ru,dr⟩
     have:i<σ3.length:=by rw[J8.len];exact(List.getElem?_eq_some_iff.mp hi).1
     rw[getElem?_set_self this]
 ·cases f with
  |next=>exact wpAny_execs_nil (ZU q)
  |brk=>exact ZU q
  |cont=>exact ZU q
  |ret u=>exact ZU q
end
end DV
namespace DV
open PySem L2
section
variable{X:Cx}{σ:L2.St}{H:Hp}
theorem vU{cl:List Str}{v:V}{cv:Value}{b:Str->Bool}(rv:∀u,zv v u->u=cv)(hk:∀c∈cl,∃C T,X.mg c=some (.ref C)/\XCls X.K c C T/\kitOne X.K (.ref C) cv=some (b c)) :
  jA X (.builtin "isinstance") (λxs H Q=>∃x c,xs=[x,v]/\Rep X.K X.mg H (.exn c) x/\c∈cl/\Q (.bl (b c)) H):=by
 intro pins s σ H xs us Q I r h;obtain⟨x,c,rfl,rd,hc,q⟩:=h;obtain⟨u,w',rfl,rx,ry⟩:=vals2 r;obtain rfl:=rv w' ry;simp only[Rep]at rd;obtain⟨a,C,rfl,hm,ha⟩:=rd;obtain⟨C',T,hm',F,kq⟩:=hk c hc;rw[hm]at hm';cases hm';cases (show u=Value.ref a from rx);obtain⟨φ,_,_⟩:=(show ji X.prog X.w H s.heap a (ExO C a)from I.hok a _ ha);exact kia_one (kit_exc F) I.kIn φ kq (λz=>nomatch z) λtk=>⟨.bl _,H,I.tok tk,rfl,q⟩
def eIsX(cl:List Str)(b:Str->Bool)(m:ME):ME:=λE=>match m E with
 | .stuck=>.stuck
 | .exc x E1=>.exc x E1
 | .ok (.val (.exn c),E1)=>if cl.contains c=true then .ok (.val (.bl (b c)),E1)else .stuck
 |_=>.stuck
theorem Gq{cl:List Str}{v:V}{b:Str->Bool}{m:ME}{Q:VK}(h:tM X (eIsX cl b m) σ H Q):tM X m σ H λx H1=>∃y c,[x,v]=[y,v]/\Rep X.K X.mg H1 (.exn c) y/\c∈cl/\Q (.bl (b c)) H1:=by
 obtain⟨M,E,hl,fr,k⟩:=h;unfold eIsX at k;refine ze (T0:=[]) hl fr ?_;cases ea:m E with
 |stuck=>rw[ea]at k;exact k
 |exc x E1=>rw[ea]at k;exact k
 |ok pr =>
  obtain⟨r,E1⟩:=pr;rw[ea]at k;cases r with
  |own ds=>exact k.elim
  |val d =>
   cases d with
   |exn c =>
    dsimp only at k;intro v H' g;cases hc:cl.contains c with
    |false=>rw[hc]at k;exact k.elim
    |true =>
     rw[hc]at k;exact⟨v,c,rfl,g.rep.mono zF,by simpa using hc,k _ H' (g.flat (d:=.bl (b c)) rfl)⟩
   |_=>exact k.elim
theorem ok_isC{cl:List Str}{y:Str}{Y T:Addr}{a:Expr}{m:ME}{p p1 pos:Pos}(hcl:∀c∈cl,∃C,X.mg c=some (.ref C)/\XCls X.K c C T)(hy:X.mg y=some (.ref Y))(FY:XCls X.K y Y T)(hYT:Y≠T)(hg:Gl X "isinstance")(hm:X.mg "isinstance"=none)
  (hgY:Gl X y) (ha:EOk X a m) (hv:bootBuiltins "isinstance"=some (.builtin "isinstance")) (hd:(y==("__debug__":Str))=false) (he:zO a=false) :
  EOk X (.Call (.Name "isinstance" p) [a,.Name y p1] [] pos) (eIsX cl (·==y) m) :=
 zi (wq (vU (cl:=cl) (v:=.ref Y) (cv:=.ref Y) (b:=(·==y)) (λu h=>h) λc hc=>by
  obtain⟨C,h1,h2⟩:=hcl c hc;exact⟨C,T,h1,h2,kit_own h2 FY hYT λe=>by subst e;rw[h1]at hy;cases hy;rfl⟩) hg hm hv (yR ha (yR (Wd (v:=.ref Y) hgY hy rfl hd) wo (zI rfl)) (zI he)) (by decide) (by decide) (zI he) (yd rfl)) λσ H Q h=>Gq h
theorem ok_isV{cl:List Str}{T:Addr}{a:Expr}{m:ME}{p p1 pos:Pos}(hcl:∀c∈cl,∃C,X.mg c=some (.ref C)/\XCls X.K c C T)(hg:Gl X "isinstance")(hm:X.mg "isinstance"=none)
  (hgV:Gl X "ValueError") (hmV:X.mg "ValueError"=none) (hvV:bootBuiltins "ValueError"=some (.type "ValueError")) (ha:EOk X a m) (hv:bootBuiltins "isinstance"=some (.builtin "isinstance")) (he:zO a=false) :
  EOk X (.Call (.Name "isinstance" p) [a,.Name "ValueError" p1] [] pos) (eIsX cl (λ_=>true) m) :=
 zi (wq (vU (cl:=cl) (v:=.ty "ValueError") (cv:=.type "ValueError") (b:=λ_=>true) (λu h=>h) λc hc=>by
  obtain⟨C,h1,h2⟩:=hcl c hc;exact⟨C,T,h1,h2,kit_val h2⟩) hg hm hv (yR ha (yR (uY (v:=.ty "ValueError") hgV hmV hvV rfl (by decide) (by decide)) wo (zI rfl)) (zI he)) (by decide) (by decide) (zI he) (yd rfl)) λσ H Q h=>Gq h
end
section
variable{X:Cx}{σ:L2.St}{H:Hp}
def WI(k:Bool):Value->Bool
 | .bool b=>b==k
 |_=>false
def zBB(k:Int):Value->Bool
 | .int b _=>b==k
 |_=>false
theorem JY:∀{bs:List Bool} {us:List Value},zd (bs.map V.bl) us->us=bs.map Value.bool
 | [],_,.nil=>rfl
 |b::bs,_,.cons r t=>by
  cases (show _=Value.bool b from r);rw[JY t];rfl
theorem w6:∀{ns:List Int} {us:List Value},zd (ns.map V.int) us->∀u∈us,∃i t,u=.int i t
 | [],_,.nil,_,h=>by cases h
 |n::ns,_,.cons r t,u,h=>by
  rcases mem_cons.mp h with rfl|h
  ·obtain⟨tk,e⟩:=r;exact⟨n,tk,e⟩
  ·exact w6 t u h
theorem jo(k:Int):∀{ns:List Int} {us:List Value},zd (ns.map V.int) us->us.countP (zBB k)=ns.count k
 | [],_,.nil=>rfl
 |n::ns,_,.cons r t=>by
  obtain⟨tk,e⟩:=r;subst e;rw[List.countP_cons,List.count_cons,jo k t];rfl
theorem zAL:MtM X "list.count" (λx vs H Q=>∃l,x=.ref l/\((∃(bs:List Bool) (k:Bool),vs=[.bl k]/\SqL X.K H l (bs.map V.bl)/\Q (.int (bs.count k:Nat)) H)\/(∃(ns:List Int) (k:Int),vs=[.int k]/\SqL X.K H l (ns.map V.int)/\Q (.int (ns.count k:Nat)) H))):=by
 intro pins s σ H x vs v us Q I rx rv h;obtain⟨l,rfl,h⟩:=h;cases rx;rcases h with⟨bs,k,rfl,hs,q⟩|⟨ns,k,rfl,hs,q⟩
 ·obtain⟨u,rfl,ru⟩:=rv.one
  cases (show u=Value.bool k from ru);obtain⟨its,r,p,_⟩:=I.list hs;obtain⟨⟨c0,dd,dt,sl⟩,n,e,ec,ed,es⟩:=p;dsimp only at ec ed es;subst ec ed es;have hb:=JY r;subst hb;refine call_meets PySem.F.slot_list_count ⟨_,e,rfl⟩ PySem.F.entry_list_count (PySem.F.args_list_count_2 _ _) (SeqAt.list_countAt l _ n none sl (.bool k) (WI k)) ⟨e,λy hy=>?_,?_⟩
  ·have hy':y∈bs.map Value.bool:=by simpa using hy
   obtain⟨b,_,rfl⟩:=mem_map.mp hy';exact SeqAt.EqAt.bool_bool b k
  ·have:(bs.map Value.bool).countP (WI k)=bs.count k:=by rw[List.countP_map,List.count];rfl
   rw[show(bs.map Value.bool).toArray.toList=bs.map Value.bool from rfl,this];exact⟨.int _,H,I.tok _,⟨_,rfl⟩,q⟩
 ·obtain⟨u,rfl,ru⟩:=rv.one
  obtain⟨tk,eu⟩:=(show ∃t,u=Value.int k t from ru);subst eu;obtain⟨its,r,p,_⟩:=I.list hs;obtain⟨⟨c0,dd,dt,sl⟩,n,e,ec,ed,es⟩:=p;dsimp only at ec ed es;subst ec ed es;refine call_meets PySem.F.slot_list_count ⟨_,e,rfl⟩ PySem.F.entry_list_count (PySem.F.args_list_count_2 _ _) (SeqAt.list_countAt l _ n none sl (.int k tk) (zBB k)) ⟨e,λy hy=>?_,?_⟩
  ·obtain⟨i,t,rfl⟩:=w6 r y (by simpa using hy)
   exact SeqAt.EqAt.int_int i t k tk
  ·rw[show its.toArray.toList=its from rfl,jo k r]
   exact⟨.int _,H,I.tok _,⟨_,rfl⟩,q⟩
theorem zAM:MtM X "list.index" (λx vs H Q=>∃l,x=.ref l/\∃(bs:List Bool) (k:Bool) (j:Nat),vs=[.bl k]/\SqL X.K H l (bs.map V.bl)/\bs.findIdx? (·==k)=some j/\j<1000000/\Q (.int (j:Nat)) H):=by
 intro pins s σ H x vs v us Q I rx rv h;obtain⟨l,rfl,bs,k,j,rfl,hs,hj,hj2,q⟩:=h;cases rx;obtain⟨u,rfl,ru⟩:=rv.one;cases (show u=Value.bool k from ru);obtain⟨its,r,p,_⟩:=I.list hs;obtain⟨⟨c0,dd,dt,sl⟩,n,e,ec,ed,es⟩:=p;dsimp only at ec ed es;subst ec ed es;have hb:=JY r;subst hb;obtain⟨h1,h2,h3⟩:=List.findIdx?_eq_some_iff_getElem.mp hj;refine call_meets PySem.F.slot_list_index ⟨_,e,rfl⟩ PySem.F.entry_list_index (PySem.F.args_list_index_2 _ _) (SeqAt.list_indexAt l _ n none sl (.bool k) (WI k) j (by simpa using h1) (by omega) ?_ ?_) ⟨e,λy hy=>?_,⟨.int _,H,I.tok _,⟨_,rfl⟩,q⟩⟩
 ·simpa[WI]using h2
 ·intro m hm hlt
  have:=h3 m hlt;simpa[WI]using this
 ·have hy':y∈bs.map Value.bool:=by simpa using hy
  obtain⟨b,_,rfl⟩:=mem_map.mp hy';exact SeqAt.EqAt.bool_bool b k
def eMet(f:D->D->Option R)(a b:ME):ME:=λE=>match a E with
 | .stuck=>.stuck
 | .exc x E1=>.exc x E1
 | .ok (r1,E1)=>match r1.d with
  | .lst _=>(match b E1 with
   | .stuck=>.stuck
   | .exc x E2=>.exc x E2
   | .ok (r2,E2)=>match f r1.d r2.d with
    |some r=>.ok (r,E2)
    |none=>.stuck)
  |_=>.stuck
def cntD:D->D->Option R
 | .lst ds,.bl k=>(yg ds).map λbs=>.val (.int (bs.count k:Nat))
 | .lst ds,.int k=>(JW ds).map λns=>.val (.int (ns.count k:Nat))
 |_,_=>none
def idxD:D->D->Option R
 | .lst ds,.bl k=>(yg ds).bind λbs=>match bs.findIdx? (·==k)with
  |some j=>if j<1000000 then some (.val (.int (j:Nat)))else none
  |none=>none
 |_,_=>none
theorem Gr{f:D->D->Option R}{rel:V->List V->Hp->VK->Prop}{a b:ME}{Q:VK}(hr:ROk X.K X.mg (λx y H Q=>rel x [y] H Q) f)(h:tM X (eMet f a b) σ H Q):tBM X.K "list" rel (tM X a) (vw (tM X b) tNil) σ H Q:=by
 obtain⟨M,E,hl,fr,k⟩:=h;unfold eMet at k;refine ze (T0:=[]) hl fr ?_;cases ea:a E with
 |stuck=>rw[ea]at k;exact k
 |exc x E1=>rw[ea]at k;exact k
 |ok p =>
  obtain⟨r1,E1⟩:=p;rw[ea]at k;intro x H1 g1;dsimp only at k;cases ed:r1.d with
  |lst ds =>
   rw[ed]at k;have rx:=g1.rep;rw[ed]at rx;obtain⟨l,xs,ex,hs,_⟩:=zM rx;subst ex;refine⟨(show tyV X.K "list" (.ref l) H1 from .inl ⟨rfl,xs,zF.seq hs⟩),?_⟩;refine ze (T0:=[(some (.ref l),r1.slot)]) g1.len g1.fr ?_;dsimp only at k;cases eb:b E1 with
   |stuck=>rw[eb]at k;exact k
   |exc x E2=>rw[eb]at k;exact λH' g=>k H' (g1.trans' g).dropAll
   |ok p =>
    obtain⟨r2,E2⟩:=p;rw[eb]at k;intro y H2 g2;have g:=g1.trans' g2;have rp:=Got.reps (vs:=[y,.ref l]) (rs:=[r2,r1]) rfl g;simp only[List.map,Reps]at rp;obtain⟨y',_,e1,ry,x',_,e2,rx,_⟩:=rp;cases e1;cases e2;dsimp only at k;cases ef:f (.lst ds) r2.d with
    |none=>rw[ef]at k;exact k.elim
    |some r =>
     rw[ef]at k;rw[ed]at rx;exact hr M H2 _ (.ref l) y (.lst ds) r2.d r Q g.frame rx ry ef λv H' f' s'=>k v H' (g.more (T:=[(some v,r.slot)]) f' s')
  |_=>rw[ed]at k;exact k.elim
theorem ro_cnt{K:PySem.W.Frag}{mg:Str->Option Value}:ROk K mg (λx y H Q=>∃l,x=.ref l/\((∃(bs:List Bool) (k:Bool),[y]=[.bl k]/\SqL K H l (bs.map V.bl)/\Q (.int (bs.count k:Nat)) H)\/(∃(ns:List Int) (k:Int),[y]=[.int k]/\SqL K H l (ns.map V.int)/\Q (.int (ns.count k:Nat)) H))) cntD:=by
 intro M H Z x y d1 d2 res Q f r1 r2 e k;cases d1 with
 |lst ds =>
  obtain⟨l,xs,rfl,hs,rs⟩:=zM r1;refine⟨l,rfl,?_⟩;cases d2 with
  |bl b =>
   simp only[cntD]at e;cases eb:yg ds with
   |none=>rw[eb]at e;cases e
   |some bs =>
    rw[eb]at e;cases e;rw[j6 eb rs]at hs;exact .inl ⟨bs,b,by rw[yD r2],zF.seq hs,k.flat f rfl⟩
  |int i =>
   simp only[cntD]at e;cases eb:JW ds with
   |none=>rw[eb]at e;cases e
   |some ns =>
    rw[eb]at e;cases e;rw[JX eb rs]at hs;exact .inr ⟨ns,i,by rw[zL r2],zF.seq hs,k.flat f rfl⟩
  |_=>cases e
 |_=>cases e
theorem ro_idx{K:PySem.W.Frag}{mg:Str->Option Value}:ROk K mg (λx y H Q=>∃l,x=.ref l/\∃(bs:List Bool) (k:Bool) (j:Nat),[y]=[.bl k]/\SqL K H l (bs.map V.bl)/\bs.findIdx? (·==k)=some j/\j<1000000/\Q (.int (j:Nat)) H) idxD:=by
 intro M H Z x y d1 d2 res Q f r1 r2 e k;cases d1 with
 |lst ds =>
  obtain⟨l,xs,rfl,hs,rs⟩:=zM r1;refine⟨l,rfl,?_⟩;cases d2 with
  |bl b =>
   simp only[idxD]at e;cases eb:yg ds with
   |none=>rw[eb]at e;cases e
   |some bs =>
    rw[eb,Option.bind_some]at e;cases ej:bs.findIdx? (·==b)with
    |none=>rw[ej]at e;cases e
    |some j =>
     rw[ej]at e;dsimp only at e;split at e
     ·rename_i hj
      cases e;rw[j6 eb rs]at hs;exact⟨bs,b,j,by rw[yD r2],zF.seq hs,ej,hj,k.flat f rfl⟩
     ·cases e
  |_=>cases e
 |_=>cases e
theorem ok_cnt{o e:Expr}{a b:ME}{apos cpos:Pos}(ho:EOk X o a)(he:EOk X e b)(hbase:attributeBase o "count" X.env (eval o X.env)=eval o X.env)(hs:zO e=false)(hline:(apos.endLine==cpos.line)=true)
  (hfew:((backTo cpos (starEach (e::[]) X.env)).all (λx=>!x.1)&&(backToKw cpos (keywordEach [] X.env)).all (λx=>x.1.isSome)&&decide ((e::([]:List Expr)).length+([]:List Keyword).length+(if([]:List Keyword).isEmpty then 0 else 1)<30))=true) :
  EOk X (.Call (.Attribute o "count" apos) [e] [] cpos) (eMet cntD a b) :=
 zi (pe_bm PySem.F.plainAttrs_list PySem.F.slot_list_count PySem.F.type_list_count zAL ho (yR he wo (zI hs)) hbase hfew hline (zI hs) rfl) λσ H Q h=>Gr ro_cnt h
end
end DV
namespace DV
open PySem L2
section
variable{X:Cx}{σ:L2.St}{H:Hp}{K:PySem.W.Frag}{mg:Str->Option Value}{M:Addr->Prop}{E E1:zR}{T0:Fz}
end
end DV
namespace DV
open PySem L2
mutual
def pyD:D->Option PyData
 | .non=>some .none
 | .bl b=>some (.bool b)
 | .int i=>some (.int i)
 | .str x=>some (.str x)
 | .tup ds=>(pyDs ds).map .tuple
 | .lst ds=>(pyDs ds).map .list
 | .dic=>some (.dict [])
 |_=>none
def pyDs:List D->Option (List PyData)
 | []=>some []
 |d::ds=>match pyD d,pyDs ds with
  |some x,some xs=>some (x::xs)
  |_,_=>none
end
section
variable{X:Cx}{σ:L2.St}{pins:List (Addr×Obj)}{H:Hp}{s:Shared}
def uT(K:PySem.W.Frag):Prop:=∃o es n,K.lookup sysModules=some o/\o.data=.dict es n
theorem sm_ne(I:Inv X pins σ H s)(S:uT X.K){a:Addr}{o:Obj}{vs:Array Value}{n:Nat}(e1:s.heap.get? a=some o)(e2:o.data=.seq vs n):sysModules≠a:=by
 obtain⟨p,es,m,q1,q2⟩:=S;intro e;have:=I.kIn _ _ q1;rw[e,e1]at this;cases this;rw[q2]at e2;cases e2
mutual
theorem jU(I:Inv X pins σ H s)(S:uT X.K):∀{d:D} {v:V} {u:Value} {x:PyData},Rep X.K X.mg H d v->zv v u->pyD d=some x->∃as,Reads s.heap u x as/\sysModules∉as
 | .non,v,u,x,r,rv,e=>by cases e;rw[yf r]at rv;cases (show u=Value.none from rv);exact⟨_,.none,by simp⟩
 | .bl b,v,u,x,r,rv,e=>by cases e;rw[yD r]at rv;cases (show u=Value.bool b from rv);exact⟨_,.bool b,by simp⟩
 | .int i,v,u,x,r,rv,e=>by cases e;rw[zL r]at rv;obtain⟨t,q⟩:=(show ∃t,u=Value.int i t from rv);subst q;exact⟨_,.int i t,by simp⟩
 | .str y,v,u,x,r,rv,e=>by cases e;rw[jE r]at rv;obtain⟨t,q⟩:=(show ∃t,u=Value.str y t from rv);subst q;exact⟨_,.str y t,by simp⟩
 | .tup ds,v,u,x,r,rv,e=>by
  obtain⟨a,xs,rfl,h1,h2⟩:=zU r;cases (show u=Value.ref a from rv);obtain⟨its,r1,p,_⟩:=I.tuple h1;obtain⟨o,e1,e2,n,e3⟩:=p;simp only[pyD]at e;cases eq:pyDs ds with
  |none=>rw[eq]at e;cases e
  |some ys =>
   rw[eq]at e;cases e;obtain⟨as,q,z⟩:=readss_of I S h2 r1 eq;exact⟨_,.tuple e1 e2 e3 (by simpa using q),z⟩
 | .lst ds,v,u,x,r,rv,e=>by
  obtain⟨a,xs,rfl,h1,h2⟩:=zM r;cases (show u=Value.ref a from rv);obtain⟨its,r1,p,_⟩:=I.list h1;obtain⟨o,n,e1,e2,_,e3⟩:=p;simp only[pyD]at e;cases eq:pyDs ds with
  |none=>rw[eq]at e;cases e
  |some ys =>
   rw[eq]at e;cases e;obtain⟨as,q,z⟩:=readss_of I S h2 r1 eq;exact⟨_,.list e1 e2 e3 (by simpa using q),λhm=>(mem_cons.mp hm).elim (sm_ne I S e1 e3) z⟩
 | .fn y,v,u,x,r,rv,e=>by cases e
 | .dic,v,u,x,r,rv,e=>by
  cases e;simp only[Rep]at r;obtain⟨a,rfl,h1⟩:=r;cases (show u=Value.ref a from rv);obtain⟨_,hS,vs,kv,o,es,ep,g1,g2,g3,_,g5,_⟩:(([]:List (Key×V)).length<=sizeLine)/\(a==sysModules)=false/\∃vs,KV [] vs/\s.heap.DictOf (Wc X.prog X.w) a vs:=I.hok a _ h1;cases kv;have e0:es.toList=[]:=by cases h:es.toList with|nil=>rfl|cons y ys=>rw[h]at g5;cases g5
  refine⟨_,.dict g1 g2.1 g3 (kvs:=[]) (by rw[e0];exact .nil) (by rw[e0];exact .nil),λhm=>?_⟩;rcases mem_cons.mp hm with hm|hm
  ·exact beq_eq_false_iff_ne.mp hS hm.symm
  ·cases hm
 | .exn y,v,u,x,r,rv,e=>by cases e
theorem readss_of(I:Inv X pins σ H s)(S:uT X.K):∀{ds:List D} {vs:List V} {us:List Value} {xs:List PyData},Reps X.K X.mg H ds vs->zd vs us->pyDs ds=some xs->∃as,ReadsAll s.heap us xs as/\sysModules∉as
 | [],vs,us,xs,r,rv,e=>by
  cases e;simp only[Reps]at r;subst r;cases rv;exact⟨_,.nil,by simp⟩
 |d::ds,vs,us,xs,r,rv,e=>by
  simp only[Reps]at r;obtain⟨v,vs',rfl,r1,r2⟩:=r;cases rv with
  |cons p q =>
   simp only[pyDs]at e;cases e1:pyD d with
   |none=>rw[e1]at e;cases e
   |some x =>
    cases e2:pyDs ds with
    |none=>rw[e1,e2]at e;cases e
    |some ys =>
     rw[e1,e2]at e;cases e;obtain⟨as,a1,z1⟩:=jU I S r1 p e1;obtain⟨bs,a2,z2⟩:=readss_of I S r2 q e2;exact⟨_,.cons a1 a2,λhm=>(mem_append.mp hm).elim z1 z2⟩
end
def wB(d:D):Option R:=match pyD d with
 |some x=>if x.showable=true/\x.depth<=60/\x.shown.length<=cap then some (.val (.str x.shown))else none
 |none=>none
theorem ZA(S:uT X.K)(hg:X.A.guards=some [])(hu:X.A.units+64<cLine):jA X (.builtin "repr") (λxs H Q=>∃x d r,xs=[x]/\Rep X.K X.mg H d x/\wB d=some r/\∃t,r=.val (.str t)/\Q (.str t) H):=by
 intro pins s σ H xs us Q I rv h;obtain⟨x,d,r,rfl,rd,er,t,rfl,q⟩:=h;obtain⟨u,rfl,ru⟩:=rv.one;unfold wB at er;cases ep:pyD d with
 |none=>rw[ep]at er;cases er
 |some p =>
  rw[ep]at er;dsimp only at er;split at er
  ·rename_i hc
   cases er;obtain⟨as,rs,z⟩:=jU I S rd ru ep;have fin:∀h' tk tk2,(∀b o,s.heap.get? b=some o->h'.get? b=some o)->EP X pins σ Q (.str p.shown tk) {s with heap:=h',toks:=tk2}:=λh' tk tk2 hk=>⟨.str _,H,I.kept (t':=tk2) hk,⟨_,rfl⟩,q⟩
   have fin0:EP X pins σ Q (.str p.shown s.toks) {s with toks:=s.toks+1}:=⟨.str _,H,I.tok _,⟨_,rfl⟩,q⟩
   cases rs with
   |none=>exact PySem.P.repr_of_none fin0
   |bool b=>exact PySem.P.repr_of_bool fin0
   |int i t =>
    have hi:(decide (i.natAbs.log2<1920))=true:=hc.1;exact PySem.P.repr_of_int (of_decide_eq_true hi) fin0
   |str y t=>exact PySem.P.repr_of_str fin0 (jf hc.2.2)
   |list h1 h2 h3 h4=>exact repr_of_reads' (.list h1 h2 h3 h4) hc.1 (λ_=>z) hg (by have:=hc.2.1;omega) (λ_ _ e=>e) (λh' u tk hk=>fin h' u tk hk) (jf hc.2.2)
   |tuple h1 h2 h3 h4=>exact repr_of_reads' (.tuple h1 h2 h3 h4) hc.1 (λ_=>z) hg (by have:=hc.2.1;omega) (λ_ _ e=>e) (λh' u tk hk=>fin h' u tk hk) (jf hc.2.2)
   |dict h1 h2 h3 h4 h5=>exact repr_of_reads' (.dict h1 h2 h3 h4 h5) hc.1 (λ_=>z) hg (by have:=hc.2.1;omega) (λ_ _ e=>e) (λh' u tk hk=>fin h' u tk hk) (jf hc.2.2)
  ·cases er
def reprG:List D->Option R
 | [d]=>wB d
 |_=>none
theorem co_repr{K:PySem.W.Frag}{mg:Str->Option Value}:COk K mg (λxs H Q=>∃x d r,xs=[x]/\Rep K mg H d x/\wB d=some r/\∃t,r=.val (.str t)/\Q (.str t) H) reprG:=by
 intro M H Z xs ds res Q f r e k
 match ds,e with
 | [d],e =>
  simp only[Reps]at r;obtain⟨v,r',rfl,r1,rfl⟩:=r;have e':=e;replace e':wB d=some res:=e';unfold wB at e';cases ep:pyD d with
  |none=>rw[ep]at e';cases e'
  |some p =>
   rw[ep]at e';dsimp only at e';split at e'
   ·cases e'
    exact⟨v,d,_,rfl,r1.mono zF,e,_,rfl,k.flat f rfl⟩
   ·cases e'
def zAN:Slot->Option R
 | .own ds=>wB (.lst ds)
 | .par ds=>wB (.lst ds)
 | .val d=>wB d
 | .emp=>none
def WJ(i:Nat):ME:=λE=>match E[i]? with
 |some s=>match zAN s with
  |some r=>.ok (r,E)
  |none=>.stuck
 |none=>.stuck
theorem Gs{d:D}{r:R}(h:wB d=some r):∃t,r=.val (.str t):=by
 unfold wB at h;cases ep:pyD d with
 |none=>rw[ep]at h;cases h
 |some p =>
  rw[ep]at h;dsimp only at h;split at h
  ·cases h;exact⟨_,rfl⟩
  ·cases h
theorem Gu{i:Nat}{Q:VK}(h:tM X (WJ i) σ H Q):tCB (λxs H Q=>∃x d r,xs=[x]/\Rep X.K X.mg H d x/\wB d=some r/\∃t,r=.val (.str t)/\Q (.str t) H) (vw (vq i) tNil) σ H Q:=by
 obtain⟨M,E,hl,f,k⟩:=h;unfold WJ at k;cases e1:E[i]? with
 |none=>rw[e1]at k;exact k.elim
 |some s =>
  rw[e1]at k;dsimp only at k;obtain⟨o,h1,h2⟩:=jm hl e1;cases e2:zAN s with
  |none=>rw[e2]at k;exact k.elim
  |some r =>
   rw[e2]at k;have fin:∀{v:V} {d:D},o=some v->Rep X.K X.mg H d v->wB d=some r->tCB (λxs H Q=>∃x d r,xs=[x]/\Rep X.K X.mg H d x/\wB d=some r/\∃t,r=.val (.str t)/\Q (.str t) H) (vw (vq i) tNil) σ H Q:=λ{v d} ev rr er=>by
    obtain⟨t,rfl⟩:=Gs er;subst ev;exact⟨v,h1,v,d,_,rfl,rr,er,t,rfl,k _ H ((Got.refl (T0:=[]) hl f).flat (d:=.str t) rfl)⟩
   have key:∀{ds:List D},s.list?=some ds->∃v,o=some v/\Rep X.K X.mg H (.lst ds) v:=λ{ds} hl1=>by
    obtain⟨a,xs,ev,q1,_,q3⟩:=f.own _ s ds h2 hl1;exact⟨_,ev,by simp only[Rep];exact⟨a,xs,rfl,SqL.of q1,q3.mono zF⟩⟩
   cases s with
   |emp=>cases e2
   |own ds=>obtain⟨v,ev,rr⟩:=key rfl;exact fin ev rr e2
   |par ds=>obtain⟨v,ev,rr⟩:=key rfl;exact fin ev rr e2
   |val d =>
    obtain⟨v',ev,rr⟩:=f.val _ _ h2;exact fin ev (rr.mono zF) e2
theorem zAO:bootBuiltins "repr"=some (.builtin "repr"):=by decide +kernel
theorem zAP(i:Nat){x:Str}{p p1 pos:Pos}(S:uT X.K)(hgd:X.A.guards=some [])(hu:X.A.units+64<cLine)(hv:PE X (.Name x p1) (vq i))(hg:Gl X "repr")(hm:X.mg "repr"=none) :
  EOk X (.Call (.Name "repr" p) [.Name x p1] [] pos) (WJ i) :=
 zi (wq (ZA S hgd hu) hg hm zAO (yR hv wo (zI rfl)) (by decide) (by decide) (zI rfl) (yd rfl)) λσ H Q=>Gu
end
end DV
namespace L2
open PySem PySem.Spec PyProof.Rows
section
variable{X:Cx}{pins:List (Addr×Obj)}{σ:List (Option V)}{H:Hp}{s:Shared}{h':Heap}
end
end L2
namespace DV
open PySem
section
variable{prog:Program}{w:World}{A:Around}{E:Value->Shared->Prop}{s:Shared}
structure Src(prog:Program)(w:World)(A:Around)(it l:Addr)(items:Array Value)(st:Nat->Heap->Prop):Prop where
 keep:∀{i:Nat} {h h':Heap},st i h->(∀b,b=it\/b=l->∀o,h.get? b=some o->h'.get? b=some o)->st i h'
 lt:∀{i:Nat} {h:Heap},st i h->it<h.objs.size
 next:∀{i:Nat} {s:Shared} {Q:Value->Shared->Prop} {E:Value->Shared->Prop},st i s.heap->(∀x,items[i]?=some x->∀h',st (i+1) h'->Heap.SameBut it s.heap h'->Q x {s with heap:=h'}) ->
  (items[i]?=none->∀h' e,Heap.ExtBut it s.heap h'->(∃o,h'.get? e=some o/\o.cls=.type "StopIteration")->E (.ref e) {s with heap:=h'})->wpAny (model prog w) A (Builtin.SmallTypes.nextOf (.ref it)) Q E s
end
end DV
namespace DV
open PySem
abbrev itO(c:String)(l:Addr):Obj:={cls:=.type c,data:=.fields #[.ref l,.int 0 0]}
structure Zp(h h':Heap)(c1 c2:String)(l1 l2:Addr):Prop where
 z:IsZip h' (h.objs.size+4) (h.objs.size+2) (h.objs.size+3) .none
 a:IsPair h' (h.objs.size+2) (.ref h.objs.size) (.ref (h.objs.size+1))
 b:IsPair h' (h.objs.size+3) .none .none
 i1:h'.get? h.objs.size=some (itO c1 l1)
 i2:h'.get? (h.objs.size+1)=some (itO c2 l2)
 kp:∀c o,h.get? c=some o->h'.get? c=some o
section
variable{prog:Program}{w:World}{A:Around}{E:Value->Shared->Prop}{s:Shared}
end
end DV
namespace DV
open PySem L2 PySem.Spec PyProof.Rows
section
variable{X:Cx}{pins:List (Addr×Obj)}{σ:L2.St}{H:Hp}{s:Shared}{a b:Addr}{xs ys:List V}
end
structure Five(z TI TO i1 i2:Addr):Prop where
 a1:TI≠z
 a2:TO≠z
 a3:i1≠z
 a4:i2≠z
 a5:TI≠TO
 a6:TI≠i1
 a7:TI≠i2
 a8:TO≠i1
 a9:TO≠i2
 a10:i1≠i2
end DV
namespace DV
open PySem L2 PySem.Spec PyProof.Rows
section
variable{X:Cx}{K:PySem.W.Frag}{mg:Str->Option Value}{σ:L2.St}{H:Hp}
end
end DV
namespace DV
open PySem L2
section
variable{X:Cx}
end
end DV
namespace DV
open PySem L2
section
variable{X:Cx}{K:PySem.W.Frag}{mg:Str->Option Value}{σ:L2.St}{M:Addr->Prop}{E:zR}{H:Hp}
end
end DV
namespace DV
open PySem L2 PySem.Spec PyProof.Rows
section
variable{prog:Program}{w:World}{A:Around}{E:Value->Shared->Prop}{s:Shared}
end
end DV
namespace DV
open PySem L2 PySem.Spec PyProof.Rows
open AutoSeq1 (wpAny_loadPart')
section
variable{prog:Program}{w:World}{A:Around}{E:Value->Shared->Prop}{s:Shared}
structure En(h h':Heap)(c:String)(l:Addr):Prop where
 e:IsEnum h' (h.objs.size+1) h.objs.size 0 .none
 i:h'.get? h.objs.size=some (itO c l)
 kp:∀b o,h.get? b=some o->h'.get? b=some o
end
section
variable{X:Cx}{K:PySem.W.Frag}{mg:Str->Option Value}{σ:L2.St}{H:Hp}
end
end DV
namespace PySem
open Sem (wp)
open AutoSeq1 (wpAny_loadPart')
section
variable{prog:Program}{w:World}{A:Around}{E:Value->Shared->Prop}{s:Shared}
end
end PySem
namespace L2
open PySem PySem.Spec PyProof.Rows
section
variable{X:Cx}
end
end L2
namespace DV
open PySem L2
section
variable{X:Cx}
end
end DV
namespace DV
open PySem L2
section
variable{X:Cx}{K:PySem.W.Frag}{mg:Str->Option Value}{σ σ1:St}{M:Addr->Prop}{E E1:zR}{H H1:Hp}
end
end DV
namespace DV
open PySem L2
mutual
/-- no list within -/
def nol:D->Bool
 | .non=>true
 | .bl _=>true
 | .int _=>true
 | .str _=>true
 | .fn _=>true
 | .tup ds=>nols ds
 |_=>false
def nols:List D->Bool
 | []=>true
 |d::ds=>nol d&&nols ds
end
def borS:Slot->Bool
 | .own ds=>nols ds
 | .par ds=>nols ds
 |_=>true
open Classical in
def zAQ(i:Nat)(t:MT):MT:=λE=>match E[i]? with
 |some (.own ds)=>if(E.set i .emp).all borS=true then(match t (E.set i (.val (.lst ds)))with
  | .ok (b,E1)=>if E1=E.set i (.val (.lst ds))then .ok (b,E)else .stuck
  |_=>.stuck)else .stuck
 |some (.val _)=>t E
 |_=>.stuck
section
variable{X:Cx}{K:PySem.W.Frag}{mg:Str->Option Value}{P P':Addr->Prop}{H:Hp}{a:Addr}{xs:List V}
mutual
theorem rep_nol(ha:H a=some (.lst xs))(hp:∀b,P' b->P b\/b=a):∀(d:D) (v:V),nol d=true->Rep K mg (Hm P H) d v->Rep K mg (Hm P' H) d v
 | .non,v,_,h=>h
 | .bl _,v,_,h=>h
 | .int _,v,_,h=>h
 | .str _,v,_,h=>h
 | .fn _,v,_,h=>h
 | .tup ds,v,n,h=>by
  simp only[Rep]at h ⊢;obtain⟨c,ys,e,s,r⟩:=h;refine⟨c,ys,e,?_,reps_nol ha hp ds ys n r⟩;rcases s with(s|⟨o,s⟩)|s
  ·obtain⟨s1,s2⟩:=zN.mp s
   refine .inl (.inl (zN.mpr ⟨λq=>?_,s2⟩));rcases hp c q with q|q
   ·exact s1 q
   ·subst q;rw[ha]at s2;cases s2
  ·obtain⟨s1,s2⟩:=zN.mp s
   refine .inl (.inr ⟨o,zN.mpr ⟨λq=>?_,s2⟩⟩);rcases hp c q with q|q
   ·exact s1 q
   ·subst q;rw[ha]at s2;cases s2
  ·exact .inr s
 | .lst _,v,n,h=>by cases n
 | .dic,v,n,h=>by cases n
 | .exn _,v,n,h=>by cases n
theorem reps_nol(ha:H a=some (.lst xs))(hp:∀b,P' b->P b\/b=a):∀(ds:List D) (vs:List V),nols ds=true->Reps K mg (Hm P H) ds vs->Reps K mg (Hm P' H) ds vs
 | [],vs,_,h=>h
 |d::ds,vs,n,h=>by
  simp only[Reps]at h ⊢;obtain⟨v,r,e,h1,h2⟩:=h;obtain⟨n1,n2⟩:=Bool.and_eq_true_iff.mp n;exact⟨v,r,e,rep_nol ha hp d v n1 h1,reps_nol ha hp ds r n2 h2⟩
end
theorem ok_bor(i:Nat){e:Expr}{t:MT}(h:TOk X e t):TOk X e (zAQ i t):=Zz h λσ H Q ⟨M,E,hl,f,k⟩=>by
 unfold zAQ at k;cases ei:E[i]? with
 |none=>rw[ei]at k;exact k.elim
 |some sl =>
 rw[ei]at k;cases sl with
 |emp=>exact k.elim
 |par ds=>exact k.elim
 |val d=>exact⟨M,E,hl,f,k⟩
 |own ds =>
  dsimp only at k;by_cases hb:(E.set i .emp).all borS=true
  ·rw[if_pos hb]at k
   obtain⟨o,h1,h2⟩:=JQ hl ei;obtain⟨a,xs,rfl,q1,q2,q3⟩:=f.own o (.own ds) ds (mem_of_getElem? h2) rfl;have hlt:i<(σ.zip E).length:=(List.getElem?_eq_some_iff.mp h2).1;have p:(σ.zip E).Perm ((some (.ref a),R.slot (.own ds))::(σ.zip E).eraseIdx i):=by
    have:=zh (some (V.ref a),Slot.own ds) (σ.zip E) i hlt;rw[J3 h2]at this;exact this
   have f1:=(f.perm p).frz;have f2:FR X.K X.mg M H ((σ.zip E).set i (some (.ref a),.val (.lst ds))):=f1.perm (zh _ _ _ hlt).symm;have ez:σ.zip (E.set i (.val (.lst ds)))=(σ.zip E).set i (some (.ref a),.val (.lst ds)):=z3 (.val (.lst ds)) h1;rw[<- ez]at f2;have pz:(σ.zip (E.set i (.val (.lst ds)))).Perm ((some (.ref a),Slot.val (.lst ds))::(σ.zip E).eraseIdx i):=by rw[ez];exact zh _ _ _ hlt
   -- what the one zw and the other
   have oz:∀b,b∈zw (σ.zip E)↔b=a\/b∈zw (σ.zip (E.set i (.val (.lst ds)))):=λb=>by
    constructor
    ·intro q
     have q:=zB p b q;rcases mem_cons.mp (show b∈a::zw ((σ.zip E).eraseIdx i)from q)with q|q
     ·exact .inl q
     ·exact .inr (zB pz.symm b (by rw[zS];exact q))
    ·intro q
     rcases q with q|q
     ·subst q;exact yu (mem_of_getElem? h2) rfl rfl
     ·have q:=zB pz b q
      rw[zS]at q;exact zB p.symm b (mem_cons_of_mem a q)
   have na:¬Mo M (σ.zip (E.set i (.val (.lst ds)))) a:=λq=>by
    rcases q with q|q
    ·exact q2 q
    ·have q:=zB pz a q
     rw[zS]at q;have nd:(zw ((some (V.ref a),Slot.own ds)::(σ.zip E).eraseIdx i)).Nodup:=(p.filterMap WZ).nodup_iff.mp f.nd;exact(nodup_cons.mp nd).1 q
   have mo:∀b,Mo M (σ.zip E) b->Mo M (σ.zip (E.set i (.val (.lst ds)))) b\/b=a:=λb q=>by
    rcases q with q|q
    ·exact .inl (.inl q)
    ·rcases(oz b).mp q with q|q
     ·exact .inr q
     ·exact .inl (.inr q)
   have mo':∀b,Mo M (σ.zip (E.set i (.val (.lst ds)))) b->Mo M (σ.zip E) b:=λb q=>by
    rcases q with q|q
    ·exact .inl q
    ·exact .inr ((oz b).mpr (.inr q))
   refine⟨M,E.set i (.val (.lst ds)),by simp[hl],f2,?_⟩;cases et:t (E.set i (.val (.lst ds)))with
   |stuck=>rw[et]at k;exact k.elim
   |exc x E1=>rw[et]at k;exact k.elim
   |ok pr =>
    obtain⟨b,E1⟩:=pr;rw[et]at k;dsimp only at k;by_cases hE:E1=E.set i (.val (.lst ds))
    ·rw[if_pos hE]at k
     subst hE;intro H' g;refine k H' ⟨hl,?_,?_,PKp.refl⟩
     ·have ha:H' a=some (.lst xs):=(zN.mp (g.st.same a _ (zN.mpr ⟨na,q1⟩))).2
      have sm:JO (Hm (Mo M (σ.zip E)) H) (Hm (Mo M (σ.zip E)) H'):=λc u x=>by
       obtain⟨x1,x2⟩:=zN.mp x;exact zN.mpr ⟨x1,(zN.mp (g.st.same c u (zN.mpr ⟨λq=>x1 (mo' c q),x2⟩))).2⟩
      refine⟨λo d q=>?_,λo s es q es'=>?_,f.nd,g.fr.mal⟩
      ·obtain⟨v,e1,r⟩:=f.val o d q
       exact⟨v,e1,r.mono sm⟩
      ·obtain⟨c,ys,e1,e2,e3,r⟩:=f.own o s es q es'
       by_cases hc:c=a
       ·subst hc
        rw[e2]at q1;cases q1;exact⟨c,_,e1,ha,e3,r.mono sm⟩
       ·-- another one's list
        subst e1;obtain⟨j,hj⟩:=List.getElem?_of_mem q;replace hj:(σ.zip E)[j]?=some (some (.ref c),s):=hj;have hij:j≠i:=λq=>by
         subst q;rw[hj]at h2;cases h2;exact hc rfl
        have hj':(σ.zip (E.set i (.val (.lst ds))))[j]?=some (some (.ref c),s):=by
         rw[ez,getElem?_set_ne (Ne.symm hij)];exact hj
        have nb:nols es=true:=by
         have hEj:(E.set i .emp)[j]?=some s:=by
          rw[getElem?_set_ne (Ne.symm hij)];exact(List.getElem?_zip_eq_some.mp hj).2
         have:=all_eq_true.mp hb s (mem_of_getElem? hEj);cases s with
         |emp=>cases es'
         |val d=>cases es'
         |own ds'=>cases es';exact this
         |par ds'=>cases es';exact this
        obtain⟨c',ys',e1',e2',e3',r'⟩:=g.fr.own _ s es (mem_of_getElem? hj') es';cases e1';exact⟨c,ys',rfl,e2',e3',reps_nol ha mo es ys' nb r'⟩
     ·refine⟨λc u x=>?_,g.st.keep⟩
      obtain⟨x1,x2⟩:=zN.mp x;exact zN.mpr ⟨x1,(zN.mp (g.st.same c u (zN.mpr ⟨λq=>x1 (mo' c q),x2⟩))).2⟩
    ·rw[if_neg hE]at k;exact k.elim
  ·rw[if_neg hb]at k;exact k.elim
end
end DV
namespace DV
open PySem L2
def Gv:D->Option (List Int)
 | .tup ds=>JW ds
 |_=>none
def Jw:List D->Option (List (List Int))
 | []=>some []
 |d::ds=>match Gv d,Jw ds with
  |some a,some as=>some (a::as)
  |_,_=>none
def pyI(a:List Int):PyData:=.tuple (a.map PyData.int)
theorem WK:∀{ds:List D} {a:List Int},JW ds=some a->pyDs ds=some (a.map PyData.int)
 | [],a,e=>by cases e;rfl
 |d::ds,a,e=>by
  cases d with
  |int i =>
   simp only[JW]at e;cases h:JW ds with
   |none=>rw[h]at e;cases e
   |some b=>rw[h]at e;cases e;simp only[pyDs,pyD,WK h];rfl
  |_=>cases e
theorem YF{d:D}{a:List Int}(e:Gv d=some a):pyD d=some (pyI a):=by
 cases d with
 |tup ds=>simp only[pyD,WK (show JW ds=some a from e)];rfl
 |_=>cases e
theorem j9:∀{ds:List D} {as:List (List Int)},Jw ds=some as->pyDs ds=some (as.map pyI)
 | [],as,e=>by cases e;rfl
 |d::ds,as,e=>by
  simp only[Jw]at e;cases h:Gv d with
  |none=>rw[h]at e;cases e
  |some a =>
   cases h2:Jw ds with
   |none=>rw[h,h2]at e;cases e
   |some bs=>rw[h,h2]at e;cases e;simp only[pyDs,YF h,j9 h2];rfl
theorem w8:∀a:List Int,PyData.canLayAll0 (a.map PyData.int)=true
 | []=>rfl
 |i::a=>by simp only[map_cons,PyData.canLayAll0,PyData.canLay0,w8 a];rfl
theorem w9:∀as:List (List Int),PyData.canLayAll0 (as.map pyI)=true
 | []=>rfl
 |a::as=>by simp only[map_cons,PyData.canLayAll0,w9 as,pyI,PyData.canLay0,w8 a];rfl
theorem vV:∀a:List Int,PyData.depthAll (a.map PyData.int)<=1
 | []=>by simp[PyData.depthAll]
 |i::a=>by have:=vV a;simp only[map_cons,PyData.depthAll,PyData.depth];omega
theorem Wr(a:List Int):(pyI a).depth<=2:=by
 have:=vV a;simp only[pyI,PyData.depth];omega
theorem vW:∀a b:List Int,PyData.eqvAll (a.map PyData.int) (b.map PyData.int)=decide (a=b)
 | [],[]=>rfl
 | [],_::_=>rfl
 |_::_,[]=>rfl
 |i::a,j::b=>by
  simp only[map_cons,PyData.eqvAll,PyData.eqv,vW a b,List.cons.injEq,Bool.decide_and];rfl
theorem Ws(a b:List Int):PyData.eqv (pyI a) (pyI b)=decide (a=b):=by
 simp only[pyI,PyData.eqv,vW]
theorem Wt(a:List Int):∀as:List (List Int),(as.map pyI).any (λy=>PyData.eqv y (pyI a))=as.contains a
 | []=>rfl
 |b::as=>by
  rw[map_cons,any_cons,Wt a as,Ws,List.contains_cons];congr 1;by_cases h:b=a
  ·subst h;simp
  ·have:¬a=b:=λe=>h e.symm
   simp[h,this]
def inT(neg:Bool)(d:D):D->Option R
 | .lst ds=>match Gv d,Jw ds with
  |some a,some as=>some (.val (.bl (if neg then !as.contains a else as.contains a)))
  |_,_=>none
 |_=>none
def inG(neg:Bool)(d e:D):Option R:=match inF neg d e with
 |some r=>some r
 |none=>inT neg d e
def rInT(K:PySem.W.Frag)(mg:Str->Option Value)(neg:Bool):R2:=λx y H Q=>∃d ds a as,Rep K mg H d x/\Rep K mg H (.lst ds) y/\Gv d=some a/\Jw ds=some as/\Q (.bl (if neg then !as.contains a else as.contains a)) H
section
variable{X:Cx}{σ:L2.St}{pins:List (Addr×Obj)}{H:Hp}{s:Shared}{K:PySem.W.Frag}{mg:Str->Option Value}
theorem zBC(S:uT X.K)(hu:X.A.units+20<cLine):OpR X (compareOp .In) (rInT X.K X.mg false):=by
 intro pins s σ H x y v u Q I rx ry h;obtain⟨d,ds,a,as,r1,r2,e1,e2,q⟩:=h;obtain⟨bs,rd,_⟩:=jU I S r1 rx (YF e1);obtain⟨cs,rl,_⟩:=jU I S r2 ry (x:=.list (as.map pyI)) (by simp only[pyD,j9 e2];rfl);refine SeqAt.in_list_reads rl rd (w9 as) (by simp only[pyI,PyData.canLay0,w8]) (by have:=Wr a;have:=Nat.min_le_right (PyData.depthAll (as.map pyI)) (pyI a).depth;omega) ⟨.bl _,H,I,rfl,?_⟩;rw[Wt];exact q
theorem Gw(S:uT X.K)(hu:X.A.units+20<cLine):OpR X (compareOp .NotIn) (rInT X.K X.mg true):=by
 intro pins s σ H x y v u Q I rx ry h;obtain⟨d,ds,a,as,r1,r2,e1,e2,q⟩:=h;obtain⟨bs,rd,_⟩:=jU I S r1 rx (YF e1);obtain⟨cs,rl,_⟩:=jU I S r2 ry (x:=.list (as.map pyI)) (by simp only[pyD,j9 e2];rfl);refine SeqAt.notIn_list_reads rl rd (w9 as) (by simp only[pyI,PyData.canLay0,w8]) (by have:=Wr a;have:=Nat.min_le_right (PyData.depthAll (as.map pyI)) (pyI a).depth;omega) ⟨.bl _,H,I,rfl,?_⟩;rw[Wt];exact q
theorem vX{neg:Bool}:ROk K mg (λx y H Q=>rIn K neg x y H Q\/rInT K mg neg x y H Q) (inG neg):=by
 intro M H Z x y d1 d2 res Q f r1 r2 e k;unfold inG at e;cases h:inF neg d1 d2 with
 |some r=>rw[h]at e;cases e;exact .inl (ro_in M H Z x y d1 d2 res Q f r1 r2 h k)
 |none =>
  rw[h]at e;cases d2 with
  |lst ds =>
   replace e:(match Gv d1,Jw ds with
    |some a,some as=>some (R.val (.bl (if neg then !as.contains a else as.contains a)))
    |_,_=>none)=some res:=e
   cases ha:Gv d1 with
   |none=>rw[ha]at e;cases e
   |some a =>
    cases hs:Jw ds with
    |none=>rw[ha,hs]at e;cases e
    |some as =>
     rw[ha,hs]at e;cases e;exact .inr ⟨d1,ds,a,as,r1.mono zF,r2.mono zF,ha,hs,k.flat f rfl⟩
  |_=>cases e
def idxT:D->D->Option R
 | .lst ds,d=>match Gv d,Jw ds with
  |some a,some as=>(match as.findIdx? (·==a)with
   |some j=>if j<1000000 then some (.val (.int (j:Nat)))else none
   |none=>none)
  |_,_=>none
 |_,_=>none
def idxG(d e:D):Option R:=match idxD d e with
 |some r=>some r
 |none=>idxT d e
def rIdxT(K:PySem.W.Frag)(mg:Str->Option Value)(x:V)(vs:List V)(H:Hp)(Q:VK):Prop:=∃y d ds a as j,vs=[y]/\Rep K mg H d y/\Rep K mg H (.lst ds) x/\Gv d=some a/\Jw ds=some as/\as.findIdx? (·==a)=some j/\j<1000000/\Q (.int (j:Nat)) H
theorem Gy(S:uT X.K)(hu:X.A.units+20<cLine):MtM X "list.index" (rIdxT X.K X.mg):=by
 intro pins s σ H x vs v us Q I rx rv h;obtain⟨y,d,ds,a,as,j,rfl,r1,r2,e1,e2,hj,hj2,q⟩:=h;obtain⟨u,rfl,ru⟩:=rv.one;obtain⟨bs,rd,_⟩:=jU I S r1 ru (YF e1);obtain⟨l,xs,rfl,hs,rs⟩:=zM r2;cases rx;obtain⟨its,r,p,_⟩:=I.list hs;obtain⟨⟨c0,dd,dt,sl⟩,n,e,ec,ed,es⟩:=p;dsimp only at ec ed es;subst ec ed es;obtain⟨cs,rl,_⟩:=readss_of I S rs r (j9 e2);have hm:=SeqAt.readsAll_map _ _ _ (w9 as) rl;have hlen:its.length=as.length:=by have:=congrArg length hm;simpa using this
 have at_:∀m (h:m<its.length) (h':m<as.length),SeqAt.readOf s.heap its[m]=pyI as[m]:=λm h h'=>by
  have h1:(its.map (SeqAt.readOf s.heap))[m]'(by simpa using h)=(as.map pyI)[m]'(by simpa using h'):=by simp only[hm]
  simpa using h1
 obtain⟨h1,h2,h3⟩:=List.findIdx?_eq_some_iff_getElem.mp hj;refine call_meets PySem.F.slot_list_index ⟨_,e,rfl⟩ PySem.F.entry_list_index (PySem.F.args_list_index_2 _ _) (SeqAt.list_indexAt l _ n none sl u (λy=>PyData.eqv (SeqAt.readOf s.heap y) (pyI a)) j (by simpa[hlen]using h1) (by omega) ?_ ?_) ⟨e,SeqAt.items_eqAt (by simpa using rl) rd (w9 as) (by simp only[pyI,PyData.canLay0,w8]) (by have:=Wr a;have:=Nat.min_le_right (PyData.depthAll (as.map pyI)) (pyI a).depth;omega),⟨.int _,H,I.tok _,⟨_,rfl⟩,q⟩⟩
 ·have:=at_ j (by omega) h1
  show PyData.eqv (SeqAt.readOf s.heap its[j]) (pyI a)=true
  rw[this,Ws];simpa using h2
 ·intro m hm' hlt
  have hm2:m<its.length:=by simpa using hm'
  have:=at_ m hm2 (by omega);show PyData.eqv (SeqAt.readOf s.heap its[m]) (pyI a)=false;rw[this,Ws];have:=h3 m hlt;simpa using this
theorem MtM.or{id:String}{r r':V->List V->Hp->VK->Prop}(h:MtM X id r)(h':MtM X id r'):MtM X id (λx vs H Q=>r x vs H Q\/r' x vs H Q):=by
 intro pins s σ H x vs v us Q I rx rv q;rcases q with q|q
 ·exact h pins s σ H x vs v us Q I rx rv q
 ·exact h' pins s σ H x vs v us Q I rx rv q
theorem ro_idxG:ROk K mg (λx y H Q=>(∃l,x=.ref l/\∃(bs:List Bool) (k:Bool) (j:Nat),[y]=[.bl k]/\SqL K H l (bs.map V.bl)/\bs.findIdx? (·==k)=some j/\j<1000000/\Q (.int (j:Nat)) H)\/rIdxT K mg x [y] H Q) idxG:=by
 intro M H Z x y d1 d2 res Q f r1 r2 e k;unfold idxG at e;cases h:idxD d1 d2 with
 |some r=>rw[h]at e;cases e;exact .inl (ro_idx M H Z x y d1 d2 res Q f r1 r2 h k)
 |none =>
  rw[h]at e;cases d1 with
  |lst ds =>
   replace e:(match Gv d2,Jw ds with
    |some a,some as=>(match as.findIdx? (·==a)with
     |some j=>if j<1000000 then some (R.val (.int (j:Nat)))else none
     |none=>none)
    |_,_=>none)=some res:=e
   cases ha:Gv d2 with
   |none=>rw[ha]at e;cases e
   |some a =>
    cases hs:Jw ds with
    |none=>rw[ha,hs]at e;cases e
    |some as =>
     rw[ha,hs]at e;dsimp only at e;cases hj:as.findIdx? (·==a)with
     |none=>rw[hj]at e;cases e
     |some j =>
      rw[hj]at e;dsimp only at e;split at e
      ·rename_i hl
       cases e;exact .inr ⟨y,d2,ds,a,as,j,rfl,r2.mono zF,r1.mono zF,ha,hs,hj,hl,k.flat f rfl⟩
      ·cases e
  |_=>cases e
theorem ok_idxG{o e:Expr}{a b:ME}{apos cpos:Pos}(S:uT X.K)(hu:X.A.units+20<cLine)(ho:EOk X o a)(he:EOk X e b)(hbase:attributeBase o "index" X.env (eval o X.env)=eval o X.env)(hs:zO e=false)(hline:(apos.endLine==cpos.line)=true)
  (hfew:((backTo cpos (starEach (e::[]) X.env)).all (λx=>!x.1)&&(backToKw cpos (keywordEach [] X.env)).all (λx=>x.1.isSome)&&decide ((e::([]:List Expr)).length+([]:List Keyword).length+(if([]:List Keyword).isEmpty then 0 else 1)<30))=true) :
  EOk X (.Call (.Attribute o "index" apos) [e] [] cpos) (eMet idxG a b) :=
 zi (pe_bm PySem.F.plainAttrs_list PySem.F.slot_list_index PySem.F.type_list_index (MtM.or zAM (Gy S hu)) ho (yR he wo (zI hs)) hbase hfew hline (zI hs) rfl) λσ H Q h=>Gr ro_idxG h
end
end DV
namespace DV
open PySem L2 PyProof.Rows PySem.Calls
section
variable{prog:Program}{w:World}{A:Around}{R:Result->Shared->Prop}{I:Addr}{fp wr:List Addr}{n:Nat}{P:Nat->Value->Prop}{St:Nat->Heap->Prop}{J:Heap->Prop}
end
section
variable{prog:Program}{w:World}{A:Around}{E:Value->Shared->Prop}{s:Shared}
end
section
variable{X:Cx}{σ:L2.St}{pins:List (Addr×Obj)}{H:Hp}{s:Shared}{K:PySem.W.Frag}{mg:Str->Option Value}
end
end DV
namespace DV
open PySem L2
section
variable{X:Cx}{σ:L2.St}{pins:List (Addr×Obj)}{H:Hp}{s:Shared}
end
end DV
namespace DV
open PySem L2
section
variable{X:Cx}
end
end DV
namespace DV
open PySem L2
section
variable{X:Cx}{σ:L2.St}
end
end DV
namespace DV
open PySem PyProof.Rows
section
variable{prog:Program}{w:World}{A:Around}{E:Value->Shared->Prop}
variable{s:Shared}
end
end DV
namespace DV
open PySem L2
section
variable{X:Cx}{σ:L2.St}{H:Hp}
end
end DV
namespace DV
open PySem L2
inductive Op2 where
 |add|sub|mul|fdiv|mod|pow
def Op2.op:Op2->Operator
 | .add=>.Add | .sub=>.Sub | .mul=>.Mult | .fdiv=>.FloorDiv | .mod=>.Mod | .pow=>.Pow
def Op2.f:Op2->D->D->Option R
 | .add=>uP | .sub=>subD | .mul=>uS | .fdiv=>Qv | .mod=>zAv | .pow=>powD
inductive Cp where
 |lt|le|gt|ge|eq|ne|inn|nin|is|isn
def Cp.op:Cp->CmpOp
 | .lt=>.Lt | .le=>.LtE | .gt=>.Gt | .ge=>.GtE | .eq=>.Eq | .ne=>.NotEq | .inn=>.In | .nin=>.NotIn | .is=>.Is | .isn=>.IsNot
def Cp.f:Cp->D->D->Option R
 | .lt=>ltD | .le=>leD | .gt=>gtD | .ge=>geD | .eq=>eqG | .ne=>neG | .inn=>inG false | .nin=>inG true | .is=>isG false | .isn=>isG true
def Cp.isI:Cp->Bool
 | .lt | .le | .gt | .ge=>true
 |_=>false
def Cp.b:Cp->Int->Int->Bool
 | .lt=>ltB | .le=>leB | .gt=>gtB|_=>geB
inductive Bi where
 |len|max|all|int|tuple|list|repr
def Bi.nm:Bi->Str
 | .len=>"len" | .max=>"max" | .all=>"all" | .int=>"int" | .tuple=>"tuple" | .list=>"list" | .repr=>"repr"
def Bi.f:Bi->List D->Option R
 | .len=>lenD | .max=>QP | .all=>allD | .int=>intF | .tuple=>zAw | .list=>listD | .repr=>reprG
inductive Ty where
 |int|bool|tuple|list|str|dict
def Ty.s:Ty->String
 | .int=>"int" | .bool=>"bool" | .tuple=>"tuple" | .list=>"list" | .str=>"str" | .dict=>"dict"
def Ty.nm:Ty->Str
 | .int=>"int" | .bool=>"bool" | .tuple=>"tuple" | .list=>"list" | .str=>"str" | .dict=>"dict"
inductive Tg where
 |n (i:Nat)
 |t (is:List Nat)
def Tg.m:Tg->MG
 | .n i=>gN i
 | .t is=>gT is
mutual
inductive Ex where
 |c (d:D)|gl (d:D)|fn (k:Nat)|var (i:Nat)
 |bin (o:Op2) (a b:Ex)|cmp (o:Cp) (a b:Ex)|chain (o o':Cp) (a b c:Ex)
 |neg (a:Ex)|not (a:Ex)|and (a b:Ex)
 |ifx (t:Tx) (a b:Ex)|tup (as:Ax)|lst (as:Ax)|dic
 |ix (a b:Ex)|ixO (i:Nat) (b:Ex)|reprO (i:Nat)|sl (a:Ex) (l h:Ox)
 |comp (nl:Nat) (loc capn:List Str) (caps:List Nat) (it:Ix) (tg:Tg) (tt:Tx) (el:Ex)
 |is (T:Ty) (a:Ex)|cB (b:Bi) (as:Ax)|call (k:Nat) (as:Gx)|callV (ks:List Nat) (f:Ex) (as:Gx)
 |isC (cl:List Str) (y:Str) (a:Ex)|isV (cl:List Str) (a:Ex)|cnt (a b:Ex)|idx (a b:Ex)
inductive Tx where
 |tAnd (a b:Tx)|tOr (a b:Tx)|tNot (a:Tx)|tE (a:Ex)|tBor (i:Nat) (a:Tx)|tTr
inductive Ax where
 |nil|cons (a:Ex) (as:Ax)
inductive Gx where
 |nil|ev (a:Ex) (as:Gx)|lend (i:Nat) (as:Gx)
inductive Ox where
 |oN|oS (a:Ex)
inductive Ix where
 |iL (a:Ex)|iT (a:Ex)|iR1 (as:Ax)|iR2 (as:Ax)
end
mutual
inductive Sx where
 |sIf (t:Tx) (a b:Bx)|sSet (i:Nat) (a:Ex)|sRet (a:Ex)|sDrop (a:Ex)|sIx (i:Nat) (b a:Ex)|sApp (i:Nat) (a:Ex)
 |sForL (a:Ex) (tg:Tg) (b:Bx)|sForR1 (as:Ax) (tg:Tg) (b:Bx)
 |sAny|sTup (is:List Nat) (a:Ex)
 |sRaise (c:Str)|sTry (cl:List Str) (b:Bx) (i:Nat) (h:Bx)
inductive Bx where
 |bNil|bOne (s:Sx)|bSeq (s:Sx) (b:Bx)
end
structure FI where
 x:Str
 n:Nat
 lv:Nat
 wild:Bool
 F:MF
def fiF(fs:List FI)(k:Nat):MF:=match fs[k]? with
 |some i=>i.F
 |none=>λ_=>.stuck
def fiX(fs:List FI)(k:Nat):Str:=match fs[k]? with
 |some i=>i.x
 |none=>""
def vY(m:ME):ME:=λE=>match m E with
 | .exc _ _=>.stuck
 |o=>o
def Wu(m:MS):MS:=λE=>match m E with
 | .exc _ _=>.stuck
 |o=>o
theorem Wv{m:ME}{E:zR}{p:R×zR}(h:m E=.ok p):vY m E=.ok p:=by simp only[vY,h]
theorem Gz{m:MS}{E:zR}{p:Fl×zR}(h:m E=.ok p):Wu m E=.ok p:=by simp only[Wu,h]
theorem no_E{X:Cx}{e:Expr}{m:ME}(h:EOk X.nox e m):EOk X e (vY m):=zi h.nox λσ H Q ⟨M,E,hl,fr,k⟩=>by
 unfold vY at k;refine⟨M,E,hl,fr,?_⟩;cases e:m E with
 |stuck=>rw[e]at k;exact k
 |exc x E1=>rw[e]at k;exact k.elim
 |ok p=>rw[e]at k;exact k
theorem no_S{X:Cx}{st:Stmt}{m:MS}(h:SOk X.nox st m):SOk X st (Wu m):=λpins s σ H D I ⟨M,E,hl,fr,k⟩=>by
 refine wpAny_mono (h pins s σ H D (I.wish _) ⟨M,E,hl,fr,?_⟩) (λ_ _ q=>q.unwish) λ_ _ z=>False.elim z
 unfold Wu at k;cases e:m E with
 |stuck=>rw[e]at k;exact k
 |exc x E1=>rw[e]at k;exact k.elim
 |ok p =>
  rw[e]at k;obtain⟨fl,E1⟩:=p;cases fl<;>exact k
theorem no_set{i:Nat}{m:ME}:Wu (sSet i m)=sSet i (vY m):=by
 funext E
 simp only[Wu,sSet,vY];cases m E with
 |stuck=>rfl
 |exc x E1=>rfl
 |ok p =>
  obtain⟨r,E1⟩:=p;dsimp only;cases YB i r E1<;>rfl
mutual
def dE(fs:List FI):Ex->ME
 | .c d=>eC d
 | .gl d=>eC d
 | .fn k=>eC (.fn (fiX fs k))
 | .var i=>uO i
 | .bin o a b=>YV o.f (dE fs a) (dE fs b)
 | .cmp o a b=>YV o.f (dE fs a) (dE fs b)
 | .chain o o' a b c=>yy o.b o'.b (dE fs a) (dE fs b) (dE fs c)
 | .neg a=>eNeg (dE fs a)
 | .not a=>GG (dE fs a)
 | .and a b=>uD (dE fs a) (dE fs b)
 | .ifx t a b=>eIf (dT fs t) (dE fs a) (dE fs b)
 | .tup as=>QL (dA fs as)
 | .lst as=>QM (dA fs as)
 | .dic=>eC .dic
 | .ix a b=>YV ixD (dE fs a) (dE fs b)
 | .ixO i b=>eIxO i (dE fs b)
 | .reprO i=>WJ i
 | .sl a l h=>eSl slD (dE fs a) (dO fs l) (dO fs h)
 | .comp nl _ _ caps it tg tt el=>vY (Yg nl caps (dI fs it) tg.m (dT fs tt) (dE fs el))
 | .is T a=>eIs T.s (dE fs a)
 | .cB b as=>eCB b.f (dA fs as)
 | .call k as=>yj (fiF fs k) (dG fs as)
 | .isC cl y a=>eIsX cl (·==y) (dE fs a)
 | .isV cl a=>eIsX cl (λ_=>true) (dE fs a)
 | .cnt a b=>eMet cntD (dE fs a) (dE fs b)
 | .idx a b=>eMet idxG (dE fs a) (dE fs b)
 | .callV ks f as=>WB (WG (ks.map λk=>(fiX fs k,fiF fs k))) (dE fs f) (dG fs as)
def dT(fs:List FI):Tx->MT
 | .tAnd a b=>JR (dT fs a) (dT fs b)
 | .tOr a b=>uC (dT fs a) (dT fs b)
 | .tNot a=>Js (dT fs a)
 | .tE a=>tT (dE fs a)
 | .tBor i a=>zAQ i (dT fs a)
 | .tTr=>uF
def dA(fs:List FI):Ax->MA
 | .nil=>QK
 | .cons a as=>Jt (dE fs a) (dA fs as)
def dG(fs:List FI):Gx->List Arg
 | .ev a as=>.ev (dE fs a)::dG fs as
 | .lend i as=>.lend i::dG fs as
 | .nil=>[]
def dO(fs:List FI):Ox->MO
 | .oN=>oNone
 | .oS a=>Qx (dE fs a)
def dI(fs:List FI):Ix->MI
 | .iL a=>iL (dE fs a)
 | .iT a=>iT (dE fs a)
 | .iR1 as=>iR1 (dA fs as)
 | .iR2 as=>iR2 (dA fs as)
end
mutual
def dS(fs:List FI):Sx->MS
 | .sIf t a b=>sIf (dT fs t) (dB fs a) (dB fs b)
 | .sSet i a=>sSet i (dE fs a)
 | .sRet a=>sRet (dE fs a)
 | .sDrop a=>sDrop (dE fs a)
 | .sIx i b a=>Y7 i (dE fs b) (dE fs a)
 | .sApp i a=>sApp i (dE fs a)
 | .sTup is a=>sTup is (dE fs a)
 | .sForL a tg b=>Wu (sForL (dE fs a) tg.m (dB fs b))
 | .sForR1 a tg b=>Wu (sForR1 (dA fs a) tg.m (dB fs b))
 | .sAny=>λ_=>.stuck
 | .sRaise c=>DV.sRaise c
 | .sTry cl b i h=>DV.sTry cl i (dB fs b) (dB fs h)
def dB(fs:List FI):Bx->MS
 | .bNil=>QO
 | .bOne s=>dS fs s
 | .bSeq s b=>vJ (dS fs s) (dB fs b)
end
structure Sg where
 N:List Str
 sc:Scope
 top:Bool
 cs:List (Str×D)
 fs:List FI
 bs:List Str
 lv:Nat
 calm:Bool
 cl:List Str
 rs:List Str
 oc:List Str
def kIs(sg:Sg)(x:Str)(k:NameKind):Bool:=sg.sc.names.lookup x==some k
def vis(sg:Sg)(i:Nat)(x:Str):Bool:=sg.N[i]?==some x&&(kIs sg x .local||(kIs sg x .cell||kIs sg x .free))&&(!(x==("__debug__":Str))&&!(x==("__classdict__":Str)))
def glb(sg:Sg)(x:Str):Bool:=kIs sg x .globalImplicit&&!(x==("__debug__":Str))
def locd(sg:Sg)(i:Nat)(x:Str):Bool:=sg.N[i]?==some x&&(kIs sg x .local||(kIs sg x .cell&&(sg.top||sg.oc.contains x)))
def cIs:D->Const->Bool
 | .non,.none=>true
 | .bl b,.bool c=>b==c
 | .int i,.int j=>i==j
 | .str x,.str y=>x==y
 |_,_=>false
def feq:D->D->Bool
 | .non,.non=>true
 | .bl b,.bl c=>b==c
 | .int i,.int j=>i==j
 | .str x,.str y=>x==y
 |_,_=>false
def geq:D->D->Bool
 | .tup [.int a,.int b],.tup [.int c,.int d]=>a==c&&b==d
 | .tup [.non,.int b],.tup [.non,.int d]=>b==d
 |d,e=>feq d e
def gIs(sg:Sg)(x:Str)(d:D):Bool:=match sg.cs.lookup x with
 |some d'=>geq d d'
 |none=>false
def fIs(sg:Sg)(k:Nat)(x:Str):Bool:=match sg.fs[k]? with
 |some i=>i.x==x
 |none=>false
def zBD(sg:Sg)(n:Nat)(k:Nat):Bool:=match sg.fs[k]? with
 |some i=>i.n==n&&decide (i.lv<=sg.lv)&&(sg.calm||i.wild)
 |none=>false
def bIn(sg:Sg)(x:Str):Bool:=sg.bs.contains x
def zBE:Gx->Nat
 | .ev _ as=>zBE as+1
 | .lend _ as=>zBE as+1
 | .nil=>0
def vZ:Tg->Sg->Expr->Bool
 | .n i,sg,e=>match e with
  | .Name x _=>locd sg i x
  |_=>false
 | .t is,sg,e=>match e with
  | .Tuple es _ _=>all2 sg is es
  |_=>false
where all2 (sg:Sg):List Nat->List Expr->Bool
 | [],[]=>true
 |i::is,e::es=>(match e with | .Name x _=>locd sg i x|_=>false)&&all2 sg is es
 |_,_=>false
def relab(scope:Scope)(sc:Scope):Scope:={scope with names:=scope.names.map λ(n,k)=>if(k==NameKind.free&&sc.kind==.function&&sc.names.lookup n==some .cell)then(n,NameKind.cell)else(n,k)}
def capB(sg:Sg)(scope:Scope):List Nat->List Str->Bool
 | [],[]=>true
 |j::js,x::xs=>sg.N[j]?==some x&&scope.names.lookup x==some .free&&capB sg scope js xs
 |_,_=>false
def Wa(sg:Sg)(N:List Str)(scope:Scope):Sg:={sg with N:=N,sc:=relab scope sg.sc,top:=false,oc:=(scope.names.filter λy=>y.2==.cell).map Prod.fst}
def G0(sg:Sg)(nl:Nat)(loc capn:List Str)(caps:List Nat)(scope:Scope):Bool :=
 loc.length==nl&&scope.kind==.function&&decide (loc++capn).Nodup&&scope.names.all (λy=>y.2 != .local||scope.names.lookup y.1==some .local)&&scope.names.all (λy=>y.2 != .cell||scope.names.lookup y.1==some .cell)
  && scope.names.all (λy=>y.2 != .free||sg.sc.names.lookup y.1==some .cell)&&capB sg scope caps capn
def isCmp:Ex->Bool
 | .cmp _ _ _=>true
 | .chain _ _ _ _ _=>true
 |_=>false
def swOk(sg:Sg)(es:List Expr)(v:Expr):Bool:=match v with
 | .Tuple vs _ _=>es.any (λe=>match e with | .Name x _=>!(kIs sg x .local)|_=>true)||vs.all (foldedForSure 8)
 |_=>true
def swB(sg:Sg)(x:Str)(px:Pos)(scope:Scope)(vp:Pos):Bool:=kIs sg x .local&&px.line==vp.line&&!(scope.names.any λy=>y.1==x&&(y.2==.local||y.2==.cell))
def setOk(sg:Sg)(x:Str)(px:Pos)(a:Ex)(v:Expr):Bool:=match v with
 | .ListComp _ _ scope vp=>sg.sc.kind==.function&&(!swB sg x px scope vp||(match a with | .comp _ _ _ _ _ _ _ _=>true|_=>false))
 |v=>jP v
def isTr:Tx->Bool
 | .tTr=>true
 |_=>false
def chkZ:Ix->Expr->Bool
 |_,_=>true
mutual
def zt:Ex->Sg->Expr->Bool
 | .c d,_,e=>match e with
  | .Constant k _ _=>cIs d k
  |_=>false
 | .gl d,sg,e=>match e with
  | .Name x _=>glb sg x&&gIs sg x d
  |_=>false
 | .fn k,sg,e=>match e with
  | .Name x _=>glb sg x&&fIs sg k x
  |_=>false
 | .var i,sg,e=>match e with
  | .Name x _=>vis sg i x
  |_=>false
 | .bin o a b,sg,e=>match e with
  | .BinOp x op y _=>op==o.op&&(zt a sg x&&zt b sg y)
  |_=>false
 | .cmp o a b,sg,e=>match e with
  | .Compare x [op] [y] _=>op==o.op&&yi y&&(zt a sg x&&zt b sg y)
  |_=>false
 | .chain o o' a b c,sg,e=>match e with
  | .Compare x [op,op'] [y,z] _=>op==o.op&&op'==o'.op&&o.isI&&o'.isI&&yi z&&(zt a sg x&&(zt b sg y&&zt c sg z))
  |_=>false
 | .neg a,sg,e=>match e with
  | .UnaryOp .USub x _=>zt a sg x
  |_=>false
 | .not a,sg,e=>match e with
  | .UnaryOp .Not x _=>zt a sg x
  |_=>false
 | .and a b,sg,e=>match e with
  | .BoolOp .And (x::y::r) p=>zt a sg x&&(match r with | []=>zt b sg y|z::r'=>zt b sg (.BoolOp .And (y::z::r') p))
  |_=>false
 | .ifx t a b,sg,e=>match e with
  | .IfExp c x y _=>chkT t sg c&&(zt a sg x&&zt b sg y)
  |_=>false
 | .tup as,sg,e=>match e with
  | .Tuple es _ _=>chkA as sg es
  |_=>false
 | .lst as,sg,e=>match e with
  | .List es _=>chkA as sg es
  |_=>false
 | .dic,_,e=>match e with
  | .Dict [] [] _=>true
  |_=>false
 | .ix a b,sg,e=>match e with
  | .Subscript x y _=>Z3 y&&(zt a sg x&&zt b sg y)
  |_=>false
 | .ixO i b,sg,e=>match e with
  | .Subscript (.Name x _) y _=>vis sg i x&&Z3 y&&zt b sg y
  |_=>false
 | .reprO i,sg,e=>match e with
  | .Call (.Name f _) [.Name x _] [] _=>f == "repr"&&glb sg "repr"&&bIn sg "repr"&&vis sg i x
  |_=>false
 | .sl a l h,sg,e=>match e with
  | .Subscript x (.Slice lo hi none _) _=>zt a sg x&&(chkO l sg lo&&chkO h sg hi)
  |_=>false
 | .comp nl loc capn caps it tg tt el,sg,e=>match e with
  | .ListComp elt [⟨target,iter,ifs,0⟩] scope _=>sg.calm&&(G0 sg nl loc capn caps scope&&yi iter&&((chkZ it target&&chkI it sg iter)&&(vZ tg (Wa sg (loc++capn) scope) target&&((match ifs with | []=>isTr tt|c::cs=>cs.isEmpty&&chkT tt (Wa sg (loc++capn) scope) c)&&zt el (Wa sg (loc++capn) scope) elt))))
  |_=>false
 | .is T a,sg,e=>match e with
  | .Call (.Name f _) [x,.Name y _] [] _=>f == "isinstance"&&y==T.nm&&glb sg "isinstance"&&bIn sg "isinstance"&&glb sg T.nm&&bIn sg T.nm&&!zO x&&zt a sg x
  |_=>false
 | .cB b as,sg,e=>match e with
  | .Call (.Name f _) (x::es) [] _=>sg.calm&&(f==b.nm&&glb sg b.nm&&bIn sg b.nm&&z9 (x::es)&&chkA as sg (x::es))
  |_=>false
 | .call k as,sg,e=>match e with
  | .Call (.Name f _) (x::es) [] _=>glb sg f&&fIs sg k f&&zBD sg (zBE as) k&&z9 (x::es)&&chkG as sg (x::es)
  |_=>false
 | .isC cl y a,sg,e=>match e with
  | .Call (.Name f _) [x,.Name z _] [] _=>f == "isinstance"&&z==y&&glb sg "isinstance"&&bIn sg "isinstance"&&glb sg y&&(cl==sg.cl&&sg.cl.contains y)&&!zO x&&zt a sg x
  |_=>false
 | .isV cl a,sg,e=>match e with
  | .Call (.Name f _) [x,.Name z _] [] _=>f == "isinstance"&&z == "ValueError"&&glb sg "isinstance"&&bIn sg "isinstance"&&glb sg "ValueError"&&bIn sg "ValueError"&&(cl==sg.cl&&!sg.cl.isEmpty)&&!zO x&&zt a sg x
  |_=>false
 | .cnt a b,sg,e=>match e with
  | .Call (.Attribute (.Name x p) m ap) [v] [] cp=>m == "count"&&ap.endLine==cp.line&&!zO v&&(zt a sg (.Name x p)&&zt b sg v)
  |_=>false
 | .idx a b,sg,e=>match e with
  | .Call (.Attribute (.Name x p) m ap) [v] [] cp=>m == "index"&&ap.endLine==cp.line&&!zO v&&(zt a sg (.Name x p)&&zt b sg v)
  |_=>false
 | .callV ks g as,sg,e=>match e with
  | .Call fe (x::es) [] _=>Wm fe&&ks.all (zBD sg (zBE as))&&z9 (x::es)&&(zt g sg fe&&chkG as sg (x::es))
  |_=>false
def chkT:Tx->Sg->Expr->Bool
 | .tAnd a b,sg,e=>match e with
  | .BoolOp .And (x::y::r) p=>chkT a sg x&&(match r with | []=>chkT b sg y|z::r'=>chkT b sg (.BoolOp .And (y::z::r') p))
  |_=>false
 | .tOr a b,sg,e=>match e with
  | .BoolOp .Or (x::y::r) p=>chkT a sg x&&(match r with | []=>chkT b sg y|z::r'=>chkT b sg (.BoolOp .Or (y::z::r') p))
  |_=>false
 | .tNot a,sg,e=>match e with
  | .UnaryOp .Not x _=>chkT a sg x
  |_=>false
 | .tE a,sg,e=>(zAr e||isCmp a)&&zt a sg e
 | .tBor _ a,sg,e=>chkT a sg e
 | .tTr,_,_=>false
def chkA:Ax->Sg->List Expr->Bool
 | .nil,_,es=>es.isEmpty
 | .cons a as,sg,es=>match es with
  |x::r=>!zO x&&(zt a sg x&&chkA as sg r)
  | []=>false
def chkG:Gx->Sg->List Expr->Bool
 | .nil,_,es=>es.isEmpty
 | .ev a as,sg,es=>match es with
  |x::r=>!zO x&&(zt a sg x&&chkG as sg r)
  | []=>false
 | .lend i as,sg,es=>match es with
  | .Name x _::r=>vis sg i x&&chkG as sg r
  |_=>false
def chkO:Ox->Sg->Option Expr->Bool
 | .oN,_,o=>o.isNone
 | .oS a,sg,o=>match o with
  |some e=>zt a sg e
  |none=>false
def chkI:Ix->Sg->Expr->Bool
 | .iL a,sg,e=>zt a sg e
 | .iT a,sg,e=>zt a sg e
 | .iR1 as,sg,e=>match e with
  | .Call (.Name f _) [x] [] _=>f == "range"&&glb sg "range"&&bIn sg "range"&&!zO x&&chkA as sg [x]
  |_=>false
 | .iR2 as,sg,e=>match e with
  | .Call (.Name f _) [x,y] [] _=>f == "range"&&glb sg "range"&&bIn sg "range"&&!zO x&&!zO y&&chkA as sg [x,y]
  |_=>false
end
mutual
def chkS:Sx->Sg->Stmt->Bool
 | .sIf t a b,sg,e=>match e with
  | .If c x y _=>chkT t sg c&&(chkB a sg x&&chkB b sg y)
  |_=>false
 | .sSet i a,sg,e=>match e with
  | .Assign [.Name x px] v _=>locd sg i x&&setOk sg x px a v&&zt a sg v
  |_=>false
 | .sAny,_,_=>true
 | .sRaise c,sg,e=>match e with
  | .Raise (some (.Call (.Name x _) [] [] _)) none _=>sg.calm&&(x==c&&glb sg c&&sg.rs.contains c)
  |_=>false
 | .sTry cl b i h,sg,e=>match e with
  | .Try body [.ExceptHandler (some (.Name t _)) (some n) (b0::suite) _] [] [] _=>t == "ThrowError"&&glb sg "ThrowError"&&(cl==sg.cl&&!sg.cl.isEmpty)&&sg.top&&(sg.N[i]?==some n&&kIs sg n .local)&&(chkB b sg body&&chkB h {sg with calm:=false} (b0::suite))
  |_=>false
 | .sTup is a,sg,e=>match e with
  | .Assign [.Tuple es k p] v _=>sg.calm&&(vZ.all2 sg is es&&jP v&&swOk sg es v&&zt a sg v)
  |_=>false
 | .sRet a,sg,e=>match e with
  | .Return (some v) _=>zt a sg v
  |_=>false
 | .sDrop a,sg,e=>match e with
  | .Expr v _=>jP v&&zt a sg v
  |_=>false
 | .sIx i b a,sg,e=>match e with
  | .Assign [.Subscript (.Name x _) y _] v _=>vis sg i x&&Z3 y&&jP v&&(zt b sg y&&zt a sg v)
  |_=>false
 | .sApp i a,sg,e=>match e with
  | .Expr (.Call (.Attribute (.Name x _) m ap) [v] [] cp) _=>m == "append"&&ap.endLine==cp.line&&vis sg i x&&!zO v&&zt a sg v
  |_=>false
 | .sForL a tg b,sg,e=>match e with
  | .For t it body [] _=>sg.calm&&(yi it&&vZ tg sg t&&(zt a sg it&&chkB b sg body))
  |_=>false
 | .sForR1 as tg b,sg,e=>match e with
  | .For t (.Call (.Name f _) [x] [] _) body [] _=>sg.calm&&(f == "range"&&glb sg "range"&&bIn sg "range"&&!zO x&&vZ tg sg t&&(chkA as sg [x]&&chkB b sg body))
  |_=>false
def chkB:Bx->Sg->List Stmt->Bool
 | .bNil,_,l=>l.isEmpty
 | .bOne a,sg,l=>match l with
  | [s]=>chkS a sg s
  |_=>false
 | .bSeq a b,sg,l=>match l with
  |s::r=>chkS a sg s&&chkB b sg r
  |_=>false
end
structure SgOk(X:Cx)(sg:Sg):Prop where
 N:X.N=sg.N
 sc:X.env.scope=sg.sc
 fn:sg.top=true->∀x,X.fn x=true
 oc:∀x∈sg.oc,X.env.scope.names.lookup x=some .cell->X.fn x=true
 calm:sg.calm=true->X.calm=true
 hd:sg.calm=true->X.A.handled=none
 stk:sg.top=true->X.stack=X.env::X.outer/\X.env.frame=some X.env.locals
 nd:X.N.Nodup
 cs:∀x d,sg.cs.lookup x=some d->∃u v,X.mg x=some u/\zv v u/\∀H,Rep X.K X.mg H d v
 fs:∀i∈sg.fs,∃f fd ps,X.mg i.x=some (.ref f)/\keepIn X.K (.ref f)=true/\wP X.K fd ps []/\ps.length=i.n/\FnOkN (!i.wild) X.prog X.w X.K X.mg X.base i.lv f fd ps (spM X.K X.mg i.n i.F)
 bs:∀x∈sg.bs,X.mg x=none
 room:RoomN sg.lv X.A
 cl:sg.cl≠[]->∃T,X.mg "ThrowError"=some (.ref T)/\TCls X.K T/\∀c∈sg.cl,∃C,X.mg c=some (.ref C)/\XCls X.K c C T/\C≠T
 rs:∀c∈sg.rs,∃C,X.mg c=some (.ref C)/\excIn X.K C VB "ValueError.__new__"=true
 sm:uT X.K
section
variable{X:Cx}{sg:Sg}
theorem JA(G:SgOk X sg){x:Str}{k:NameKind}(h:kIs sg x k=true):X.env.scope.names.lookup x=some k:=by
 rw[G.sc];simpa[kIs]using h
theorem yE(G:SgOk X sg){x:Str}(h:glb sg x=true):Gl X x/\(x==("__debug__":Str))=false:=by
 simp only[glb,Bool.and_eq_true,Bool.not_eq_true']at h;exact⟨JA G h.1,h.2⟩
theorem ZB(G:SgOk X sg){x:Str}{i:Nat}{pos:Pos}(h:vis sg i x=true):PE X (.Name x pos) (vq i):=by
 simp only[vis,Bool.and_eq_true,Bool.or_eq_true,Bool.not_eq_true']at h;refine pe_var (by rw[G.N];simpa using h.1.1) ?_ h.2.1 h.2.2;rcases h.1.2 with q|q|q
 ·exact .inl (JA G q)
 ·exact .inr (.inl (JA G q))
 ·exact .inr (.inr (JA G q))
theorem Ww(G:SgOk X sg){x:Str}{i:Nat}(h:locd sg i x=true):X.N[i]?=some x/\Loc X.env.scope x/\(X.fn x=true\/X.env.scope.names.lookup x=some .local):=by
 simp only[locd,Bool.and_eq_true,Bool.or_eq_true]at h;refine⟨by rw[G.N];simpa using h.1,?_⟩;rcases h.2 with q|q
 ·exact⟨.inl (JA G q),.inr (JA G q)⟩
 ·refine⟨.inr (JA G q.1),.inl ?_⟩
  rcases q.2 with q2|q2
  ·exact G.fn q2 x
  ·exact G.oc x (by simpa using q2) (JA G q.1)
theorem wK(G:SgOk X sg){x:Str}(h:bIn sg x=true):X.mg x=none:=G.bs x (by simpa[bIn]using h)
theorem feq_of{d d':D}(h:feq d d'=true):d=d':=by
 cases d<;>cases d'<;>simp[feq]at h<;>first|rfl|(subst h;rfl)
theorem geq_of{d d':D}(h:geq d d'=true):d=d':=by
 unfold geq at h;split at h
 ·obtain⟨h1,h2⟩:=Bool.and_eq_true_iff.mp h
  have:=beq_iff_eq.mp h1;have:=beq_iff_eq.mp h2
  subst_vars;rfl
 ·have:=beq_iff_eq.mp h
  subst_vars;rfl
 ·exact feq_of h
theorem ok_glR{x:Str}{d:D}{u:Value}{v:V}{pos:Pos}(hg:Gl X x)(hm:X.mg x=some u)(r:zv v u)(hr:∀H,Rep X.K X.mg H d v)(hd:(x==("__debug__":Str))=false):EOk X (.Name x pos) (eC d) :=
 zi (Wd hg hm r hd) λσ H Q ⟨M,E,hl,fr,k⟩=>k _ H ((Got.refl (T0:=[]) hl fr).more (T:=[(some v,.val d)]) (FR.add fr (hr _)) Step.refl.add)
theorem zBF{k:Nat}{x:Str}(h:fIs sg k x=true):∃i,sg.fs[k]?=some i/\i.x=x:=by
 unfold fIs at h;split at h
 ·rename_i i e;exact⟨i,e,by simpa using h⟩
 ·cases h
theorem G1{k n:Nat}(h:zBD sg n k=true):∃i,sg.fs[k]?=some i/\i.n=n/\i.lv<=sg.lv/\(sg.calm||i.wild)=true:=by
 unfold zBD at h;split at h
 ·rename_i i e
  simp only[Bool.and_eq_true,decide_eq_true_eq,beq_iff_eq]at h;exact⟨i,e,h.1.1,h.1.2,by simpa using h.2⟩
 ·cases h
theorem hd_of(G:SgOk X sg){b:Bool}(h:(sg.calm||b)=true):(!b)=true->X.A.handled=none:=λhb=>G.hd (by
 cases b with
 |true=>cases hb
 |false=>simpa using h)
theorem va{fs:List FI}{k:Nat}{i:FI}(h:fs[k]?=some i):fiF fs k=i.F/\fiX fs k=i.x:=by
 unfold fiF fiX;rw[h];exact⟨rfl,rfl⟩
theorem ZC{b:Expr}(h:Z3 b=true):ZH b:=by
 intro o i;cases b<;>first|rfl|(cases h)
theorem Jk(es:List Expr)(is:List Nat)(G:SgOk X sg)(h:vZ.all2 sg is es=true):PGs X es (wS is)/\(assignEach es X.env).length=is.length/\(assignEach es X.env).findIdx? (·.1)=none:=by
 induction es generalizing is with
 |nil =>
  cases is with
  |nil=>exact⟨pgs_nil,rfl,rfl⟩
  |cons i is=>cases h
 |cons e es ih =>
  cases is with
  |nil=>cases h
  |cons i is =>
   simp only[vZ.all2,Bool.and_eq_true]at h;obtain⟨h1,h2⟩:=h;cases e with
   |Name x pos =>
    obtain⟨q1,q2,q3⟩:=Ww G h1;obtain⟨i1,i2,i3⟩:=ih is h2;refine⟨QW (ua G.nd q1 q2 q3) i1 rfl,?_,?_⟩
    ·show(assignEach es X.env).length+1=_
     rw[i2];rfl
    ·show List.findIdx? _ ((false,_)::assignEach es X.env)=none
     simp only[List.findIdx?_cons,i3];rfl
   |_=>cases h1
def gOf(K:PySem.W.Frag):Tg->TG
 | .n i=>We i
 | .t is=>gTup K is.length (wS is)
theorem Zk(tg:Tg):GOk X (gOf X.K tg) tg.m:=by
 cases tg with
 |n i=>exact go_name i
 |t is=>exact zAz is rfl
theorem zAR{tg:Tg}{t:Expr}(hcm:sg.calm=true)(G:SgOk X sg)(h:vZ tg sg t=true):PG X t (gOf X.K tg):=by
 cases tg with
 |n i =>
  simp only[vZ]at h;cases t with
  |Name x pos =>
   obtain⟨q1,q2,q3⟩:=Ww G h;exact ua G.nd q1 q2 q3
  |_=>cases h
 |t is =>
  simp only[vZ]at h;cases t with
  |Tuple es k pos =>
   obtain⟨q1,q2,q3⟩:=Jk es is G h;exact zAj (G.calm hcm) q1 q2 q3
  |_=>cases h
theorem vb(G:SgOk X sg){N:List Str}{scope:Scope}(hn:N.Nodup)(hcell:∀y∈scope.names,y.2=.cell->scope.names.lookup y.1=some .cell){cl C ex s H}:SgOk (cxB X N scope cl C ex s H) (Wa sg N scope) where
 N:=rfl
 sc:=by
  show relabel scope X.env=relab scope sg.sc
  rw[<- G.sc];rfl
 fn:=λh=>by cases h
 oc:=λx h _=>by
  obtain⟨y,hy,rfl⟩:=mem_map.mp (show x∈(scope.names.filter λy=>y.2==.cell).map Prod.fst from h);obtain⟨q1,q2⟩:=mem_filter.mp hy;show(scope.names.lookup y.1==some NameKind.cell)=true;rw[hcell y q1 (by simpa using q2)];rfl
 calm:=G.calm
 hd:=G.hd
 stk:=λh=>by cases h
 nd:=hn
 cs:=G.cs
 fs:=G.fs
 bs:=G.bs
 room:=G.room
 cl:=G.cl
 rs:=G.rs
 sm:=G.sm
theorem y0(G:SgOk X sg):SgOk X.nox sg:=⟨G.N,G.sc,G.fn,G.oc,G.calm,G.hd,G.stk,G.nd,G.cs,G.fs,G.bs,G.room,G.cl,G.rs,G.sm⟩
theorem tr_ok(G:SgOk X sg)(pn:List (Addr×Obj))(E:Value->Shared->Prop):SgOk (trX X pn E) sg:=⟨G.N,G.sc,G.fn,G.oc,G.calm,G.hd,G.stk,G.nd,G.cs,G.fs,G.bs,G.room,G.cl,G.rs,G.sm⟩
theorem hd_ok(G:SgOk X sg)(a:Addr):SgOk (hdX X a) {sg with calm:=false}:=⟨G.N,G.sc,G.fn,G.oc,λh=>by(cases h),λh=>by(cases h),G.stk,G.nd,G.cs,G.fs,G.bs,⟨G.room.gd,G.room.dp,G.room.un⟩,G.cl,G.rs,G.sm⟩
end
section
open Bool
theorem kit_of(K:PySem.W.Frag)(T:Ty):Kit K T.s:=by
 cases T
 ·exact kit_int K
 ·exact zAB K
 ·exact GY K
 ·exact zAC K
 ·exact kit_str K
 ·exact zAD K
theorem bt_of(T:Ty):bootBuiltins T.nm=some (.type T.s):=by
 cases T
 ·exact zA3
 ·exact bt_bool
 ·exact vO
 ·exact GZ
 ·exact bt_str
 ·exact bt_dict
theorem nm_of(T:Ty):T.nm≠"__name__":=by cases T<;>decide +kernel
theorem bin_of{X:Cx}{o:Op2}{a b:Expr}{ma mb:ME}{pos:Pos}(ha:EOk X a ma)(hb:EOk X b mb):EOk X (.BinOp a o.op b pos) (YV o.f ma mb):=by
 cases o
 ·exact uB op_addD ro_add ha hb
 ·exact uB op_sub ro_sub ha hb
 ·exact uB (op_mulD.or op_repL) ro_mulG ha hb
 ·exact uB Qu ro_fdiv ha hb
 ·exact uB op_mod ro_mod ha hb
 ·exact uB op_pow ro_pow ha hb
theorem JB{X:Cx}{sg:Sg}(G:SgOk X sg):X.A.units+20<cLine:=by have:=G.room.un;omega
theorem bt_repr:bootBuiltins "repr"=some (.builtin "repr"):=by decide +kernel
theorem zBG{X:Cx}{sg:Sg}(G:SgOk X sg):X.A.units+64<cLine:=by have:=G.room.un;omega
theorem zZ{op:CmpOp}{b:Expr}(h:yi b=true):behindInMarks op b=false:=by
 cases b<;>first|rfl|(cases h)
theorem cmp_of{X:Cx}{sg:Sg}(G:SgOk X sg){o:Cp}{a b:Expr}{ma mb:ME}{pos:Pos}(hn:yi b=true)(ha:EOk X a ma)(hb:EOk X b mb):EOk X (.Compare a [o.op] [b] pos) (YV o.f ma mb):=by
 cases o
 ·exact wI op_lt ro_lt (zZ hn) ha hb
 ·exact wI op_le ro_le (zZ hn) ha hb
 ·exact wI op_gt ro_gt (zZ hn) ha hb
 ·exact wI op_ge ro_ge (zZ hn) ha hb
 ·exact wI (op_eq.or (zA4 (JB G))) zA7 (zZ hn) ha hb
 ·exact wI (op_ne.or (zA5 (JB G))) zA8 (zZ hn) ha hb
 ·exact wI (Zu.or (zBC G.sm (JB G))) (vX (neg:=false)) (zZ hn) ha hb
 ·exact wI (Jh.or (Gw G.sm (JB G))) (vX (neg:=true)) (zZ hn) ha hb
 ·exact wI op_is ro_is (zZ hn) ha hb
 ·exact wI vS vT (zZ hn) ha hb
theorem cmpT_of{X:Cx}{sg:Sg}(G:SgOk X sg){o:Cp}{a b:Expr}{ma mb:ME}{pos:Pos}(hn:yi b=true)(ha:EOk X a ma)(hb:EOk X b mb):TOk X (.Compare a [o.op] [b] pos) (tT (YV o.f ma mb)):=by
 cases o
 ·exact jD op_lt ro_lt (zZ hn) ha hb
 ·exact jD op_le ro_le (zZ hn) ha hb
 ·exact jD op_gt ro_gt (zZ hn) ha hb
 ·exact jD op_ge ro_ge (zZ hn) ha hb
 ·exact jD (op_eq.or (zA4 (JB G))) zA7 (zZ hn) ha hb
 ·exact jD (op_ne.or (zA5 (JB G))) zA8 (zZ hn) ha hb
 ·exact jD (Zu.or (zBC G.sm (JB G))) (vX (neg:=false)) (zZ hn) ha hb
 ·exact jD (Jh.or (Gw G.sm (JB G))) (vX (neg:=true)) (zZ hn) ha hb
 ·exact jD op_is ro_is (zZ hn) ha hb
 ·exact jD vS vT (zZ hn) ha hb
theorem G2{o o':CmpOp}{b c:Expr}(h:yi c=true):lastMarks [o,o'] [b,c]=false:=zZ h
theorem vc{X:Cx}{o:Cp}(h:o.isI=true):OpR X (compareOp o.op) (rI0 λi j=>.bl (o.b i j)):=by
 cases o<;>first|exact op_lt|exact op_le|exact op_gt|exact op_ge|(cases h)
theorem bi_of{X:Cx}{sg:Sg}(hcm:sg.calm=true)(G:SgOk X sg)(b:Bi){x:Expr}{es:List Expr}{m:MA}{p pos:Pos}(hg:Gl X b.nm)(hm:X.mg b.nm=none)(hs:z9 (x::es)=true)(ha:AOk X (x::es) m):EOk X (.Call (.Name b.nm p) (x::es) [] pos) (eCB b.f m):=by
 have h1:zO x=false:=by simp only[z9,Bool.and_eq_true,Bool.not_eq_true']at hs;exact hs.1
 have h2:z9 es=true:=by simp only[z9,Bool.and_eq_true,Bool.not_eq_true']at hs;exact hs.2
 cases b with
 |len=>exact J4 Zv co_len hg hm bt_len ha (by decide +kernel) (by decide +kernel) h1 h2
 |max=>exact J4 (call_or (uk (G.calm hcm)) (Gh (G.calm hcm))) co_maxG hg hm bt_max ha (by decide +kernel) (by decide +kernel) h1 h2
 |all=>exact J4 (Qp (G.calm hcm)) co_all hg hm bt_all ha (by decide +kernel) (by decide +kernel) h1 h2
 |int=>exact YW ul co_int hg hm zA3 ha (by decide +kernel) (by decide +kernel) h1 h2
 |tuple=>exact YW ZJ Qw hg hm vO ha (by decide +kernel) (by decide +kernel) h1 h2
 |list=>exact YW Zw co_list hg hm GZ ha (by decide +kernel) (by decide +kernel) h1 h2
 |repr=>exact J4 (ZA G.sm G.room.gd (zBG G)) co_repr hg hm bt_repr ha (by decide +kernel) (by decide +kernel) h1 h2
theorem vd(fs:List FI):∀as:Gx,(dG fs as).length=zBE as
 | .nil=>rfl
 | .ev a as=>congrArg (·+1) (vd fs as)
 | .lend i as=>congrArg (·+1) (vd fs as)
theorem call_ok{X:Cx}{sg:Sg}(G:SgOk X sg){k:Nat}{as:Gx}{f:Str}{x:Expr}{es:List Expr}{p pos:Pos}(h1:glb sg f=true)(h2:fIs sg k f=true)(h3:zBD sg (zBE as) k=true)(h4:z9 (x::es)=true)(ha:Q5 X (x::es) (dG sg.fs as)):EOk X (.Call (.Name f p) (x::es) [] pos) (yj (fiF sg.fs k) (dG sg.fs as)):=by
 obtain⟨g1,g2⟩:=yE G h1;obtain⟨i,e1,e2⟩:=zBF h2;obtain⟨i',e1',e3,e4,e5⟩:=G1 h3;rw[e1]at e1';cases e1';obtain⟨a,fd,ps,m1,m2,m3,m4,m5⟩:=G.fs i (mem_of_getElem? e1);rw[(va e1).1];subst e2;simp only[z9,Bool.and_eq_true,Bool.not_eq_true']at h4;rw[<- m4]at m5;exact ok_call m5 (hd_of G e5) (G.room.mono e4) g1 m1 m2 m3 ha (by rw[vd,m4,e3]) g2 h4.1 h4.2
theorem zBH{X:Cx}{sg:Sg}(G:SgOk X sg){n:Nat}:∀{ks:List Nat},ks.all (zBD sg n)=true->uE X n (WG (ks.map λk=>(fiX sg.fs k,fiF sg.fs k)))
 | [],_=>tab_nil
 |k::ks,h=>by
  simp only[all_cons,Bool.and_eq_true]at h;obtain⟨i,e1,e3,e4,e5⟩:=G1 h.1;obtain⟨a,fd,ps,m1,m2,m3,m4,m5⟩:=G.fs i (mem_of_getElem? e1);simp only[map_cons];rw[(va e1).1,(va e1).2];rw[e3]at m5;exact zAF m1 m2 m5 (hd_of G e5) (G.room.mono e4) m3 (zBH G h.2)
theorem G3{X:Cx}{sg:Sg}(G:SgOk X sg){scope:Scope}:∀{caps:List Nat} {capn:List Str},capB sg scope caps capn=true->Gb X scope caps capn
 | [],[],_=>trivial
 | [],_::_,h=>by cases h
 |_::_,[],h=>by cases h
 |j::js,x::xs,h=>by
  simp only[capB,Bool.and_eq_true]at h;exact⟨by rw[G.N];simpa using h.1.1,by simpa using h.1.2,G3 G h.2⟩
end
section
theorem set_of{x:Str}{p p1:Pos}{b:Expr}{env:Env}(h:Z3 b=true):∀v,assign (.Subscript (.Name x p) b p1) env v=(do
   let ov <- holding [v] (eval (.Name x p) env)
   let iv <- holding [v,ov] (eval b env)
   standAt p1
   holding [v,ov,iv] (setItem ov iv v)
   release [v,ov,iv] []):=by
 intro v;cases b<;>first|rfl|(cases h)
theorem G4{t e:Expr}{l:Nat}{env:Env}(h:jP e=true):swapsWithSole [t] e l env=pure false:=by
 show swapsWith e (some t) l env=pure false
 exact ZL h
theorem kind_fn{X:Cx}{sg:Sg}(G:SgOk X sg)(h:(sg.sc.kind==ScopeKind.function)=true):X.env.blockKind=.function:=by
 have:X.env.scope.kind=.function:=by rw[G.sc];exact beq_iff_eq.mp h
 unfold Env.blockKind;rw[this];rfl
theorem zBI{X:Cx}{sg:Sg}(G:SgOk X sg)(hk:(sg.sc.kind==ScopeKind.function)=true){el:Expr}{gs:List Comprehension}{scope:Scope}{vp px:Pos}{x:Str}{l:Nat}:swapsWith (.ListComp el gs scope vp) (some (.Name x px)) l X.env=pure (swB sg x px scope vp):=by
 show(pure (X.env.blockKind==.function&&X.env.kindOf x==some .local&&px.line==vp.line&&!(scope.names.any λ(n,k)=>n==x&&(k==.local||k==.cell))):Sem Bool)=_
 rw[kind_fn G hk];unfold swB kIs Env.kindOf;rw[G.sc];simp
theorem zBJ{α β:Type}(f:α->Option β):∀l:List α,(l.filterMap f).length<=l.length
 | []=>le_refl _
 |a::l=>by
  have:=zBJ f l;rw[filterMap_cons];split
  ·simp only[length_cons];omega
  ·simp only[length_cons];omega
theorem fm_lt{α β:Type}(f:α->Option β):∀l:List α,(∃a∈l,f a=none)->(l.filterMap f).length<l.length
 | [],h=>by obtain⟨a,h,_⟩:=h;cases h
 |b::l,h=>by
  obtain⟨a,hm,hf⟩:=h;rw[filterMap_cons];rcases mem_cons.mp hm with rfl|hm
  ·rw[hf]
   have:=zBJ f l;simp only[length_cons];omega
  ·have:=fm_lt f l ⟨a,hm,hf⟩
   split
   ·simp only[length_cons];omega
   ·simp only[length_cons];omega
theorem sw_ok{X:Cx}{sg:Sg}(G:SgOk X sg){es:List Expr}{k:Nat}{p:Pos}{v:Expr}(h:swOk sg es v=true):swappedStores [.Tuple es k p] v X.env=pure none:=by
 cases v with
 |Tuple vs k2 p2 =>
  unfold swappedStores;dsimp only;split
  ·rfl
  split
  ·rfl
  split
  ·rfl
  rename_i hn;split
  ·rfl
  rename_i hf
  exfalso
  rcases Bool.or_eq_true _ _ |>.mp h with h|h
  ·obtain⟨e,he,hk⟩:=List.any_eq_true.mp h
   refine hn (Bool.or_eq_true _ _ |>.mpr (.inl ?_));refine bne_iff_ne.mpr (ne_of_lt (fm_lt _ es ⟨e,he,?_⟩));cases e with
   |Name x q =>
    have:X.env.kindOf x≠some .local:=λz=>by
     have z':sg.sc.names.lookup x=some .local:=by rw[<- G.sc];exact z
     simp[kIs,z']at hk
    have e1:(X.env.kindOf x==some NameKind.local)=false:=by simpa using this
    simp[e1]
   |_=>rfl
  ·exact hf h
 |_=>rfl
theorem zBK{X:Cx}{op:BoolOp}{vs:List Expr}{p:Pos}{m:MT}(h:TOk X (.BoolOp op vs p) m):WOk X (.BoolOp op vs p) m:=λwh=>h
theorem G5{e:Expr}{env:Env}{cpos:Pos}(h:zO e=false):((backTo cpos (starEach (e::[]) env)).all (λx=>!x.1)&&(backToKw cpos (keywordEach [] env)).all (λx=>x.1.isSome)
   && decide ((e::([]:List Expr)).length+([]:List Keyword).length+(if([]:List Keyword).isEmpty then 0 else 1)<30))=true:=by
 rw[zI h];rfl
theorem zJ{a b:Bool}(h:(a&&b)=true):a=true/\b=true:=by simpa using h
theorem nst{a:Bool}(h:(!a)=true):a=false:=by simpa using h
theorem ZV:bootBuiltins "ValueError"=some (.type "ValueError"):=by decide +kernel
mutual
theorem sE:∀(t:Ex) {X:Cx} {sg:Sg} {e:Expr},SgOk X sg->zt t sg e=true->EOk X e (dE sg.fs t)
 | .c d,X,sg,e,G,h=>by
  cases e with
  |Constant k w1 w2 =>
   replace h:(cIs d k)=true:=h;unfold cIs at h;split at h
   ·exact ok_non
   ·have:=(beq_iff_eq.mp h);subst this;exact ok_bl
   ·have:=(beq_iff_eq.mp h);subst this;exact ok_int
   ·have:=(beq_iff_eq.mp h);subst this;exact ok_str
   ·cases h
  |_=>exact nf h
 | .gl d,X,sg,e,G,h=>by
  cases e with
  |Name x w1 =>
   replace h:(glb sg x&&gIs sg x d)=true:=h;obtain⟨h1,h2⟩:=zJ h;obtain⟨g1,g2⟩:=yE G h1;unfold gIs at h2;split at h2
   ·rename_i d' e
    have:=geq_of h2;subst this;obtain⟨u,v,q1,q2,q3⟩:=G.cs x d e;exact ok_glR g1 q1 q2 q3 g2
   ·cases h2
  |_=>exact nf h
 | .fn k,X,sg,e,G,h=>by
  cases e with
  |Name x w1 =>
   replace h:(glb sg x&&fIs sg k x)=true:=h;obtain⟨h1,h2⟩:=zJ h;obtain⟨g1,g2⟩:=yE G h1;obtain⟨i,e1,e2⟩:=zBF h2;obtain⟨a,fd,ps,m1,m2,m3,m4,m5⟩:=G.fs i (mem_of_getElem? e1);show EOk X _ (eC (.fn (fiX sg.fs k)));rw[(va e1).2];subst e2;exact ok_fn g1 m1 g2
  |_=>exact nf h
 | .var i,X,sg,e,G,h=>by
  cases e with
  |Name x w1 =>
   replace h:(vis sg i x)=true:=h;exact ok_var i (ZB G h)
  |_=>exact nf h
 | .bin o a b,X,sg,e,G,h=>by
  cases e with
  |BinOp x op y w1 =>
   replace h:(op==o.op&&(zt a sg x&&zt b sg y))=true:=h;obtain⟨h1,h2⟩:=zJ h;obtain⟨h2,h3⟩:=zJ h2;have:=beq_iff_eq.mp h1;subst this;exact bin_of (sE a G h2) (sE b G h3)
  |_=>exact nf h
 | .cmp o a b,X,sg,e,G,h=>by
  cases e with
  |Compare x v1 v2 w1 =>
   cases v1 with
   |cons op v3 =>
    cases v3 with
    |nil =>
     cases v2 with
     |cons y v4 =>
      cases v4 with
      |nil =>
       replace h:(op==o.op&&yi y&&(zt a sg x&&zt b sg y))=true:=h;obtain⟨h1,h2⟩:=zJ h;obtain⟨h1,h0⟩:=zJ h1;obtain⟨h2,h3⟩:=zJ h2;have:=beq_iff_eq.mp h1;subst this;exact cmp_of G h0 (sE a G h2) (sE b G h3)
      |_=>exact nf h
     |_=>exact nf h
    |_=>exact nf h
   |_=>exact nf h
  |_=>exact nf h
 | .chain o o' a b c,X,sg,e,G,h=>by
  cases e with
  |Compare x v5 v6 w1 =>
   cases v5 with
   |cons op v7 =>
    cases v7 with
    |cons op' v8 =>
     cases v8 with
     |nil =>
      cases v6 with
      |cons y v9 =>
       cases v9 with
       |cons z v10 =>
        cases v10 with
        |nil =>
         replace h:(op==o.op&&op'==o'.op&&o.isI&&o'.isI&&yi z&&(zt a sg x&&(zt b sg y&&zt c sg z)))=true:=h;obtain⟨h1,h2⟩:=zJ h;obtain⟨h1,k5⟩:=zJ h1;obtain⟨h1,k4⟩:=zJ h1;obtain⟨h1,k3⟩:=zJ h1;obtain⟨k1,k2⟩:=zJ h1;obtain⟨h2,h3⟩:=zJ h2;obtain⟨h3,h4⟩:=zJ h3;have:=beq_iff_eq.mp k1;subst this;have:=beq_iff_eq.mp k2;subst this;exact zAE (vc k3) (vc k4) (sE a G h2) (sE b G h3) (sE c G h4) (G2 k5)
        |_=>exact nf h
       |_=>exact nf h
      |_=>exact nf h
     |_=>exact nf h
    |_=>exact nf h
   |_=>exact nf h
  |_=>exact nf h
 | .neg a,X,sg,e,G,h=>by
  cases e with
  |UnaryOp v11 x w1 =>
   cases v11 with
   |USub =>
    replace h:(zt a sg x)=true:=h;exact ok_neg (sE a G h)
   |_=>exact nf h
  |_=>exact nf h
 | .not a,X,sg,e,G,h=>by
  cases e with
  |UnaryOp v12 x w1 =>
   cases v12 with
   |Not =>
    replace h:(zt a sg x)=true:=h;exact ok_not (sE a G h)
   |_=>exact nf h
  |_=>exact nf h
 | .and a b,X,sg,e,G,h=>by
  cases e with
  |BoolOp v13 v14 p =>
   cases v13 with
   |And =>
    cases v14 with
    |cons x v15 =>
     cases v15 with
     |cons y r =>
      replace h:(zt a sg x&&_)=true:=h;obtain⟨h1,h2⟩:=zJ h;cases r with
      |nil=>exact zAu (sE a G h1) (ok_one (sE b G h2))
      |cons z r'=>exact zAu (sE a G h1) (sE b G h2)
     |_=>exact nf h
    |_=>exact nf h
   |_=>exact nf h
  |_=>exact nf h
 | .ifx t a b,X,sg,e,G,h=>by
  cases e with
  |IfExp c x y w1 =>
   replace h:(chkT t sg c&&(zt a sg x&&zt b sg y))=true:=h;obtain⟨h1,h2⟩:=zJ h;obtain⟨h2,h3⟩:=zJ h2;exact ok_if (sT t G h1) (sE a G h2) (sE b G h3)
  |_=>exact nf h
 | .tup as,X,sg,e,G,h=>by
  cases e with
  |Tuple es w1 w2 =>
   replace h:(chkA as sg es)=true:=h;exact ok_tup (sA as G h)
  |_=>exact nf h
 | .lst as,X,sg,e,G,h=>by
  cases e with
  |List es w1 =>
   replace h:(chkA as sg es)=true:=h;exact ok_lst (sA as G h)
  |_=>exact nf h
 | .dic,X,sg,e,G,h=>by
  cases e with
  |Dict v19 v20 w1 =>
   cases v19 with
   |nil =>
    cases v20 with
    |nil =>
     replace h:(true)=true:=h;exact ok_dic pe_dicK
    |_=>exact nf h
   |_=>exact nf h
  |_=>exact nf h
 | .ix a b,X,sg,e,G,h=>by
  cases e with
  |Subscript x y w1 =>
   replace h:(Z3 y&&(zt a sg x&&zt b sg y))=true:=h;obtain⟨h1,h2⟩:=zJ h;obtain⟨h2,h3⟩:=zJ h2;exact ok_ix ix_both ro_ix (ZC h1) (sE a G h2) (sE b G h3)
  |_=>exact nf h
 | .ixO i b,X,sg,e,G,h=>by
  cases e with
  |Subscript v21 y w2 =>
   cases v21 with
   |Name x w1 =>
    replace h:(vis sg i x&&Z3 y&&zt b sg y)=true:=h;obtain⟨h1,h2⟩:=zJ h;obtain⟨h1,h3⟩:=zJ h1;exact ok_ixO i (ZB G h1) (sE b G h2) (ZC h3)
   |_=>exact nf h
  |_=>exact nf h
 | .reprO i,X,sg,e,G,h=>by
  cases e with
  |Call v22 v23 v24 w3 =>
   cases v22 with
   |Name f w1 =>
    cases v23 with
    |cons v25 v26 =>
     cases v25 with
     |Name x w2 =>
      cases v26 with
      |nil =>
       cases v24 with
       |nil =>
        replace h:(f == "repr"&&glb sg "repr"&&bIn sg "repr"&&vis sg i x)=true:=h;obtain⟨h1,h2⟩:=zJ h;obtain⟨h1,h3⟩:=zJ h1;obtain⟨h1,h4⟩:=zJ h1;have:=beq_iff_eq.mp h1;subst this;exact zAP i G.sm G.room.gd (zBG G) (ZB G h2) (yE G h4).1 (wK G h3)
       |_=>exact nf h
      |_=>exact nf h
     |_=>exact nf h
    |_=>exact nf h
   |_=>exact nf h
  |_=>exact nf h
 | .sl a l hh,X,sg,e,G,h=>by
  cases e with
  |Subscript x v27 w2 =>
   cases v27 with
   |Slice lo hi v28 w1 =>
    cases v28 with
    |none =>
     replace h:(zt a sg x&&(chkO l sg lo&&chkO hh sg hi))=true:=h;obtain⟨h1,h2⟩:=zJ h;obtain⟨h2,h3⟩:=zJ h2;exact ok_sl (sE a G h1) (sO l G h2) (sO hh G h3)
    |_=>exact nf h
   |_=>exact nf h
  |_=>exact nf h
 | .comp nl loc capn caps it tg tt el,X,sg,e,G,h=>by
  cases e with
  |ListComp elt v29 scope w1 =>
   cases v29 with
   |cons v30 v31 =>
    cases v30 with
    |mk target iter ifs v32 =>
     cases v32 with
     |ofNat v33 =>
      cases v33 with
      |zero =>
       cases v31 with
       |nil =>
        replace h:(sg.calm&&(G0 sg nl loc capn caps scope&&yi iter&&((chkZ it target&&chkI it sg iter)&&(vZ tg (Wa sg (loc++capn) scope) target&&(_&&zt el (Wa sg (loc++capn) scope) elt)))))=true:=h;obtain⟨hcm,h⟩:=zJ h;obtain⟨h1,h2⟩:=zJ h;obtain⟨h1,k9⟩:=zJ h1;unfold G0 at h1;obtain⟨h1,k7⟩:=zJ h1;obtain⟨h1,k6⟩:=zJ h1;obtain⟨h1,k5⟩:=zJ h1;obtain⟨h1,k4⟩:=zJ h1;obtain⟨h1,k3⟩:=zJ h1;obtain⟨k1,k2⟩:=zJ h1;obtain⟨q1,q2⟩:=zJ h2;obtain⟨q0,q1⟩:=zJ q1;obtain⟨q2,q3⟩:=zJ q2;obtain⟨q3,q4⟩:=zJ q3;have nd:(loc++capn).Nodup:=of_decide_eq_true k3;have kc:∀y∈scope.names,y.2=.cell->scope.names.lookup y.1=some .cell:=λy hy hc=>by
         have:=all_eq_true.mp k5 y hy;rw[hc]at this;simpa using this
        have I:∀cl C ex s H,SgOk (cxB X.nox (loc++capn) scope cl C ex s H) (Wa sg (loc++capn) scope):=λ_ _ _ _ _=>vb (y0 G) nd kc
        refine no_E (ok_lc (X:=X.nox) loc capn (beq_iff_eq.mp k1) (λe s z=>z) (G.calm hcm) (beq_iff_eq.mp k2) (λy hy hl=>?_) (λy hy hc=>?_) (by rw[show X.env.kindOf=λn=>X.env.scope.names.lookup n from rfl,G.sc];exact k6) (G3 (y0 G) k7) (sI it (y0 G) q1 q0) (g:=gOf X.K tg) (λcl C ex s H=>zAR (sg:=Wa sg (loc++capn) scope) hcm (I cl C ex s H) q2) (Zk tg) (λcl C ex s H=>?_) (λcl C ex s H=>sE (sg:=Wa sg (loc++capn) scope) el (I cl C ex s H) q4) (wy k9))
        ·have:=all_eq_true.mp k4 y hy
         rw[hl]at this;simpa using this
        ·exact kc y hy hc
        ·cases ifs with
         |nil =>
          cases tt<;>first|(cases q3;done)|skip;exact GT
         |cons c cs =>
          obtain⟨q3,q5⟩:=zJ q3;have:=isEmpty_iff.mp q3;subst this;exact GU (sT (sg:=Wa sg (loc++capn) scope) tt (I cl C ex s H) q5)
       |_=>exact nf h
      |_=>exact nf h
     |_=>exact nf h
   |_=>exact nf h
  |_=>exact nf h
 | .is T a,X,sg,e,G,h=>by
  cases e with
  |Call v34 v35 v36 w3 =>
   cases v34 with
   |Name f w1 =>
    cases v35 with
    |cons x v37 =>
     cases v37 with
     |cons v38 v39 =>
      cases v38 with
      |Name y w2 =>
       cases v39 with
       |nil =>
        cases v36 with
        |nil =>
         replace h:(f == "isinstance"&&y==T.nm&&glb sg "isinstance"&&bIn sg "isinstance"&&glb sg T.nm&&bIn sg T.nm&&!zO x&&zt a sg x)=true:=h;obtain⟨h1,h2⟩:=zJ h;obtain⟨h1,k7⟩:=zJ h1;obtain⟨h1,k6⟩:=zJ h1;obtain⟨h1,k5⟩:=zJ h1;obtain⟨h1,k4⟩:=zJ h1;obtain⟨h1,k3⟩:=zJ h1;obtain⟨k1,k2⟩:=zJ h1;have:=beq_iff_eq.mp k1;subst this;have:=beq_iff_eq.mp k2;subst this;exact ok_is (kit_of _ T) (yE G k3).1 (wK G k4) (yE G k5).1 (wK G k6) (bt_of T) (sE a G h2) jS (nm_of T) (yE G k5).2 (nst k7)
        |_=>exact nf h
       |_=>exact nf h
      |_=>exact nf h
     |_=>exact nf h
    |_=>exact nf h
   |_=>exact nf h
  |_=>exact nf h
 | .cB b as,X,sg,e,G,h=>by
  cases e with
  |Call v40 v41 v42 w2 =>
   cases v40 with
   |Name f w1 =>
    cases v41 with
    |cons x es =>
     cases v42 with
     |nil =>
      replace h:(sg.calm&&(f==b.nm&&glb sg b.nm&&bIn sg b.nm&&z9 (x::es)&&chkA as sg (x::es)))=true:=h;obtain⟨hcm,h⟩:=zJ h;obtain⟨h1,h2⟩:=zJ h;obtain⟨h1,k4⟩:=zJ h1;obtain⟨h1,k3⟩:=zJ h1;obtain⟨k1,k2⟩:=zJ h1;have:=beq_iff_eq.mp k1;subst this;exact bi_of hcm G b (yE G k2).1 (wK G k3) k4 (sA as G h2)
     |_=>exact nf h
    |_=>exact nf h
   |_=>exact nf h
  |_=>exact nf h
 | .call k as,X,sg,e,G,h=>by
  cases e with
  |Call v43 v44 v45 w2 =>
   cases v43 with
   |Name f w1 =>
    cases v44 with
    |cons x es =>
     cases v45 with
     |nil =>
      replace h:(glb sg f&&fIs sg k f&&zBD sg (zBE as) k&&z9 (x::es)&&chkG as sg (x::es))=true:=h;obtain⟨h1,h2⟩:=zJ h;obtain⟨h1,k4⟩:=zJ h1;obtain⟨h1,k3⟩:=zJ h1;obtain⟨k1,k2⟩:=zJ h1;exact call_ok G k1 k2 k3 k4 (sG as G h2)
     |_=>exact nf h
    |_=>exact nf h
   |_=>exact nf h
  |_=>exact nf h
 | .callV ks g as,X,sg,e,G,h=>by
  cases e with
  |Call fe v57 v58 w1 =>
   cases v57 with
   |cons x es =>
    cases v58 with
    |nil =>
     replace h:(Wm fe&&ks.all (zBD sg (zBE as))&&z9 (x::es)&&(zt g sg fe&&chkG as sg (x::es)))=true:=h;obtain⟨h1,h2⟩:=zJ h;obtain⟨h1,k3⟩:=zJ h1;obtain⟨k1,k2⟩:=zJ h1;obtain⟨h2,h3⟩:=zJ h2;simp only[z9,Bool.and_eq_true,Bool.not_eq_true']at k3;exact Q9 (zBH G k2) (sE g G h2) (sG as G h3) (vd _ _) (call_of k1) k3.1 k3.2
    |_=>exact nf h
   |_=>exact nf h
  |_=>exact nf h
 | .isC cl y a,X,sg,e,G,h=>by
  cases e with
  |Call v200 v201 v202 w1 =>
   cases v200 with
   |Name f w2 =>
    cases v201 with
    |cons x v203 =>
     cases v203 with
     |cons v204 v205 =>
      cases v204 with
      |Name z w3 =>
       cases v205 with
       |nil =>
        cases v202 with
        |nil =>
         replace h:(f == "isinstance"&&z==y&&glb sg "isinstance"&&bIn sg "isinstance"&&glb sg y&&(cl==sg.cl&&sg.cl.contains y)&&!zO x&&zt a sg x)=true:=h;obtain⟨h,h2⟩:=zJ h;obtain⟨h,k7⟩:=zJ h;obtain⟨h,k6⟩:=zJ h;obtain⟨h,k5⟩:=zJ h;obtain⟨h,k4⟩:=zJ h;obtain⟨h,k3⟩:=zJ h;obtain⟨k1,k2⟩:=zJ h;obtain⟨k10,k8⟩:=zJ k6;have:=beq_iff_eq.mp k1;subst this;have:=beq_iff_eq.mp k2;subst this;have ecl:cl=sg.cl:=by simpa using k10
         subst ecl;have hy:z∈sg.cl:=by simpa using k8
         obtain⟨T,t1,t2,t3⟩:=G.cl (List.ne_nil_of_mem hy);obtain⟨Y,y1,y2,y3⟩:=t3 z hy;exact ok_isC (λc hc=>let ⟨C,c1,c2,_⟩:=t3 c hc;⟨C,c1,c2⟩) y1 y2 y3 (yE G k3).1 (wK G k4) (yE G k5).1 (sE a G h2) jS (yE G k5).2 (nst k7)
        |_=>exact nf h
       |_=>exact nf h
      |_=>exact nf h
     |_=>exact nf h
    |_=>exact nf h
   |_=>exact nf h
  |_=>exact nf h
 | .isV cl a,X,sg,e,G,h=>by
  cases e with
  |Call v200 v201 v202 w1 =>
   cases v200 with
   |Name f w2 =>
    cases v201 with
    |cons x v203 =>
     cases v203 with
     |cons v204 v205 =>
      cases v204 with
      |Name z w3 =>
       cases v205 with
       |nil =>
        cases v202 with
        |nil =>
         replace h:(f == "isinstance"&&z == "ValueError"&&glb sg "isinstance"&&bIn sg "isinstance"&&glb sg "ValueError"&&bIn sg "ValueError"&&(cl==sg.cl&&!sg.cl.isEmpty)&&!zO x&&zt a sg x)=true:=h;obtain⟨h,h2⟩:=zJ h;obtain⟨h,k7⟩:=zJ h;obtain⟨h,k6⟩:=zJ h;obtain⟨h,k9⟩:=zJ h;obtain⟨h,k5⟩:=zJ h;obtain⟨h,k4⟩:=zJ h;obtain⟨h,k3⟩:=zJ h;obtain⟨k1,k2⟩:=zJ h;obtain⟨k10,k8⟩:=zJ k6;have:=beq_iff_eq.mp k1;subst this;have:=beq_iff_eq.mp k2;subst this;have ecl:cl=sg.cl:=by simpa using k10
         subst ecl;obtain⟨T,t1,t2,t3⟩:=G.cl (λz=>by rw[z]at k8;cases k8);exact ok_isV (T:=T) (λc hc=>let ⟨C,c1,c2,_⟩:=t3 c hc;⟨C,c1,c2⟩) (yE G k3).1 (wK G k4) (yE G k5).1 (wK G k9) ZV (sE a G h2) jS (nst k7)
        |_=>exact nf h
       |_=>exact nf h
      |_=>exact nf h
     |_=>exact nf h
    |_=>exact nf h
   |_=>exact nf h
  |_=>exact nf h
 | .cnt a b,X,sg,e,G,h=>by
  cases e with
  |Call v200 v201 v202 cp =>
   cases v200 with
   |Attribute v206 m ap =>
    cases v206 with
    |Name x p =>
     cases v201 with
     |cons v v203 =>
      cases v203 with
      |nil =>
       cases v202 with
       |nil =>
        replace h:(m == "count"&&ap.endLine==cp.line&&!zO v&&(zt a sg (.Name x p)&&zt b sg v))=true:=h;obtain⟨h,h2⟩:=zJ h;obtain⟨h2,h3⟩:=zJ h2;obtain⟨h,k3⟩:=zJ h;obtain⟨k1,k2⟩:=zJ h;have:=beq_iff_eq.mp k1;subst this;exact ok_cnt (sE a G h2) (sE b G h3) rfl (nst k3) k2 (G5 (nst k3))
       |_=>exact nf h
      |_=>exact nf h
     |_=>exact nf h
    |_=>exact nf h
   |_=>exact nf h
  |_=>exact nf h
 | .idx a b,X,sg,e,G,h=>by
  cases e with
  |Call v200 v201 v202 cp =>
   cases v200 with
   |Attribute v206 m ap =>
    cases v206 with
    |Name x p =>
     cases v201 with
     |cons v v203 =>
      cases v203 with
      |nil =>
       cases v202 with
       |nil =>
        replace h:(m == "index"&&ap.endLine==cp.line&&!zO v&&(zt a sg (.Name x p)&&zt b sg v))=true:=h;obtain⟨h,h2⟩:=zJ h;obtain⟨h2,h3⟩:=zJ h2;obtain⟨h,k3⟩:=zJ h;obtain⟨k1,k2⟩:=zJ h;have:=beq_iff_eq.mp k1;subst this;exact ok_idxG G.sm (JB G) (sE a G h2) (sE b G h3) rfl (nst k3) k2 (G5 (nst k3))
       |_=>exact nf h
      |_=>exact nf h
     |_=>exact nf h
    |_=>exact nf h
   |_=>exact nf h
  |_=>exact nf h
theorem sT:∀(t:Tx) {X:Cx} {sg:Sg} {e:Expr},SgOk X sg->chkT t sg e=true->TOk X e (dT sg.fs t)
 | .tAnd a b,X,sg,e,G,h=>by
  cases e with
  |BoolOp v59 v60 p =>
   cases v59 with
   |And =>
    cases v60 with
    |cons x v61 =>
     cases v61 with
     |cons y r =>
      replace h:(chkT a sg x&&_)=true:=h;obtain⟨h1,h2⟩:=zJ h;cases r with
      |nil=>exact tk_w (zAt (sT a G h1) (wk_and1 (sT b G h2)))
      |cons z r'=>exact tk_w (zAt (sT a G h1) (zBK (sT b G h2)))
     |_=>exact nf h
    |_=>exact nf h
   |_=>exact nf h
  |_=>exact nf h
 | .tOr a b,X,sg,e,G,h=>by
  cases e with
  |BoolOp v62 v63 p =>
   cases v62 with
   |Or =>
    cases v63 with
    |cons x v64 =>
     cases v64 with
     |cons y r =>
      replace h:(chkT a sg x&&_)=true:=h;obtain⟨h1,h2⟩:=zJ h;cases r with
      |nil=>exact tk_w (wk_or (sT a G h1) (wk_or1 (sT b G h2)))
      |cons z r'=>exact tk_w (wk_or (sT a G h1) (zBK (sT b G h2)))
     |_=>exact nf h
    |_=>exact nf h
   |_=>exact nf h
  |_=>exact nf h
 | .tNot a,X,sg,e,G,h=>by
  cases e with
  |UnaryOp v65 x w1 =>
   cases v65 with
   |Not =>
    replace h:(chkT a sg x)=true:=h;exact tk_not (sT a G h)
   |_=>exact nf h
  |_=>exact nf h
 | .tE a,X,sg,e,G,h=>by
  obtain⟨h1,h2⟩:=zJ h;rcases Bool.or_eq_true _ _ |>.mp h1 with h1|h1
  ·exact ok_test (sE a G h2) (test_of h1)
  ·cases a with
   |cmp o a b =>
    cases e with
    |Compare x v66 v67 w1 =>
     cases v66 with
     |cons op v68 =>
      cases v68 with
      |nil =>
       cases v67 with
       |cons y v69 =>
        cases v69 with
        |nil =>
         replace h2:(op==o.op&&yi y&&(zt a sg x&&zt b sg y))=true:=h2;obtain⟨h1,k1⟩:=zJ h2;obtain⟨h1,h0⟩:=zJ h1;obtain⟨k2,k3⟩:=zJ k1;have:=beq_iff_eq.mp h1;subst this;exact cmpT_of G h0 (sE a G k2) (sE b G k3)
        |_=>exact absurd h2 Bool.false_ne_true
       |_=>exact absurd h2 Bool.false_ne_true
      |_=>exact absurd h2 Bool.false_ne_true
     |_=>exact absurd h2 Bool.false_ne_true
    |_=>exact absurd h2 Bool.false_ne_true
   |chain o o' a b c =>
    cases e with
    |Compare x v70 v71 w1 =>
     cases v70 with
     |cons op v72 =>
      cases v72 with
      |cons op' v73 =>
       cases v73 with
       |nil =>
        cases v71 with
        |cons y v74 =>
         cases v74 with
         |cons z v75 =>
          cases v75 with
          |nil =>
           replace h2:(op==o.op&&op'==o'.op&&o.isI&&o'.isI&&yi z&&(zt a sg x&&(zt b sg y&&zt c sg z)))=true:=h2;obtain⟨h1,j2⟩:=zJ h2;obtain⟨h1,k5⟩:=zJ h1;obtain⟨h1,k4⟩:=zJ h1;obtain⟨h1,k3⟩:=zJ h1;obtain⟨k1,k2⟩:=zJ h1;obtain⟨j2,j3⟩:=zJ j2;obtain⟨j3,j4⟩:=zJ j3;have:=beq_iff_eq.mp k1;subst this;have:=beq_iff_eq.mp k2;subst this;exact Ga (vc k3) (vc k4) (sE a G j2) (sE b G j3) (sE c G j4) (G2 k5)
          |_=>exact absurd h2 Bool.false_ne_true
         |_=>exact absurd h2 Bool.false_ne_true
        |_=>exact absurd h2 Bool.false_ne_true
       |_=>exact absurd h2 Bool.false_ne_true
      |_=>exact absurd h2 Bool.false_ne_true
     |_=>exact absurd h2 Bool.false_ne_true
    |_=>exact absurd h2 Bool.false_ne_true
   |_=>cases h1
 | .tBor i a,X,sg,e,G,h=>ok_bor i (sT a G h)
 | .tTr,X,sg,e,G,h=>absurd h Bool.false_ne_true
theorem sA:∀(t:Ax) {X:Cx} {sg:Sg} {e:List Expr},SgOk X sg->chkA t sg e=true->AOk X e (dA sg.fs t)
 | .nil,X,sg,e,G,h=>by
  have:=isEmpty_iff.mp h;subst this;exact ak_nil
 | .cons a as,X,sg,e,G,h=>by
  cases e with
  |cons x r =>
   replace h:(!zO x&&(zt a sg x&&chkA as sg r))=true:=h;obtain⟨h1,h2⟩:=zJ h;obtain⟨h2,h3⟩:=zJ h2;exact ak_cons (sE a G h2) (sA as G h3) (nst h1)
  |_=>exact nf h
theorem sG:∀(t:Gx) {X:Cx} {sg:Sg} {e:List Expr},SgOk X sg->chkG t sg e=true->Q5 X e (dG sg.fs t)
 | .nil,X,sg,e,G,h=>by
  have:=isEmpty_iff.mp h;subst this;exact ga_nil
 | .ev a as,X,sg,e,G,h=>by
  cases e with
  |cons x r =>
   replace h:(!zO x&&(zt a sg x&&chkG as sg r))=true:=h;obtain⟨h1,h2⟩:=zJ h;obtain⟨h2,h3⟩:=zJ h2;exact ga_ev (sE a G h2) (sG as G h3) (nst h1)
  |_=>exact nf h
 | .lend i as,X,sg,e,G,h=>by
  cases e with
  |cons v76 r =>
   cases v76 with
   |Name x w1 =>
    replace h:(vis sg i x&&chkG as sg r)=true:=h;obtain⟨h1,h2⟩:=zJ h;exact ga_lend (ZB G h1) (sG as G h2)
   |_=>exact nf h
  |_=>exact nf h
theorem sO:∀(t:Ox) {X:Cx} {sg:Sg} {e:Option Expr},SgOk X sg->chkO t sg e=true->OOk X e (dO sg.fs t)
 | .oN,X,sg,e,G,h=>by
  cases e with
  |none=>exact oo_none
  |some e=>cases h
 | .oS a,X,sg,e,G,h=>by
  cases e with
  |none=>cases h
  |some e=>exact oo_some (sE a G h)
theorem sI:∀(t:Ix) {X:Cx} {sg:Sg} {tg e:Expr},SgOk X sg->chkI t sg e=true->chkZ t tg=true->IOk X tg e (dI sg.fs t)
 | .iL a,X,sg,tg,e,G,h,hz=>by
  exact io_list (sE a G h)
 | .iT a,X,sg,tg,e,G,h,hz=>by
  exact io_tup (sE a G h)
 | .iR1 as,X,sg,tg,e,G,h,hz=>by
  cases e with
  |Call v77 v78 v79 w2 =>
   cases v77 with
   |Name f w1 =>
    cases v78 with
    |cons x v80 =>
     cases v80 with
     |nil =>
      cases v79 with
      |nil =>
       replace h:(f == "range"&&glb sg "range"&&bIn sg "range"&&!zO x&&chkA as sg [x])=true:=h;obtain⟨h1,h2⟩:=zJ h;obtain⟨h1,k4⟩:=zJ h1;obtain⟨h1,k3⟩:=zJ h1;obtain⟨k1,k2⟩:=zJ h1;have:=beq_iff_eq.mp k1;subst this;exact io_r1 (yE G k2).1 (wK G k3) (sA as G h2) (nst k4)
      |_=>exact nf h
     |_=>exact nf h
    |_=>exact nf h
   |_=>exact nf h
  |_=>exact nf h
 | .iR2 as,X,sg,tg,e,G,h,hz=>by
  cases e with
  |Call v81 v82 v83 w2 =>
   cases v81 with
   |Name f w1 =>
    cases v82 with
    |cons x v84 =>
     cases v84 with
     |cons y v85 =>
      cases v85 with
      |nil =>
       cases v83 with
       |nil =>
        replace h:(f == "range"&&glb sg "range"&&bIn sg "range"&&!zO x&&!zO y&&chkA as sg [x,y])=true:=h;obtain⟨h1,h2⟩:=zJ h;obtain⟨h1,k5⟩:=zJ h1;obtain⟨h1,k4⟩:=zJ h1;obtain⟨h1,k3⟩:=zJ h1;obtain⟨k1,k2⟩:=zJ h1;have:=beq_iff_eq.mp k1;subst this;exact io_r2 (yE G k2).1 (wK G k3) (sA as G h2) (nst k4) (nst k5)
       |_=>exact nf h
      |_=>exact nf h
     |_=>exact nf h
    |_=>exact nf h
   |_=>exact nf h
  |_=>exact nf h
end
theorem zAS{X:Cx}{sg:Sg}(G:SgOk X sg){i:Nat}{x:Str}{px spos:Pos}{nl:Nat}{loc capn:List Str}{caps:List Nat}{it:Ix}{tg:Tg}{tt:Tx}{el:Ex}{v:Expr}(hi:X.N[i]?=some x)(hx:Loc X.env.scope x)(hf:X.fn x=true\/X.env.scope.names.lookup x=some .local)
  (hsw:swapsWith v (some (.Name x px)) spos.line X.env=pure true) (h:zt (.comp nl loc capn caps it tg tt el) sg v=true):SOk X (.Assign [.Name x px] v spos) (sSet i (dE sg.fs (.comp nl loc capn caps it tg tt el))):=by
 cases v with
 |ListComp elt v86 scope w1 =>
  cases v86 with
  |cons v87 v88 =>
   cases v87 with
   |mk target iter ifs v89 =>
    cases v89 with
    |ofNat v90 =>
     cases v90 with
     |zero =>
      cases v88 with
      |nil =>
       replace h:(sg.calm&&(G0 sg nl loc capn caps scope&&yi iter&&((chkZ it target&&chkI it sg iter)&&(vZ tg (Wa sg (loc++capn) scope) target&&(_&&zt el (Wa sg (loc++capn) scope) elt)))))=true:=h;obtain⟨hcm,h⟩:=zJ h;obtain⟨h1,h2⟩:=zJ h;obtain⟨h1,k9⟩:=zJ h1;unfold G0 at h1;obtain⟨h1,k7⟩:=zJ h1;obtain⟨h1,k6⟩:=zJ h1;obtain⟨h1,k5⟩:=zJ h1;obtain⟨h1,k4⟩:=zJ h1;obtain⟨h1,k3⟩:=zJ h1;obtain⟨k1,k2⟩:=zJ h1;obtain⟨q1,q2⟩:=zJ h2;obtain⟨q0,q1⟩:=zJ q1;obtain⟨q2,q3⟩:=zJ q2;obtain⟨q3,q4⟩:=zJ q3;have nd:(loc++capn).Nodup:=of_decide_eq_true k3;have kc:∀y∈scope.names,y.2=.cell->scope.names.lookup y.1=some .cell:=λy hy hc=>by
        have:=all_eq_true.mp k5 y hy;rw[hc]at this;simpa using this
       have I:∀cl C ex s H,SgOk (cxB X.nox (loc++capn) scope cl C ex s H) (Wa sg (loc++capn) scope):=λ_ _ _ _ _=>vb (y0 G) nd kc
       refine no_set▸no_S (sk_lc (X:=X.nox) loc capn G.nd hi hx hf (beq_iff_eq.mp k1) (λe s z=>z) (G.calm hcm) (beq_iff_eq.mp k2) (λy hy hl=>?_) (λy hy hc=>?_) (by rw[show X.env.kindOf=λn=>X.env.scope.names.lookup n from rfl,G.sc];exact k6) (G3 (y0 G) k7) (sI it (y0 G) q1 q0) (g:=gOf X.K tg) (λcl C ex s H=>zAR (sg:=Wa sg (loc++capn) scope) hcm (I cl C ex s H) q2) (Zk tg) (λcl C ex s H=>?_) (λcl C ex s H=>sE (sg:=Wa sg (loc++capn) scope) el (I cl C ex s H) q4) (wy k9) hsw)
       ·have:=all_eq_true.mp k4 y hy
        rw[hl]at this;simpa using this
       ·exact kc y hy hc
       ·cases ifs with
        |nil =>
         cases tt<;>first|(cases q3;done)|skip;exact GT
        |cons c cs =>
         obtain⟨q3,q5⟩:=zJ q3;have:=isEmpty_iff.mp q3;subst this;exact GU (sT (sg:=Wa sg (loc++capn) scope) tt (I cl C ex s H) q5)
      |_=>exact nf h
     |_=>exact nf h
    |_=>exact nf h
  |_=>exact nf h
 |_=>exact nf h
mutual
theorem sS:∀(t:Sx) {X:Cx} {sg:Sg} {e:Stmt},SgOk X sg->chkS t sg e=true->SOk X e (dS sg.fs t)
 | .sIf t a b,X,sg,e,G,h=>by
  cases e with
  |If c x y w1 =>
   replace h:(chkT t sg c&&(chkB a sg x&&chkB b sg y))=true:=h;obtain⟨h1,h2⟩:=zJ h;obtain⟨h2,h3⟩:=zJ h2;exact sk_if (sT t G h1) (sB a G h2) (sB b G h3)
  |_=>exact nf h
 | .sSet i a,X,sg,e,G,h=>by
  cases e with
  |Assign v91 v w1 =>
   cases v91 with
   |cons v92 v93 =>
    cases v92 with
    |Name x px =>
     cases v93 with
     |nil =>
      replace h:(locd sg i x&&setOk sg x px a v&&zt a sg v)=true:=h;obtain⟨h1,h2⟩:=zJ h;obtain⟨h1,h3⟩:=zJ h1;obtain⟨q1,q2,q3⟩:=Ww G h1;unfold setOk at h3;split at h3
      ·obtain⟨k1,k2⟩:=zJ h3
       rename_i el gs scope vp;cases hb:swB sg _ _ scope vp with
       |false=>exact zAy G.nd q1 q2 (sE a G h2) (by rw[zBI G k1,hb]) q3
       |true =>
        rw[hb]at k2;cases a with
        |comp nl loc capn caps it tg tt el'=>exact zAS G q1 q2 q3 (by rw[zBI G k1,hb]) h2
        |_=>cases k2
      ·exact zAy G.nd q1 q2 (sE a G h2) (ZL h3) q3
     |_=>exact nf h
    |_=>exact nf h
   |_=>exact nf h
  |_=>exact nf h
 | .sAny,X,sg,e,G,h=>by
  exact sk_any
 | .sTup is a,X,sg,e,G,h=>by
  cases e with
  |Assign v94 v w1 =>
   cases v94 with
   |cons v95 v96 =>
    cases v95 with
    |Tuple es k p =>
     cases v96 with
     |nil =>
      replace h:(sg.calm&&(vZ.all2 sg is es&&jP v&&swOk sg es v&&zt a sg v))=true:=h;obtain⟨hcm,h⟩:=zJ h;obtain⟨h1,h2⟩:=zJ h;obtain⟨h1,k3⟩:=zJ h1;obtain⟨k1,k2⟩:=zJ h1;obtain⟨q1,q2,q3⟩:=Jk _ is G k1;exact sk_tup (zAj (G.calm hcm) q1 q2 q3) (sE a G h2) (G4 k2) (sw_ok G k3)
     |_=>exact nf h
    |_=>exact nf h
   |_=>exact nf h
  |_=>exact nf h
 | .sRet a,X,sg,e,G,h=>by
  cases e with
  |Return v109 w1 =>
   cases v109 with
   |some v =>
    replace h:(zt a sg v)=true:=h;exact sk_ret (sE a G h)
   |_=>exact nf h
  |_=>exact nf h
 | .sDrop a,X,sg,e,G,h=>by
  cases e with
  |Expr v w1 =>
   replace h:(jP v&&zt a sg v)=true:=h;obtain⟨h1,h2⟩:=zJ h;exact sk_drop (sE a G h2) (ZL h1)
  |_=>exact nf h
 | .sIx i b a,X,sg,e,G,h=>by
  cases e with
  |Assign v110 v w3 =>
   cases v110 with
   |cons v111 v112 =>
    cases v111 with
    |Subscript v113 y w2 =>
     cases v113 with
     |Name x w1 =>
      cases v112 with
      |nil =>
       replace h:(vis sg i x&&Z3 y&&jP v&&(zt b sg y&&zt a sg v))=true:=h;obtain⟨h1,h2⟩:=zJ h;obtain⟨h1,h0⟩:=zJ h1;obtain⟨h1,h4⟩:=zJ h1;obtain⟨h2,h3⟩:=zJ h2;exact Q0 i (ZB G h1) (sE b G h2) (sE a G h3) (set_of h4) (G4 h0)
      |_=>exact nf h
     |_=>exact nf h
    |_=>exact nf h
   |_=>exact nf h
  |_=>exact nf h
 | .sApp i a,X,sg,e,G,h=>by
  cases e with
  |Expr v114 w2 =>
   cases v114 with
   |Call v115 v116 v117 cp =>
    cases v115 with
    |Attribute v118 m ap =>
     cases v118 with
     |Name x w1 =>
      cases v116 with
      |cons v v119 =>
       cases v119 with
       |nil =>
        cases v117 with
        |nil =>
         replace h:(m == "append"&&ap.endLine==cp.line&&vis sg i x&&!zO v&&zt a sg v)=true:=h;obtain⟨h1,h2⟩:=zJ h;obtain⟨h1,k4⟩:=zJ h1;obtain⟨h1,k3⟩:=zJ h1;obtain⟨k1,k2⟩:=zJ h1;have:=beq_iff_eq.mp k1;subst this;exact sk_app i (ZB G k3) (sE a G h2) rfl (G5 (nst k4)) k2 (zI (nst k4)) rfl rfl
        |_=>exact nf h
       |_=>exact nf h
      |_=>exact nf h
     |_=>exact nf h
    |_=>exact nf h
   |_=>exact nf h
  |_=>exact nf h
 | .sForL a tg b,X,sg,e,G,h=>by
  cases e with
  |For t it body v120 w1 =>
   cases v120 with
   |nil =>
    replace h:(sg.calm&&(yi it&&vZ tg sg t&&(zt a sg it&&chkB b sg body)))=true:=h;obtain⟨hcm,h⟩:=zJ h;obtain⟨h1,h2⟩:=zJ h;obtain⟨h1,h0⟩:=zJ h1;obtain⟨h2,h3⟩:=zJ h2;exact no_S (sk_forL (X:=X.nox) PassesOwn.never (G.calm hcm) (sE a (y0 G) h2) (zAR hcm (y0 G) h0) (Zk tg) (sB b (y0 G) h3) (wy h1))
   |_=>exact nf h
  |_=>exact nf h
 | .sForR1 as tg b,X,sg,e,G,h=>by
  cases e with
  |For t v122 body v123 w3 =>
   cases v122 with
   |Call v124 v125 v126 w2 =>
    cases v124 with
    |Name f w1 =>
     cases v125 with
     |cons x v127 =>
      cases v127 with
      |nil =>
       cases v126 with
       |nil =>
        cases v123 with
        |nil =>
         replace h:(sg.calm&&(f == "range"&&glb sg "range"&&bIn sg "range"&&!zO x&&vZ tg sg t&&(chkA as sg [x]&&chkB b sg body)))=true:=h;obtain⟨hcm,h⟩:=zJ h;obtain⟨h1,h2⟩:=zJ h;obtain⟨h1,k5⟩:=zJ h1;obtain⟨h1,k4⟩:=zJ h1;obtain⟨h1,k3⟩:=zJ h1;obtain⟨k1,k2⟩:=zJ h1;obtain⟨h2,h3⟩:=zJ h2;have:=beq_iff_eq.mp k1;subst this;exact no_S (Q2 (X:=X.nox) PassesOwn.never (G.calm hcm) (yE (y0 G) k2).1 (wK (y0 G) k3) (sA as (y0 G) h2) (zAR hcm (y0 G) k5) (Zk tg) (sB b (y0 G) h3) (nst k4) (wy rfl))
        |_=>exact nf h
       |_=>exact nf h
      |_=>exact nf h
     |_=>exact nf h
    |_=>exact nf h
   |_=>exact nf h
  |_=>exact nf h
 | .sRaise c,X,sg,e,G,h=>by
  cases e with
  |Raise v200 v201 w1 =>
   cases v200 with
   |some v202 =>
    cases v202 with
    |Call v203 v204 v205 w2 =>
     cases v203 with
     |Name x w3 =>
      cases v204 with
      |nil =>
       cases v205 with
       |nil =>
        cases v201 with
        |none =>
         replace h:(sg.calm&&(x==c&&glb sg c&&sg.rs.contains c))=true:=h;obtain⟨hcm,h⟩:=zJ h;obtain⟨h,k3⟩:=zJ h;obtain⟨k1,k2⟩:=zJ h;have:=beq_iff_eq.mp k1;subst this;obtain⟨C,c1,c2⟩:=G.rs x (by simpa using k3);exact zAJ (G.calm hcm) (yE G k2).1 c1 c2 (yE G k2).2
        |_=>exact nf h
       |_=>exact nf h
      |_=>exact nf h
     |_=>exact nf h
    |_=>exact nf h
   |_=>exact nf h
  |_=>exact nf h
 | .sTry cl b i hb,X,sg,e,G,h=>by
  cases e with
  |Try body v200 v201 v202 w1 =>
   cases v200 with
   |cons v203 v204 =>
    cases v203 with
    |ExceptHandler v205 v206 v207 w2 =>
     cases v205 with
     |some v208 =>
      cases v208 with
      |Name t w3 =>
       cases v206 with
       |some n =>
        cases v207 with
        |cons b0 suite =>
         cases v204 with
         |nil =>
          cases v201 with
          |nil =>
           cases v202 with
           |nil =>
            replace h:(t == "ThrowError"&&glb sg "ThrowError"&&(cl==sg.cl&&!sg.cl.isEmpty)&&sg.top&&(sg.N[i]?==some n&&kIs sg n .local)&&(chkB b sg body&&chkB hb {sg with calm:=false} (b0::suite)))=true:=h
            obtain⟨h,h2⟩:=zJ h;obtain⟨h2,h3⟩:=zJ h2;obtain⟨h,k5⟩:=zJ h;obtain⟨h,k4⟩:=zJ h;obtain⟨h,k3⟩:=zJ h;obtain⟨k1,k2⟩:=zJ h;obtain⟨k3,k6⟩:=zJ k3;obtain⟨k5,k7⟩:=zJ k5;have:=beq_iff_eq.mp k1;subst this;have ecl:cl=sg.cl:=by simpa using k3
            subst ecl;obtain⟨T,t1,t2,t3⟩:=G.cl (λz=>by rw[z]at k6;cases k6);exact sk_try (G.stk k4) G.nd (by rw[G.N];simpa using k5) (JA G k7) (yE G k2).1 (yE G k2).2 t1 t2 (λc hc=>let ⟨C,c1,c2,_⟩:=t3 c hc;⟨C,c1,c2⟩) (λpn E=>sB b (tr_ok G pn E) h2) (λa=>sB (sg:={sg with calm:=false}) hb (hd_ok G a) h3)
           |_=>exact nf h
          |_=>exact nf h
         |_=>exact nf h
        |_=>exact nf h
       |_=>exact nf h
      |_=>exact nf h
     |_=>exact nf h
   |_=>exact nf h
  |_=>exact nf h
theorem sB:∀(t:Bx) {X:Cx} {sg:Sg} {e:List Stmt},SgOk X sg->chkB t sg e=true->uQ X e (dB sg.fs t)
 | .bNil,X,sg,e,G,h=>by
  have:=isEmpty_iff.mp h;subst this;exact sk_nil
 | .bOne a,X,sg,e,G,h=>by
  cases e with
  |cons s v135 =>
   cases v135 with
   |nil =>
    replace h:(chkS a sg s)=true:=h;exact sk_one (sS a G h)
   |_=>exact nf h
  |_=>exact nf h
 | .bSeq a b,X,sg,e,G,h=>by
  cases e with
  |cons s r =>
   replace h:(chkS a sg s&&chkB b sg r)=true:=h;obtain⟨h1,h2⟩:=zJ h;exact sk_cons (sS a G h1) (sB b G h2)
  |_=>exact nf h
end
end
def ClOk(K:PySem.W.Frag)(mg:Str->Option Value)(cl rs:List Str):Prop :=
 (cl≠[]->∃T,mg "ThrowError"=some (.ref T)/\TCls K T/\∀c∈cl,∃C,mg c=some (.ref C)/\XCls K c C T/\C≠T)/\(∀c∈rs,∃C,mg c=some (.ref C)/\excIn K C VB "ValueError.__new__"=true)/\uT K
theorem def_ok{P:Program}{w:World}{K:PySem.W.Frag}{mg:Str->Option Value}{base:Heap}{x:Str}{st:Stmt}{ps N:List Str}{n lv:Nat}{cs:List (Str×D)}{fs:List FI}{bs:List Str}{c:Bool}{cl rs:List Str}(t:Bx)(T:JU K mg x st ps)(S:FnScope N ps (zX st))(hn:N.length=n)
  (hcs:∀x d,cs.lookup x=some d->∃u v,mg x=some u/\zv v u/\∀H,Rep K mg H d v)
  (hfs:∀i∈fs,∃f fd ps,mg i.x=some (.ref f)/\keepIn K (.ref f)=true/\wP K fd ps []/\ps.length=i.n/\FnOkN (!i.wild) P w K mg base i.lv f fd ps (spM K mg i.n i.F))
  (hbs:∀x∈bs,mg x=none) (hcl:ClOk K mg cl rs) (h:chkB t ⟨N,zX st,true,cs,fs,bs,lv,c,cl,rs,[]⟩ (yP st)=true):FOk P w K mg base c x (lv+1) ps (fnM n (dB fs t)):=by
 obtain⟨a,fd,hm,F,bnd⟩:=T;subst hn;refine⟨a,fd,hm,F.kp,bnd,fn_ok F S λcdv A outer s H E hd hr=>?_⟩;exact sB (sg:=⟨N,zX st,true,cs,fs,bs,lv,c,cl,rs,[]⟩) t ⟨rfl,rfl,λ_ _=>rfl,(λx h=>by cases h),id,hd,λ_=>⟨rfl,rfl⟩,S.nd,hcs,hfs,hbs,hr,hcl.1,hcl.2.1,hcl.2.2⟩ h
end DV
namespace DV
open PySem L2
def G6(K:PySem.W.Frag)(mg:Str->Option Value)(cs:List (Str×D)):Prop:=∀x d,cs.lookup x=some d->∃u v,mg x=some u/\zv v u/\∀H,Rep K mg H d v
def BsOk(mg:Str->Option Value)(bs:List Str):Prop:=∀x∈bs,mg x=none
def FsOk(P:Program)(w:World)(K:PySem.W.Frag)(mg:Str->Option Value)(base:Heap)(fs:List FI):Prop :=
 ∀i∈fs,∃f fd ps,mg i.x=some (.ref f)/\keepIn K (.ref f)=true/\wP K fd ps []/\ps.length=i.n/\FnOkN (!i.wild) P w K mg base i.lv f fd ps (spM K mg i.n i.F)
section
variable{P:Program}{w:World}{K:PySem.W.Frag}{mg:Str->Option Value}{base:Heap}
theorem cs_nil:G6 K mg []:=λx d h=>by cases h
theorem zBL{x:Str}{d:D}{cs:List (Str×D)}(h:∃u v,mg x=some u/\zv v u/\∀H,Rep K mg H d v)(t:G6 K mg cs):G6 K mg ((x,d)::cs):=λy d' e=>by
 rw[lookup_cons]at e;cases hy:y==x with
 |true =>
  rw[hy]at e;cases e;have:y=x:=by simpa using hy
  subst this;exact h
 |false=>rw[hy]at e;exact t y d' e
theorem Yh{x:Str}{i:Int}{cs:List (Str×D)}(h:∃t,mg x=some (.int i t))(t:G6 K mg cs):G6 K mg ((x,.int i)::cs):=by
 obtain⟨k,h⟩:=h;exact zBL ⟨_,.int i,h,⟨_,rfl⟩,λH=>by simp only[Rep]⟩ t
theorem cs_tup{x:Str}{d:D}{cs:List (Str×D)}(h:∃a,mg x=some (.ref a)/\∀H,Rep K mg H d (.ref a))(t:G6 K mg cs):G6 K mg ((x,d)::cs):=by
 obtain⟨a,h,r⟩:=h;exact zBL ⟨_,.ref a,h,rfl,r⟩ t
theorem bs_nil:BsOk mg []:=λx h=>by cases h
theorem yw{x:Str}{bs:List Str}(h:mg x=none)(t:BsOk mg bs):BsOk mg (x::bs):=λy e=>by
 rcases mem_cons.mp e with e|e
 ·subst e;exact h
 ·exact t y e
theorem z0:FsOk P w K mg base []:=λx h=>by cases h
theorem zQ{x:Str}{n lv:Nat}{F:MF}{fs:List FI}{ps:List Str}{wl:Bool}(h:FOk P w K mg base (!wl) x lv ps F)(hl:ps.length=n)(t:FsOk P w K mg base fs):FsOk P w K mg base (⟨x,n,lv,wl,F⟩::fs):=λi e=>by
 rcases mem_cons.mp e with e|e
 ·subst e
  subst hl;obtain⟨a,fd,h1,h2,h3,h4⟩:=h;exact⟨a,fd,ps,h1,h2,h3,rfl,h4⟩
 ·exact t i e
theorem def_at{x:Str}{st:Stmt}{ps N:List Str}{n lv:Nat}{cs:List (Str×D)}{fs:List FI}{bs:List Str}{cl rs:List Str}(t:Bx){a:Addr}{fd:FuncData}(F:Fun K x x st a fd)(S:FnScope N ps (zX st))(hn:N.length=n)
  (hcs:G6 K mg cs) (hfs:FsOk P w K mg base fs) (hbs:BsOk mg bs) (hcl:ClOk K mg cl rs) (h:chkB t ⟨N,zX st,true,cs,fs,bs,lv,true,cl,rs,[]⟩ (yP st)=true):FnOk P w K mg base (CXx P w) (lv+1) a fd ps (spM K mg ps.length (fnM n (dB fs t))):=by
 subst hn;refine(fn_ok (c:=true) F S λcdv A outer s H E hd hr=>?_).fn;exact sB (sg:=⟨N,zX st,true,cs,fs,bs,lv,true,cl,rs,[]⟩) t ⟨rfl,rfl,λ_ _=>rfl,(λx h=>by cases h),id,hd,λ_=>⟨rfl,rfl⟩,S.nd,hcs,hfs,hbs,hr,hcl.1,hcl.2.1,hcl.2.2⟩ h
def scP(N P:List Str)(sc:Scope):Prop:=sc.kind=.function/\sc.isCoroutine=false/\sc.isGenerator=false/\N.Nodup/\N.take P.length=P/\(∀x∈P,sc.names.lookup x=some .local\/sc.names.lookup x=some .cell)/\∀y∈sc.names,y.2≠.free
instance scD (N P:List Str) (sc:Scope):Decidable (scP N P sc):=by unfold scP;infer_instance
theorem sc_of{N P:List Str}{sc:Scope}(h:scP N P sc):FnScope N P sc:=⟨h.1,h.2.1,h.2.2.1,h.2.2.2.1,h.2.2.2.2.1,h.2.2.2.2.2.1,h.2.2.2.2.2.2⟩
theorem zk{x:Str}{st:Stmt}{ps:List Str}{lv:Nat}{cs:List (Str×D)}{fs:List FI}{bs:List Str}{c:Bool}{cl rs:List Str}(t:Bx)(N:List Str)(T:JU K mg x st ps)
  (hcs:G6 K mg cs) (hfs:FsOk P w K mg base fs) (hbs:BsOk mg bs) (hcl:ClOk K mg cl rs) (h:(decide (scP N ps (zX st))&&chkB t ⟨N,zX st,true,cs,fs,bs,lv,c,cl,rs,[]⟩ (yP st))=true):FOk P w K mg base c x (lv+1) ps (fnM N.length (dB fs t)) :=
 def_ok t T (sc_of (of_decide_eq_true (Bool.and_eq_true_iff.mp h).1)) rfl hcs hfs hbs hcl (Bool.and_eq_true_iff.mp h).2
theorem def_atB{x:Str}{st:Stmt}{ps:List Str}{lv:Nat}{cs:List (Str×D)}{fs:List FI}{bs:List Str}{cl rs:List Str}(t:Bx)(N:List Str){a:Addr}{fd:FuncData}(F:Fun K x x st a fd)
  (hcs:G6 K mg cs) (hfs:FsOk P w K mg base fs) (hbs:BsOk mg bs) (hcl:ClOk K mg cl rs) (h:(decide (scP N ps (zX st))&&chkB t ⟨N,zX st,true,cs,fs,bs,lv,true,cl,rs,[]⟩ (yP st))=true):FnOk P w K mg base (CXx P w) (lv+1) a fd ps (spM K mg ps.length (fnM N.length (dB fs t))) :=
 def_at t F (sc_of (of_decide_eq_true (Bool.and_eq_true_iff.mp h).1)) rfl hcs hfs hbs hcl (Bool.and_eq_true_iff.mp h).2
theorem G7{c:Str}{C T:Addr}(h:xIn K c C T=true):XCls K c C T/\C≠T:=by
 unfold xIn at h;simp only[Bool.and_eq_true,beq_iff_eq,Bool.not_eq_true']at h;obtain⟨⟨⟨⟨⟨⟨⟨h1,h2⟩,h3⟩,h4⟩,h5⟩,h6⟩,h7⟩,h8⟩:=h;refine⟨⟨?_,h2,h3,h4,h5,h6,h7⟩,by simpa using h8⟩;cases e:clsIn K C with
 |none=>rw[e]at h1;cases h1
 |some cd =>
  rw[e]at h1;simp only[Bool.and_eq_true,beq_iff_eq]at h1;exact⟨cd,rfl,h1.1,h1.2⟩
theorem tcls_of{T:Addr}(h:tIn K T=true):TCls K T:=by
 unfold tIn at h;simp only[Bool.and_eq_true,beq_iff_eq]at h;obtain⟨h1,h2⟩:=h;refine⟨?_,h2⟩;cases e:clsIn K T with
 |none=>rw[e]at h1;cases h1
 |some cd=>rw[e]at h1;exact⟨cd,rfl,by simpa using h1⟩
def spLaw(K:PySem.W.Frag):Sp:=λvs H Q _=>∃(a:Addr) (ns:List Int),vs=[.ref a]/\SqL K H a (ns.map V.int)/\ns.length<=63/\∀H',Q (.bl true) H'
theorem WL{H:Hp}:∀ns:List Int,Reps K mg H (ns.map D.int) (ns.map V.int)
 | []=>Reps.nil
 |n::ns=>Reps.cons (by simp only[Rep]) (WL ns)
theorem law_imp{F:MF}(hm:∀ns:List Int,ns.length<=63->∃outs,F [.val (.lst (ns.map D.int))]=.ok (.val (.bl true),outs))(vs:List V)(H:Hp)(Q:VK)(E:XK)(h:spLaw K vs H Q E):spM K mg 1 F vs H Q E:=by
 obtain⟨a,ns,rfl,hS,hl,k⟩:=h;obtain⟨outs,hF⟩:=hm ns hl;have em:∀b,¬Mo (λ_=>False) [(some (V.ref a),Slot.val (.lst (ns.map D.int)))] b:=by
  intro b q;rcases q with q|q
  ·exact q
  ·rw[zS]at q;cases q
 have sm:JO H (Hm (Mo (λ_=>False) [(some (V.ref a),Slot.val (.lst (ns.map D.int)))]) H):=λb o q=>zN.mpr ⟨em b,q⟩
 refine⟨rfl,λ_=>False,[.val (.lst (ns.map D.int))],rfl,⟨?_,?_,?_,?_⟩,?_⟩
 ·intro o d q
  have q':=mem_singleton.mp q
  cases q';refine⟨_,rfl,?_⟩;simp only[Rep];exact⟨a,_,rfl,sm.seq hS,WL ns⟩
 ·intro o s ds q e
  have q':=mem_singleton.mp q
  cases q';cases e
 ·show(zw [(some (V.ref a),Slot.val (.lst (ns.map D.int)))]).Nodup
  rw[zS];exact List.nodup_nil
 ·intro b q;cases q
 ·rw[hF]
  intro v H' _ fr _;obtain⟨v',e,r⟩:=fr.val (some v) (.bl true) mem_cons_self;cases e;simp only[Rep]at r;subst r;exact k H'
end
theorem jp{E:zR}:zl [] E=[]:=rfl
theorem wV{ds:List D}{ss:List Slot}{s:Slot}{E:zR}:zl (.par ds::ss) (s::E)=s::zl ss E:=rfl
theorem jq{d:D}{ss:List Slot}{s:Slot}{E:zR}:zl (.val d::ss) (s::E)=.emp::zl ss E:=rfl
theorem wW{d:List D}{ss:List Slot}{s:Slot}{E:zR}:zl (.own d::ss) (s::E)=.emp::zl ss E:=rfl
theorem wX{ss:List Slot}{s:Slot}{E:zR}:zl (.emp::ss) (s::E)=.emp::zl ss E:=rfl
theorem Yi{tg:MG}{tt:MT}{el:ME}(I:Nat->zR->List D->Prop):∀(ds:List D) (k:Nat) (E:zR) (acc:List D),I k E acc->acc.length+ds.length<=cap ->
  (∀i d,ds[i]?=some d->∀E acc,I (k+i) E acc->acc.length<cap->∃E1 E2 r E3,tg d E=.ok E1/\tt E1=.ok (true,E2)/\el E2=.ok (r,E3)/\I (k+i+1) E3 (acc++[r.d])) ->
  ∃res E',wU tg tt el ds E acc=.ok (res,E')/\I (k+ds.length) E' res
 | [],k,E,acc,h,hc,step=>⟨acc,E,rfl,h⟩
 |d::ds,k,E,acc,h,hc,step=>by
  simp only[length_cons]at hc;obtain⟨E1,E2,r,E3,h1,h2,h3,h4⟩:=step 0 d rfl E acc h (by omega);obtain⟨res,E',q1,q2⟩:=Yi I ds (k+1) E3 (acc++[r.d]) h4 (by simp;omega) λi d' e E acc h hl=>by
   have:=step (i+1) d' (by simpa using e) E acc (by rw[show k+(i+1)=k+1+i by omega];exact h) hl;rw[show k+(i+1)=k+1+i by omega]at this;exact this
  refine⟨res,E',?_,?_⟩
  ·simp only[wU,h1,h2,h3]
   rw[if_pos (by omega)];exact q1
  ·rw[length_cons,show k+(ds.length+1)=k+1+ds.length by omega];exact q2
theorem YG{tg:MG}{body:MS}(I:Nat->zR->Prop):∀(ds:List D) (k:Nat) (E:zR),I k E ->
  (∀i d,ds[i]?=some d->∀E,I (k+i) E->∃E1 E2,tg d E=.ok E1/\body E1=.ok (.nx,E2)/\I (k+i+1) E2) ->
  ∃E',Y8 tg body ds E=.ok (.nx,E')/\I (k+ds.length) E'
 | [],k,E,h,step=>⟨E,rfl,h⟩
 |d::ds,k,E,h,step=>by
  obtain⟨E1,E2,h1,h2,h4⟩:=step 0 d rfl E h;obtain⟨E',q1,q2⟩:=YG I ds (k+1) E2 h4 λi d' e E h=>by
   have:=step (i+1) d' (by simpa using e) E (by rw[show k+(i+1)=k+1+i by omega];exact h);rw[show k+(i+1)=k+1+i by omega]at this;exact this
  refine⟨E',?_,?_⟩
  ·simp only[Y8,h1,h2]
   exact q1
  ·rw[length_cons,show k+(ds.length+1)=k+1+ds.length by omega];exact q2
theorem yY:∀(n:Nat) (lo:Int),(zK lo n).length=n
 |0,_=>rfl
 |n+1,lo=>by simp[zK,yY n]
def jr:Slot->Bool
 | .par _=>false
 |_=>true
theorem ve:∀(vs:List D) (E:zR),zG (vs.map AR.tmp) E=.ok (vs.map Slot.val,E)
 | [],_=>rfl
 |d::vs,E=>by simp only[map_cons,zG,ve vs E]
theorem vf:∀(vs:List D) (outs:List Slot) (E0 E:zR),outs.length=vs.length->zH (vs.map AR.tmp) outs E0 E=.ok E
 | [],[],_,_,_=>rfl
 | [],_::_,_,_,h=>by cases h
 |_::_,[],_,_,h=>by cases h
 |d::vs,s::outs,E0,E,h=>by simp only[map_cons,zH];exact vf vs outs E0 E (by simpa using h)
end DV
namespace DV
open PySem L2
theorem WM{vs:List D}{tg:MG}{tt:MT}{el:ME}{nl:Nat}(pat:D->List DV.Slot)(f:D->Bool)(g:D->D):∀(ds:List D),
  (∀d∈ds,∀S:List DV.Slot,S.length=nl->(∀s∈S,jr s=true)->tg d (S++vs.map Slot.val)=.ok (pat d++vs.map Slot.val)) ->
  (∀d∈ds,(pat d).length=nl/\∀s∈pat d,jr s=true) ->
  (∀d∈ds,tt (pat d++vs.map Slot.val)=.ok (f d,pat d++vs.map Slot.val)) ->
  (∀d∈ds,f d=true->∃r,el (pat d++vs.map Slot.val)=.ok (r,pat d++vs.map Slot.val)/\r.d=g d) ->
  ∀(S:List DV.Slot) (acc:List D),S.length=nl->(∀s∈S,jr s=true)->acc.length+ds.length<=cap->∃S',S'.length=nl/\wU tg tt el ds (S++vs.map Slot.val) acc=.ok (acc++(ds.filter f).map g,S'++vs.map Slot.val)
 | [],_,_,_,_,S,acc,hS,_,_=>⟨S,hS,by simp[wU]⟩
 |d::ds,h1,h2,h3,h4,S,acc,hS,hn,hc=>by
  have m:=mem_cons_self (a:=d) (l:=ds);have r1:=h1 d m S hS hn;have r3:=h3 d m;have r2:=h2 d m;simp only[length_cons]at hc;have go:=WM pat f g ds (λz hz=>h1 z (mem_cons_of_mem _ hz)) (λz hz=>h2 z (mem_cons_of_mem _ hz)) (λz hz=>h3 z (mem_cons_of_mem _ hz)) (λz hz=>h4 z (mem_cons_of_mem _ hz)) (pat d);cases hf:f d with
  |false =>
   rw[hf]at r3;obtain⟨S',l',e'⟩:=go acc r2.1 r2.2 (by omega);refine⟨S',l',?_⟩;simp only[wU,r1,r3,e',List.filter_cons,hf];simp
  |true =>
   rw[hf]at r3;obtain⟨r,r4,r5⟩:=h4 d m hf;obtain⟨S',l',e'⟩:=go (acc++[r.d]) r2.1 r2.2 (by simp;omega);refine⟨S',l',?_⟩;simp only[wU,r1,r3,r4];rw[if_pos (by omega),e',r5];simp[List.filter_cons,hf]
theorem zAT{vs:List D}{tg:MG}{tt:MT}{el:ME}{nl:Nat}{caps:List Nat}(pat:D->List DV.Slot)(f:D->Bool)(g:D->D)(ds:List D)
  (h1:∀d∈ds,∀S:List DV.Slot,S.length=nl->(∀s∈S,jr s=true)->tg d (S++vs.map Slot.val)=.ok (pat d++vs.map Slot.val))
  (h2:∀d∈ds,(pat d).length=nl/\∀s∈pat d,jr s=true)
  (h3:∀d∈ds,tt (pat d++vs.map Slot.val)=.ok (f d,pat d++vs.map Slot.val))
  (h4:∀d∈ds,f d=true->∃r,el (pat d++vs.map Slot.val)=.ok (r,pat d++vs.map Slot.val)/\r.d=g d) (hc:ds.length<=cap)
  {mi:MI} {E E1:zR} (hi:mi E=.ok (ds,E1)) (hcap:wz E1 caps=.ok (vs.map AR.tmp)):Yg nl caps mi tg tt el E=.ok (.own ((ds.filter f).map g),E1):=by
 obtain⟨S',l',e'⟩:=WM (vs:=vs) (tg:=tg) (tt:=tt) (el:=el) (nl:=nl) pat f g ds h1 h2 h3 h4 (replicate nl .emp) [] (by simp) (λs hs=>by rw[(List.mem_replicate.mp hs).2];rfl) (by simpa using hc);simp only[Yg,hi,hcap,ve,e'];rw[vf vs _ _ _ (by rw[List.length_drop,zg];simp)];simp
theorem gN_ok1{a:D}{S:List DV.Slot}{R:List DV.Slot}(hS:S.length=1)(hn:∀s∈S,jr s=true):gN 0 a (S++R)=.ok ([.val a]++R):=by
 match S,hS,hn with
 | [x],_,hn =>
  have hx:=hn x (by simp);cases x<;>first|(cases hx;done)|rfl
end DV
namespace DV
open PySem L2
theorem vg:∀(l:List Obj) (i:Nat) (as:List Addr) (a:Addr) (o:Obj),(Zh l i as).lookup a=some o->∃j,a=i+j/\l[j]?=some o/\isFr o=false
 | [],_,_,a,o,e=>by cases e
 |_::_,_,[],a,o,e=>by cases e
 |x::os,i,b::as,a,o,e=>by
  have up:∀{as:List Addr},(Zh os (i+1) as).lookup a=some o->∃j,a=i+j/\(x::os)[j]?=some o/\isFr o=false:=λe=>by
   obtain⟨j,h1,h2,h3⟩:=vg os (i+1) _ a o e;exact⟨j+1,h1.trans ((Nat.add_assoc i 1 j).trans (congrArg (i+·) (Nat.add_comm 1 j))),by simpa using h2,h3⟩
  unfold Zh at e;cases hb:Nat.beq i b with
  |false=>rw[hb]at e;exact up e
  |true =>
   rw[hb]at e;cases hf:isFr x with
   |true=>rw[hf]at e;exact up e
   |false =>
    rw[hf]at e;replace e:(match a==i with|true=>some x|false=>List.lookup a (Zh os (i+1) as))=some o:=e
    cases ha:a==i with
    |true =>
     rw[ha]at e;cases e;exact⟨0,beq_iff_eq.mp ha,rfl,hf⟩
    |false=>rw[ha]at e;exact up e
theorem G8{h:Heap}(as:List Addr):(wd h as).In h:=λa o e=>by
 obtain⟨j,h1,h2,h3⟩:=vg _ _ _ _ _ e;rw[Nat.zero_add]at h1;subst h1;have h4:h.objs[a]?=some o:=by rw[<- Array.getElem?_toList];exact h2
 unfold Heap.get?;rw[h4];obtain⟨c,d,dt,sl⟩:=o;cases dt<;>first|rfl|(cases h3)
def vh(as:List Addr)(α:Type)(L:PySem.W.Frag->α)(v:α):PySem.W.Hook :=
 ⟨α,λs=>L (wd s.heap as),λ_=>v,λ_ h=>∃K:PySem.W.Frag,K.In h/\L K=v,λ_ s e=>⟨_,G8 as,e⟩,λ_ _ _ ⟨K,x,e⟩ k=>⟨K,x.keeps k,e⟩⟩
theorem zAU{K:PySem.W.Frag}{n:Str}{st:Stmt}(e:yQ K n=yb n st):∃(f:Addr) (oc:Value) (od:Option Addr) (kV dc pm:Value) (an:Option Addr) (cd ct:Value) (sl:Array (Option Value)),
  nsIn K mainGlobals n=some (some (.ref f))/\K.lookup f=some ⟨oc,od,.func (fnOf n n (wO st) (yP st) (zX st) .none kV dc pm an cd ct),sl⟩/\codeIn K cd n=true/\keepIn K (.ref f)=true:=by
 unfold yQ at e;split at e
 ·rename_i a ha
  split at e
  ·rename_i oc od fd sl hl
   have e:=Option.some.inj e;unfold fvOf at e;injection e with e1 e
   injection e with e2 e
   injection e with e3 e
   injection e with e4 e
   injection e with e5 e
   injection e with e6 e
   injection e with e7 e
   injection e with e8 e
   injection e with e9 e10
   obtain⟨k,p⟩:=zJ e1;cases fd;simp only at e2 e3 e4 e5 e6 e7 e8 e9 e10;subst e2 e3 e4 e5 e6 e7 e8 e9 e10;exact⟨_,_,_,_,_,_,_,_,_,_,ha,hl,k,p⟩
  ·cases e
 ·cases e
def nth{α:Type}:List α->Nat->Option α
 | [],_=>none
 |a::_,0=>some a
 |_::l,n+1=>nth l n
theorem ix{α:Type}{l l':List α}(n:Nat)(h:l=l'):nth l n=nth l' n:=congrArg (λl=>nth l n) h
section
variable{K:PySem.W.Frag}{h:Heap}{mg:Str->Option Value}
theorem yl{n:Str}{st:Stmt}{ps:List Str}(X:K.In h)(G:h.Ns mainGlobals mg)(e:some (yQ K n)=some (yb n st))
  (b:∀(kV doc pm:Value) (an:Option Addr) (cdv ct:Value) (us:List Value),us.length=ps.length->bindArgs (fnOf n n (wO st) (yP st) (zX st) .none kV doc pm an cdv ct) ⟨us,[]⟩=pure (ps.zip us):=by intro _ _ _ _ _ _ us hl;first|exact(match us,hl with | [_],_=>rfl)|exact(match us,hl with | [_,_],_=>rfl)|exact(match us,hl with | [_,_,_],_=>rfl)|exact(match us,hl with | [_,_,_,_],_=>rfl)|exact(match us,hl with | [_,_,_,_,_],_=>rfl)|exact(match us,hl with | [_,_,_,_,_,_],_=>rfl)|exact(match us,hl with | [_,_,_,_,_,_,_],_=>rfl)|exact(match us,hl with | [],_=>rfl)):JU K mg n st ps:=by
 obtain⟨f,oc,od,kV,dc,pm,an,cd,ct,sl,a,l,k,p⟩:=zAU (Option.some.inj e);exact⟨_,_,mg_of X G a,zAp (st:=st) l k p,(zAp (st:=st) l k p).binds b⟩
theorem G9{n:Str}{i:Int}(X:K.In h)(G:h.Ns mainGlobals mg)(e:some (YH K n)=some (some i)):∃t,mg n=some (.int i t):=by
 have e:=Option.some.inj e;unfold YH at e;split at e
 ·rename_i j t hj
  cases e;exact⟨_,mg_of X G hj⟩
 ·cases e
theorem tn_at{n:Str}{j:Int}(X:K.In h)(G:h.Ns mainGlobals mg)(e:some (uV K n j)=some true):∃a,mg n=some (.ref a)/\∀H,Rep K mg H (.tup [.non,.int j]) (.ref a):=by
 have e:=Option.some.inj e;unfold uV at e;split at e
 ·rename_i a ha
  split at e
  ·rename_i t od its k sl hl
   obtain⟨e1,e2⟩:=zJ e;have:=beq_iff_eq.mp e1;subst this;split at e2
   ·rename_i y t2 hi
    have:=beq_iff_eq.mp e2
    subst_vars
    refine⟨a,mg_of X G ha,λH=>?_⟩;simp only[Rep,Reps];refine⟨a,[.non,.int y],rfl,.inr ⟨_,its,k,hl,rfl,rfl,?_,?_⟩,.non,_,rfl,rfl,.int y,_,rfl,rfl,rfl⟩
    ·have:its.size=2:=by rw[<- Array.length_toList,hi];rfl
     rw[this];decide
    ·rw[hi];exact .cons rfl (.cons ⟨_,rfl⟩ .nil)
   ·cases e2
  ·cases e
 ·cases e
theorem Yj{n:Str}(X:K.In h)(G:h.Ns mainGlobals mg)(e:some (jJ K n)=some true):mg n=none:=by
 have e:=Option.some.inj e;unfold jJ at e;split at e
 ·rename_i hj
  exact PySem.W.mg_none_of X G hj
 ·cases e
theorem Wx{n:Str}{a:Addr}(X:K.In h)(G:h.Ns mainGlobals mg)(e:wF K n=some a):mg n=some (.ref a):=by
 unfold wF at e;split at e
 ·rename_i b hb
  cases e;exact mg_of X G hb
 ·cases e
theorem sm_at(e:uW K=true):uT K:=by
 unfold uW at e;cases h:K.lookup sysModules with
 |none=>rw[h]at e;cases e
 |some o =>
  rw[h]at e;dsimp only at e;cases hd:o.data with
  |dict es n=>exact⟨o,es,n,h,hd⟩
  |_=>rw[hd]at e;cases e
theorem cl_at{cl rs:List Str}(X:K.In h)(G:h.Ns mainGlobals mg)(e:zAi K cl rs=true):ClOk K mg cl rs:=by
 obtain⟨e,e3⟩:=zJ e;obtain⟨e1,e2⟩:=zJ e;refine⟨λhc=>?_,λc hc=>?_,sm_at e3⟩
 ·cases cl with
  |nil=>exact absurd rfl hc
  |cons c0 cs =>
   replace e1:(match wF K "ThrowError" with
    |some T=>tIn K T&&(c0::cs).all λc=>(match wF K c with|some C=>xIn K c C T|none=>false)
    |none=>false)=true:=e1
   cases hT:wF K "ThrowError" with
   |none=>rw[hT]at e1;cases e1
   |some T =>
    rw[hT]at e1;obtain⟨t1,t2⟩:=zJ e1;refine⟨T,Wx X G hT,tcls_of t1,λc hc=>?_⟩;have q:=all_eq_true.mp t2 c hc;cases hC:wF K c with
    |none=>rw[hC]at q;cases q
    |some C =>
     rw[hC]at q;exact⟨C,Wx X G hC,(G7 q).1,(G7 q).2⟩
 ·have q:=all_eq_true.mp e2 c hc
  cases hC:wF K c with
  |none=>rw[hC]at q;cases q
  |some C =>
   rw[hC]at q;exact⟨C,Wx X G hC,q⟩
end
theorem walkE{l:PySem.W.OpenLaw}{q:Program}{loose:List Str}{XP:(Str->Option Value)->Heap->Prop}{d:DefRec}{as:List Addr}{α:Type}{L:PySem.W.Frag->α}{v:α}{x:Str}{F:MF}(hm:∀ns:List Int,ns.length<=63->∃outs,F [.val (.lst (ns.map D.int))]=.ok (.val (.bl true),outs))
  (hn:l.most=some 63) (hdf:d.params.defaults=[])
  (Gk:∀(w:World) (K:PySem.W.Frag) (mg:Str->Option Value) (fa:Addr) (h:Heap),K.In h->L K=v->h.Ns mainGlobals mg->mg d.name=some (.ref fa) ->
   ∃fd:FuncData,(∀(s:Shared) (u:Value),BindsTo s fd ⟨[u],[]⟩ [(x,u)])/\∀base:Heap,FnOk l.prog w K mg base (CXx l.prog w) 40 fa fd [x] (spM K mg 1 F)) :
  PySem.W.WalkO q loose XP (vh as α L v).says l.row.toRowW d [] (λf vs=>PySem.call f vs):=by
 refine Att.attach_call hn hdf λw s₀ s₁ mg mb fa o pm cd doc a vs ns G Y ho hd hcd hmg hobj hints hlen hg=>?_
 obtain⟨K,KX,e⟩:=Y;obtain⟨fd,hb,hF⟩:=Gk w K mg fa _ KX e G.T.g hmg;exact Qg (sp:=spLaw K) (k:=40) KX G.T.g G.T.b G.T.builtins G.T.nolimit hg hobj hints (le_trans hlen (by decide)) ⟨rfl,rfl,by decide,by decide⟩ (λbase _ _=>(hF base).imp (law_imp hm)) hb (λH hO hS=>⟨a,ns,rfl,hS,hlen,λ_=>rfl⟩) λH e s' ⟨_,_,_,_,_,_,_,_,_,_,z⟩=>z
end DV
namespace My
open PySem L2 DV
def cs_:List (Str×D):=[("LEAST_SIGNS",.int 2),("LEAST_WEIGHT",.int 1),("MOST_MATCHED",.int 6),("MOST_SIGNS",.int 3),("MOST_WEIGHT",.int 9),("NO_STAND",.tup [.non,.int 0])]
def bs_:List Str:=["ValueError","all","bool","int","isinstance","len","list","max","range","repr","tuple"]
def ZD:Bx :=
  (.bOne (.sRet (.and (.is .int (.var 0)) (.not (.is .bool (.var 0))))))
def Wy:List FI:=[]
def JZ:MF:=fnM 1 (dB Wy ZD)
def z7:Bx :=
  (.bOne (.sRet (.and (.call 0 (.ev (.var 0) .nil)) (.chain .le .le (.var 1) (.var 0) (.var 2)))))
def yI:List FI:=[⟨"is_whole",1,1,false,JZ⟩]
def zW:MF:=fnM 3 (dB yI z7)
def ZE:Bx :=
  (.bSeq (.sIf (.tOr (.tNot (.tE (.is .tuple (.var 0)))) (.tNot (.tE (.chain .le .le (.gl (.int 2)) (.cB .len (.cons (.var 0) .nil)) (.gl (.int 3)))))) (.bOne (.sRet (.c (.bl false)))) .bNil)
  (.bOne (.sRet (.cB .all (.cons (.comp 1 ["weight"] [] [] (.iT (.var 0)) (.n 0) .tTr (.call 0 (.ev (.var 0) (.ev (.gl (.int 1)) (.ev (.gl (.int 9)) .nil))))) .nil)))))
def wY:List FI:=[⟨"is_whole_within",3,2,false,zW⟩]
def yS:MF:=fnM 1 (dB wY ZE)
def Jl:Bx :=
  (.bSeq (.sIf (.tOr (.tNot (.tE (.is .tuple (.var 0)))) (.tE (.cmp .ne (.cB .len (.cons (.var 0) .nil)) (.c (.int 5))))) (.bOne (.sRet (.c (.bl false)))) .bNil)
  (.bSeq (.sTup [1,2,3,4,5] (.var 0))
  (.bSeq (.sIf (.tNot (.tE (.call 1 (.ev (.var 1) .nil)))) (.bOne (.sRet (.c (.bl false)))) .bNil)
  (.bSeq (.sIf (.tNot (.tE (.cB .all (.cons (.comp 1 ["thrown"] ["die"] [1] (.iT (.tup (.cons (.var 2) (.cons (.var 4) .nil)))) (.n 0) .tTr (.call 0 (.ev (.var 0) (.ev (.c (.int 0)) (.ev (.bin .sub (.cB .len (.cons (.var 1) .nil)) (.c (.int 1))) .nil))))) .nil)))) (.bOne (.sRet (.c (.bl false)))) .bNil)
  (.bOne (.sRet (.and (.cmp .ne (.var 2) (.var 4)) (.cB .all (.cons (.comp 1 ["wanted"] [] [] (.iT (.tup (.cons (.var 3) (.cons (.var 5) .nil)))) (.n 0) .tTr (.call 0 (.ev (.var 0) (.ev (.c (.int 1)) (.ev (.gl (.int 6)) .nil))))) .nil)))))))))
def yJ:List FI:=[⟨"is_whole_within",3,2,false,zW⟩,⟨"die_good",1,3,false,yS⟩]
def zn:MF:=fnM 6 (dB yJ Jl)
def Jm:Bx :=
  (.bOne (.sIf (.tNot (.tE (.call 0 (.ev (.var 0) .nil)))) (.bOne (.sRaise "NoLine")) .bNil))
def ZW:List FI:=[⟨"match_good",1,4,false,zn⟩]
def zY:MF:=fnM 1 (dB ZW Jm)
def JC:Bx :=
  (.bSeq (.sDrop (.call 0 (.ev (.var 0) .nil)))
  (.bSeq (.sTup [1,2,3,4,5] (.var 0))
  (.bSeq (.sSet 6 (.comp 1 ["many"] ["sign"] [2] (.iR2 (.cons (.c (.int 1)) (.cons (.var 3) .nil))) (.n 0) .tTr (.tup (.cons (.var 1) (.cons (.var 0) .nil)))))
  (.bSeq (.sSet 7 (.comp 1 ["many"] ["other"] [4] (.iR2 (.cons (.c (.int 1)) (.cons (.var 5) .nil))) (.n 0) .tTr (.tup (.cons (.var 1) (.cons (.var 0) .nil)))))
  (.bOne (.sRet (.bin .add (.bin .add (.lst (.cons (.gl (.tup [.non,.int 0])) .nil)) (.var 6)) (.var 7))))))))
def jF:List FI:=[⟨"need_match",1,5,false,zY⟩]
def zo:MF:=fnM 8 (dB jF JC)
def JD:Bx :=
  (.bSeq (.sDrop (.call 0 (.ev (.var 0) .nil)))
  (.bSeq .sAny
  (.bSeq .sAny
  (.bSeq .sAny
  (.bSeq .sAny
  (.bSeq .sAny
  (.bSeq .sAny
  (.bOne .sAny))))))))
def Yu:List FI:=[⟨"need_match",1,5,false,zY⟩]
def yK:MF:=fnM 12 (dB Yu JD)
def JE:Bx :=
  (.bOne (.sRet (.ix (.call 0 (.ev (.var 0) .nil)) (.c (.int 0)))))
def Yv:List FI:=[⟨"share_paper",1,6,false,yK⟩]
def jV:MF:=fnM 1 (dB Yv JE)
def Jn:Bx :=
  (.bSeq (.sSet 2 (.call 0 (.ev (.var 0) .nil)))
  (.bSeq .sAny
  (.bSeq .sAny
  (.bSeq .sAny
  (.bSeq .sAny
  (.bSeq .sAny
  (.bSeq .sAny
  (.bSeq .sAny
  (.bSeq .sAny
  (.bOne .sAny))))))))))
def ZX:List FI:=[⟨"stands_list",1,6,false,zo⟩]
def y6:MF:=fnM 12 (dB ZX Jn)
def JF:Bx :=
  (.bSeq (.sDrop (.call 0 (.ev (.var 0) .nil)))
  (.bSeq .sAny
  (.bOne .sAny)))
def Yw:List FI:=[⟨"need_match",1,5,false,zY⟩]
def jW:MF:=fnM 6 (dB Yw JF)
def Yk:Bx :=
  (.bSeq (.sDrop (.call 0 (.ev (.var 0) .nil)))
  (.bSeq .sAny
  (.bSeq .sAny
  (.bSeq .sAny
  (.bSeq .sAny
  (.bSeq .sAny
  (.bSeq .sAny
  (.bSeq .sAny
  (.bSeq .sAny
  (.bOne .sAny))))))))))
def WN:List FI:=[⟨"need_match",1,5,false,zY⟩]
def jX:MF:=fnM 17 (dB WN Yk)
def jG:Bx :=
  (.bSeq (.sIf (.tE (.cmp .lt (.var 1) (.cB .len (.cons (.var 0) .nil)))) (.bOne (.sRet (.ix (.var 0) (.var 1)))) .bNil)
  (.bOne (.sRet (.c (.int 0)))))
def jt:List FI:=[]
def yA:MF:=fnM 2 (dB jt jG)
def wZ:Bx :=
  (.bSeq (.sSet 0 (.bin .mod (.bin .add (.var 0) (.c (.int 7919))) (.c (.int 2147483647))))
  (.bOne (.sRet (.bin .mod (.bin .add (.bin .add (.bin .mul (.var 0) (.var 0)) (.bin .mul (.c (.int 48271)) (.var 0))) (.c (.int 12345))) (.c (.int 2147483629))))))
def Jo:List FI:=[]
def jY:MF:=fnM 1 (dB Jo wZ)
def jZ:Bx :=
  (.bSeq (.sSet 1 (.cB .max (.cons (.var 0) (.cons (.bin .sub (.c (.int 0)) (.var 0)) .nil))))
  (.bOne (.sRet (.lst (.cons (.var 1) (.cons (.cB .int (.cons (.cmp .ge (.var 1) (.bin .pow (.c (.int 10)) (.c (.int 18)))) .nil)) (.cons (.bin .mod (.var 1) (.c (.int 1000003))) .nil)))))))
def wL:List FI:=[]
def yL:MF:=fnM 2 (dB wL jZ)
def ja:Bx :=
  (.bSeq (.sIf (.tE (.cmp .eq (.ixO 0 (.c (.int 1))) (.c (.int 1)))) (.bSeq (.sSet 2 (.bin .mod (.ixO 0 (.c (.int 0))) (.var 1)))
  (.bSeq (.sIx 0 (.c (.int 0)) (.bin .fdiv (.ixO 0 (.c (.int 0))) (.var 1)))
  (.bOne (.sRet (.var 2))))) .bNil)
  (.bSeq (.sIx 0 (.c (.int 2)) (.call 0 (.ev (.bin .add (.call 0 (.ev (.ixO 0 (.c (.int 2))) .nil)) (.c (.int 7))) .nil)))
  (.bOne (.sRet (.bin .mod (.bin .fdiv (.ixO 0 (.c (.int 2))) (.c (.int 64))) (.var 1))))))
def ju:List FI:=[⟨"_law_next",1,1,false,jY⟩]
def zV:MF:=fnM 3 (dB ju ja)
def Jp:Bx :=
  (.bOne (.sRet (.and (.is .int (.var 0)) (.not (.is .bool (.var 0))))))
def ZY:List FI:=[]
def yF:MF:=fnM 1 (dB ZY Jp)
def wM:Bx :=
  (.bSeq (.sSet 1 (.lst (.cons (.isC cl_ "NoDie" (.var 0)) (.cons (.isC cl_ "NoRow" (.var 0)) (.cons (.isC cl_ "NoNumber" (.var 0)) (.cons (.isC cl_ "NoLine" (.var 0)) .nil))))))
  (.bSeq (.sSet 1 (.bin .add (.var 1) (.lst (.cons (.isC cl_ "NoMachine" (.var 0)) (.cons (.isC cl_ "NoPaper" (.var 0)) (.cons (.isC cl_ "NoText" (.var 0)) (.cons (.isC cl_ "TooGreat" (.var 0)) .nil)))))))
  (.bSeq (.sIf (.tOr (.tNot (.tE (.isV cl_ (.var 0)))) (.tE (.cmp .ne (.cnt (.var 1) (.c (.bl true))) (.c (.int 1))))) (.bOne (.sRet (.c (.str "other")))) .bNil)
  (.bOne (.sRet (.ix (.lst (.cons (.c (.str "die")) (.cons (.c (.str "row")) (.cons (.c (.str "number")) (.cons (.c (.str "line")) (.cons (.c (.str "machine")) (.cons (.c (.str "paper")) (.cons (.c (.str "text")) (.cons (.c (.str "great")) .nil))))))))) (.idx (.var 1) (.c (.bl true)))))))))
def Yl:List FI:=[]
def yZ:MF:=fnM 2 (dB Yl wM)
def JG:Bx :=
  (.bSeq (.sSet 1 (.ix (.lst (.cons (.c (.int 1)) (.cons (.c (.int 3)) (.cons (.c (.int 9)) .nil)))) (.call 0 (.lend 0 (.ev (.c (.int 3)) .nil)))))
  (.bOne (.sRet (.cB .tuple (.cons (.comp 1 ["_law_sign"] ["_law_pen","_law_top"] [0,1] (.iR1 (.cons (.bin .add (.c (.int 2)) (.call 0 (.lend 0 (.ev (.c (.int 2)) .nil)))) .nil)) (.n 0) .tTr (.bin .add (.c (.int 1)) (.call 0 (.lend 1 (.ev (.var 2) .nil))))) .nil)))))
def ya:List FI:=[⟨"_law_draw",2,2,false,zV⟩]
def ym:MF:=fnM 2 (dB ya JG)
def jv:Bx :=
  (.bSeq (.sSet 1 (.call 1 (.lend 0 .nil)))
  (.bSeq (.sSet 2 (.call 0 (.lend 0 (.ev (.cB .len (.cons (.var 1) .nil)) .nil))))
  (.bSeq (.sSet 3 (.bin .mod (.bin .add (.bin .add (.var 2) (.c (.int 1))) (.call 0 (.lend 0 (.ev (.bin .sub (.cB .len (.cons (.var 1) .nil)) (.c (.int 1))) .nil)))) (.cB .len (.cons (.var 1) .nil))))
  (.bOne (.sRet (.tup (.cons (.var 1) (.cons (.var 2) (.cons (.bin .add (.c (.int 1)) (.call 0 (.lend 0 (.ev (.c (.int 6)) .nil)))) (.cons (.var 3) (.cons (.bin .add (.c (.int 1)) (.call 0 (.lend 0 (.ev (.c (.int 6)) .nil)))) .nil)))))))))))
def jg:List FI:=[⟨"_law_draw",2,2,false,zV⟩,⟨"_law_die_by",1,3,false,ym⟩]
def yM:MF:=fnM 4 (dB jg jv)
abbrev yN:Bx :=
  (.bOne (.sSet 1 (.bin .add (.var 1) (.comp 1 ["_law_length"] ["_law_sign"] [2] (.iR2 (.cons (.c (.int 1)) (.cons (.var 3) .nil))) (.n 0) .tTr (.tup (.cons (.var 1) (.cons (.var 0) .nil)))))))
def JH:Bx :=
  (.bSeq (.sSet 1 (.lst (.cons (.tup (.cons (.c .non) (.cons (.c (.int 0)) .nil))) .nil)))
  (.bSeq (.sForL (.lst (.cons (.tup (.cons (.ix (.var 0) (.c (.int 1))) (.cons (.ix (.var 0) (.c (.int 2))) .nil))) (.cons (.tup (.cons (.ix (.var 0) (.c (.int 3))) (.cons (.ix (.var 0) (.c (.int 4))) .nil))) .nil))) (.t [2,3])
  yN)
  (.bOne (.sRet (.var 1)))))
def za:List FI:=[]
def yn:MF:=fnM 4 (dB za JH)
def jN:Bx :=
  (.bSeq (.sIf (.tOr (.tNot (.tE (.is .tuple (.var 0)))) (.tOr (.tE (.cmp .ne (.cB .len (.cons (.var 0) .nil)) (.c (.int 5)))) (.tNot (.tE (.is .tuple (.ix (.var 0) (.c (.int 0)))))))) (.bOne (.sRet (.c (.bl false)))) .bNil)
  (.bSeq (.sIf (.tOr (.tNot (.tE (.chain .le .le (.c (.int 2)) (.cB .len (.cons (.ix (.var 0) (.c (.int 0))) .nil)) (.c (.int 3))))) (.tNot (.tE (.cB .all (.cons (.comp 1 ["_law_one"] [] [] (.iT (.ix (.var 0) (.c (.int 0)))) (.n 0) .tTr (.and (.call 0 (.ev (.var 0) .nil)) (.chain .le .le (.c (.int 1)) (.var 0) (.c (.int 9))))) .nil))))) (.bOne (.sRet (.c (.bl false)))) .bNil)
  (.bSeq (.sIf (.tOr (.tNot (.tE (.cB .all (.cons (.comp 1 ["_law_one"] [] [] (.iT (.sl (.var 0) (.oS (.c (.int 1))) .oN)) (.n 0) .tTr (.call 0 (.ev (.var 0) .nil))) .nil)))) (.tE (.cmp .eq (.ix (.var 0) (.c (.int 1))) (.ix (.var 0) (.c (.int 3)))))) (.bOne (.sRet (.c (.bl false)))) .bNil)
  (.bSeq (.sIf (.tOr (.tNot (.tE (.chain .le .lt (.c (.int 0)) (.ix (.var 0) (.c (.int 1))) (.cB .len (.cons (.ix (.var 0) (.c (.int 0))) .nil))))) (.tNot (.tE (.chain .le .lt (.c (.int 0)) (.ix (.var 0) (.c (.int 3))) (.cB .len (.cons (.ix (.var 0) (.c (.int 0))) .nil)))))) (.bOne (.sRet (.c (.bl false)))) .bNil)
  (.bOne (.sRet (.and (.chain .le .le (.c (.int 1)) (.ix (.var 0) (.c (.int 2))) (.c (.int 6))) (.chain .le .le (.c (.int 1)) (.ix (.var 0) (.c (.int 4))) (.c (.int 6))))))))))
def zD:List FI:=[⟨"_law_whole",1,1,false,yF⟩]
def z8:MF:=fnM 1 (dB zD jN)
def jw:Bx :=
  (.bSeq (.sSet 2 (.call 0 (.lend 0 (.ev (.c (.int 5)) .nil))))
  (.bSeq (.sSet 3 (.ix (.lst (.cons (.c (.int 7)) (.cons (.c (.int 0)) (.cons (.neg (.c (.int 1))) (.cons (.c (.bl true)) (.cons (.c .non) (.cons (.c (.str "1")) (.cons (.tup (.cons (.c (.int 1)) .nil)) (.cons (.c (.int 2)) (.cons (.bin .pow (.c (.int 10)) (.c (.int 30))) (.cons (.ix (.var 1) (.c (.int 1))) (.cons (.tup (.cons (.c (.int 1)) (.cons (.c (.int 10)) .nil))) .nil)))))))))))) (.call 0 (.lend 0 (.ev (.c (.int 11)) .nil)))))
  (.bSeq (.sSet 4 (.lst (.cons (.bin .add (.bin .add (.sl (.var 1) .oN (.oS (.var 2))) (.tup (.cons (.var 3) .nil))) (.sl (.var 1) (.oS (.bin .add (.var 2) (.c (.int 1)))) .oN)) (.cons (.sl (.var 1) .oN (.oS (.c (.int 4)))) (.cons (.bin .add (.var 1) (.tup (.cons (.c (.int 1)) .nil))) (.cons (.cB .list (.cons (.var 1) .nil)) (.cons (.c .non) (.cons (.c (.int 0)) (.cons (.tup (.cons (.var 1) .nil)) .nil)))))))))
  (.bOne (.sRet (.ix (.var 4) (.ix (.lst (.cons (.c (.int 0)) (.cons (.c (.int 0)) (.cons (.c (.int 0)) (.cons (.c (.int 0)) (.cons (.c (.int 1)) (.cons (.c (.int 2)) (.cons (.c (.int 3)) (.cons (.c (.int 4)) (.cons (.c (.int 5)) (.cons (.c (.int 6)) .nil))))))))))) (.call 0 (.lend 0 (.ev (.c (.int 10)) .nil))))))))))
def yC:List FI:=[⟨"_law_draw",2,2,false,zV⟩]
def z5:MF:=fnM 5 (dB yC jw)
def Ym:Bx :=
  (.bOne (.sTry cl_ (.bSeq (.sIf (.tE (.cmp .lt (.var 0) (.c (.int 4)))) (.bOne (.sRet (.callV [2,3,4,5] (.ix (.lst (.cons (.fn 2) (.cons (.fn 3) (.cons (.fn 4) (.cons (.fn 5) .nil))))) (.var 0)) (.ev (.var 1) .nil)))) .bNil)
  (.bOne (.sRet (.ifx (.tE (.cmp .eq (.var 0) (.c (.int 4)))) (.call 0 (.ev (.var 1) (.ev (.c .non) .nil))) (.call 1 (.ev (.var 1) (.ev (.neg (.c (.int 1))) .nil))))))) 2
  (.bOne (.sRet (.call 6 (.ev (.var 2) .nil))))))
def y8:List FI:=[⟨"paper_good",2,7,false,y6⟩,⟨"shares_by",2,6,false,jX⟩,⟨"stands_list",1,6,false,zo⟩,⟨"first_share",1,7,false,jV⟩,⟨"share_paper",1,6,false,yK⟩,⟨"mean_throws",1,6,false,jW⟩,⟨"_law_kind_of",1,1,true,yZ⟩]
def yT:MF:=fnM 3 (dB y8 Ym)
abbrev Wz:Bx :=
  (.bSeq (.sSet 7 (.call 2 (.ev (.var 6) .nil)))
  (.bSeq (.sSet 5 (.call 0 (.ev (.var 6) .nil)))
  (.bSeq (.sIf (.tOr (.tNot (.tBor 5 (.tE (.is .bool (.var 5))))) (.tBor 5 (.tE (.cmp .ne (.var 5) (.var 7))))) (.bOne (.sRet (.c (.bl false)))) .bNil)
  (.bOne (.sIf (.tAnd (.tNot (.tE (.var 7))) (.tE (.cmp .ne (.comp 1 ["_law_way"] ["_law_thing"] [6] (.iR1 (.cons (.c (.int 6)) .nil)) (.n 0) .tTr (.call 1 (.ev (.var 0) (.ev (.var 1) .nil)))) (.bin .mul (.lst (.cons (.c (.str "line")) .nil)) (.c (.int 6)))))) (.bOne (.sRet (.c (.bl false)))) .bNil)))))
abbrev W0:Bx :=
  (.bSeq (.sSet 5 (.call 5 (.ev (.var 3) .nil)))
  (.bSeq (.sIf (.tE (.cmp .ne (.reprO 5) (.cB .repr (.cons (.call 4 (.ev (.var 3) .nil)) .nil)))) (.bOne (.sRet (.c (.bl false)))) .bNil)
  (.bOne (.sApp 5 (.c (.int 0))))))
abbrev ZZ:Bx :=
  (.bSeq (.sSet 2 (.call 7 (.ev (.var 1) .nil)))
  (.bSeq (.sSet 3 (.call 6 (.lend 2 .nil)))
  (.bSeq (.sForR1 (.cons (.c (.int 2)) .nil) (.n 4)
  W0)
  (.bOne (.sForL (.bin .add (.bin .add (.lst (.cons (.var 3) .nil)) (.comp 1 ["_law_turn"] ["_law_pen","_law_match"] [2,3] (.iR1 (.cons (.c (.int 4)) .nil)) (.n 0) .tTr (.call 3 (.lend 1 (.ev (.var 2) .nil))))) (.lst (.cons (.tup .nil) (.cons .dic (.cons (.c (.str "0")) .nil))))) (.n 6)
  Wz)))))
def t_law:Bx :=
  (.bSeq (.sForL (.bin .add (.lst (.cons (.call 8 (.ev (.var 0) (.ev (.c (.int 0)) .nil))) .nil)) (.sl (.var 0) (.oS (.c (.int 1))) (.oS (.c (.int 6))))) (.n 1)
  ZZ)
  (.bOne (.sRet (.and (.cmp .is (.call 0 (.ev (.tup (.cons (.tup (.cons (.c (.int 1)) (.cons (.c (.int 1)) .nil))) (.cons (.c (.int 0)) (.cons (.c (.int 1)) (.cons (.c (.int 1)) (.cons (.c (.int 6)) .nil)))))) .nil)) (.c (.bl true))) (.cmp .is (.call 0 (.ev (.tup (.cons (.tup (.cons (.c (.int 1)) (.cons (.c (.int 1)) .nil))) (.cons (.c (.int 0)) (.cons (.c (.int 1)) (.cons (.c (.int 0)) (.cons (.c (.int 6)) .nil)))))) .nil)) (.c (.bl false)))))))
def jh:List FI:=[⟨"match_good",1,4,false,zn⟩,⟨"_law_told",2,8,false,yT⟩,⟨"_law_match_good",1,2,false,z8⟩,⟨"_law_no_match",2,3,false,z5⟩,⟨"_law_stands",1,1,false,yn⟩,⟨"stands_list",1,6,false,zo⟩,⟨"_law_match_by",1,4,false,yM⟩,⟨"_law_pen_of",1,1,false,yL⟩,⟨"_law_cell_at",2,1,false,yA⟩]
def m_law:MF:=fnM 8 (dB jh t_law)
structure Txt(K:PySem.W.Frag)(mg:Str->Option Value):Prop where
 n_ValueError:mg "ValueError"=none
 n_all:mg "all"=none
 n_bool:mg "bool"=none
 n_int:mg "int"=none
 n_isinstance:mg "isinstance"=none
 n_len:mg "len"=none
 n_list:mg "list"=none
 n_max:mg "max"=none
 n_range:mg "range"=none
 n_repr:mg "repr"=none
 n_tuple:mg "tuple"=none
 c_LEAST_SIGNS:∃t,mg "LEAST_SIGNS"=some (.int 2 t)
 c_LEAST_WEIGHT:∃t,mg "LEAST_WEIGHT"=some (.int 1 t)
 c_MOST_MATCHED:∃t,mg "MOST_MATCHED"=some (.int 6 t)
 c_MOST_SIGNS:∃t,mg "MOST_SIGNS"=some (.int 3 t)
 c_MOST_WEIGHT:∃t,mg "MOST_WEIGHT"=some (.int 9 t)
 c_NO_STAND:∃a,mg "NO_STAND"=some (.ref a)/\∀H,Rep K mg H (.tup [.non,.int 0]) (.ref a)
 f_is_whole:JU K mg "is_whole" Y3 ["thing"]
 f_is_whole_within:JU K mg "is_whole_within" jK ["thing","low","high"]
 f_die_good:JU K mg "die_good" Y4 ["thing"]
 f_match_good:JU K mg "match_good" Jd ["thing"]
 f_need_match:JU K mg "need_match" Je ["thing"]
 f_stands_list:JU K mg "stands_list" we ["match"]
 f_share_paper:JU K mg "share_paper" wf ["match"]
 f_first_share:JU K mg "first_share" wg ["match"]
 f_paper_good:JU K mg "paper_good" Jf ["match","thing"]
 f_mean_throws:JU K mg "mean_throws" wj ["match"]
 f_shares_by:JU K mg "shares_by" YI ["match","n"]
 f__law_cell_at:JU K mg "_law_cell_at" wG ["_law_script","_law_k"]
 f__law_next:JU K mg "_law_next" YJ ["_law_seed"]
 f__law_pen_of:JU K mg "_law_pen_of" wk ["_law_cell"]
 f__law_draw:JU K mg "_law_draw" YK ["_law_pen","_law_many"]
 f__law_whole:JU K mg "_law_whole" Jg ["_law_found"]
 f__law_kind_of:JU K mg "_law_kind_of" wH ["_law_e"]
 f__law_die_by:JU K mg "_law_die_by" wm ["_law_pen"]
 f__law_match_by:JU K mg "_law_match_by" jj ["_law_pen"]
 f__law_stands:JU K mg "_law_stands" wn ["_law_match"]
 f__law_match_good:JU K mg "_law_match_good" jL ["_law_thing"]
 f__law_no_match:JU K mg "_law_no_match" jk ["_law_pen","_law_match"]
 f__law_told:JU K mg "_law_told" YL ["_law_way","_law_thing"]
 f_law:JU K mg "law" s_law ["_law_script"]
 cl:ClOk K mg cl_ rs_
section
variable{P:Program}{w:World}{K:PySem.W.Frag}{mg:Str->Option Value}{base:Heap}
theorem yo(T:Txt K mg):G6 K mg cs_:=(Yh T.c_LEAST_SIGNS (Yh T.c_LEAST_WEIGHT (Yh T.c_MOST_MATCHED (Yh T.c_MOST_SIGNS (Yh T.c_MOST_WEIGHT (cs_tup T.c_NO_STAND cs_nil))))))
theorem yp(T:Txt K mg):BsOk mg bs_:=(yw T.n_ValueError (yw T.n_all (yw T.n_bool (yw T.n_int (yw T.n_isinstance (yw T.n_len (yw T.n_list (yw T.n_max (yw T.n_range (yw T.n_repr (yw T.n_tuple bs_nil)))))))))))
theorem W1(T:Txt K mg):FOk P w K mg base true "is_whole" 1 ["thing"] JZ:=zk ZD ["thing"] T.f_is_whole (yo T) z0 (yp T) T.cl (by decide +kernel)
theorem y9(T:Txt K mg):FOk P w K mg base true "is_whole_within" 2 ["thing","low","high"] zW:=zk z7 ["thing","low","high"] T.f_is_whole_within (yo T) (zQ (W1 T) rfl z0) (yp T) T.cl (by decide +kernel)
theorem W2(T:Txt K mg):FOk P w K mg base true "die_good" 3 ["thing"] yS:=zk ZE ["thing"] T.f_die_good (yo T) (zQ (y9 T) rfl z0) (yp T) T.cl (by decide +kernel)
theorem JI(T:Txt K mg):FOk P w K mg base true "match_good" 4 ["thing"] zn:=zk Jl ["thing","die","sign","k","other","length"] T.f_match_good (yo T) (zQ (y9 T) rfl (zQ (W2 T) rfl z0)) (yp T) T.cl (by decide +kernel)
theorem yq(T:Txt K mg):FOk P w K mg base true "need_match" 5 ["thing"] zY:=zk Jm ["thing"] T.f_need_match (yo T) (zQ (JI T) rfl z0) (yp T) T.cl (by decide +kernel)
theorem jH(T:Txt K mg):FOk P w K mg base true "stands_list" 6 ["match"] zo:=zk JC ["match","die","sign","k","other","length","of_one","of_other"] T.f_stands_list (yo T) (zQ (yq T) rfl z0) (yp T) T.cl (by decide +kernel)
theorem wN(T:Txt K mg):FOk P w K mg base true "share_paper" 6 ["match"] yK:=zk JD ["match","die","sign","k","other","length","ones","others","together","nothing","of_one","of_other"] T.f_share_paper (yo T) (zQ (yq T) rfl z0) (yp T) T.cl (by decide +kernel)
theorem Yx(T:Txt K mg):FOk P w K mg base true "first_share" 7 ["match"] jV:=zk JE ["match"] T.f_first_share (yo T) (zQ (wN T) rfl z0) (yp T) T.cl (by decide +kernel)
theorem Za(T:Txt K mg):FOk P w K mg base true "paper_good" 7 ["match","thing"] y6:=zk Jn ["match","thing","stands","die","sign","k","other","length","shares","chances","stand","follows"] T.f_paper_good (yo T) (zQ (jH T) rfl z0) (yp T) T.cl (by decide +kernel)
theorem Yy(T:Txt K mg):FOk P w K mg base true "mean_throws" 6 ["match"] jW:=zk JF ["match","die","sign","k","other","length"] T.f_mean_throws (yo T) (zQ (yq T) rfl z0) (yp T) T.cl (by decide +kernel)
theorem WO(T:Txt K mg):FOk P w K mg base true "shares_by" 6 ["match","n"] jX:=zk Yk ["match","n","die","sign","k","other","length","stands","one_there","other_there","ends","throw","grown","stand","thrown","weight","none"] T.f_shares_by (yo T) (zQ (yq T) rfl z0) (yp T) T.cl (by decide +kernel)
theorem Yn(T:Txt K mg):FOk P w K mg base true "_law_cell_at" 1 ["_law_script","_law_k"] yA:=zk jG ["_law_script","_law_k"] T.f__law_cell_at (yo T) z0 (yp T) T.cl (by decide +kernel)
theorem WP(T:Txt K mg):FOk P w K mg base true "_law_next" 1 ["_law_seed"] jY:=zk wZ ["_law_seed"] T.f__law_next (yo T) z0 (yp T) T.cl (by decide +kernel)
theorem Yz(T:Txt K mg):FOk P w K mg base true "_law_pen_of" 1 ["_law_cell"] yL:=zk jZ ["_law_cell","_law_left"] T.f__law_pen_of (yo T) z0 (yp T) T.cl (by decide +kernel)
theorem jx(T:Txt K mg):FOk P w K mg base true "_law_draw" 2 ["_law_pen","_law_many"] zV:=zk ja ["_law_pen","_law_many","_law_found"] T.f__law_draw (yo T) (zQ (WP T) rfl z0) (yp T) T.cl (by decide +kernel)
theorem Zb(T:Txt K mg):FOk P w K mg base true "_law_whole" 1 ["_law_found"] yF:=zk Jp ["_law_found"] T.f__law_whole (yo T) z0 (yp T) T.cl (by decide +kernel)
theorem Yo(T:Txt K mg):FOk P w K mg base false "_law_kind_of" 1 ["_law_e"] yZ:=zk wM ["_law_e","_law_marks"] T.f__law_kind_of (yo T) z0 (yp T) T.cl (by decide +kernel)
theorem Y0(T:Txt K mg):FOk P w K mg base true "_law_die_by" 3 ["_law_pen"] ym:=zk JG ["_law_pen","_law_top"] T.f__law_die_by (yo T) (zQ (jx T) rfl z0) (yp T) T.cl (by decide +kernel)
theorem Jx(T:Txt K mg):FOk P w K mg base true "_law_match_by" 4 ["_law_pen"] yM:=zk jv ["_law_pen","_law_die","_law_sign","_law_other"] T.f__law_match_by (yo T) (zQ (jx T) rfl (zQ (Y0 T) rfl z0)) (yp T) T.cl (by decide +kernel)
theorem Y1(T:Txt K mg):FOk P w K mg base true "_law_stands" 1 ["_law_match"] yn:=zk JH ["_law_match","_law_found","_law_sign","_law_most"] T.f__law_stands (yo T) z0 (yp T) T.cl (by decide +kernel)
theorem JJ(T:Txt K mg):FOk P w K mg base true "_law_match_good" 2 ["_law_thing"] z8:=zk jN ["_law_thing"] T.f__law_match_good (yo T) (zQ (Zb T) rfl z0) (yp T) T.cl (by decide +kernel)
theorem Jy(T:Txt K mg):FOk P w K mg base true "_law_no_match" 3 ["_law_pen","_law_match"] z5:=zk jw ["_law_pen","_law_match","_law_spot","_law_odd","_law_some"] T.f__law_no_match (yo T) (zQ (jx T) rfl z0) (yp T) T.cl (by decide +kernel)
theorem WQ(T:Txt K mg):FOk P w K mg base true "_law_told" 8 ["_law_way","_law_thing"] yT:=zk Ym ["_law_way","_law_thing","_law_e"] T.f__law_told (yo T) (zQ (Za T) rfl (zQ (WO T) rfl (zQ (jH T) rfl (zQ (Yx T) rfl (zQ (wN T) rfl (zQ (Yy T) rfl (zQ (Yo T) rfl z0))))))) (yp T) T.cl (by decide +kernel)
end
theorem law_fd{P:Program}{w:World}{K:PySem.W.Frag}{mg:Str->Option Value}{fa:Addr}(hfa:mg "law"=some (.ref fa))(T:Txt K mg):∃fd:FuncData,(∀(s:Shared) (u:Value),BindsTo s fd ⟨[u],[]⟩ [("_law_script",u)])/\∀base:Heap,FnOk P w K mg base (CXx P w) 40 fa fd ["_law_script"] (spM K mg 1 m_law):=by
 obtain⟨a,fd,hm,F,bnd⟩:=T.f_law;have e:=hfa.symm.trans hm;cases e;refine⟨fd,?_,λbase=>(def_atB (P:=P) (w:=w) (base:=base) (fs:=jh) (lv:=8) t_law ["_law_script","_law_cell","_law_pen","_law_match","_law_turn","_law_found","_law_thing","_law_good"] F (yo T) (zQ (JI T) rfl (zQ (WQ T) rfl (zQ (JJ T) rfl (zQ (Jy T) rfl (zQ (Y1 T) rfl (zQ (jH T) rfl (zQ (Jx T) rfl (zQ (Yz T) rfl (zQ (Yn T) rfl z0))))))))) (yp T) T.cl (by decide +kernel)).mono (by decide)⟩;obtain⟨oc,od,kV,doc,pm,an,cdv,ct,osl,rfl,lk,hcd⟩:=F.ex;exact λs u=>.of_eq rfl
end My
namespace DV
open PySem L2
section
variable{fs:List FI}{E E1 E2 E3:zR}
theorem x_c{d:D}:dE fs (.c d) E=.ok (.val d,E):=by simp only[dE,eC]
theorem zAV{d:D}:dE fs (.gl d) E=.ok (.val d,E):=by simp only[dE,eC]
theorem zE{i:Nat}{d:D}(h:E[i]?=some (.val d)):dE fs (.var i) E=.ok (.val d,E):=by simp only[dE,uO,h]
theorem WR{i:Nat}{ds:List D}(h:E[i]?=some (.own ds))(h':E.set i (.val (.lst ds))=E1):dE fs (.var i) E=.ok (.val (.lst ds),E1):=by simp only[dE,uO,h,h']
theorem jI{o:Op2}{a b:_}{r1 r2 r:R}(h1:dE fs a E=.ok (r1,E1))(h2:dE fs b E1=.ok (r2,E2))(h3:o.f r1.d r2.d=some r):dE fs (.bin o a b) E=.ok (r,E2):=by simp only[dE,YV,h1,h2,h3]
theorem wa{o:Cp}{a b:_}{r1 r2 r:R}(h1:dE fs a E=.ok (r1,E1))(h2:dE fs b E1=.ok (r2,E2))(h3:o.f r1.d r2.d=some r):dE fs (.cmp o a b) E=.ok (r,E2):=by simp only[dE,YV,h1,h2,h3]
theorem uH{a b:_}{r1 r2 r:R}(h1:dE fs a E=.ok (r1,E1))(h2:dE fs b E1=.ok (r2,E2))(h3:ixD r1.d r2.d=some r):dE fs (.ix a b) E=.ok (r,E2):=by simp only[dE,YV,h1,h2,h3]
theorem Wb{b:Bi}{as:_}{rs:List R}{r:R}(h1:dA fs as E=.ok (rs,E1))(h2:b.f (rs.map R.d)=some r):dE fs (.cB b as) E=.ok (r,E1):=by simp only[dE,eCB,h1,h2]
theorem jy{as:_}{rs:List R}{ds:List D}(h1:dA fs as E=.ok (rs,E1))(h2:rs.map R.d=ds)(h3:ds.length<=cap):dE fs (.tup as) E=.ok (.val (.tup ds),E1):=by
 subst h2;simp only[dE,QL,eCB,h1];rw[if_pos h3]
theorem Jz{as:_}{rs:List R}{ds:List D}(h1:dA fs as E=.ok (rs,E1))(h2:rs.map R.d=ds)(h3:ds.length<=cap):dE fs (.lst as) E=.ok (.own ds,E1):=by
 subst h2;simp only[dE,QM,eCB,h1];rw[if_pos h3]
theorem x_sl{a l u:_}{r r':R}{lo hi:Option Int}{E3:zR}(h1:dE fs a E=.ok (r,E1))(h2:dO fs l E1=.ok (lo,E2))(h3:dO fs u E2=.ok (hi,E3))(h4:slD r.d lo hi=some r'):dE fs (.sl a l u) E=.ok (r',E3):=by simp only[dE,eSl,h1,h2,h3,h4]
theorem zy{k:Nat}{a:_}{F:MF}{r r':R}{o:Slot}(h0:fiF fs k=F)(h1:dE fs a E=.ok (r,E1))(h2:F [.val r.d]=.ok (r',[o])):dE fs (.call k (.ev a .nil)) E=.ok (r',E1):=by
 subst h0;simp only[dE,dG,yj,zf,h1,zG,h2,zH]
theorem QA{k:Nat}{a b:_}{F:MF}{r r2 r':R}{o o2:Slot}(h0:fiF fs k=F)(h1:dE fs a E=.ok (r,E1))(h1':dE fs b E1=.ok (r2,E2))(h2:F [.val r.d,.val r2.d]=.ok (r',[o,o2])):dE fs (.call k (.ev a (.ev b .nil))) E=.ok (r',E2):=by
 subst h0;simp only[dE,dG,yj,zf,h1,h1',zG,h2,zH]
theorem jz{o o':Cp}{a b c:_}{i j k:Int}{E3:zR}{v:Bool}(h1:dE fs a E=.ok (.val (.int i),E1))(h2:dE fs b E1=.ok (.val (.int j),E2))(h3:o.b i j=true)(h4:dE fs c E2=.ok (.val (.int k),E3))(h5:o'.b j k=v):dE fs (.chain o o' a b c) E=.ok (.val (.bl v),E3):=by
 subst h5;simp only[dE,yy,h1,h2,h4];rw[if_pos h3]
theorem JK{o o':Cp}{a b c:_}{i j:Int}(h1:dE fs a E=.ok (.val (.int i),E1))(h2:dE fs b E1=.ok (.val (.int j),E2))(h3:o.b i j=false):dE fs (.chain o o' a b c) E=.ok (.val (.bl false),E2):=by
 simp only[dE,yy,h1,h2];rw[if_neg (by rw[h3];decide)]
theorem W3{k:Nat}{a b c:_}{F:MF}{r r2 r3 r':R}{o o2 o3:Slot}(h0:fiF fs k=F)(h1:dE fs a E=.ok (r,E1))(h1':dE fs b E1=.ok (r2,E2))(h1'':dE fs c E2=.ok (r3,E3))(h2:F [.val r.d,.val r2.d,.val r3.d]=.ok (r',[o,o2,o3])):dE fs (.call k (.ev a (.ev b (.ev c .nil)))) E=.ok (r',E3):=by
 subst h0;simp only[dE,dG,yj,zf,h1,h1',h1'',zG,h2,zH]
theorem j0{n:Nat}{body:MS}{ss o:List Slot}{r:R}(h:body (ss++replicate (n-ss.length) .emp)=.ok (.ret r,E1))(ho:zl ss E1=o):fnM n body ss=.ok (r,o):=by
 subst ho;simp only[fnM,h]
theorem f_nx{n:Nat}{body:MS}{ss o:List Slot}(h:body (ss++replicate (n-ss.length) .emp)=.ok (.nx,E1))(ho:zl ss E1=o):fnM n body ss=.ok (.val .non,o):=by
 subst ho;simp only[fnM,h]
theorem zc:dA fs .nil E=.ok ([],E):=by simp only[dA,QK]
theorem zA{a as:_}{r:R}{rs:List R}(h1:dE fs a E=.ok (r,E1))(h2:dA fs as E1=.ok (rs,E2)):dA fs (.cons a as) E=.ok (r::rs,E2):=by simp only[dA,Jt,h1,h2]
theorem o_N:dO fs .oN E=.ok (none,E):=by simp only[dO,oNone]
theorem o_S{a:_}{i:Int}(h:dE fs a E=.ok (.val (.int i),E1)):dO fs (.oS a) E=.ok (some i,E1):=by simp only[dO,Qx,h]
theorem t_E{a:_}{b:Bool}(h:dE fs a E=.ok (.val (.bl b),E1)):dT fs (.tE a) E=.ok (b,E1):=by simp only[dT,tT,h]
theorem uU{a b:_}{c:Bool}(h1:dT fs a E=.ok (false,E1))(h2:dT fs b E1=.ok (c,E2)):dT fs (.tOr a b) E=.ok (c,E2):=by simp only[dT,uC,h1,h2]
theorem QB{a b:_}(h1:dT fs a E=.ok (true,E1)):dT fs (.tOr a b) E=.ok (true,E1):=by simp only[dT,uC,h1]
theorem yB{a:_}{b c:Bool}(h1:dT fs a E=.ok (b,E1))(h2:(!b)=c):dT fs (.tNot a) E=.ok (c,E1):=by subst h2;simp only[dT,Js,h1]
theorem wC{i:Nat}{a:_}{r:R}(h1:dE fs a E=.ok (r,E1))(h2:YB i r E1=.ok E2):dS fs (.sSet i a) E=.ok (.nx,E2):=by simp only[dS,sSet,h1,h2]
theorem wD{t a b:_}{o:Out (Fl×zR)}(h1:dT fs t E=.ok (false,E1))(h2:dB fs b E1=o):dS fs (.sIf t a b) E=o:=by subst h2;simp only[dS,sIf,h1]
theorem wb{t a b:_}{o:Out (Fl×zR)}(h1:dT fs t E=.ok (true,E1))(h2:dB fs a E1=o):dS fs (.sIf t a b) E=o:=by subst h2;simp only[dS,sIf,h1]
theorem yh{a:_}{r:R}(h1:dE fs a E=.ok (r,E1)):dS fs (.sRet a) E=.ok (.ret r,E1):=by simp only[dS,sRet,h1]
theorem s_drop{a:_}{r:R}(h1:dE fs a E=.ok (r,E1)):dS fs (.sDrop a) E=.ok (.nx,E1):=by simp only[dS,sDrop,h1]
theorem s_tup{is:List Nat}{a:_}{r:R}(h1:dE fs a E=.ok (r,E1))(h2:gT is r.d E1=.ok E2):dS fs (.sTup is a) E=.ok (.nx,E2):=by simp only[dS,sTup,h1,h2]
theorem QC{a b:_}{tg:Tg}{r:R}{ds:List D}{p:Fl×zR}(h1:dE fs a E=.ok (r,E1))(h2:r.d=.lst ds)(h3:Y8 tg.m (dB fs b) ds E1=.ok p):dS fs (.sForL a tg b) E=.ok p:=by simp only[dS];exact Gz (by simp only[sForL,h1,h2,h3])
theorem s_forR1{a b:_}{tg:Tg}{r:R}{j:Int}{p:Fl×zR}(h1:dA fs a E=.ok ([r],E1))(h2:r.d=.int j)(hj:-1000000<=j/\j<=1000000)(h3:Y8 tg.m (dB fs b) (zK 0 j.toNat) E1=.ok p):dS fs (.sForR1 a tg b) E=.ok p:=by
 simp only[dS];refine Gz ?_;simp only[sForR1,h1,h2];rw[if_pos ⟨by omega,by omega⟩,h3]
theorem i_T{a:_}{r:R}{ds:List D}(h1:dE fs a E=.ok (r,E1))(h2:r.d=.tup ds):dI fs (.iT a) E=.ok (ds,E1):=by simp only[dI,iT,h1,h2]
theorem i_R1{a:_}{r:R}{j:Int}(h1:dA fs a E=.ok ([r],E1))(h2:r.d=.int j)(hj:-1000000<=j/\j<=1000000):dI fs (.iR1 a) E=.ok (zK 0 j.toNat,E1):=by
 simp only[dI,iR1,h1,h2];rw[if_pos ⟨by omega,by omega⟩]
theorem wE:dB fs .bNil E=.ok (.nx,E):=by simp only[dB,QO]
theorem zz{s:_}{o:Out (Fl×zR)}(h:dS fs s E=o):dB fs (.bOne s) E=o:=by simp only[dB,h]
theorem zq{s b:_}{o:Out (Fl×zR)}(h:dS fs s E=.ok (.nx,E1))(h2:dB fs b E1=o):dB fs (.bSeq s b) E=o:=by simp only[dB,vJ,h,h2]
theorem Ja{s b:_}{r:R}(h:dS fs s E=.ok (.ret r,E1)):dB fs (.bSeq s b) E=.ok (.ret r,E1):=by simp only[dB,vJ,h]
theorem uI{s b:_}{x:Exn}(h:dS fs s E=.exc x E1):dB fs (.bSeq s b) E=.exc x E1:=by simp only[dB,vJ,h]
theorem Zc{a:_}{x:Exn}(h:dE fs a E=.exc x E1):dS fs (.sDrop a) E=.exc x E1:=by simp only[dS,sDrop,h]
theorem s_setX{i:Nat}{a:_}{x:Exn}(h:dE fs a E=.exc x E1):dS fs (.sSet i a) E=.exc x E1:=by simp only[dS,sSet,h]
theorem vi{a:_}{x:Exn}(h:dE fs a E=.exc x E1):dS fs (.sRet a) E=.exc x E1:=by simp only[dS,sRet,h]
theorem s_raise{c:Str}:dS fs (.sRaise c) E=.exc ⟨c,true⟩ E:=by simp only[dS,DV.sRaise]
theorem zAW{k:Nat}{a:_}{F:MF}{r:R}{x:Exn}{o:List Slot}(h0:fiF fs k=F)(h1:dE fs a E=.ok (r,E1))(h2:F [.val r.d]=.exc x o):dE fs (.call k (.ev a .nil)) E=.exc ⟨x.cls,false⟩ E1:=by
 subst h0;simp only[dE,dG,yj,zf,h1,zG,h2,Ji,if_true]
theorem zAX{k:Nat}{a b:_}{F:MF}{r r2:R}{x:Exn}{o:List Slot}(h0:fiF fs k=F)(h1:dE fs a E=.ok (r,E1))(h1':dE fs b E1=.ok (r2,E2))(h2:F [.val r.d,.val r2.d]=.exc x o):dE fs (.call k (.ev a (.ev b .nil))) E=.exc ⟨x.cls,false⟩ E2:=by
 subst h0;simp only[dE,dG,yj,zf,h1,h1',zG,h2,Ji,if_true]
theorem s_tryX{cl:List Str}{b hb:_}{i:Nat}{c:Str}{r:R}(h:dB fs b E=.exc ⟨c,false⟩ E1)(hc:cl.contains c=true)(hp:YB i (.val (.exn c)) E1=.ok E2)(hh:dB fs hb E2=.ok (.ret r,E3)):dS fs (.sTry cl b i hb) E=.ok (.ret r,E3):=by
 simp only[dS,DV.sTry,h,hc,hp,hh,Bool.not_false,Bool.and_self,if_true]
theorem jc{d:D}:[d].length<=cap:=by simp only[List.length_singleton,cap];omega
theorem nil_cap:([]:List D).length<=cap:=by simp only[length_nil,cap];omega
theorem yU{d e:D}:[d,e].length<=cap:=by simp only[length_cons,length_nil,cap];omega
theorem x_comp{nl:Nat}{xs ys:List Str}{caps:List Nat}{it tt el:_}{tg:Tg}{ds rs:List D}{vs:List D}(pat:D->List DV.Slot)(f:D->Bool)(g:D->D)(hi:dI fs it E=.ok (ds,E1))(hcap:wz E1 caps=.ok (vs.map AR.tmp))
  (h1:∀d∈ds,∀S:List DV.Slot,S.length=nl->(∀s∈S,jr s=true)->tg.m d (S++vs.map Slot.val)=.ok (pat d++vs.map Slot.val))
  (h2:∀d∈ds,(pat d).length=nl/\∀s∈pat d,jr s=true)
  (h3:∀d∈ds,dT fs tt (pat d++vs.map Slot.val)=.ok (f d,pat d++vs.map Slot.val))
  (h4:∀d∈ds,f d=true->∃r,dE fs el (pat d++vs.map Slot.val)=.ok (r,pat d++vs.map Slot.val)/\r.d=g d) (hc:ds.length<=cap) (hr:(ds.filter f).map g=rs):dE fs (.comp nl xs ys caps it tg tt el) E=.ok (.own rs,E1):=by
 subst hr;simp only[dE];exact Wv <| zAT pat f g ds h1 h2 h3 h4 hc hi hcap
theorem jd{xs ys:List Str}{caps:List Nat}{it el:_}{ds rs:List D}{vs:List D}(g:D->D)(hi:dI fs it E=.ok (ds,E1))(hcap:wz E1 caps=.ok (vs.map AR.tmp))
  (h4:∀d∈ds,∃r,dE fs el (.val d::vs.map Slot.val)=.ok (r,.val d::vs.map Slot.val)/\r.d=g d) (hc:ds.length<=cap) (hr:ds.map g=rs):dE fs (.comp 1 xs ys caps it (.n 0) .tTr el) E=.ok (.own rs,E1):=by
 refine x_comp (λd=>[.val d]) (λ_=>true) g hi hcap (λd hd S hS hn=>gN_ok1 hS hn) (λd hd=>⟨rfl,λs hs=>?_⟩) (λd hd=>?_) (λd hd _=>h4 d hd) hc ?_
 ·rw[mem_singleton]at hs;subst hs;rfl
 ·simp only[dT,uF]
 ·rw[List.filter_eq_self.mpr (λ_ _=>rfl),hr]
end
end DV
namespace SM
open PySem L2 DV
def ends(w o k:Nat):Nat->List Nat
 |0=>1::replicate k 0
 |n+1=>(o*(ends w o k n).sum)::((ends w o k n).dropLast.map (w*·))
def U(w o k n:Nat):Nat:=(ends w o k n).sum
def F(w o k m:Nat):Nat->Nat
 |0=>0
 |r+1=>F w o k m r+w^r*o*U w o k (m-1-r)
def wt(die:List Nat)(row:List Nat):Nat:=row.foldl (λa x=>a*die.getD x 0) 1
def stp(s:Nat)(p:Nat×Nat)(x:Nat):Nat×Nat:=(max p.1 (if x=s then p.2+1 else 0),if x=s then p.2+1 else 0)
def stt(s:Nat)(row:List Nat):Nat×Nat:=row.foldl (stp s) (0,0)
def Die(die:List Nat):Prop:=(die.length=2\/die.length=3)/\∀x∈die,1<=x/\x<=9
theorem inner{die:List Nat}(hd:Die die){s:Nat}(hs:s<die.length)(k:Nat)(g:Nat->Nat)(r:List Nat) :
  ((List.range die.length).map λx=>if(stt s (r++[x])).1<=k then wt die (r++[x])*g (stt s (r++[x])).2 else 0).sum=if(stt s r).1<=k then wt die r*((die.sum-die.getD s 0)*g 0+if(stt s r).2+1<=k then die.getD s 0*g ((stt s r).2+1)else 0)else 0:=by
 have e1:∀x,stt s (r++[x])=stp s (stt s r) x:=λx=>by simp[stt]
 have e2:∀x,wt die (r++[x])=wt die r*die.getD x 0:=λx=>by simp[wt]
 simp only[e1,e2];generalize stt s r=p;generalize wt die r=t;obtain⟨m,h⟩:=p;have hm:∀a:Nat,max m (a+1)<=k↔m<=k/\a+1<=k:=λa=>by omega
 match die,hd with
 | [a,b],hd =>
  simp only[length_cons,length_nil]at hs;have:s=0\/s=1:=by omega
  rcases this with rfl|rfl<;>by_cases c1:m<=k<;>by_cases c2:h+1<=k<;>simp[List.range_succ,stp,hm,c1,c2,Nat.mul_add,Nat.mul_assoc]<;>omega
 | [a,b,c],hd =>
  simp only[length_cons,length_nil]at hs;have:s=0\/s=1\/s=2:=by omega
  have x1:a+(b+c)-b=a+c:=by omega
  have x2:a+(b+c)-c=a+b:=by omega
  rcases this with rfl|rfl|rfl<;>by_cases c1:m<=k<;>by_cases c2:h+1<=k<;>simp[List.range_succ,stp,hm,c1,c2,Nat.mul_add,Nat.add_mul,Nat.mul_assoc,x1,x2]<;>omega
 | [],hd=>simp[Die]at hd
 | [_],hd=>simp[Die]at hd
 |_::_::_::_::_,hd=>simp[Die]at hd
end SM
namespace DV
open PySem L2
def smD:Nat->D->Prop
 |_,.non=>True
 |_,.bl _=>True
 |_,.dic=>True
 |_,.int i=>i.natAbs<2^100
 |_,.str x=>x="1"
 |n+1,.tup ds=>ds.length<=21/\∀d∈ds,smD n d
 |n+1,.lst ds=>ds.length<=21/\∀d∈ds,smD n d
 |_,_=>False
def rpB:Nat->Nat
 |0=>40
 |n+1=>21*(rpB n+2)+10
theorem zBM(n:Nat):40<=rpB n:=by
 cases n with
 |zero=>exact le_refl _
 |succ n=>have:=zBM n;simp only[rpB];omega
theorem zAY{i:Int}(h:i.natAbs<2^100):(PyData.int i).showable=true:=by
 have:i.natAbs.log2<1920:=by
  by_cases c:i.natAbs=0
  ·rw[c];decide
  ·rw[Nat.log2_lt c]
   exact lt_of_lt_of_le h (Nat.pow_le_pow_right (by omega) (by omega))
 simp only[PyData.showable,decide_eq_true_eq];exact this
theorem len_int{i:Int}(h:i.natAbs<2^100):((PyData.int i).shown).length<=40:=by
 have e:=int_text_length_le10 (a:=i) (k:=39) (by omega) (Nat.lt_trans h (by decide +kernel));simp only[PyData.shown];rw[ofString_length];exact e
theorem Yp(M:Nat):∀(ts:List Str) (k:Nat) (acc:Str),(∀t∈ts,t.length<=M)->(textFrom k acc ts).length<=acc.length+ts.length*(M+2)
 | [],k,acc,_=>by simp[textFrom]
 |t::ts,k,acc,h=>by
  have ih:=Yp M ts (k+1) (acc++(if k > 0 then ", " else "":String)++t) (λx hx=>h x (mem_cons_of_mem _ hx));have h1:=h t mem_cons_self;have e:((if k > 0 then ", " else "":String):Str).length<=2:=by split<;>decide +kernel
  simp only[textFrom];simp only[strLen_append]at ih;have:(t::ts).length*(M+2)=ts.length*(M+2)+(M+2):=by rw[length_cons,Nat.succ_mul]
  omega
theorem QD(M:Nat):∀ts:List Str,(∀t∈ts,t.length<=M)->(Str.join ", " ts).length<=ts.length*(M+2)
 | [],_=>by rw[show(Str.join ", " ([]:List Str)).length=0 by decide +kernel];omega
 | [t],h=>by
  have h1:=h t mem_cons_self;show t.length<=_;simp;omega
 |t::u::ts,h=>by
  have ih:=QD M (u::ts) (λx hx=>h x (mem_cons_of_mem _ hx));have h1:=h t mem_cons_self;show(t++", "++Str.join ", " (u::ts)).length<=_;have e2:((", ":String):Str).length=2:=by decide +kernel
  rw[strLen_append,strLen_append,e2];have:(t::u::ts).length*(M+2)=(u::ts).length*(M+2)+(M+2):=by rw[length_cons,Nat.succ_mul]
  omega
theorem j1:∀xs:List PyData,PyData.shownAll xs=xs.map PyData.shown
 | []=>by simp[PyData.shownAll]
 |x::xs=>by simp[PyData.shownAll,j1 xs]
structure Rp(n:Nat)(x:PyData):Prop where
 sh:x.showable=true
 dp:x.depth<=n+2
 ln:x.shown.length<=rpB n
theorem rps{n:Nat}:∀(ds:List D),(∀d∈ds,∃x,pyD d=some x/\Rp n x)->∃xs,pyDs ds=some xs/\xs.length=ds.length/\PyData.showableAll xs=true/\PyData.depthAll xs<=n+2/\∀x∈xs,x.shown.length<=rpB n
 | [],_=>⟨[],rfl,rfl,rfl,by simp[PyData.depthAll],λx h=>by cases h⟩
 |d::ds,h=>by
  obtain⟨x,e1,h1⟩:=h d mem_cons_self;obtain⟨xs,e2,q1,q2,q3,q4⟩:=rps ds (λy hy=>h y (mem_cons_of_mem _ hy));refine⟨x::xs,by simp only[pyDs,e1,e2],by simp[q1],?_,?_,λy hy=>?_⟩
  ·simp only[PyData.showableAll,h1.sh,q2];rfl
  ·have:=h1.dp;simp only[PyData.depthAll];omega
  ·rcases mem_cons.mp hy with rfl|hy
   ·exact h1.ln
   ·exact q4 y hy
theorem sm_py:∀(n:Nat) (d:D),smD n d->∃x,pyD d=some x/\Rp n x:=by
 have low:∀(n:Nat) (d:D),smD n d->(∀ds,d≠.tup ds)->(∀ds,d≠.lst ds)->∃x,pyD d=some x/\Rp n x:=by
  intro n d h h1 h2;have b:=zBM n;cases d with
  |non =>
   have e:(PyData.none).shown.length=4:=by decide +kernel
   exact⟨.none,rfl,rfl,by simp[PyData.depth],by omega⟩
  |bl v =>
   have e:(PyData.bool v).shown.length<=5:=by cases v<;>decide +kernel
   exact⟨.bool v,rfl,rfl,by simp[PyData.depth],by omega⟩
  |int i =>
   have h':i.natAbs<2^100:=by simpa[smD]using h
   have e:=len_int h';exact⟨.int i,rfl,zAY h',by simp[PyData.depth],by omega⟩
  |str x =>
   have h':x="1":=by simpa[smD]using h
   subst h';have e:(PyData.str "1").shown.length<=5:=by decide +kernel
   exact⟨.str "1",rfl,rfl,by simp[PyData.depth],by omega⟩
  |dic =>
   have e:(PyData.dict []).shown.length<=5:=by decide +kernel
   exact⟨.dict [],rfl,rfl,by simp[PyData.depth,PyData.depthAll,PyData.depthKv],by omega⟩
  |tup ds=>exact absurd rfl (h1 ds)
  |lst ds=>exact absurd rfl (h2 ds)
  |fn x=>simp[smD]at h
  |exn x=>simp[smD]at h
 intro n
 induction n with
 |zero =>
  intro d h;refine low 0 d h (λds e=>?_) (λds e=>?_)<;>(subst e;simp[smD]at h)
 |succ n ih =>
  intro d h;by_cases ht:∃ds,d=.tup ds
  ·obtain⟨ds,rfl⟩:=ht
   simp only[smD]at h;obtain⟨xs,e,q1,q2,q3,q4⟩:=rps ds (λy hy=>ih y (h.2 y hy));refine⟨.tuple xs,by simp only[pyD,e];rfl,by simp only[PyData.showable];exact q2,by simp only[PyData.depth];omega,?_⟩;simp only[PyData.shown,j1,tupleText,strLen_append];have j:=QD (rpB n) (xs.map PyData.shown) (λt ht=>by obtain⟨y,hy,rfl⟩:=mem_map.mp ht;exact q4 y hy);have e1:(("(":Str)).length=1:=by decide +kernel
   have e2:((if(xs.map PyData.shown).length==1 then ",)" else ")":String):Str).length<=2:=by split<;>decide +kernel
   rw[length_map]at j;have:=Nat.mul_le_mul_right (rpB n+2) (show xs.length<=21 by omega);simp only[rpB];omega
  ·by_cases hl:∃ds,d=.lst ds
   ·obtain⟨ds,rfl⟩:=hl
    simp only[smD]at h;obtain⟨xs,e,q1,q2,q3,q4⟩:=rps ds (λy hy=>ih y (h.2 y hy));refine⟨.list xs,by simp only[pyD,e];rfl,by simp only[PyData.showable];exact q2,by simp only[PyData.depth];omega,?_⟩;simp only[PyData.shown,j1,listText,strLen_append];have j:=Yp (rpB n) (xs.map PyData.shown) 0 "[" (λt ht=>by obtain⟨y,hy,rfl⟩:=mem_map.mp ht;exact q4 y hy);have e1:(("[":Str)).length=1:=by decide +kernel
    have e2:(("]":Str)).length=1:=by decide +kernel
    rw[length_map]at j;have:=Nat.mul_le_mul_right (rpB n+2) (show xs.length<=21 by omega);simp only[rpB];omega
   ·exact low (n+1) d h (λds e=>ht ⟨ds,e⟩) (λds e=>hl ⟨ds,e⟩)
theorem sm_repr{d:D}(h:smD 3 d):∃t,wB d=some (.val (.str t)):=by
 obtain⟨x,e,r⟩:=sm_py 3 d h;refine⟨x.shown,?_⟩;unfold wB;rw[e];have h1:=r.dp;have h2:=r.ln;have e3:rpB 3=394516:=by decide
 dsimp only;rw[if_pos ⟨r.sh,by omega,by rw[e3]at h2;simp only[cap];omega⟩]
end DV
namespace DV
open PySem L2
section
variable{fs:List FI}{E E1 E2 E3 E4 E5:zR}
theorem Yq{n:Nat}{body:MS}{ss o:List DV.Slot}{x:Exn}(h:body (ss++replicate (n-ss.length) .emp)=.exc x E1)(ho:zl ss E1=o):fnM n body ss=.exc x o:=by
 subst ho;simp only[fnM,h]
theorem uJ{k:Nat}{a:_}{F:MF}{r:R}{z:Str}{y:Bool}{o:List DV.Slot}(h0:fiF fs k=F)(h1:dE fs a E=.ok (r,E1))(h2:F [.val r.d]=.exc ⟨z,y⟩ o):dE fs (.call k (.ev a .nil)) E=.exc ⟨z,false⟩ E1:=zAW h0 h1 h2
theorem x_cX2{k:Nat}{a b:_}{F:MF}{r r2:R}{z:Str}{y:Bool}{o:List DV.Slot}(h0:fiF fs k=F)(h1:dE fs a E=.ok (r,E1))(h1':dE fs b E1=.ok (r2,E2))(h2:F [.val r.d,.val r2.d]=.exc ⟨z,y⟩ o):dE fs (.call k (.ev a (.ev b .nil))) E=.exc ⟨z,false⟩ E2:=zAX h0 h1 h1' h2
theorem yO{k i:Nat}{a:_}{F:MF}{r r':R}{p p':List D}{o:DV.Slot}(h0:fiF fs k=F)(hE:E[i]?=some (.par p))(h1:dE fs a E=.ok (r,E))(h2:F [.par p,.val r.d]=.ok (r',[.par p',o]))(h3:E.set i (.par p')=E1):dE fs (.call k (.lend i (.ev a .nil))) E=.ok (r',E1):=by
 subst h0 h3;have hi:i<E.length:=(List.getElem?_eq_some_iff.mp hE).1;have hs:(E.set i .emp)[i]?=some .emp:=by simp[hi]
 simp only[dE,dG,yj,zf,hE,JS,Bool.false_eq_true,if_false,h1,zG,Slot.list?,h2,zH,hs,Slot.put,set_set]
theorem x_neg{a:_}{i:Int}(h:dE fs a E=.ok (.val (.int i),E1)):dE fs (.neg a) E=.ok (.val (.int (-i)),E1):=by simp only[dE,eNeg,h]
theorem WS{a b:_}{o:Out (R×zR)}(h:dE fs a E=.ok (.val (.bl true),E1))(h1:dE fs b E1=o):dE fs (.and a b) E=o:=by subst h1;simp only[dE,uD,h]
theorem zBN{a b:_}(h:dE fs a E=.ok (.val (.bl false),E1)):dE fs (.and a b) E=.ok (.val (.bl false),E1):=by simp only[dE,uD,h]
theorem x_is{T:Ty}{a:_}{r:R}{t:String}{v:Bool}(h:dE fs a E=.ok (r,E1))(ht:tyD r.d=some t)(hv:Z7 t T.s=v):dE fs (.is T a) E=.ok (.val (.bl v),E1):=by subst hv;simp only[dE,eIs,h,ht]
theorem x_ifx1{t a b:_}{o:Out (R×zR)}(h:dT fs t E=.ok (true,E1))(h1:dE fs a E1=o):dE fs (.ifx t a b) E=o:=by subst h1;simp only[dE,eIf,h]
theorem x_ifx0{t a b:_}{o:Out (R×zR)}(h:dT fs t E=.ok (false,E1))(h1:dE fs b E1=o):dE fs (.ifx t a b) E=o:=by subst h1;simp only[dE,eIf,h]
theorem t_and1{a b:_}{o:Out (Bool×zR)}(h1:dT fs a E=.ok (true,E1))(h2:dT fs b E1=o):dT fs (.tAnd a b) E=o:=by subst h2;simp only[dT,JR,h1]
theorem t_and0{a b:_}(h1:dT fs a E=.ok (false,E1)):dT fs (.tAnd a b) E=.ok (false,E1):=by simp only[dT,JR,h1]
theorem i_R2{a:_}{r1 r2:R}{i j:Int}(h1:dA fs a E=.ok ([r1,r2],E1))(h2:r1.d=.int i)(h2':r2.d=.int j)(hi:-1000000<=i/\i<=1000000)(hj:-1000000<=j/\j<=1000000):dI fs (.iR2 a) E=.ok (zK i (j-i).toNat,E1):=by
 simp only[dI,iR2,h1,h2,h2'];rw[if_pos ⟨by omega,by omega,by omega,by omega⟩]
theorem s_app{i:Nat}{a:_}{r:R}{ds ds0:List D}(h0:E[i]?=some (.own ds0))(h1:dE fs a E=.ok (r,E1))(h2:E1[i]?=some (.own ds))(hl:ds.length<cap)(h3:E1.set i (.own (ds++[r.d]))=E2):dS fs (.sApp i a) E=.ok (.nx,E2):=by
 subst h3;simp only[dS,sApp,h0,Slot.list?,h1,h2,Slot.put];rw[if_pos hl]
end
theorem put_ok{i:Nat}{E:zR}{s:DV.Slot}(r:R)(h:E[i]?=some s)(hs:jr s=true):YB i r E=.ok (E.set i r.slot):=by
 simp only[YB,h];cases s<;>first|rfl|(cases hs)
theorem WT{i:Nat}{E E1:zR}{s:DV.Slot}{r:R}(h:E[i]?=some s)(hs:jr s=true)(e:E.set i r.slot=E1):YB i r E=.ok E1:=by
 rw[put_ok r h hs,e]
theorem ne_int(x y:Int):neG (.int x) (.int y)=some (.val (.bl (!decide (x=y)))):=by simp[neG,neF]
theorem eq_int(x y:Int):eqG (.int x) (.int y)=some (.val (.bl (decide (x=y)))):=by simp[eqG,eqF]
theorem eq_str(t:Str):eqG (.str t) (.str t)=some (.val (.bl true)):=by simp[eqG,eqF]
theorem ne_str(t:Str):neG (.str t) (.str t)=some (.val (.bl false)):=by simp[neG,neF]
theorem Jb(a b:List D)(h:a.length+b.length<=100000):uP (.lst a) (.lst b)=some (.own (a++b)):=by
 simp only[uP];rw[if_pos (by simp only[cap];omega)]
theorem W4(a b:List D)(h:a.length+b.length<=100000):uP (.tup a) (.tup b)=some (.val (.tup (a++b))):=by
 simp only[uP];rw[if_pos (by simp only[cap];omega)]
theorem rep_one(x:D)(k:Nat):(replicate k [x]).flatten=replicate k x:=by
 induction k with
 |zero=>rfl
 |succ k ih=>rw[replicate_succ,flatten_cons,ih,replicate_succ];rfl
theorem zAZ(d:D)(n:Nat)(h:n<=1000):uS (.lst [d]) (.int n)=some (.own (replicate n d)):=by
 simp only[uS,vG];rw[if_pos ⟨by omega,by omega,by simp only[List.length_singleton,Int.toNat_natCast,cap];omega⟩,Int.toNat_natCast,rep_one]
theorem at_nat{ds:List D}{k:Nat}{d:D}(h:ds[k]?=some d):atI ds (k:Int)=some d:=by
 obtain⟨hk,e⟩:=List.getElem?_eq_some_iff.mp h;have:(k:Int)<ds.length:=by omega
 simp[atI,ixN,this,h]
theorem ixD_lst(ds:List D)(i:Int):ixD (.lst ds) (.int i)=(atI ds i).map .val:=rfl
theorem pick{ds:List D}{r:Int}(h0:0<=r)(h1:r<ds.length):∃d,d∈ds/\ixD (.lst ds) (.int r)=some (.val d):=by
 obtain⟨k,rfl⟩:=Int.eq_ofNat_of_zero_le h0;have hk:k<ds.length:=by omega
 refine⟨ds[k],getElem_mem hk,?_⟩;rw[ixD_lst,at_nat (getElem?_eq_getElem hk)];rfl
theorem WU(f:D->Bool):∀ds:List D,yg (ds.map λd=>D.bl (f d))=some (ds.map f)
 | []=>rfl
 |d::ds=>by simp only[map_cons,yg,WU f ds];rfl
theorem all_map(f:D->Bool)(ds:List D):(ds.map f).all id=ds.all f:=by simp[List.all_map]
theorem WV{f:D->Bool}{ds:List D}{b:Bool}(h:ds.all f=b):allD [.lst (ds.map λd=>D.bl (f d))]=some (.val (.bl b)):=by
 subst h;simp[allD,WU,all_map]
theorem zAa(ds:List D)(k:Nat)(h:k<=ds.length):vH ds (some (k:Int)) none=ds.drop k:=by
 unfold vH;rw[HT.sIx_nat];simp only[HT.sIx];rw[show min k ds.length=k by omega,List.take_of_length_le (by simp)]
theorem pow30:powD (.int 10) (.int 30)=some (.val (.int (10^30))):=by
 simp[powD,GH]
def N(l:List Nat):List D:=l.map λn:Nat=>D.int (n:Int)
theorem QE(l:List Nat):(N l).length=l.length:=by simp[N]
theorem N_mem{l:List Nat}{d:D}(h:d∈N l):∃n∈l,d=.int (n:Nat):=by
 obtain⟨n,hn,rfl⟩:=mem_map.mp h;exact⟨n,hn,rfl⟩
theorem N_app(a b:List Nat):N (a++b)=N a++N b:=by simp[N]
end DV
namespace DV
open PySem L2
section
variable{fs:List FI}{E E1 E2 E3:zR}
end
end DV
namespace DV
open PySem L2
section
variable{fs:List FI}{E E1 E2 E3 E4 E5 E6:zR}
theorem zBO{i:Nat}{t:_}{d:D}{o:Out (Bool×zR)}(h:E[i]?=some (.val d))(h2:dT fs t E=o):dT fs (.tBor i t) E=o:=by
 subst h2;simp only[dT,zAQ,h]
end
end DV
namespace DV
open PySem L2
section
variable{fs:List FI}{E E1 E2 E3 E4 E5 E6:zR}
theorem x_compP{xs ys:List Str}{caps:List Nat}{it el:_}{ds vs p:List D}{i:Nat}(Pn:List D->Prop)(Q:D->Prop)(hi:dI fs it E=.ok (ds,E))(hcap:wz E caps=.ok (.ln i::vs.map AR.tmp))(hl:zG (.ln i::vs.map AR.tmp) E=.ok (.par p::vs.map Slot.val,E.set i .emp))(hp:Pn p)
  (h4:∀d∈ds,∀p,Pn p->∃r p',dE fs el (.val d::.par p::vs.map Slot.val)=.ok (r,.val d::.par p'::vs.map Slot.val)/\Pn p'/\Q r.d) (hc:ds.length<=cap)
  (hb:∀(x:DV.Slot) (p':List D),zH (.ln i::vs.map AR.tmp) ((zl (.emp::.par p::vs.map Slot.val) (x::.par p'::vs.map Slot.val)).drop 1) E (E.set i .emp)=.ok (E.set i (.own p'))) :
  ∃rs p',dE fs (.comp 1 xs ys caps it (.n 0) .tTr el) E=.ok (.own rs,E.set i (.own p'))/\Pn p'/\rs.length=ds.length/\∀d∈rs,Q d:=by
 obtain⟨res,E',e1,e2,e3,x,p',hE,_,hp'⟩:=Yi (tg:=gN 0) (tt:=uF) (el:=dE fs el) (λk E acc=>acc.length=k/\(∀d∈acc,Q d)/\∃x p,E=x::.par p::vs.map Slot.val/\jr x=true/\Pn p) ds 0 (.emp::.par p::vs.map Slot.val) [] ⟨rfl,(λd h=>by cases h),.emp,p,rfl,rfl,hp⟩ (by simpa using hc) (λi d q E acc ⟨ha,hq,x,p,hE,hx,hp⟩ _=>by
  obtain⟨r,p',e,hp',er⟩:=h4 d (mem_of_getElem? q) p hp;refine⟨.val d::.par p::vs.map Slot.val,.val d::.par p::vs.map Slot.val,r,.val d::.par p'::vs.map Slot.val,?_,rfl,e,by simp[ha],λy hy=>?_,.val d,p',rfl,rfl,hp'⟩
  ·subst hE;cases x<;>first|rfl|(cases hx)
  ·rcases mem_append.mp hy with hy|hy
   ·exact hq y hy
   ·rw[mem_singleton]at hy;subst hy;exact er)
 subst hE;refine⟨res,p',?_,hp',by rw[e2];omega,e3⟩;simp only[dE];refine Wv ?_;have e1':wU (gN 0) uF (dE fs el) ds (replicate 1 .emp++.par p::vs.map Slot.val) []=.ok (res,x::.par p'::vs.map Slot.val):=e1;have hb':zH (.ln i::vs.map AR.tmp) ((zl (replicate 1 .emp++.par p::vs.map Slot.val) (x::.par p'::vs.map Slot.val)).drop 1) E (E.set i .emp)=.ok (E.set i (.own p')):=hb x p';simp only[Yg,hi,hcap,hl,Tg.m,dT,e1',hb']
theorem WW{tg:MG}{body:MS}{d:D}{ds:List D}{o:Out (Fl×zR)}(h1:tg d E=.ok E1)(h2:body E1=.ok (.nx,E2))(h3:Y8 tg body ds E2=o):Y8 tg body (d::ds) E=o:=by
 subst h3;simp only[Y8,h1,h2]
theorem zAb{tg:MG}{body:MS}:Y8 tg body [] E=.ok (.nx,E):=rfl
end
end DV
namespace My
open PySem L2 DV SM
def isFn:D->Bool
 | .fn _=>true
 | .exn _=>true
 |_=>false
def isW:D->Bool
 | .int _=>true
 |_=>false
def yr(lo hi:Int):D->Bool
 | .int i=>decide (lo<=i)&&decide (i<=hi)
 |_=>false
def okD:D->Prop
 | .tup ds=>ds.length<=cap/\∀d∈ds,isFn d=false
 | .fn _=>False
 | .exn _=>False
 |_=>True
def Zd:D->Bool
 | .tup ds=>decide (2<=ds.length)&&decide (ds.length<=3)&&ds.all (yr 1 9)
 |_=>false
theorem uK(d:D)(h:isFn d=false):JZ [.val d]=.ok (.val (.bl (isW d)),[.emp]):=by
 cases d<;>first|rfl|(cases h)
theorem yV(d:D)(lo hi:Int)(h:isFn d=false):zW [.val d,.val (.int lo),.val (.int hi)]=.ok (.val (.bl (yr lo hi d)),[.emp,.emp,.emp]):=by
 have e:=uK d h;cases d with
 |int i =>
  simp[zW,z7,yI,fnM,dB,dS,dE,dG,dT,dA,dI,dO,sRet,sIf,vJ,QO,sSet,YB,R.slot,uD,eOr,GG,yj,zf,uO,eC,zG,fiF,fiX,R.d,zH,yy,Cp.b,Cp.f,Op2.f,Bi.f,Ty.s,jq,jp,wV,wW,wX,uC,JR,Js,tT,YV,eCB,Jt,QK,QL,QM,Wu,vY,Tg.m,eqG,eqF,neG,neF,QP,QN,uS,vG,e,isW,yr];by_cases h1:lo<=i<;>simp[h1,jq,jp]
 |_=>first|(cases h;done)|simp[zW,z7,yI,fnM,dB,dS,dE,dG,dT,dA,dI,dO,sRet,sIf,vJ,QO,sSet,YB,R.slot,uD,eOr,GG,yj,zf,uO,eC,zG,fiF,fiX,R.d,zH,yy,Cp.b,Cp.f,Op2.f,Bi.f,Ty.s,jq,jp,wV,wW,wX,uC,JR,Js,tT,YV,eCB,Jt,QK,QL,QM,Wu,vY,Tg.m,eqG,eqF,neG,neF,QP,QN,uS,vG,e,isW,yr]
theorem uL(d:D)(h:okD d):yS [.val d]=.ok (.val (.bl (Zd d)),[.emp]):=by
 cases d with
 |tup ds =>
  have t1:dT wY (.tNot (.tE (.is .tuple (.var 0)))) [.val (.tup ds)]=.ok (false,[.val (.tup ds)]):=yB (t_E (b:=true) rfl) rfl;have l1:dE wY (.cB .len (.cons (.var 0) .nil)) [.val (.tup ds)]=.ok (.val (.int ds.length),[.val (.tup ds)]):=Wb (zA (zE rfl) zc) rfl;by_cases h2:2<=ds.length
  ·have b1:Cp.le.b 2 (ds.length:Int)=true:=decide_eq_true (by omega)
   by_cases h3:ds.length<=3
   ·have b2:Cp.le.b (ds.length:Int) 3=true:=decide_eq_true (by omega)
    have e:Zd (.tup ds)=ds.all (yr 1 9):=by simp[Zd,h2,h3]
    rw[e];exact j0 (zq (wD (uU t1 (yB (t_E (jz zAV l1 b1 zAV b2)) rfl)) wE) (zz (yh (Wb (zA (jd (vs:=[]) (λd=>.bl (yr 1 9 d)) (i_T (zE rfl) rfl) rfl (λd hd=>⟨_,W3 rfl (zE rfl) zAV zAV (yV d 1 9 (h.2 d hd)),rfl⟩) h.1 rfl) zc) (WV rfl))))) rfl
   ·have b2:Cp.le.b (ds.length:Int) 3=false:=decide_eq_false (by omega)
    have e:Zd (.tup ds)=false:=by simp[Zd,h3]
    rw[e];exact j0 (Ja (wb (uU t1 (yB (t_E (jz zAV l1 b1 zAV b2)) rfl)) (zz (yh x_c)))) rfl
  ·have b1:Cp.le.b 2 (ds.length:Int)=false:=decide_eq_false (by omega)
   have e:Zd (.tup ds)=false:=by simp[Zd,h2]
   rw[e];exact j0 (Ja (wb (uU t1 (yB (t_E (JK zAV l1 b1)) rfl)) (zz (yh x_c)))) rfl
 |fn x=>cases h
 |exn x=>cases h
 |_=>rfl
def nxt(s:Int):Int:=((s+7919)%2147483647*((s+7919)%2147483647)+48271*((s+7919)%2147483647)+12345)%2147483629
theorem W5(s:Int):jY [.val (.int s)]=.ok (.val (.int (nxt s)),[.emp]):=by
 have h1:0<=(s+7919)%2147483647:=Int.emod_nonneg _ (by decide);have h2:(s+7919)%2147483647<2147483647:=Int.emod_lt_of_pos _ (by decide);have h3:-18446744073709551616<(s+7919)%2147483647/\(s+7919)%2147483647<18446744073709551616:=by omega
 simp[jY,wZ,Jo,fnM,dB,dS,dE,dG,dT,dA,dI,dO,sRet,sIf,vJ,QO,sSet,YB,R.slot,uD,eOr,GG,yj,zf,uO,eC,zG,fiF,fiX,R.d,zH,yy,Cp.b,Cp.f,Op2.f,Bi.f,Ty.s,jq,jp,wV,wW,wX,uC,JR,Js,tT,YV,eCB,Jt,QK,QL,QM,Wu,vY,Tg.m,eqG,eqF,neG,neF,QP,QN,uS,vG,uP,vG,zAv,GH,nxt,h3]
def Pen(p:List D):Prop:=∃l f s:Int,p=[.int l,.int f,.int s]
theorem je(p:List D)(hp:Pen p)(m:Int)(h0:0<m)(h1:m<1073741824):∃r p',zV [.par p,.val (.int m)]=.ok (.val (.int r),[.par p',.emp])/\0<=r/\r<m/\Pen p':=by
 obtain⟨l,f,s,rfl⟩:=hp;by_cases hf:f=1
 ·refine⟨l%m,[.int (l/m),.int f,.int s],?_,Int.emod_nonneg _ (by omega),Int.emod_lt_of_pos _ h0,_,_,_,rfl⟩
  simp[zV,ja,ju,fnM,dB,dS,dE,dG,dT,dA,dI,dO,sRet,sIf,vJ,QO,sSet,YB,R.slot,uD,eOr,GG,yj,zf,uO,eC,zG,fiF,fiX,R.d,zH,yy,Cp.b,Cp.f,Op2.f,Bi.f,Ty.s,jq,jp,wV,wW,wX,uC,JR,Js,tT,YV,eCB,Jt,QK,QL,QM,Wu,vY,Tg.m,eqG,eqF,neG,neF,QP,QN,uS,vG,eIxO,JS,ixS,atI,ixN,eqF,hf,zAv,Qv,GH,h0,h1,Y7,Slot.list?,Slot.put]
 ·refine⟨nxt (nxt s+7)/64%m,[.int l,.int f,.int (nxt (nxt s+7))],?_,Int.emod_nonneg _ (by omega),Int.emod_lt_of_pos _ h0,_,_,_,rfl⟩
  simp[zV,ja,ju,fnM,dB,dS,dE,dG,dT,dA,dI,dO,sRet,sIf,vJ,QO,sSet,YB,R.slot,uD,eOr,GG,yj,zf,uO,eC,zG,fiF,fiX,R.d,zH,yy,Cp.b,Cp.f,Op2.f,Bi.f,Ty.s,jq,jp,wV,wW,wX,uC,JR,Js,tT,YV,eCB,Jt,QK,QL,QM,Wu,vY,Tg.m,eqG,eqF,neG,neF,QP,QN,uS,vG,eIxO,JS,ixS,atI,ixN,eqF,hf,zAv,Qv,uP,GH,h0,h1,Y7,Slot.list?,Slot.put,W5]
theorem Ze(c:Int):∃p,yL [.val (.int c)]=.ok (.own p,[.emp])/\Pen p:=by
 refine⟨[.int (if 0-c > c then 0-c else c),.int (if decide (10^18<=(if 0-c > c then 0-c else c))=true then 1 else 0),.int ((if 0-c > c then 0-c else c)%1000003)],?_,_,_,_,rfl⟩;simp[yL,jZ,wL,fnM,dB,dS,dE,dG,dT,dA,dI,dO,sRet,sIf,vJ,QO,sSet,YB,R.slot,uD,eOr,GG,yj,zf,uO,eC,zG,fiF,fiX,R.d,zH,yy,Cp.b,Cp.f,Op2.f,Bi.f,Ty.s,jq,jp,wV,wW,wX,uC,JR,Js,tT,YV,eCB,Jt,QK,QL,QM,Wu,vY,Tg.m,eqG,eqF,neG,neF,QP,QN,uS,vG,QN,subD,Qt,intF,geD,powD,zAv,GH,cap]
theorem Y2(ns:List Int):∃c,yA [.val (.lst (ns.map .int)),.val (.int 0)]=.ok (.val (.int c),[.emp,.emp]):=by
 cases ns with
 |nil=>exact⟨0,rfl⟩
 |cons n ns => 
  refine⟨n,?_⟩;have:(0:Int)<ns.length+1:=by omega
  simp[yA,jG,jt,fnM,dB,dS,dE,dG,dT,dA,dI,dO,sRet,sIf,vJ,QO,sSet,YB,R.slot,uD,eOr,GG,yj,zf,uO,eC,zG,fiF,fiX,R.d,zH,yy,Cp.b,Cp.f,Op2.f,Bi.f,Ty.s,jq,jp,wV,wW,wX,uC,JR,Js,tT,YV,eCB,Jt,QK,QL,QM,Wu,vY,Tg.m,eqG,eqF,neG,neF,QP,QN,uS,vG,lenD,ltD,Qt,ixD,atI,ixN,this]
end My
namespace My
open PySem L2 DV SM
abbrev O1:List DV.Slot:=[.emp]
abbrev O2:List DV.Slot:=[.emp,.emp]
def okM:D->Prop
 | .tup ds=>ds.length<=cap/\∀d∈ds,okD d
 | .fn _=>False
 | .exn _=>False
 |_=>True
def tl:D->Int
 | .tup as=>as.length
 |_=>0
def neB:D->D->Bool
 | .int i,.int j=>!decide (i=j)
 |_,_=>false
def JL:D->Bool
 | .tup [a,b,c,d,e]=>Zd a&&(yr 0 (tl a-1) b&&yr 0 (tl a-1) d)&&neB b d&&(yr 1 6 c&&yr 1 6 e)
 |_=>false
theorem JM{d:D}(h:okD d):isFn d=false:=by cases d<;>first|rfl|(cases h)
theorem QF(f:D->Bool)(b d:D):[b,d].all f=(f b&&f d):=by simp
theorem vj{lo hi:Int}{d:D}(h:yr lo hi d=true):∃i,d=.int i:=by cases d<;>first|exact⟨_,rfl⟩|(cases h)
theorem vk{ds:List D}(h:ds.length≠5):JL (.tup ds)=false:=by
 match ds,h with
 | [],_=>rfl
 | [_],_=>rfl
 | [_,_],_=>rfl
 | [_,_,_],_=>rfl
 | [_,_,_,_],_=>rfl
 | [_,_,_,_,_],h=>exact absurd rfl h
 |_::_::_::_::_::_::_,_=>rfl
theorem ne5{ds:List D}(h:ds.length≠5):neG (.int (ds.length:Nat)) (.int 5)=some (.val (.bl true)):=by
 rw[ne_int,decide_eq_false (by omega)];rfl
theorem zAc{a:D}(h:Zd a=true):∃as,a=.tup as/\as.length<=3:=by
 cases a with
 |tup as=>simp[Zd]at h;exact⟨as,rfl,h.1.2⟩
 |_=>cases h
theorem ye(th:D)(h:okM th):zn [.val th]=.ok (.val (.bl (JL th)),O1):=by
 cases th with
 |tup ds =>
  by_cases h5:ds.length=5
  ·match ds,h5,h with
   | [a,b,c,d,e],_,h =>
    have ha:=h.2 a (by simp);have hb:=JM (h.2 b (by simp));have hc:=JM (h.2 c (by simp));have hd:=JM (h.2 d (by simp));have he:=JM (h.2 e (by simp));have eg:=uL a ha;have s0:dS yJ (.sIf (.tOr (.tNot (.tE (.is .tuple (.var 0)))) (.tE (.cmp .ne (.cB .len (.cons (.var 0) .nil)) (.c (.int 5))))) (.bOne (.sRet (.c (.bl false)))) .bNil) [.val (.tup [a,b,c,d,e]),.emp,.emp,.emp,.emp,.emp]=.ok (.nx,[.val (.tup [a,b,c,d,e]),.emp,.emp,.emp,.emp,.emp]):=rfl;have s1:dS yJ (.sTup [1,2,3,4,5] (.var 0)) [.val (.tup [a,b,c,d,e]),.emp,.emp,.emp,.emp,.emp]=.ok (.nx,[.val (.tup [a,b,c,d,e]),.val a,.val b,.val c,.val d,.val e]):=rfl;by_cases da:Zd a=true
    ·obtain⟨as,rfl,hl⟩:=zAc da
     rw[da]at eg;have c1:dE yJ (.cB .all (.cons (.comp 1 ["thrown"] ["die"] [1] (.iT (.tup (.cons (.var 2) (.cons (.var 4) .nil)))) (.n 0) .tTr (.call 0 (.ev (.var 0) (.ev (.c (.int 0)) (.ev (.bin .sub (.cB .len (.cons (.var 1) .nil)) (.c (.int 1))) .nil))))) .nil)) [.val (.tup [.tup as,b,c,d,e]),.val (.tup as),.val b,.val c,.val d,.val e]=.ok (.val (.bl (yr 0 ((as.length:Int)-1) b&&yr 0 ((as.length:Int)-1) d)),[.val (.tup [.tup as,b,c,d,e]),.val (.tup as),.val b,.val c,.val d,.val e]) :=
      Wb (zA (jd (ds:=[b,d]) (vs:=[.tup as]) (λx=>.bl (yr 0 ((as.length:Int)-1) x)) (i_T (jy (zA (zE rfl) (zA (zE rfl) zc)) rfl yU) rfl) rfl (λx hx=>⟨_,W3 (F:=zW) rfl (zE rfl) x_c (jI (Wb (zA (zE rfl) zc) rfl) x_c rfl) (yV x 0 ((as.length:Int)-1) (by
       simp only[mem_cons,mem_nil_iff,or_false]at hx;rcases hx with rfl|rfl<;>assumption)),rfl⟩) yU rfl) zc) (WV (QF _ _ _))
     by_cases q:(yr 0 ((as.length:Int)-1) b&&yr 0 ((as.length:Int)-1) d)=true
     ·rw[q]at c1
      obtain⟨q1,q2⟩:=Bool.and_eq_true_iff.mp q;obtain⟨i,rfl⟩:=vj q1;obtain⟨j,rfl⟩:=vj q2;have c2:dE yJ (.cB .all (.cons (.comp 1 ["wanted"] [] [] (.iT (.tup (.cons (.var 3) (.cons (.var 5) .nil)))) (.n 0) .tTr (.call 0 (.ev (.var 0) (.ev (.c (.int 1)) (.ev (.gl (.int 6)) .nil))))) .nil)) [.val (.tup [.tup as,.int i,c,.int j,e]),.val (.tup as),.val (.int i),.val c,.val (.int j),.val e]=.ok (.val (.bl (yr 1 6 c&&yr 1 6 e)),[.val (.tup [.tup as,.int i,c,.int j,e]),.val (.tup as),.val (.int i),.val c,.val (.int j),.val e]) :=
       Wb (zA (jd (ds:=[c,e]) (vs:=[]) (λx=>.bl (yr 1 6 x)) (i_T (jy (zA (zE rfl) (zA (zE rfl) zc)) rfl yU) rfl) rfl (λx hx=>⟨_,W3 (F:=zW) rfl (zE rfl) x_c zAV (yV x 1 6 (by
        simp only[mem_cons,mem_nil_iff,or_false]at hx;rcases hx with rfl|rfl<;>assumption)),rfl⟩) yU rfl) zc) (WV (QF _ _ _))
      have k:JL (.tup [.tup as,.int i,c,.int j,e])=(!decide (i=j)&&(yr 1 6 c&&yr 1 6 e)):=by
       simp only[JL,tl,da,q,neB,Bool.true_and]
      rw[k];by_cases ij:i=j
      ·rw[decide_eq_true ij]
       exact j0 (zq s0 (zq s1 (zq (wD (yB (t_E (zy (F:=yS) rfl (zE rfl) eg)) rfl) wE) (zq (wD (yB (t_E c1) rfl) wE) (zz (yh (zBN (wa (zE rfl) (zE rfl) (by
        show neG (.int i) (.int j)=_
        rw[ne_int,decide_eq_true ij];rfl))))))))) rfl
      ·rw[decide_eq_false ij]
       exact j0 (zq s0 (zq s1 (zq (wD (yB (t_E (zy (F:=yS) rfl (zE rfl) eg)) rfl) wE) (zq (wD (yB (t_E c1) rfl) wE) (zz (yh (WS (wa (zE rfl) (zE rfl) (by
        show neG (.int i) (.int j)=_
        rw[ne_int,decide_eq_false ij];rfl)) c2))))))) rfl
     ·have q:=Bool.eq_false_iff.mpr q
      rw[q]at c1;have k:JL (.tup [.tup as,b,c,d,e])=false:=by simp only[JL,tl,da,q,Bool.true_and,Bool.false_and]
      rw[k];exact j0 (zq s0 (zq s1 (zq (wD (yB (t_E (zy (F:=yS) rfl (zE rfl) eg)) rfl) wE) (Ja (wb (yB (t_E c1) rfl) (zz (yh x_c))))))) rfl
    ·have da:=Bool.eq_false_iff.mpr da
     rw[da]at eg;have k:JL (.tup [a,b,c,d,e])=false:=by simp only[JL,da,Bool.false_and]
     rw[k];exact j0 (zq s0 (zq s1 (Ja (wb (yB (t_E (zy (F:=yS) rfl (zE rfl) eg)) rfl) (zz (yh x_c)))))) rfl
  ·rw[vk h5]
   exact j0 (Ja (wb (uU (yB (t_E (x_is (zE rfl) rfl rfl)) rfl) (t_E (wa (Wb (zA (zE rfl) zc) rfl) x_c (ne5 h5)))) (zz (yh x_c)))) rfl
 |fn x=>cases h
 |exn x=>cases h
 |_=>rfl
end My
namespace My
open PySem L2 DV SM
theorem Yr(d:D)(h:isFn d=false):yF [.val d]=.ok (.val (.bl (isW d)),O1):=by
 cases d<;>first|rfl|(cases h)
theorem w19(x:D)(h:isFn x=false):dE zD (.and (.call 0 (.ev (.var 0) .nil)) (.chain .le .le (.c (.int 1)) (.var 0) (.c (.int 9)))) [.val x]=.ok (.val (.bl (yr 1 9 x)),[.val x]):=by
 have e:=Yr x h;cases x with
 |int i =>
  by_cases h1:1<=i
  ·exact WS (zy (F:=yF) rfl (zE rfl) e) (jz x_c (zE rfl) (decide_eq_true h1) x_c (by
    show decide (i<=9)=_
    simp only[yr,decide_eq_true h1,Bool.true_and]))
  ·have k:yr 1 9 (.int i)=false:=by simp only[yr,decide_eq_false h1,Bool.false_and]
   rw[k];exact WS (zy (F:=yF) rfl (zE rfl) e) (JK x_c (zE rfl) (decide_eq_false h1))
 |fn x=>cases h
 |exn x=>cases h
 |_=>rfl
theorem ch_lt{fs:List FI}{E:zR}{a b c:_}{i n:Int}(ha:dE fs a E=.ok (.val (.int 0),E))(hb:dE fs b E=.ok (.val (.int i),E))(hc:dE fs c E=.ok (.val (.int n),E)):dE fs (.chain .le .lt a b c) E=.ok (.val (.bl (yr 0 (n-1) (.int i))),E):=by
 by_cases h:0<=i
 ·refine jz ha hb (decide_eq_true h) hc ?_
  show decide (i<n)=_
  simp only[yr,decide_eq_true h,Bool.true_and];exact decide_eq_decide.mpr (by omega)
 ·have k:yr 0 (n-1) (.int i)=false:=by simp only[yr,decide_eq_false h,Bool.false_and]
  rw[k];exact JK ha hb (decide_eq_false h)
theorem ch_16{fs:List FI}{E:zR}{a b c:_}{i:Int}(ha:dE fs a E=.ok (.val (.int 1),E))(hb:dE fs b E=.ok (.val (.int i),E))(hc:dE fs c E=.ok (.val (.int 6),E)):dE fs (.chain .le .le a b c) E=.ok (.val (.bl (yr 1 6 (.int i))),E):=by
 by_cases h:1<=i
 ·refine jz ha hb (decide_eq_true h) hc ?_
  show decide (i<=6)=_
  simp only[yr,decide_eq_true h,Bool.true_and]
 ·have k:yr 1 6 (.int i)=false:=by simp only[yr,decide_eq_false h,Bool.false_and]
  rw[k];exact JK ha hb (decide_eq_false h)
theorem vm{lo hi:Int}{d:D}(h:isW d=false):yr lo hi d=false:=by cases d<;>first|rfl|(cases h)
theorem zAd{d:D}(h:isW d=true):∃i,d=.int i:=by cases d<;>first|exact⟨_,rfl⟩|(cases h)
theorem J0(th:D)(h:okM th):z8 [.val th]=.ok (.val (.bl (JL th)),O1):=by
 cases th with
 |tup ds =>
  by_cases h5:ds.length=5
  ·match ds,h5,h with
   | [a,b,c,d,e],_,h =>
    have ha:=h.2 a (by simp);have hb:=JM (h.2 b (by simp));have hc:=JM (h.2 c (by simp));have hd:=JM (h.2 d (by simp));have he:=JM (h.2 e (by simp));cases a with
    |tup as =>
     have s0:dS zD (.sIf (.tOr (.tNot (.tE (.is .tuple (.var 0)))) (.tOr (.tE (.cmp .ne (.cB .len (.cons (.var 0) .nil)) (.c (.int 5)))) (.tNot (.tE (.is .tuple (.ix (.var 0) (.c (.int 0)))))))) (.bOne (.sRet (.c (.bl false)))) .bNil) [.val (.tup [.tup as,b,c,d,e])]=.ok (.nx,[.val (.tup [.tup as,b,c,d,e])]):=rfl;have i0:dE zD (.ix (.var 0) (.c (.int 0))) [.val (.tup [.tup as,b,c,d,e])]=.ok (.val (.tup as),[.val (.tup [.tup as,b,c,d,e])]):=rfl;have l1:dE zD (.cB .len (.cons (.ix (.var 0) (.c (.int 0))) .nil)) [.val (.tup [.tup as,b,c,d,e])]=.ok (.val (.int as.length),[.val (.tup [.tup as,b,c,d,e])]):=Wb (zA i0 zc) rfl;have c0:dE zD (.cB .all (.cons (.comp 1 ["_law_one"] [] [] (.iT (.ix (.var 0) (.c (.int 0)))) (.n 0) .tTr (.and (.call 0 (.ev (.var 0) .nil)) (.chain .le .le (.c (.int 1)) (.var 0) (.c (.int 9))))) .nil)) [.val (.tup [.tup as,b,c,d,e])]=.ok (.val (.bl (as.all (yr 1 9))),[.val (.tup [.tup as,b,c,d,e])]) :=
      Wb (zA (jd (ds:=as) (vs:=[]) (λx=>.bl (yr 1 9 x)) (i_T i0 rfl) rfl (λx hx=>⟨_,w19 x (ha.2 x hx),rfl⟩) ha.1 rfl) zc) (WV rfl)
     have s1:∀{bb:Bx} {o},(Zd (.tup as)=true->dB zD bb [.val (.tup [.tup as,b,c,d,e])]=o)->(Zd (.tup as)=false->o=.ok (.ret (.val (.bl false)),[.val (.tup [.tup as,b,c,d,e])]))->dB zD (.bSeq (.sIf (.tOr (.tNot (.tE (.chain .le .le (.c (.int 2)) (.cB .len (.cons (.ix (.var 0) (.c (.int 0))) .nil)) (.c (.int 3))))) (.tNot (.tE (.cB .all (.cons (.comp 1 ["_law_one"] [] [] (.iT (.ix (.var 0) (.c (.int 0)))) (.n 0) .tTr (.and (.call 0 (.ev (.var 0) .nil)) (.chain .le .le (.c (.int 1)) (.var 0) (.c (.int 9))))) .nil))))) (.bOne (.sRet (.c (.bl false)))) .bNil) bb) [.val (.tup [.tup as,b,c,d,e])]=o:=by
      intro bb o y n;by_cases h2:2<=as.length
      ·have b1:Cp.le.b 2 (as.length:Int)=true:=decide_eq_true (by omega)
       by_cases h3:as.length<=3
       ·have b2:Cp.le.b (as.length:Int) 3=true:=decide_eq_true (by omega)
        have k:Zd (.tup as)=as.all (yr 1 9):=by simp[Zd,h2,h3]
        rw[k]at y n;cases q:as.all (yr 1 9)with
        |true =>
         rw[q]at c0;exact zq (wD (uU (yB (t_E (jz x_c l1 b1 x_c b2)) rfl) (yB (t_E c0) rfl)) wE) (y q)
        |false =>
         rw[q]at c0;rw[n q];exact Ja (wb (uU (yB (t_E (jz x_c l1 b1 x_c b2)) rfl) (yB (t_E c0) rfl)) (zz (yh x_c)))
       ·have b2:Cp.le.b (as.length:Int) 3=false:=decide_eq_false (by omega)
        rw[n (by simp[Zd,h3])];exact Ja (wb (QB (yB (t_E (jz x_c l1 b1 x_c b2)) rfl)) (zz (yh x_c)))
      ·have b1:Cp.le.b 2 (as.length:Int)=false:=decide_eq_false (by omega)
       rw[n (by simp[Zd,h2])];exact Ja (wb (QB (yB (t_E (JK x_c l1 b1)) rfl)) (zz (yh x_c)))
     have c1:dE zD (.cB .all (.cons (.comp 1 ["_law_one"] [] [] (.iT (.sl (.var 0) (.oS (.c (.int 1))) .oN)) (.n 0) .tTr (.call 0 (.ev (.var 0) .nil))) .nil)) [.val (.tup [.tup as,b,c,d,e])]=.ok (.val (.bl ([b,c,d,e].all isW)),[.val (.tup [.tup as,b,c,d,e])]) :=
      Wb (zA (jd (ds:=[b,c,d,e]) (vs:=[]) (λx=>.bl (isW x)) (i_T (x_sl (zE rfl) (o_S x_c) o_N (r':=.val (.tup [b,c,d,e])) rfl) rfl) rfl (λx hx=>⟨_,zy (F:=yF) rfl (zE rfl) (Yr x (by
       simp only[mem_cons,mem_nil_iff,or_false]at hx;rcases hx with rfl|rfl|rfl|rfl<;>assumption)),rfl⟩) (by simp[cap]) rfl) zc) (WV (f:=isW) (ds:=[b,c,d,e]) rfl)
     refine j0 (E1:=[.val (.tup [.tup as,b,c,d,e])]) (zq s0 (s1 (λy=>?_) λn=>by
      rw[show JL (.tup [.tup as,b,c,d,e])=false by simp only[JL,n,Bool.false_and]])) rfl
     cases q:[b,c,d,e].all isW with
     |false =>
      rw[q]at c1;have k:JL (.tup [.tup as,b,c,d,e])=false:=by
       simp only[all_cons,List.all_nil,Bool.and_true]at q;simp only[JL,y,Bool.true_and];cases hb':isW b with
       |false=>simp only[vm hb',Bool.false_and]
       |true =>
        cases hc':isW c with
        |false=>simp only[vm hc',Bool.false_and,Bool.and_false]
        |true =>
         cases hd':isW d with
         |false=>simp only[vm hd',Bool.false_and,Bool.and_false]
         |true =>
          rw[hb',hc',hd']at q;simp only[vm q,Bool.and_false]
      rw[k];exact Ja (wb (QB (yB (t_E c1) rfl)) (zz (yh x_c)))
     |true =>
      rw[q]at c1;simp only[all_cons,List.all_nil,Bool.and_true,Bool.and_eq_true]at q;obtain⟨i,rfl⟩:=zAd q.1;obtain⟨k,rfl⟩:=zAd q.2.1;obtain⟨j,rfl⟩:=zAd q.2.2.1;obtain⟨l,rfl⟩:=zAd q.2.2.2;have eqij:eqG (.int i) (.int j)=some (.val (.bl (decide (i=j)))):=eq_int i j;have x1:dE zD (.cmp .eq (.ix (.var 0) (.c (.int 1))) (.ix (.var 0) (.c (.int 3)))) [.val (.tup [.tup as,.int i,.int k,.int j,.int l])]=.ok (.val (.bl (decide (i=j))),[.val (.tup [.tup as,.int i,.int k,.int j,.int l])]):=wa (uH (zE rfl) x_c rfl) (uH (zE rfl) x_c rfl) eqij;have km:JL (.tup [.tup as,.int i,.int k,.int j,.int l])=((yr 0 ((as.length:Int)-1) (.int i)&&yr 0 ((as.length:Int)-1) (.int j))&&!decide (i=j)&&(yr 1 6 (.int k)&&yr 1 6 (.int l))):=by
       simp only[JL,tl,y,neB,Bool.true_and]
      rw[km];by_cases ij:i=j
      ·rw[decide_eq_true ij]at x1 ⊢
       rw[Bool.not_true,Bool.and_false,Bool.false_and];exact Ja (wb (uU (yB (t_E c1) rfl) (t_E x1)) (zz (yh x_c)))
      ·rw[decide_eq_false ij]at x1 ⊢
       rw[Bool.not_false,Bool.and_true];refine zq (wD (uU (yB (t_E c1) rfl) (t_E x1)) wE) ?_;have y1:=ch_lt (fs:=zD) (E:=[.val (.tup [.tup as,.int i,.int k,.int j,.int l])]) (a:=.c (.int 0)) (b:=.ix (.var 0) (.c (.int 1))) (i:=i) x_c (uH (zE rfl) x_c rfl) l1;have y2:=ch_lt (fs:=zD) (E:=[.val (.tup [.tup as,.int i,.int k,.int j,.int l])]) (a:=.c (.int 0)) (b:=.ix (.var 0) (.c (.int 3))) (i:=j) x_c (uH (zE rfl) x_c rfl) l1;have y3:=ch_16 (fs:=zD) (E:=[.val (.tup [.tup as,.int i,.int k,.int j,.int l])]) (a:=.c (.int 1)) (b:=.ix (.var 0) (.c (.int 2))) (c:=.c (.int 6)) (i:=k) x_c (uH (zE rfl) x_c rfl) x_c;have y4:=ch_16 (fs:=zD) (E:=[.val (.tup [.tup as,.int i,.int k,.int j,.int l])]) (a:=.c (.int 1)) (b:=.ix (.var 0) (.c (.int 4))) (c:=.c (.int 6)) (i:=l) x_c (uH (zE rfl) x_c rfl) x_c;cases v1:yr 0 ((as.length:Int)-1) (.int i)with
       |false =>
        rw[v1]at y1;exact Ja (wb (QB (yB (t_E y1) rfl)) (zz (yh x_c)))
       |true =>
        rw[v1]at y1;cases v2:yr 0 ((as.length:Int)-1) (.int j)with
        |false =>
         rw[v2]at y2;exact Ja (wb (uU (yB (t_E y1) rfl) (yB (t_E y2) rfl)) (zz (yh x_c)))
        |true =>
         rw[v2]at y2;refine zq (wD (uU (yB (t_E y1) rfl) (yB (t_E y2) rfl)) wE) ?_;rw[Bool.and_self,Bool.true_and];cases v3:yr 1 6 (.int k)with
         |false=>rw[v3]at y3;exact zz (yh (zBN y3))
         |true=>rw[v3]at y3;rw[Bool.true_and];exact zz (yh (WS y3 y4))
    |fn x=>cases ha
    |exn x=>cases ha
    |_=>rfl
  ·rw[vk h5]
   exact j0 (Ja (wb (uU (yB (t_E (x_is (zE rfl) rfl rfl)) rfl) (QB (t_E (wa (Wb (zA (zE rfl) zc) rfl) x_c (ne5 h5))))) (zz (yh x_c)))) rfl
 |fn x=>cases h
 |exn x=>cases h
 |_=>rfl
end My
namespace My
open PySem L2 DV SM
abbrev vn(die:List Nat):D:=.tup (N die)
theorem N_fn{l:List Nat}:∀d∈N l,isFn d=false:=λd hd=>by
 obtain⟨n,_,rfl⟩:=N_mem hd;rfl
theorem wc(a b:Nat):uP (.int a) (.int b)=some (.val (.int ((a+b:Nat):Int))):=by simp[uP]
theorem die_ok{die:List Nat}(h:Die die):okD (vn die):=⟨by rw[QE];rcases h.1 with e|e<;>rw[e]<;>simp[cap],N_fn⟩
theorem die_B{die:List Nat}(h:Die die):Zd (vn die)=true:=by
 have hl:2<=die.length/\die.length<=3:=by rcases h.1 with e|e<;>omega
 have ha:(N die).all (yr 1 9)=true:=by
  rw[all_eq_true];intro d hd;obtain⟨n,hn,rfl⟩:=N_mem hd;have:=h.2 n hn;simp only[yr,Bool.and_eq_true,decide_eq_true_eq];omega
 simp only[Zd,QE,ha,decide_eq_true hl.1,decide_eq_true hl.2,Bool.and_self]
theorem W6(die:List Nat):lenD [vn die]=some (.val (.int die.length)):=by simp only[lenD,QE]
structure Mt(die:List Nat)(s k o l:Nat):Prop where
 d:Die die
 hs:s<die.length
 ho:o<die.length
 ne:s≠o
 hk:1<=k/\k<=6
 hl:1<=l/\l<=6
abbrev yt(die:List Nat)(s k o l:Nat):D:=.tup [vn die,.int (s:Nat),.int (k:Nat),.int (o:Nat),.int (l:Nat)]
theorem matB_ok{die:List Nat}{s k o l:Nat}(h:Mt die s k o l):JL (yt die s k o l)=true:=by
 have:=h.hs;have:=h.ho;have:=h.ne;have:=h.hk;have:=h.hl;simp only[JL,die_B h.d,tl,QE,yr,neB,Bool.true_and,Bool.and_eq_true,decide_eq_true_eq,Bool.not_eq_true',decide_eq_false_iff_not];omega
theorem W7{die:List Nat}{s k o l:Nat}(h:Mt die s k o l):okM (yt die s k o l):=by
 refine⟨by simp[cap],λd hd=>?_⟩;simp only[mem_cons,mem_nil_iff,or_false]at hd;rcases hd with rfl|rfl|rfl|rfl|rfl
 ·exact die_ok h.d
 all_goals exact trivial
theorem need_ok{th:D}(h:okM th)(hb:JL th=true):zY [.val th]=.ok (.val .non,O1):=by
 have e:=ye th h;rw[hb]at e;exact f_nx (zz (wD (yB (t_E (zy (F:=zn) rfl (zE rfl) e)) rfl) wE)) rfl
theorem Zf{th:D}(h:okM th)(hb:JL th=false):zY [.val th]=.exc ⟨"NoLine",true⟩ O1:=by
 have e:=ye th h;rw[hb]at e;exact Yq (zz (wb (yB (t_E (zy (F:=zn) rfl (zE rfl) e)) rfl) (zz s_raise))) rfl
def SP(s:Nat)(n:Nat):List D:=(zK 1 n).map λd=>.tup [.int (s:Nat),d]
def SL(s k o l:Nat):List D:=[.tup [.non,.int 0]]++SP s (k-1)++SP o (l-1)
theorem JN(s n:Nat):(SP s n).length=n:=by rw[SP,length_map,yY]
theorem rng{fs:List FI}{E:zR}{a:_}{k:Nat}(hk:k<=6)(h:dE fs a E=.ok (.val (.int (k:Nat)),E)):dI fs (.iR2 (.cons (.c (.int 1)) (.cons a .nil))) E=.ok (zK 1 (k-1),E):=by
 have:=i_R2 (fs:=fs) (E:=E) (a:=.cons (.c (.int 1)) (.cons a .nil)) (zA x_c (zA h zc)) rfl rfl ⟨by decide,by decide⟩ ⟨by omega,by omega⟩;rw[show((k:Int)-1).toNat=k-1 by omega]at this;exact this
theorem zAe{die:List Nat}{s k o l:Nat}(h:Mt die s k o l):zo [.val (yt die s k o l)]=.ok (.own (SL s k o l),O1):=by
 have hk:=h.hk;have hl:=h.hl;have c1:dE jF (.comp 1 ["many"] ["sign"] [2] (.iR2 (.cons (.c (.int 1)) (.cons (.var 3) .nil))) (.n 0) .tTr (.tup (.cons (.var 1) (.cons (.var 0) .nil)))) [.val (yt die s k o l),.val (vn die),.val (.int (s:Nat)),.val (.int (k:Nat)),.val (.int (o:Nat)),.val (.int (l:Nat)),.emp,.emp]=.ok (.own (SP s (k-1)),[.val (yt die s k o l),.val (vn die),.val (.int (s:Nat)),.val (.int (k:Nat)),.val (.int (o:Nat)),.val (.int (l:Nat)),.emp,.emp]) :=
  jd (ds:=zK 1 (k-1)) (vs:=[.int (s:Nat)]) (λd=>.tup [.int (s:Nat),d]) (rng hk.2 (zE rfl)) rfl (λd _=>⟨_,jy (zA (zE rfl) (zA (zE rfl) zc)) rfl yU,rfl⟩) (by rw[yY];simp only[cap];omega) rfl
 have c2:dE jF (.comp 1 ["many"] ["other"] [4] (.iR2 (.cons (.c (.int 1)) (.cons (.var 5) .nil))) (.n 0) .tTr (.tup (.cons (.var 1) (.cons (.var 0) .nil)))) [.val (yt die s k o l),.val (vn die),.val (.int (s:Nat)),.val (.int (k:Nat)),.val (.int (o:Nat)),.val (.int (l:Nat)),.own (SP s (k-1)),.emp]=.ok (.own (SP o (l-1)),[.val (yt die s k o l),.val (vn die),.val (.int (s:Nat)),.val (.int (k:Nat)),.val (.int (o:Nat)),.val (.int (l:Nat)),.own (SP s (k-1)),.emp]) :=
  jd (ds:=zK 1 (l-1)) (vs:=[.int (o:Nat)]) (λd=>.tup [.int (o:Nat),d]) (rng hl.2 (zE rfl)) rfl (λd _=>⟨_,jy (zA (zE rfl) (zA (zE rfl) zc)) rfl yU,rfl⟩) (by rw[yY];simp only[cap];omega) rfl
 have a1:=Jb [D.tup [.non,.int 0]] (SP s (k-1)) (by rw[JN];simp;omega);have a2:=Jb ([D.tup [.non,.int 0]]++SP s (k-1)) (SP o (l-1)) (by rw[length_append,JN,JN];simp;omega);exact j0 (zq (s_drop (zy (F:=zY) rfl (zE rfl) (need_ok (W7 h) (matB_ok h)))) (zq (s_tup (zE rfl) rfl) (zq (wC c1 rfl) (zq (wC c2 rfl) (zz (yh (jI (jI (Jz (zA zAV zc) rfl jc) (WR rfl rfl) a1) (WR rfl rfl) a2))))))) rfl
theorem WX{die:List Nat}{s k o l:Nat}(h:Mt die s k o l):yn [.val (yt die s k o l)]=.ok (.val (.lst (SL s k o l)),O1):=by
 have hk:=h.hk;have hl:=h.hl;have bd:∀(L:List D) (t m:Nat) (s2 s3:DV.Slot),L.length<=10->m<=6->dB za yN [.val (yt die s k o l),.own L,.val (.int (t:Nat)),.val (.int (m:Nat))]=.ok (.nx,[.val (yt die s k o l),.own (L++SP t (m-1)),.val (.int (t:Nat)),.val (.int (m:Nat))]):=by
  intro L t m s2 s3 hL hm;have c1:dE za (.comp 1 ["_law_length"] ["_law_sign"] [2] (.iR2 (.cons (.c (.int 1)) (.cons (.var 3) .nil))) (.n 0) .tTr (.tup (.cons (.var 1) (.cons (.var 0) .nil)))) [.val (yt die s k o l),.val (.lst L),.val (.int (t:Nat)),.val (.int (m:Nat))]=.ok (.own (SP t (m-1)),[.val (yt die s k o l),.val (.lst L),.val (.int (t:Nat)),.val (.int (m:Nat))]) :=
   jd (ds:=zK 1 (m-1)) (vs:=[.int (t:Nat)]) (λd=>.tup [.int (t:Nat),d]) (rng hm (zE rfl)) rfl (λd _=>⟨_,jy (zA (zE rfl) (zA (zE rfl) zc)) rfl yU,rfl⟩) (by rw[yY];simp only[cap];omega) rfl
  have a1:=Jb L (SP t (m-1)) (by rw[JN];omega);exact zz (wC (jI (WR rfl rfl) c1 a1) rfl)
 have f2:DV.Y8 (gT [2,3]) (dB za yN) [.tup [.int (o:Nat),.int (l:Nat)]] [.val (yt die s k o l),.own ([.tup [.non,.int 0]]++SP s (k-1)),.val (.int (s:Nat)),.val (.int (k:Nat))]=.ok (.nx,[.val (yt die s k o l),.own (SL s k o l),.val (.int (o:Nat)),.val (.int (l:Nat))]):=by
  have g1:gT [2,3] (.tup [.int (o:Nat),.int (l:Nat)]) [.val (yt die s k o l),.own ([.tup [.non,.int 0]]++SP s (k-1)),.val (.int (s:Nat)),.val (.int (k:Nat))]=.ok [.val (yt die s k o l),.own ([.tup [.non,.int 0]]++SP s (k-1)),.val (.int (o:Nat)),.val (.int (l:Nat))]:=rfl;have q:([D.tup [.non,.int 0]]++SP s (k-1)).length<=10:=by rw[length_append,JN];simp only[List.length_singleton];omega
  have g2:=bd ([D.tup [.non,.int 0]]++SP s (k-1)) o l .emp .emp q hl.2;have g3:=WW (tg:=gT [2,3]) (ds:=[]) g1 g2 zAb;exact g3
 have f:DV.Y8 (gT [2,3]) (dB za yN) [.tup [.int (s:Nat),.int (k:Nat)],.tup [.int (o:Nat),.int (l:Nat)]] [.val (yt die s k o l),.own [.tup [.non,.int 0]],.emp,.emp]=.ok (.nx,[.val (yt die s k o l),.own (SL s k o l),.val (.int (o:Nat)),.val (.int (l:Nat))]):=by
  have g1:gT [2,3] (.tup [.int (s:Nat),.int (k:Nat)]) [.val (yt die s k o l),.own [.tup [.non,.int 0]],.emp,.emp]=.ok [.val (yt die s k o l),.own [.tup [.non,.int 0]],.val (.int (s:Nat)),.val (.int (k:Nat))]:=rfl;exact WW g1 (bd [.tup [.non,.int 0]] s k .emp .emp (by simp) hk.2) f2
 have xs:∀(q:Int) (d:D),ixD (yt die s k o l) (.int q)=some (.val d)->dE za (.ix (.var 0) (.c (.int q))) [.val (yt die s k o l),.own [.tup [.non,.int 0]],.emp,.emp]=.ok (.val d,[.val (yt die s k o l),.own [.tup [.non,.int 0]],.emp,.emp]):=λq d e=>uH (zE rfl) x_c e
 have i1:dE za (.tup (.cons (.ix (.var 0) (.c (.int 1))) (.cons (.ix (.var 0) (.c (.int 2))) .nil))) [.val (yt die s k o l),.own [.tup [.non,.int 0]],.emp,.emp]=.ok (.val (.tup [.int (s:Nat),.int (k:Nat)]),[.val (yt die s k o l),.own [.tup [.non,.int 0]],.emp,.emp]):=jy (zA (xs 1 (.int (s:Nat)) rfl) (zA (xs 2 (.int (k:Nat)) rfl) zc)) rfl yU;have i2:dE za (.tup (.cons (.ix (.var 0) (.c (.int 3))) (.cons (.ix (.var 0) (.c (.int 4))) .nil))) [.val (yt die s k o l),.own [.tup [.non,.int 0]],.emp,.emp]=.ok (.val (.tup [.int (o:Nat),.int (l:Nat)]),[.val (yt die s k o l),.own [.tup [.non,.int 0]],.emp,.emp]):=jy (zA (xs 3 (.int (o:Nat)) rfl) (zA (xs 4 (.int (l:Nat)) rfl) zc)) rfl yU;have i3:dE za (.lst (.cons (.tup (.cons (.c .non) (.cons (.c (.int 0)) .nil))) .nil)) [.val (yt die s k o l),.emp,.emp,.emp]=.ok (.own [.tup [.non,.int 0]],[.val (yt die s k o l),.emp,.emp,.emp]):=Jz (zA (jy (zA x_c (zA x_c zc)) rfl yU) zc) rfl jc;exact j0 (E1:=[.val (yt die s k o l),.val (.lst (SL s k o l)),.val (.int (o:Nat)),.val (.int (l:Nat))]) (zq (wC i3 rfl) (zq (QC (tg:=.t [2,3]) (Jz (zA i1 (zA i2 zc)) rfl yU) rfl f) (zz (yh (WR (ds:=SL s k o l) rfl rfl))))) rfl
end My
namespace My
open PySem L2 DV SM
theorem Zg(p:List D)(hp:Pen p):∃die p',ym [.par p]=.ok (.val (vn die),[.par p'])/\Pen p'/\Die die:=by
 obtain⟨r1,p1,e1,l1,u1,hp1⟩:=je p hp 3 (by decide) (by decide);have ht:∃t:Nat,ixD (.lst [.int 1,.int 3,.int 9]) (.int r1)=some (.val (.int (t:Nat)))/\0<t/\t<=9:=by
  have:r1=0\/r1=1\/r1=2:=by omega
  rcases this with rfl|rfl|rfl
  ·exact⟨1,rfl,by decide,by decide⟩
  ·exact⟨3,rfl,by decide,by decide⟩
  ·exact⟨9,rfl,by decide,by decide⟩
 obtain⟨t,ht,t0,t1⟩:=ht;obtain⟨r2,p2,e2,l2,u2,hp2⟩:=je p1 hp1 2 (by decide) (by decide);obtain⟨q2,rfl⟩:=Int.eq_ofNat_of_zero_le l2;obtain⟨res,E',h1,h2,s,p3,l,hE,hs,hp3,hl,hn⟩:=Yi (tg:=gN 0) (tt:=uF) (el:=dE ya (.bin .add (.c (.int 1)) (.call 0 (.lend 1 (.ev (.var 2) .nil))))) (λk E acc=>acc.length=k/\∃s p l,E=[s,.par p,.val (.int (t:Nat))]/\jr s=true/\Pen p/\acc=N l/\∀x∈l,1<=x/\x<=9) (DV.zK 0 (2+q2)) 0 [.emp,.par p2,.val (.int (t:Nat))] [] ⟨rfl,.emp,p2,[],rfl,rfl,hp2,rfl,λx hx=>by cases hx⟩ (by rw[yY];simp only[length_nil,cap];omega)
  (λi d e E acc ⟨ha,s,p,l,hE,hs,hp,hl,hn⟩ hlt=>by
   obtain⟨r,p',e',l',u',hp'⟩:=je p hp (t:Nat) (by omega) (by omega);obtain⟨r,rfl⟩:=Int.eq_ofNat_of_zero_le l';refine⟨[.val d,.par p,.val (.int (t:Nat))],[.val d,.par p,.val (.int (t:Nat))],.val (.int ((1+r:Nat):Int)),[.val d,.par p',.val (.int (t:Nat))],?_,rfl,?_,by simp[ha],.val d,p',l++[1+r],rfl,rfl,hp',?_,?_⟩
   ·subst hE;cases s<;>first|rfl|(cases hs)
   ·exact jI x_c (yO rfl rfl (zE rfl) e' rfl) (wc 1 r)
   ·rw[hl,N_app];rfl
   ·intro x hx
    rcases mem_append.mp hx with hx|hx
    ·exact hn x hx
    ·simp at hx;omega)
 subst hE;have cp:dE ya (.comp 1 ["_law_sign"] ["_law_pen","_law_top"] [0,1] (.iR1 (.cons (.bin .add (.c (.int 2)) (.call 0 (.lend 0 (.ev (.c (.int 2)) .nil)))) .nil)) (.n 0) .tTr (.bin .add (.c (.int 1)) (.call 0 (.lend 1 (.ev (.var 2) .nil))))) [.par p1,.val (.int (t:Nat))]=.ok (.own (N l),[.par p3,.val (.int (t:Nat))]):=by
  have hi:=i_R1 (fs:=ya) (E:=[.par p1,.val (.int (t:Nat))]) (E1:=[.par p2,.val (.int (t:Nat))]) (a:=.cons (.bin .add (.c (.int 2)) (.call 0 (.lend 0 (.ev (.c (.int 2)) .nil)))) .nil) (zA (jI x_c (yO rfl rfl x_c e2 rfl) (wc 2 q2)) zc) (j:=((2+q2:Nat):Int)) rfl ⟨by omega,by omega⟩;rw[show(((2+q2:Nat):Int)).toNat=2+q2 by omega]at hi;simp only[dE]at h1 ⊢;refine Wv ?_;simp only[Tg.m,dT];rw[<- hl];simp[Yg,hi,wz,Slot.list?,zG,h1,zl,zH,Slot.put]
 have hl2:l.length=2+q2:=by
  have:=congrArg length hl;rw[QE]at this;rw[<- this,h2,yY];omega
 refine⟨l,p3,?_,hp3,⟨by omega,hn⟩⟩;exact j0 (zq (wC (uH (Jz (zA x_c (zA x_c (zA x_c zc))) rfl (by simp[cap])) (yO rfl rfl x_c e1 rfl) ht) rfl) (zz (yh (Wb (zA cp zc) rfl)))) rfl
theorem zAf{fs:List FI}{E E1:zR}{k i:Nat}{F:MF}{r':R}{p p':List D}(h0:fiF fs k=F)(hE:E[i]?=some (.par p))(h2:F [.par p]=.ok (r',[.par p']))(h3:E.set i (.par p')=E1):dE fs (.call k (.lend i .nil)) E=.ok (r',E1):=by
 subst h0 h3;have hi:i<E.length:=(List.getElem?_eq_some_iff.mp hE).1;have hs:(E.set i .emp)[i]?=some .emp:=by simp[hi]
 have hp:(E.set i (.par p))[i]?=some (.par p):=by simp[hi]
 simp only[dE,dG,yj,zf,hE,JS,Bool.false_eq_true,if_false,zG,Slot.list?,h2,zH,hs,hp,Slot.put,set_set]
theorem zAg{fs:List FI}{E E1:zR}{k i:Nat}{F:MF}{r':R}{p p':List D}(h0:fiF fs k=F)(hE:E[i]?=some (.own p))(h2:F [.par p]=.ok (r',[.par p']))(h3:E.set i (.own p')=E1):dE fs (.call k (.lend i .nil)) E=.ok (r',E1):=by
 subst h0 h3;have hi:i<E.length:=(List.getElem?_eq_some_iff.mp hE).1;have hs:(E.set i .emp)[i]?=some .emp:=by simp[hi]
 simp only[dE,dG,yj,zf,hE,JS,Bool.false_eq_true,if_false,zG,Slot.list?,h2,zH,hs,Slot.put,set_set]
theorem mod_nat(a b:Nat)(h:b≠0):zAv (.int a) (.int b)=some (.val (.int ((a%b:Nat):Int))):=by
 have:(0:Int)<b:=by omega
 simp only[zAv,GH];rw[if_pos (decide_eq_true this)];rfl
theorem yW(p:List D)(hp:Pen p)(m:Nat)(h0:0<m)(h1:m<1000):∃(r:Nat) (p':List D),zV [.par p,.val (.int (m:Nat))]=.ok (.val (.int (r:Nat)),[.par p',.emp])/\r<m/\Pen p':=by
 obtain⟨r,p',e,l,u,h⟩:=je p hp m (by omega) (by omega);obtain⟨r,rfl⟩:=Int.eq_ofNat_of_zero_le l;exact⟨r,p',e,by omega,h⟩
theorem uM(p:List D)(hp:Pen p):∃die s k o l p',yM [.par p]=.ok (.val (yt die s k o l),[.par p'])/\Pen p'/\Mt die s k o l:=by
 obtain⟨die,p1,e1,hp1,hd⟩:=Zg p hp;have hl:2<=die.length/\die.length<=3:=by rcases hd.1 with e|e<;>omega
 obtain⟨s,p2,e2,u2,hp2⟩:=yW p1 hp1 die.length (by omega) (by omega);obtain⟨r,p3,e3,u3,hp3⟩:=yW p2 hp2 (die.length-1) (by omega) (by omega);obtain⟨a,p4,e4,u4,hp4⟩:=yW p3 hp3 6 (by decide) (by decide);obtain⟨b,p5,e5,u5,hp5⟩:=yW p4 hp4 6 (by decide) (by decide);have sb:subD (.int (die.length:Nat)) (.int 1)=some (.val (.int ((die.length-1:Nat):Int))):=by
  rw[show((die.length-1:Nat):Int)=(die.length:Int)-1 by omega];rfl
 refine⟨die,s,1+a,(s+1+r)%die.length,1+b,p5,?_,hp5,hd,u2,Nat.mod_lt _ (by omega),?_,by omega,by omega⟩
 ·have x3:dE jg (.call 0 (.lend 0 (.ev (.bin .sub (.cB .len (.cons (.var 1) .nil)) (.c (.int 1))) .nil))) [.par p2,.val (vn die),.val (.int (s:Nat)),.emp]=.ok (.val (.int (r:Nat)),[.par p3,.val (vn die),.val (.int (s:Nat)),.emp]):=yO (F:=zV) rfl rfl (jI (Wb (zA (zE rfl) zc) (W6 die)) x_c sb) e3 rfl
  exact j0 (zq (wC (zAf (F:=ym) rfl rfl e1 rfl) rfl) (zq (wC (yO (F:=zV) rfl rfl (Wb (zA (zE rfl) zc) (W6 die)) e2 rfl) rfl) (zq (wC (jI (jI (jI (zE rfl) x_c (wc s 1)) x3 (wc (s+1) r)) (Wb (zA (zE rfl) zc) (W6 die)) (mod_nat (s+1+r) die.length (by omega))) rfl) (zz (yh (jy (zA (zE rfl) (zA (zE rfl) (zA (jI x_c (yO (F:=zV) rfl rfl x_c e4 rfl) (wc 1 a)) (zA (zE rfl) (zA (jI x_c (yO (F:=zV) rfl rfl x_c e5 rfl) (wc 1 b)) zc))))) rfl (by simp only[length_cons,length_nil,cap];omega))))))) rfl
 ·rcases hd.1 with e|e<;>rw[e]at u2 u3 ⊢<;>omega
end My
namespace My
open PySem L2 DV SM
section
variable{fs:List FI}{E E1 E2 E3:zR}
theorem QG{ks:List Nat}{f a:_}{x:Str}{F:MF}{r:R}{z:Str}{y:Bool}{o:List DV.Slot}(h0:dE fs f E=.ok (.val (.fn x),E1))(ht:WG (ks.map λk=>(fiX fs k,fiF fs k)) x=some F)(h1:dE fs a E1=.ok (r,E2))(h2:F [.val r.d]=.exc ⟨z,y⟩ o):dE fs (.callV ks f (.ev a .nil)) E=.exc ⟨z,false⟩ E2:=by
 simp only[dE,dG,WB,h0,ht,yj,zf,h1,zG,h2,Ji,if_true]
theorem x_ixX{a b:_}{x:Exn}(h:dE fs a E=.exc x E1):dE fs (.ix a b) E=.exc x E1:=by simp only[dE,YV,h]
theorem x_reprO{i:Nat}{s:DV.Slot}{r:R}(h:E[i]?=some s)(hr:zAN s=some r):dE fs (.reprO i) E=.ok (r,E):=by
 simp only[dE,WJ,h,hr]
end
variable{th:D}
theorem WY(h:okM th)(hb:JL th=false):zo [.val th]=.exc ⟨"NoLine",false⟩ O1:=Yq (uI (Zc (uJ (F:=zY) rfl (zE rfl) (Zf h hb)))) rfl
theorem vo(h:okM th)(hb:JL th=false):yK [.val th]=.exc ⟨"NoLine",false⟩ O1:=Yq (uI (Zc (uJ (F:=zY) rfl (zE rfl) (Zf h hb)))) rfl
theorem zAh(h:okM th)(hb:JL th=false):jV [.val th]=.exc ⟨"NoLine",false⟩ O1:=Yq (zz (vi (x_ixX (uJ (F:=yK) rfl (zE rfl) (vo h hb))))) rfl
theorem no_mean(h:okM th)(hb:JL th=false):jW [.val th]=.exc ⟨"NoLine",false⟩ O1:=Yq (uI (Zc (uJ (F:=zY) rfl (zE rfl) (Zf h hb)))) rfl
theorem no_good(h:okM th)(hb:JL th=false)(d:D):y6 [.val th,.val d]=.exc ⟨"NoLine",false⟩ O2:=Yq (uI (s_setX (uJ (F:=zo) rfl (zE rfl) (WY h hb)))) rfl
theorem no_by(h:okM th)(hb:JL th=false)(d:D):jX [.val th,.val d]=.exc ⟨"NoLine",false⟩ O2:=Yq (uI (Zc (uJ (F:=zY) rfl (zE rfl) (Zf h hb)))) rfl
theorem QH:yZ [.val (.exn "NoLine")]=.ok (.val (.str "line"),O1):=rfl
theorem W8{i:Int} (hh:dB y8 (.bSeq (.sIf (.tE (.cmp .lt (.var 0) (.c (.int 4)))) (.bOne (.sRet (.callV [2,3,4,5] (.ix (.lst (.cons (.fn 2) (.cons (.fn 3) (.cons (.fn 4) (.cons (.fn 5) .nil))))) (.var 0)) (.ev (.var 1) .nil)))) .bNil)
  (.bOne (.sRet (.ifx (.tE (.cmp .eq (.var 0) (.c (.int 4)))) (.call 0 (.ev (.var 1) (.ev (.c .non) .nil))) (.call 1 (.ev (.var 1) (.ev (.neg (.c (.int 1))) .nil))))))) [.val (.int i),.val th,.emp]=.exc ⟨"NoLine",false⟩ [.val (.int i),.val th,.emp]):yT [.val (.int i),.val th]=.ok (.val (.str "line"),O2) :=
 j0 (zz (s_tryX hh (by decide) rfl (zz (yh (zy (F:=yZ) rfl (zE rfl) QH))))) rfl
theorem told(h:okM th)(hb:JL th=false):∀d∈zK 0 6,yT [.val d,.val th]=.ok (.val (.str "line"),O2):=by
 intro d hd;have lt:∀(i:Int) {x:Str} {F:MF} {y:Bool},i<4->ixD (.lst [.fn "stands_list",.fn "first_share",.fn "share_paper",.fn "mean_throws"]) (.int i)=some (.val (.fn x))->WG ([2,3,4,5].map λk=>(fiX y8 k,fiF y8 k)) x=some F->F [.val th]=.exc ⟨"NoLine",y⟩ O1->yT [.val (.int i),.val th]=.ok (.val (.str "line"),O2):=by
  intro i x F y hi hx hF he;refine W8 (uI (wb (t_E (wa (zE rfl) x_c (r:=.val (.bl true)) ?_)) (zz (vi (QG (uH (Jz (ds:=[.fn "stands_list",.fn "first_share",.fn "share_paper",.fn "mean_throws"]) (zA rfl (zA rfl (zA rfl (zA rfl zc)))) rfl (by simp[cap])) (zE rfl) hx) hF (zE rfl) he)))));show ltD (.int i) (.int 4)=_;simp[ltD,Qt,hi]
 simp only[DV.zK,mem_cons,mem_nil_iff,or_false]at hd;rcases hd with rfl|rfl|rfl|rfl|rfl|rfl
 ·exact lt 0 (by decide) rfl rfl (WY h hb)
 ·exact lt 1 (by decide) rfl rfl (zAh h hb)
 ·exact lt 2 (by decide) rfl rfl (vo h hb)
 ·exact lt 3 (by decide) rfl rfl (no_mean h hb)
 ·exact W8 (zq (wD (t_E (wa (zE rfl) x_c rfl)) wE) (zz (vi (x_ifx1 (t_E (wa (zE rfl) x_c rfl)) (x_cX2 (F:=y6) rfl (zE rfl) x_c (no_good h hb .non))))))
 ·exact W8 (zq (wD (t_E (wa (zE rfl) x_c rfl)) wE) (zz (vi (x_ifx0 (t_E (wa (zE rfl) x_c rfl)) (x_cX2 (F:=jX) rfl (zE rfl) (x_neg x_c) (no_by h hb (.int (-1))))))))
def oddM(s:Nat):List D:=[.int 7,.int 0,.int (-1),.bl true,.non,.str "1",.tup [.int 1],.int 2,.int (10^30),.int (s:Nat),.tup [.int 1,.int 10]]
theorem oddM_ok(s:Nat):∀d∈oddM s,okD d:=by
 intro d hd;simp only[oddM,mem_cons,mem_nil_iff,or_false]at hd;rcases hd with rfl|rfl|rfl|rfl|rfl|rfl|rfl|rfl|rfl|rfl|rfl
 all_goals trivial
def IXL:List D:=[.int 0,.int 0,.int 0,.int 0,.int 1,.int 2,.int 3,.int 4,.int 5,.int 6]
theorem sl_to(ds:List D)(t:Nat)(h:t<=ds.length):slD (.tup ds) none (some (t:Int))=some (.val (.tup (ds.take t))):=by
 have:vH ds none (some (t:Int))=ds.take t:=by
  unfold vH;have h1:HT.sIx ds.length 0 none=0:=rfl;rw[HT.sIx_nat,h1];simp[Nat.min_eq_left h]
 simp only[slD,this]
theorem sl_from(ds:List D)(t:Nat)(h:t<=ds.length):slD (.tup ds) (some (t:Int)) none=some (.val (.tup (ds.drop t))):=by
 simp only[slD,zAa ds t h]
theorem uN(p:List D)(hp:Pen p){die:List Nat}{s k o l:Nat}(h:Mt die s k o l):∃d p',z5 [.par p,.val (yt die s k o l)]=.ok (.val d,[.par p',.emp])/\Pen p'/\okM d:=by
 obtain⟨t,p1,e1,u1,hp1⟩:=yW p hp 5 (by decide) (by decide);obtain⟨a,p2,e2,u2,hp2⟩:=yW p1 hp1 11 (by decide) (by decide);obtain⟨b,p3,e3,u3,hp3⟩:=yW p2 hp2 10 (by decide) (by decide);obtain⟨od,hod,io⟩:=pick (ds:=oddM s) (r:=(a:Int)) (by omega) (by simp[oddM];omega);obtain⟨j,hj,ij⟩:=pick (ds:=IXL) (r:=(b:Int)) (by omega) (by simp[IXL];omega);have okE:∀d∈[vn die,.int (s:Nat),.int (k:Nat),.int (o:Nat),.int (l:Nat)],okD d:=(W7 h).2;have kO:=oddM_ok s od hod;generalize hM:[vn die,.int (s:Nat),.int (k:Nat),.int (o:Nat),.int (l:Nat)]=ms at okE;have ml:ms.length=5:=by rw[<- hM];rfl
 have m1:ixD (.tup ms) (.int 1)=some (.val (.int (s:Nat))):=by rw[<- hM];rfl
 have c4:slD (.tup ms) none (some 4)=some (.val (.tup (ms.take 4))):=sl_to ms 4 (by omega);have c1:=sl_to ms t (by omega);have c2:=sl_from ms (t+1) (by omega);have a1:=W4 (ms.take t) [od] (by simp;omega);have a2:=W4 (ms.take t++[od]) (ms.drop (t+1)) (by simp;omega);have a3:=W4 ms [.int 1] (by simp;omega);have le:okD (.tup ms):=⟨by rw[ml];simp[cap],λd hd=>JM (okE d hd)⟩;have lst1:listD [.tup ms]=some (.own ms):=rfl;have all:∀d∈[D.tup (ms.take t++[od]++ms.drop (t+1)),.tup (ms.take 4),.tup (ms++[.int 1]),.lst ms,.non,.int 0,.tup [.tup ms]],okM d:=by
  intro d hd;simp only[mem_cons,mem_nil_iff,or_false]at hd;rcases hd with rfl|rfl|rfl|rfl|rfl|rfl|rfl
  ·refine⟨by simp[ml,cap];omega,λd hd=>?_⟩
   rcases mem_append.mp hd with hd|hd
   ·rcases mem_append.mp hd with hd|hd
    ·exact okE d (List.mem_of_mem_take hd)
    ·rw[mem_singleton]at hd;subst hd;exact kO
   ·exact okE d (List.mem_of_mem_drop hd)
  ·exact⟨by simp[ml,cap],λd hd=>okE d (List.mem_of_mem_take hd)⟩
  ·refine⟨by simp[ml,cap],λd hd=>?_⟩
   rcases mem_append.mp hd with hd|hd
   ·exact okE d hd
   ·rw[mem_singleton]at hd;subst hd;trivial
  ·trivial
  ·trivial
  ·trivial
  ·exact⟨by simp[cap],λd hd=>by rw[mem_singleton]at hd;subst hd;exact le⟩
 obtain⟨jn,rfl,jb⟩:∃jn:Nat,j=.int (jn:Nat)/\jn<7:=by
  simp only[IXL,mem_cons,mem_nil_iff,or_false]at hj;rcases hj with rfl|rfl|rfl|rfl|rfl|rfl|rfl|rfl|rfl|rfl
  ·exact⟨0,rfl,by decide⟩
  ·exact⟨0,rfl,by decide⟩
  ·exact⟨0,rfl,by decide⟩
  ·exact⟨0,rfl,by decide⟩
  ·exact⟨1,rfl,by decide⟩
  ·exact⟨2,rfl,by decide⟩
  ·exact⟨3,rfl,by decide⟩
  ·exact⟨4,rfl,by decide⟩
  ·exact⟨5,rfl,by decide⟩
  ·exact⟨6,rfl,by decide⟩
 obtain⟨d,hd,id⟩:=pick (ds:=[D.tup (ms.take t++[od]++ms.drop (t+1)),.tup (ms.take 4),.tup (ms++[.int 1]),.lst ms,.non,.int 0,.tup [.tup ms]]) (r:=(jn:Int)) (by omega) (by simp;omega);refine⟨d,p3,?_,hp3,all d hd⟩;show z5 [.par p,.val (.tup [vn die,.int (s:Nat),.int (k:Nat),.int (o:Nat),.int (l:Nat)])]=_
 rw[hM];have xo:dE yC (.lst (.cons (.c (.int 7)) (.cons (.c (.int 0)) (.cons (.neg (.c (.int 1))) (.cons (.c (.bl true)) (.cons (.c .non) (.cons (.c (.str "1")) (.cons (.tup (.cons (.c (.int 1)) .nil)) (.cons (.c (.int 2)) (.cons (.bin .pow (.c (.int 10)) (.c (.int 30))) (.cons (.ix (.var 1) (.c (.int 1))) (.cons (.tup (.cons (.c (.int 1)) (.cons (.c (.int 10)) .nil))) .nil)))))))))))) [.par p1,.val (.tup ms),.val (.int (t:Nat)),.emp,.emp]=.ok (.own (oddM s),[.par p1,.val (.tup ms),.val (.int (t:Nat)),.emp,.emp]) :=
  Jz (zA x_c (zA x_c (zA (x_neg x_c) (zA x_c (zA x_c (zA x_c (zA (jy (zA x_c zc) rfl jc) (zA x_c (zA (jI x_c x_c pow30) (zA (uH (zE rfl) x_c m1) (zA (jy (zA x_c (zA x_c zc)) rfl yU) zc))))))))))) rfl (by simp[oddM,cap])
 have xl:dE yC (.lst (.cons (.bin .add (.bin .add (.sl (.var 1) .oN (.oS (.var 2))) (.tup (.cons (.var 3) .nil))) (.sl (.var 1) (.oS (.bin .add (.var 2) (.c (.int 1)))) .oN)) (.cons (.sl (.var 1) .oN (.oS (.c (.int 4)))) (.cons (.bin .add (.var 1) (.tup (.cons (.c (.int 1)) .nil))) (.cons (.cB .list (.cons (.var 1) .nil)) (.cons (.c .non) (.cons (.c (.int 0)) (.cons (.tup (.cons (.var 1) .nil)) .nil)))))))) [.par p2,.val (.tup ms),.val (.int (t:Nat)),.val od,.emp]=.ok (.own [D.tup (ms.take t++[od]++ms.drop (t+1)),.tup (ms.take 4),.tup (ms++[.int 1]),.lst ms,.non,.int 0,.tup [.tup ms]],[.par p2,.val (.tup ms),.val (.int (t:Nat)),.val od,.emp]) :=
  Jz (zA (jI (jI (x_sl (zE rfl) o_N (o_S (zE rfl)) c1) (jy (zA (zE rfl) zc) rfl jc) a1) (x_sl (zE rfl) (o_S (jI (zE rfl) x_c (wc t 1))) o_N c2) a2) (zA (x_sl (zE rfl) o_N (o_S x_c) c4) (zA (jI (zE rfl) (jy (zA x_c zc) rfl jc) a3) (zA (Wb (zA (zE rfl) zc) lst1) (zA x_c (zA x_c (zA (jy (zA (zE rfl) zc) rfl jc) zc))))))) rfl (by simp[cap])
 have xi:dE yC (.ix (.lst (.cons (.c (.int 0)) (.cons (.c (.int 0)) (.cons (.c (.int 0)) (.cons (.c (.int 0)) (.cons (.c (.int 1)) (.cons (.c (.int 2)) (.cons (.c (.int 3)) (.cons (.c (.int 4)) (.cons (.c (.int 5)) (.cons (.c (.int 6)) .nil))))))))))) (.call 0 (.lend 0 (.ev (.c (.int 10)) .nil)))) [.par p2,.val (.tup ms),.val (.int (t:Nat)),.val od,.val (.lst [D.tup (ms.take t++[od]++ms.drop (t+1)),.tup (ms.take 4),.tup (ms++[.int 1]),.lst ms,.non,.int 0,.tup [.tup ms]])]=.ok (.val (.int (jn:Nat)),[.par p3,.val (.tup ms),.val (.int (t:Nat)),.val od,.val (.lst [D.tup (ms.take t++[od]++ms.drop (t+1)),.tup (ms.take 4),.tup (ms++[.int 1]),.lst ms,.non,.int 0,.tup [.tup ms]])]) :=
  uH (Jz (ds:=IXL) (zA x_c (zA x_c (zA x_c (zA x_c (zA x_c (zA x_c (zA x_c (zA x_c (zA x_c (zA x_c zc)))))))))) rfl (by simp[IXL,cap])) (yO (F:=zV) rfl rfl x_c e3 rfl) ij
 exact j0 (zq (wC (yO (F:=zV) rfl rfl x_c e1 rfl) rfl) (zq (wC (uH xo (yO (F:=zV) rfl rfl x_c e2 rfl) io) rfl) (zq (wC xl rfl) (zz (yh (uH (WR rfl rfl) xi id)))))) rfl
end My
namespace My
open PySem L2 DV SM
theorem x_dic{fs:List FI}{E:zR}:dE fs .dic E=.ok (.val .dic,E):=by simp only[dE,eC]
theorem QI{a b c:D}:[a,b,c].length<=cap:=by simp only[length_cons,length_nil,cap];omega
theorem ne_bl(g:Bool):neG (.bl g) (.bl g)=some (.val (.bl false)):=by cases g<;>rfl
theorem SL_sm{die:List Nat}{s k o l:Nat}(h:Mt die s k o l):smD 3 (.lst (SL s k o l)):=by
 have hk:=h.hk;have hl:=h.hl;have hs:s<3:=lt_of_lt_of_le h.hs (by rcases h.d.1 with e|e<;>omega)
 have ho:o<3:=lt_of_lt_of_le h.ho (by rcases h.d.1 with e|e<;>omega)
 have sp:∀(t n:Nat),t<3->n<=6->∀d∈SP t n,smD 2 d:=by
  intro t n ht hn d hd;obtain⟨x,hx,rfl⟩:=mem_map.mp hd;have:∃i:Int,x=.int i/\0<=i/\i<=7:=by
   have gen:∀(n:Nat) (lo:Int),x∈DV.zK lo n->∃i:Int,x=.int i/\lo<=i/\i<lo+n:=by
    intro n
    induction n with
    |zero=>intro lo h;cases h
    |succ n ih =>
     intro lo h;rcases mem_cons.mp h with h|h
     ·exact⟨lo,h,by omega,by omega⟩
     ·obtain⟨i,e,a,b⟩:=ih (lo+1) h
      exact⟨i,e,by omega,by omega⟩
   obtain⟨i,e,a,b⟩:=gen n 1 hx;exact⟨i,e,by omega,by omega⟩
  obtain⟨i,rfl,i0,i1⟩:=this;refine⟨by simp,λd hd=>?_⟩;simp only[mem_cons,mem_nil_iff,or_false]at hd;rcases hd with rfl|rfl
  ·show((t:Nat):Int).natAbs<2^100
   exact Nat.lt_of_le_of_lt (show((t:Nat):Int).natAbs<=7 by omega) (by decide)
  ·show i.natAbs<2^100
   exact Nat.lt_of_le_of_lt (show i.natAbs<=7 by omega) (by decide)
 refine⟨by rw[SL,length_append,length_append,JN,JN];simp;omega,λd hd=>?_⟩;rcases mem_append.mp hd with hd|hd
 ·rcases mem_append.mp hd with hd|hd
  ·rw[mem_singleton]at hd
   subst hd;refine⟨by simp,λd hd=>?_⟩;simp only[mem_cons,mem_nil_iff,or_false]at hd;rcases hd with rfl|rfl
   ·trivial
   ·show(0:Int).natAbs<2^100
    decide
  ·exact sp s (k-1) hs (by omega) d hd
 ·exact sp o (l-1) ho (by omega) d hd
theorem SL_cap{die:List Nat}{s k o l:Nat}(h:Mt die s k o l):(SL s k o l).length<cap:=by
 have hk:=h.hk;have hl:=h.hl;rw[SL,length_append,length_append,JN,JN];simp[cap];omega
theorem turn1{die:List Nat}{s k o l:Nat}(h:Mt die s k o l)(v c:D)(p:List D)(s4 s5 s6 s7:DV.Slot)(h5:jr s5=true):∃t5,dB jh W0 [.val v,.val c,.own p,.val (yt die s k o l),s4,s5,s6,s7]=.ok (.nx,[.val v,.val c,.own p,.val (yt die s k o l),s4,.own t5,s6,s7]):=by
 obtain⟨t,ht⟩:=sm_repr (SL_sm h);have r1:zAN (.own (SL s k o l))=some (.val (.str t)):=ht;have r2:reprG [.lst (SL s k o l)]=some (.val (.str t)):=ht;exact⟨_,zq (wC (zy (F:=zo) rfl (zE rfl) (zAe h)) (WT rfl h5 rfl)) (zq (wD (t_E (wa (x_reprO rfl r1) (Wb (zA (zy (F:=yn) rfl (zE rfl) (WX h)) zc) r2) (ne_str t))) wE) (zz (s_app rfl x_c rfl (SL_cap h) rfl)))⟩
theorem line6:neG (.lst (replicate 6 (.str "line"))) (.lst (replicate 6 (.str "line")))=some (.val (.bl false)):=rfl
theorem turn2(v c m th:D)(p:List D)(s4 s5 s7:DV.Slot)(h5:jr s5=true)(h7:jr s7=true)(ok:okM th):∃t5 t7,dB jh Wz [.val v,.val c,.own p,.val m,s4,s5,.val th,s7]=.ok (.nx,[.val v,.val c,.own p,.val m,s4,t5,.val th,t7])/\jr t5=true/\jr t7=true:=by
 have e1:=J0 th ok;have e2:=ye th ok;refine⟨.val (.bl (JL th)),.val (.bl (JL th)),zq (wC (zy (F:=z8) rfl (zE rfl) e1) (WT rfl h7 rfl)) (zq (wC (zy (F:=zn) rfl (zE rfl) e2) (WT rfl h5 rfl)) (zq (wD (uU (yB (zBO rfl (t_E (x_is (zE rfl) rfl rfl))) rfl) (zBO rfl (t_E (wa (zE rfl) (zE rfl) (ne_bl _))))) wE) (zz ?_))),rfl,rfl⟩;cases hb:JL th with
 |true=>exact wD (t_and0 (yB (t_E (zE rfl)) rfl)) wE
 |false =>
  have hi:dI jh (.iR1 (.cons (.c (.int 6)) .nil)) [.val v,.val c,.own p,.val m,s4,.val (.bl false),.val th,.val (.bl false)]=.ok (DV.zK 0 6,[.val v,.val c,.own p,.val m,s4,.val (.bl false),.val th,.val (.bl false)]):=i_R1 (zA x_c zc) rfl ⟨by decide,by decide⟩;exact wD (t_and1 (yB (t_E (zE rfl)) rfl) (t_E (wa (jd (ds:=DV.zK 0 6) (vs:=[th]) (rs:=replicate 6 (.str "line")) (λ_=>.str "line") hi rfl (λd hd=>⟨_,QA (F:=yT) rfl (zE rfl) (zE rfl) (told ok hb d hd),rfl⟩) (by rw[yY];simp[cap]) rfl) (jI (Jz (zA x_c zc) rfl jc) x_c (zAZ (.str "line") 6 (by decide))) line6))) wE
def InC(v:D)(E:zR):Prop:=∃s1 s2 s3 s4 s5 s6 s7,E=[.val v,s1,s2,s3,s4,s5,s6,s7]/\jr s1=true/\jr s2=true/\jr s3=true/\jr s4=true/\jr s5=true/\jr s6=true/\jr s7=true
theorem cell_ok(v:D)(c:Int)(s2 s3 s4 s5 s6 s7:DV.Slot)(h2:jr s2=true)(h3:jr s3=true)(h4:jr s4=true)(h5:jr s5=true)(h6:jr s6=true)(h7:jr s7=true):∃E2,dB jh ZZ [.val v,.val (.int c),s2,s3,s4,s5,s6,s7]=.ok (.nx,E2)/\InC v E2:=by
 obtain⟨p,e1,hp⟩:=Ze c;obtain⟨die,s,k,o,l,p1,e2,hp1,h⟩:=uM p hp;obtain⟨E3,f1,t4,t5,rfl,q4,q5⟩:=YG (tg:=gN 4) (body:=dB jh W0) (λ_ E=>∃t4 t5,E=[.val v,.val (.int c),.own p1,.val (yt die s k o l),t4,t5,s6,s7]/\jr t4=true/\jr t5=true) (DV.zK 0 2) 0 [.val v,.val (.int c),.own p1,.val (yt die s k o l),s4,s5,s6,s7] ⟨s4,s5,rfl,h4,h5⟩
  (λi d q E ⟨t4,t5,hE,q4,q5⟩=>by
   obtain⟨u,f⟩:=turn1 h v (.int c) p1 (.val d) t5 s6 s7 q5;refine⟨[.val v,.val (.int c),.own p1,.val (yt die s k o l),.val d,t5,s6,s7],_,?_,f,_,_,rfl,rfl,rfl⟩;subst hE;cases t4<;>first|rfl|(cases q4))
 have hi:dI jh (.iR1 (.cons (.c (.int 4)) .nil)) [.val v,.val (.int c),.own p1,.val (yt die s k o l),t4,t5,s6,s7]=.ok (DV.zK 0 4,[.val v,.val (.int c),.own p1,.val (yt die s k o l),t4,t5,s6,s7]):=i_R1 (zA x_c zc) rfl ⟨by decide,by decide⟩;obtain⟨rs,p2,cp,hp2,nr,sr⟩:=x_compP (xs:=["_law_turn"]) (ys:=["_law_pen","_law_match"]) (caps:=[2,3]) (el:=.call 3 (.lend 1 (.ev (.var 2) .nil))) (vs:=[yt die s k o l]) (p:=p1) (i:=2) Pen okM hi rfl rfl hp1 (λd _ p hp=>by
  obtain⟨x,p',e,hp',ox⟩:=uN p hp h
  exact⟨.val x,p',yO (F:=z5) rfl rfl (zE rfl) e rfl,hp',ox⟩) (by rw[yY];simp[cap]) (λx p'=>rfl)
 rw[yY]at nr;have a1:=Jb [yt die s k o l] rs (by rw[nr];simp);have a2:=Jb ([yt die s k o l]++rs) [.tup [],.dic,.str "0"] (by simp[nr]);obtain⟨E4,f2,t5,t6,t7,rfl,q5,q6,q7⟩:=YG (tg:=gN 6) (body:=dB jh Wz) (λ_ E=>∃t5 t6 t7,E=[.val v,.val (.int c),.own p2,.val (yt die s k o l),t4,t5,t6,t7]/\jr t5=true/\jr t6=true/\jr t7=true) ([yt die s k o l]++rs++[.tup [],.dic,.str "0"]) 0 [.val v,.val (.int c),.own p2,.val (yt die s k o l),t4,t5,s6,s7] ⟨t5,s6,s7,rfl,q5,h6,h7⟩
  (λi d q E ⟨t5,t6,t7,hE,q5,q6,q7⟩=>by
   have ok:okM d:=by
    rcases mem_append.mp (mem_of_getElem? q)with m|m
    ·rcases mem_append.mp m with m|m
     ·rw[mem_singleton]at m;subst m;exact W7 h
     ·exact sr d m
    ·simp only[mem_cons,mem_nil_iff,or_false]at m
     rcases m with rfl|rfl|rfl
     ·exact⟨by simp,λd hd=>by cases hd⟩
     ·trivial
     ·trivial
   obtain⟨u5,u7,f,g5,g7⟩:=turn2 v (.int c) (yt die s k o l) d p2 t4 t5 t7 q5 q7 ok;refine⟨[.val v,.val (.int c),.own p2,.val (yt die s k o l),t4,t5,.val d,t7],_,?_,f,_,_,_,rfl,g5,rfl,g7⟩;subst hE;cases t6<;>first|rfl|(cases q6))
 refine⟨[.val v,.val (.int c),.own p2,.val (yt die s k o l),t4,t5,t6,t7],?_,_,_,_,_,_,_,_,rfl,rfl,rfl,rfl,q4,q5,q6,q7⟩;refine zq (wC (zy (F:=yL) rfl (zE rfl) e1) (WT rfl h2 rfl)) ?_;refine zq (wC (zAg (F:=yM) rfl rfl e2 rfl) (WT rfl h3 rfl)) ?_;refine zq (s_forR1 (tg:=.n 4) (j:=2) (zA x_c zc) rfl ⟨by decide,by decide⟩ f1) ?_;refine zz (QC (tg:=.n 6) (jI (jI (Jz (zA (zE rfl) zc) rfl jc) cp a1) (Jz (zA (jy zc rfl nil_cap) (zA x_dic (zA x_c zc))) rfl QI) a2) rfl f2)
theorem math49(ns:List Int)(hns:ns.length<=63):∃outs,m_law [.val (.lst (ns.map D.int))]=.ok (.val (.bl true),outs):=by
 obtain⟨c,e2⟩:=Y2 ns;have hcut:vH (ns.map D.int) (some 1) (some 6)=((ns.drop (HT.sIx ns.length 0 (some 1))).take (HT.sIx ns.length ns.length (some 6)-HT.sIx ns.length 0 (some 1))).map D.int:=by
  unfold vH;simp[List.map_drop,List.map_take]
 generalize hk:(ns.drop (HT.sIx ns.length 0 (some 1))).take (HT.sIx ns.length ns.length (some 6)-HT.sIx ns.length 0 (some 1))=k at hcut;have hkl:k.length<=63:=by rw[<- hk];simp;omega
 have c1:slD (.lst (ns.map D.int)) (some 1) (some 6)=some (.own (k.map D.int)):=by simp only[slD,hcut]
 have c2:=Jb [.int c] (k.map D.int) (by simp;omega);generalize hv:D.lst (ns.map D.int)=v at e2 c1;obtain⟨E',f1,u1,u2,u3,u4,u5,u6,u7,hE,_⟩:=YG (tg:=gN 1) (body:=dB jh ZZ) (λ_ E=>InC v E) ([.int c]++k.map D.int) 0 [.val v,.emp,.emp,.emp,.emp,.emp,.emp,.emp] ⟨_,_,_,_,_,_,_,rfl,rfl,rfl,rfl,rfl,rfl,rfl,rfl⟩
  (λi d q E ⟨s1,s2,s3,s4,s5,s6,s7,hE,h1,h2,h3,h4,h5,h6,h7⟩=>by
   obtain⟨x,rfl⟩:∃x:Int,d=.int x:=by
    have:=mem_of_getElem? q;rcases mem_append.mp this with m|m
    ·exact⟨c,mem_singleton.mp m⟩
    ·obtain⟨x,_,rfl⟩:=mem_map.mp m;exact⟨x,rfl⟩
   obtain⟨E2,f1,f2⟩:=cell_ok v x s2 s3 s4 s5 s6 s7 h2 h3 h4 h5 h6 h7;refine⟨[.val v,.val (.int x),s2,s3,s4,s5,s6,s7],E2,?_,f1,f2⟩;subst hE;cases s1<;>first|rfl|(cases h1))
 subst hE;have g1:=ye (.tup [.tup [.int 1,.int 1],.int 0,.int 1,.int 1,.int 6]) (by
  refine⟨by simp[cap],λd hd=>?_⟩;simp only[mem_cons,mem_nil_iff,or_false]at hd;rcases hd with rfl|rfl|rfl|rfl|rfl
  all_goals trivial)
 have g2:=ye (.tup [.tup [.int 1,.int 1],.int 0,.int 1,.int 0,.int 6]) (by
  refine⟨by simp[cap],λd hd=>?_⟩;simp only[mem_cons,mem_nil_iff,or_false]at hd;rcases hd with rfl|rfl|rfl|rfl|rfl
  all_goals trivial)
 have tp:∀(a b c d:Int),dE jh (.tup (.cons (.tup (.cons (.c (.int 1)) (.cons (.c (.int 1)) .nil))) (.cons (.c (.int a)) (.cons (.c (.int b)) (.cons (.c (.int c)) (.cons (.c (.int d)) .nil)))))) [.val v,u1,u2,u3,u4,u5,u6,u7]=.ok (.val (.tup [.tup [.int 1,.int 1],.int a,.int b,.int c,.int d]),[.val v,u1,u2,u3,u4,u5,u6,u7]):=λa b c d=>jy (zA (jy (zA x_c (zA x_c zc)) rfl yU) (zA x_c (zA x_c (zA x_c (zA x_c zc))))) rfl (by simp[cap])
 refine⟨_,j0 (r:=.val (.bl true)) (E1:=[.val v,u1,u2,u3,u4,u5,u6,u7]) ?_ rfl⟩;show dB jh (.bSeq (.sForL _ _ ZZ) (.bOne _)) [.val v,.emp,.emp,.emp,.emp,.emp,.emp,.emp]=_;exact zq (QC (jI (Jz (zA (QA (F:=yA) rfl (zE rfl) x_c e2) zc) rfl jc) (x_sl (zE rfl) (o_S x_c) (o_S x_c) c1) c2) rfl f1) (zz (yh (WS (wa (zy (F:=zn) rfl (tp 0 1 1 6) g1) x_c rfl) (wa (zy (F:=zn) rfl (tp 0 1 0 6) g2) x_c rfl))))
end My
namespace My
open PySem L2 DV
theorem txt_lk{K:PySem.W.Frag}{h:Heap}{mg:Str->Option Value}(X:K.In h)(G:h.Ns mainGlobals mg)(e:YM K=YN):Txt K mg :=
 have e1:=congrArg (λx:lkT=>x.1) e;have e2:=congrArg (λx:lkT=>x.2.1) e;have e3:=congrArg (λx:lkT=>x.2.2.1) e
 {n_ValueError:=Yj X G (ix 0 e3),n_all:=Yj X G (ix 1 e3),n_bool:=Yj X G (ix 2 e3),n_int:=Yj X G (ix 3 e3),n_isinstance:=Yj X G (ix 4 e3),n_len:=Yj X G (ix 5 e3),n_list:=Yj X G (ix 6 e3),n_max:=Yj X G (ix 7 e3),n_range:=Yj X G (ix 8 e3),n_repr:=Yj X G (ix 9 e3),n_tuple:=Yj X G (ix 10 e3),c_NO_STAND:=tn_at X G (ix 11 e3),c_LEAST_SIGNS:=G9 X G (ix 0 e2),c_LEAST_WEIGHT:=G9 X G (ix 1 e2),c_MOST_MATCHED:=G9 X G (ix 2 e2),c_MOST_SIGNS:=G9 X G (ix 3 e2),c_MOST_WEIGHT:=G9 X G (ix 4 e2),f_is_whole:=yl X G (ix 0 e1),f_is_whole_within:=yl X G (ix 1 e1),f_die_good:=yl X G (ix 2 e1),f_match_good:=yl X G (ix 3 e1),f_need_match:=yl X G (ix 4 e1),f_stands_list:=yl X G (ix 5 e1),f_share_paper:=yl X G (ix 6 e1),f_first_share:=yl X G (ix 7 e1),f_paper_good:=yl X G (ix 8 e1),f_mean_throws:=yl X G (ix 9 e1),f_shares_by:=yl X G (ix 10 e1),f__law_cell_at:=yl X G (ix 11 e1),f__law_next:=yl X G (ix 12 e1),f__law_pen_of:=yl X G (ix 13 e1),f__law_draw:=yl X G (ix 14 e1),f__law_whole:=yl X G (ix 15 e1),f__law_kind_of:=yl X G (ix 16 e1),f__law_die_by:=yl X G (ix 17 e1),f__law_match_by:=yl X G (ix 18 e1),f__law_stands:=yl X G (ix 19 e1),f__law_match_good:=yl X G (ix 20 e1),f__law_no_match:=yl X G (ix 21 e1),f__law_told:=yl X G (ix 22 e1),f_law:=yl X G (ix 23 e1),cl:=cl_at X G (congrArg (λx:lkT=>x.2.2.2) e)}
end My
end
open PySem PySem.W PyProof.Rows
set_option maxRecDepth 100000 in
set_option maxHeartbeats 0 in
theorem PySem.Challenge.cw_throwruns_k49_matches_and_stands_holds : PySem.Challenge.rw_throwruns_k49_matches_and_stands.Holds := by
 w_on;o_law
 refine holds_open (q:=My.q) (loose:=My.ls) (Xt:=λs=>xlAt My.q [] s&&recOk (RowW.records (OpenLaw.row PySem.Challenge.rw_throwruns_k49_matches_and_stands).toRowW) s) (XP:=XL My.q []) (Yf:=λs=>My.YM (DV.wd s.heap My.as)) (Ya:=λ_=>My.YN) (YP:=(DV.vh My.as My.lkT My.YM My.YN).says) (N:=6838) My.hl (DV.vh My.as My.lkT My.YM My.YN).of (DV.vh My.as My.lkT My.YM My.YN).keeps (λs e=>xl_of s (Bool.and_eq_true_iff.mp e).1) XL.keeps (by rfl) (by rfl) (by rfl) (λs e=>recFacts_of (Bool.and_eq_true_iff.mp e).2) ?h4 ?h5 ?h6 ⟨rfl,rfl,rfl,rfl,rfl,by decide +kernel⟩ ?hw ?hc
 case h4=>rfl
 case h5=>first|assumption|decide +kernel
 case h6=>decide +kernel
 case hw=>w_witness2
 case hc=>exact DV.walkE (l:=PySem.Challenge.rw_throwruns_k49_matches_and_stands) (x:="_law_script") My.math49 rfl rfl λw K mg fa h KX e G hmg=>My.law_fd hmg (My.txt_lk KX G e)
