import PyProof.Rows.All
import KE.KFromBytes
import KE.KSortTup
import KE.KIsAll
import KE.KIntText
import PyProof.StrCalls2
import PyProof.CollectIter
import PyProof.StrLawsTight
import PyProof.StrLawsJoin
import PySem.Challenge.RW_throwruns_k70_throws_written
set_option Elab.async false
set_option linter.all false
set_option genSizeOf false
set_option genSizeOfSpec false
set_option genInjectivity false
set_option maxRecDepth 100000
set_option maxHeartbeats 0
def DV.nf{P:Prop}(h:false=true):P:=absurd h Bool.false_ne_true
open List (mem_filter mem_range filterMap_cons mem_cons_self mem_cons_of_mem mem_cons mem_append mem_append_left getElem?_set_self getElem?_set_ne mem_filterMap mem_append_right append_nil nodup_cons of_mem_zip replicate length mem_of_getElem? length_append length_map size_toArray reverse_cons replicate_succ flatten_cons foldl append_assoc map_cons forIn_cons sublist_cons_self nodup_append nil_append perm_append_comm sublist_append_right cons_append length_cons all_cons perm_middle zip_cons_cons lookup_cons all_eq_true mem_nil_iff getD_eq_getElem?_getD getElem?_eq_getElem getElem_toArray getElem_mem mem_map length_nil map_map mem_singleton map_take map_drop isEmpty_iff set_set cons_ne_nil)
open Nat (lt_of_lt_of_le lt_irrefl ne_of_lt le_trans le_refl zero_le not_lt le_succ)
open PySem.W (clsIn typeIn findIn specialIn takesIn nsIn codeIn keepIn fnOf excIn instObj methodObj hideAll hideAll_get of_hideAll plainGet emptyDict mroIn cellsFrom_some codeRec_of looks_findIn looks_mroIn kitOne kitCls kia_one mg_of)
open PySem.Heap (lt_size get?_push_of_some get?_push_size size_push)
noncomputable section
namespace L2
open PySem
def wL(s:Stmt):Arguments:=match s with
 | .FunctionDef _ a _ _ _ _ _ _ _ _=>a|_=>{posonlyargs:=[],args:=[],vararg:=none,kwonlyargs:=[],kw_defaults:=[],kwarg:=none,defaults:=[]}
def yZ(s:Stmt):List Stmt:=match s with
 | .FunctionDef _ _ b _ _ _ _ _ _ _=>b|_=>[]
def zV(s:Stmt):Scope:=match s with
 | .FunctionDef _ _ _ _ _ _ sc _ _ _=>sc|_=>{kind:=.function,names:=[],isGenerator:=false,isCoroutine:=false}
end L2
namespace DV
open PySem L2
abbrev VB:List Value:=[.type "ValueError",.type "Exception",.type "BaseException",.type "object"]
def xIn(K:PySem.W.Frag)(c:Str)(C T:Addr):Bool:=(match clsIn K C with|some cd=>cd.name==c&&cd.mro==[.ref C,.ref T,.type "ValueError",.type "Exception",.type "BaseException",.type "object"]|none=>false)
 && typeIn K (.ref C)==some (.type "type")&&findIn K (.ref C) "__getattribute__" == some (some (.builtin "BaseException.__getattribute__"))&&findIn K (.ref C) "__getattr__" == some none
 && findIn K (.ref C) "__class__" == some (some (.builtin "object.__class__"))&&specialIn K (.builtin "object.__class__") "__get__" == some (some (.builtin "getset_descriptor.__get__"))&&takesIn K (.builtin "object.__class__")==some true&&!(C==T)
def tIn(K:PySem.W.Frag)(T:Addr):Bool:=(match clsIn K T with|some cd=>cd.mro==(.ref T::VB)|none=>false)&&typeIn K (.ref T)==some (.type "type")
def isFr:Obj->Bool
 |⟨_,_,.freed,_⟩=>true|_=>false
def Z9:List Obj->Nat->List Addr->PySem.W.Frag
 | [],_,_=>[]|_::_,_,[]=>[]
 |o::os,i,a::as=>match Nat.beq i a with
  |true=>(match isFr o with
   |true=>Z9 os (i+1) as|false=>(i,o)::Z9 os (i+1) as)
  |false=>Z9 os (i+1) (a::as)
def wW(h:Heap)(as:List Addr):PySem.W.Frag:=Z9 h.objs.toList 0 as
def FvT:Type:=Bool×Str×Str×Arguments×FuncBody×Scope×Addr×List (Str×Addr)×Value×Addr
def fvOf(b:Bool)(fd:FuncData):FvT:=(b,fd.name,fd.qualname,fd.params,fd.body,fd.scope,fd.globals,fd.closure,fd.defaults,fd.builtins)
def yG(K:PySem.W.Frag)(n:Str):Option FvT:=match nsIn K mainGlobals n with
 |some (some (.ref a))=>(match K.lookup a with
  |some ⟨_,_,.func fd,_⟩=>some (fvOf (codeIn K fd.code n&&keepIn K (.ref a)) fd)|_=>none)
 |_=>none
def yJ(n:Str)(st:Stmt):Option FvT:=some (fvOf true (fnOf n n (wL st) (yZ st) (zV st) .none .none .none .none none .none .none))
def JX(K:PySem.W.Frag)(n:Str):Option Int:=match nsIn K mainGlobals n with
 |some (some (.int i _))=>some i|_=>none
def jH(K:PySem.W.Frag)(n:Str):Bool:=match nsIn K mainGlobals n with
 |some none=>true|_=>false
def jx(K:PySem.W.Frag)(n:Str):Option Addr:=match nsIn K mainGlobals n with
 |some (some (.ref a))=>some a|_=>none
def ug(K:PySem.W.Frag):Bool:=match K.lookup sysModules with
 |some o=>(match o.data with | .dict _ _=>true|_=>false)
 |none=>false
def zBF(K:PySem.W.Frag)(cl rs:List Str):Bool :=
 (cl.isEmpty||(match jx K "ThrowError" with
  |some T=>tIn K T&&cl.all λc=>(match jx K c with|some C=>xIn K c C T|none=>false)
  |none=>false)) &&
 (rs.all λc=>(match jx K c with|some C=>excIn K C VB "ValueError.__new__" |none=>false))&&ug K
end DV
namespace My
open PySem L2 DV
def top(i:Nat):Stmt:=PySem.Challenge.pw_throwruns_k70_throws_written.main.body.getD i (.Pass ⟨0,0,0,0⟩)
abbrev ZB:Stmt:=top 11
abbrev jI:Stmt:=top 12
abbrev ZC:Stmt:=top 19
abbrev J3:Stmt:=top 20
abbrev ZD:Stmt:=top 21
abbrev wX:Stmt:=top 22
abbrev ZE:Stmt:=top 23
abbrev wY:Stmt:=top 26
abbrev jy:Stmt:=top 27
abbrev je:Stmt:=top 28
abbrev JY:Stmt:=top 29
abbrev J4:Stmt:=top 30
abbrev jz:Stmt:=top 31
abbrev wZ:Stmt:=top 32
abbrev j0:Stmt:=top 34
abbrev YA:Stmt:=top 35
abbrev wa:Stmt:=top 36
abbrev YB:Stmt:=top 37
abbrev JZ:Stmt:=top 38
abbrev j1:Stmt:=top 39
abbrev j5:Stmt:=top 40
abbrev wb:Stmt:=top 41
abbrev wc:Stmt:=top 42
abbrev we:Stmt:=top 43
abbrev wf:Stmt:=top 44
abbrev j6:Stmt:=top 45
abbrev YC:Stmt:=top 46
abbrev Ja:Stmt:=top 47
abbrev s_law:Stmt:=top 48
def cl_:List Str:=["NoDie","NoRow","NoNumber","NoLine","NoMachine","NoPaper","NoText","TooGreat"]
def rs_:List Str:=["NoDie","NoRow","NoNumber","NoLine","NoMachine","NoPaper"]
def lkT:Type:=List (Option FvT)×List (Option Int)×List Bool×Bool
def YD(K:PySem.W.Frag):lkT:=([yG K "is_whole",yG K "is_whole_within",yG K "die_good",yG K "sign_good",yG K "row_good",yG K "row_good_of",yG K "need_die",yG K "number_read",yG K "numbers_read",yG K "numbers_shown",yG K "line_shown",yG K "line_read",yG K "throws_shown",yG K "throws_read",yG K "_law_cell_at",yG K "_law_next",yG K "_law_pen_of",yG K "_law_draw",yG K "_law_whole",yG K "_law_kind_of",yG K "_law_refused",yG K "_law_die_of",yG K "_law_no_die",yG K "_law_row_of",yG K "_law_no_row",yG K "_law_text_of",yG K "_law_told",yG K "_law_right",yG K "law"],[JX K "LEAST_SIGNS",JX K "LEAST_WEIGHT",JX K "MOST_FIGURES",JX K "MOST_SIGNS",JX K "MOST_THROWS",JX K "MOST_WEIGHT"],[jH K "ValueError",jH K "all",jH K "bool",jH K "int",jH K "isinstance",jH K "len",jH K "list",jH K "max",jH K "range",jH K "str",jH K "tuple"],zBF K cl_ rs_)
def wants:lkT:=([yJ "is_whole" ZB,yJ "is_whole_within" jI,yJ "die_good" ZC,yJ "sign_good" J3,yJ "row_good" ZD,yJ "row_good_of" wX,yJ "need_die" ZE,yJ "number_read" wY,yJ "numbers_read" jy,yJ "numbers_shown" je,yJ "line_shown" JY,yJ "line_read" J4,yJ "throws_shown" jz,yJ "throws_read" wZ,yJ "_law_cell_at" j0,yJ "_law_next" YA,yJ "_law_pen_of" wa,yJ "_law_draw" YB,yJ "_law_whole" JZ,yJ "_law_kind_of" j1,yJ "_law_refused" j5,yJ "_law_die_of" wb,yJ "_law_no_die" wc,yJ "_law_row_of" we,yJ "_law_no_row" wf,yJ "_law_text_of" j6,yJ "_law_told" YC,yJ "_law_right" Ja,yJ "law" s_law],[some 2,some 1,some 20,some 3,some 20,some 9],[true,true,true,true,true,true,true,true,true,true,true],true)
def q0:Program:=PySem.Challenge.pw_throwruns_k70_throws_written
def isLaw:Stmt->Bool
 | .FunctionDef f ..=>f == "law"|_=>false
def q:Program:={q0 with main:={q0.main with body:=q0.main.body.filter isLaw}}
def nameOf:Stmt->List Str
 | .FunctionDef f ..=>[f]| .ClassDef f ..=>[f]| .Assign [.Name x _] _ _=>[x]|_=>[]
def ls:List Str:=(q0.main.body.flatMap nameOf).filter (· != "law")
def as:List Addr:=[1,2,3,15,22,23,24,25,28,35,36,37,40,47,48,49,52,59,60,61,64,71,72,73,76,83,84,85,88,95,96,97,100,107,109,110,112,113,114,115,116,119,126,128,129,131,132,133,134,135,138,140,141,143,144,145,147,148,150,151,152,155,156,157,159,160,162,163,164,167,168,169,172,173,174,176,177,179,180,181,183,184,186,187,188,191,192,193,196,197,198,200,201,203,204,205,207,208,210,211,212,214,215,217,218,219,221,222,224,225,226,228,229,231,232,233,235,236,238,239,240,242,243,245,246,247,249,250,252,253,254,256,257,259,260,261,263,264,266,267,268,270,271,273,274,275,278,279,280,282,283,285,286,287,289,290,292,293,294,296,297,299,300,301,304,305,306,308,309,311,312,313,316,317,318,320,321,323,324]
end My
section
open PySem PySem.W PyProof.Rows
theorem My.hz:OpenLaw.wellSaid PySem.Challenge.rw_throwruns_k70_throws_written=true:=by decide +kernel
theorem My.h2{α β γ:Type}{o:Option α}{f:α->β}{g:α->γ}{b:β}{c:γ}(h1:o.map f=some b)(h2:o.map g=some c):o.map (λs=>(f s,g s))=some (b,c):=by
 cases o with
 |none=>cases h1|some s=>cases h1;cases h2;rfl
theorem My.hu:∀(w:World) (os:OsState),(topFrom treeTable (OpenLaw.row PySem.Challenge.rw_throwruns_k70_throws_written).toRowW.prog w 5946 ⟨boot_heap w.params,#[],boot_drawn,boot_toks,os⟩).map (λs=>openSeen My.q My.ls (importedModules (OpenLaw.row PySem.Challenge.rw_throwruns_k70_throws_written).toRowW.prog.main.body) (λs=>xlAt My.q [] s&&recOk (RowW.records (OpenLaw.row PySem.Challenge.rw_throwruns_k70_throws_written).toRowW) s) true s)=some (openGood My.q My.ls):=by
 intro w os
 kernel_rfl
theorem My.h4{α γ:Type}{o:Option α}{g:α->List γ}{w:List γ}(n:Nat)(ha:o.map (λs=>(g s).take n)=some (w.take n))(hb:o.map (λs=>(g s).drop n)=some (w.drop n)):o.map g=some w:=by
 cases o with
 |none=>cases ha|some s=>exact congrArg some ((List.take_append_drop n (g s)).symm.trans ((congr (congrArg HAppend.hAppend (Option.some.inj ha)) (Option.some.inj hb)).trans (List.take_append_drop n w)))
theorem My.h5{α γ δ:Type}{o:Option α}{g:α->γ×δ}{w:γ×δ}(ha:o.map (λs=>(g s).1)=some w.1)(hc:o.map (λs=>(g s).2)=some w.2):o.map g=some w:=by
 cases o with
 |none=>cases ha|some s=>exact congrArg some (Prod.ext (Option.some.inj ha) (Option.some.inj hc))
theorem My.hv0:∀(w:World) (os:OsState),(topFrom treeTable (OpenLaw.row PySem.Challenge.rw_throwruns_k70_throws_written).toRowW.prog w 5946 ⟨boot_heap w.params,#[],boot_drawn,boot_toks,os⟩).map (λs=>((My.YD (DV.wW s.heap My.as)).1.take 20))=some (My.wants.1.take 20):=by
 intro w os
 kernel_rfl
theorem My.hv1:∀(w:World) (os:OsState),(topFrom treeTable (OpenLaw.row PySem.Challenge.rw_throwruns_k70_throws_written).toRowW.prog w 5946 ⟨boot_heap w.params,#[],boot_drawn,boot_toks,os⟩).map (λs=>((My.YD (DV.wW s.heap My.as)).1.drop 20))=some (My.wants.1.drop 20):=by
 intro w os
 kernel_rfl
theorem My.hvc:∀(w:World) (os:OsState),(topFrom treeTable (OpenLaw.row PySem.Challenge.rw_throwruns_k70_throws_written).toRowW.prog w 5946 ⟨boot_heap w.params,#[],boot_drawn,boot_toks,os⟩).map (λs=>(My.YD (DV.wW s.heap My.as)).2)=some My.wants.2:=by
 intro w os
 kernel_rfl
theorem My.hv(w:World)(os:OsState):(topFrom treeTable (OpenLaw.row PySem.Challenge.rw_throwruns_k70_throws_written).toRowW.prog w 5946 ⟨boot_heap w.params,#[],boot_drawn,boot_toks,os⟩).map (λs=>My.YD (DV.wW s.heap My.as))=some My.wants:=My.h5 (My.h4 20 (My.hv0 w os) (My.hv1 w os)) (My.hvc w os)
theorem My.ht:∀(w:World) (os:OsState),(topFrom treeTable (OpenLaw.row PySem.Challenge.rw_throwruns_k70_throws_written).toRowW.prog w 5946 ⟨boot_heap w.params,#[],boot_drawn,boot_toks,os⟩).map (λs=>(openSeen My.q My.ls (importedModules (OpenLaw.row PySem.Challenge.rw_throwruns_k70_throws_written).toRowW.prog.main.body) (λs=>xlAt My.q [] s&&recOk (RowW.records (OpenLaw.row PySem.Challenge.rw_throwruns_k70_throws_written).toRowW) s) true s,My.YD (DV.wW s.heap My.as)))=some (openGood My.q My.ls,My.wants):=λw os=>My.h2 (My.hu w os) (My.hv w os)
theorem My.ho:opening (OpenLaw.row PySem.Challenge.rw_throwruns_k70_throws_written).toRowW.prog=plainProg (OpenLaw.row PySem.Challenge.rw_throwruns_k70_throws_written).toRowW.prog.main.scope.names:=by kernel_rfl
theorem My.hf:∀s,fenceModules? (OpenLaw.row PySem.Challenge.rw_throwruns_k70_throws_written).toRowW.prog s=some s:=by
 intro s
 kernel_rfl
theorem My.hl:LeftO (OpenLaw.row PySem.Challenge.rw_throwruns_k70_throws_written).toRowW.prog My.q My.ls (λs=>xlAt My.q [] s&&recOk (RowW.records (OpenLaw.row PySem.Challenge.rw_throwruns_k70_throws_written).toRowW) s) (λs=>My.YD (DV.wW s.heap My.as)) (λ_=>My.wants) 5946:=by
 intro w;obtain⟨s,hs,hv⟩:=Option.map_eq_some_iff.mp (boot_open My.ho (N:=5946) rfl My.hf w);unfold openEnds;rw[hs];obtain⟨h,g,d,t,os⟩:=s;have h1:h=boot_heap w.params:=congrArg Prod.fst hv;have h2:g=#[]:=congrArg (λx=>x.2.1) hv;have h3:d=boot_drawn:=congrArg (λx=>x.2.2.1) hv;have h4:t=boot_toks:=congrArg (λx=>x.2.2.2) hv;subst h1;subst h2;subst h3;subst h4;exact My.ht w os
end
namespace L2
open PySem PySem.Spec PyProof.Rows
abbrev Key:=Sum Int Str
def keyIs:Key->Value->Bool
 | .inl k,v=>Value.isInt k v| .inr x,v=>Value.isStrOf x v
def keyH(w:World):Key->Int
 | .inl k=>hashInt k| .inr x=>hashStr w x
def zv:∀{k:Key} {v:Value},keyIs k v=true->(∃i t,k=Sum.inl i/\v=Value.int i t)\/(∃x t,k=Sum.inr x/\v=Value.str x t)
 | .inl i,v,h=>by
  obtain⟨t,e⟩:=Value.isInt_shape (k:=i) (v:=v) h;exact .inl ⟨i,t,rfl,e⟩
 | .inr x,v,h=>by
  obtain⟨t,e⟩:=Value.isStrOf_shape (x:=x) (v:=v) h;exact .inr ⟨x,t,rfl,e⟩
def key_ll(a b:Int):decide ((Sum.inl a:Key)=Sum.inl b)=(a==b):=by
 by_cases e:a=b
 ·subst e;simp
 ·have h:¬(Sum.inl a:Key)=Sum.inl b:=λq=>e (Sum.inl.inj q)
  rw[decide_eq_false h];exact(beq_eq_false_iff_ne.mpr e).symm
def key_rr(a b:Str):decide ((Sum.inr a:Key)=Sum.inr b)=decide (a=b):=by
 by_cases e:a=b
 ·subst e;simp
 ·have h:¬(Sum.inr a:Key)=Sum.inr b:=λq=>e (Sum.inr.inj q)
  rw[decide_eq_false h,decide_eq_false e]
def key_lr(a:Int)(b:Str):decide ((Sum.inl a:Key)=Sum.inr b)=false:=decide_eq_false (λq=>nomatch q)
def key_rl(a:Str)(b:Int):decide ((Sum.inr a:Key)=Sum.inl b)=false:=decide_eq_false (λq=>nomatch q)
def uh(prog:Program)(w:World):PySem.KeyKind prog w Key where
 is:=keyIs
 hash:=keyH w
 inj:=λv a b ha hb=>by
  rcases zv ha with⟨i,t,rfl,rfl⟩|⟨x,t,rfl,rfl⟩
  ·rcases zv hb with⟨j,u,rfl,e⟩|⟨y,u,rfl,e⟩
   ·injection e with e1 _;rw[e1]
   ·exact nomatch e
  ·rcases zv hb with⟨j,u,rfl,e⟩|⟨y,u,rfl,e⟩
   ·exact nomatch e
   ·injection e with e1 _;rw[e1]
 byValue:=λk v h=>by
  rcases zv h with⟨i,t,rfl,rfl⟩|⟨x,t,rfl,rfl⟩<;>rfl
 pyHash:=λhv h=>by
  rcases zv hv with⟨i,t,rfl,rfl⟩|⟨x,t,rfl,rfl⟩
  ·exact wpAny_pyHash_int h
  ·exact wpAny_pyHash_str h
 eqBool:=λhu hv h=>by
  rcases zv hu with⟨i,t,rfl,rfl⟩|⟨x,t,rfl,rfl⟩
  ·rcases zv hv with⟨j,u,rfl,rfl⟩|⟨y,u,rfl,rfl⟩
   ·rw[key_ll]at h;exact wpAny_eqBool_int h
   ·rw[key_lr]at h;exact SeqAt.EqAt.int_str i t y u _ _ _ _ h
  ·rcases zv hv with⟨j,u,rfl,rfl⟩|⟨y,u,rfl,rfl⟩
   ·rw[key_rl]at h;exact SeqAt.EqAt.str_int x t j u _ _ _ _ h
   ·rw[key_rr]at h;exact wpAny_eqBool_str h
 «strs»:=λk x t v h=>by
  rcases zv h with⟨i,u,rfl,e⟩|⟨y,u,rfl,e⟩
  ·exact nomatch e
  ·injection e with e1 _
   subst e1;cases v<;>rfl
set_option genInjectivity true in
inductive V where
 |non|bl (b:Bool)|int (i:Int)|str (x:Str)|byt (b:Array UInt8)|flt (b:UInt64)|ref (a:Addr)|ty (n:String)
 deriving DecidableEq
def zy:V->Value->Prop
 | .non,u=>u=Value.none| .bl b,u=>u=Value.bool b| .int i,u=>∃t,u=Value.int i t| .str x,u=>∃t,u=Value.str x t| .byt b,u=>∃t,u=Value.bytes b t| .flt b,u=>∃t,u=Value.float b t| .ref a,u=>u=Value.ref a| .ty n,u=>u=Value.type n
abbrev zg:List V->List Value->Prop:=Paired zy
theorem zg.length{xs:List V}{us:List Value}(r:zg xs us):xs.length=us.length:=Paired.length r
theorem zg.get:∀{xs:List V} {us:List Value} {i:Nat} {x:V},zg xs us->xs[i]?=some x->∃u,us[i]?=some u/\zy x u
 |_,_,_,_,.nil,e=>by simp at e|_,_,0,_,.cons r _,e=>by simp at e;subst e;exact⟨_,rfl,r⟩
 |_,_,i+1,x,.cons _ t,e=>by
  obtain⟨u,h1,h2⟩:=zg.get (i:=i) (x:=x) t (by simpa using e);exact⟨u,by simpa using h1,h2⟩
theorem zg.set{x:V}{u:Value}(r:zy x u):∀{xs:List V} {us:List Value} (i:Nat),zg xs us->zg (xs.set i x) (us.set i u)
 |_,_,_,.nil=>.nil|_,_,0,.cons _ t=>.cons r t|_,_,i+1,.cons q t=>.cons q (zg.set r i t)
theorem zg.append:∀{xs ys:List V} {us ws:List Value},zg xs us->zg ys ws->zg (xs++ys) (us++ws)
 |_,_,_,_,.nil,s=>s|_,_,_,_,.cons r t,s=>.cons r (zg.append t s)
theorem zg.take:∀{xs:List V} {us:List Value} (n:Nat),zg xs us->zg (xs.take n) (us.take n)
 |_,_,0,_=>.nil|_,_,_+1,.nil=>.nil|_,_,n+1,.cons r t=>.cons r (zg.take n t)
theorem zg.drop:∀{xs:List V} {us:List Value} (n:Nat),zg xs us->zg (xs.drop n) (us.drop n)
 |_,_,0,r=>r|_,_,_+1,.nil=>.nil|_,_,n+1,.cons _ t=>zg.drop n t
def RelO:Option V->Option Value->Prop
 |some v,some u=>zy v u|none,none=>True|_,_=>False
def KV{κ:Type}:List (κ×V)->List (κ×Value)->Prop:=Paired λ(p:κ×V) (q:κ×Value)=>p.1=q.1/\zy p.2 q.2
def kV:Key->V
 | .inl i=>.int i| .inr x=>.str x
inductive HO where
 /-- a list -/
 |l (xs:List V)
 /-- a tuple (never changes) -/
 |t (xs:List V)
 /-- a dict whose keys are ints and texts; one whose keys are tuples of ints and texts (the empty one is both) -/
 |dK (kvs:List (Key×V))|dT (kvs:List (List Key×V))
 /-- a set of ints: its members,its size -/
 |set (S:Int->Bool) (n:Nat)
 /-- an instance of the class at C,its dict at dx,its attributes -/
 |ins (C dx:Addr) (fs:List (Str×V))
 /-- the dict of the instance at x -/
 |own (x:Addr)
 /-- the dict of an exception -/
 |xd (fs:List (Str×V))
 /-- a bound method,f of x -/
 |met (f x:Addr)
 /-- a range object lo,lo+1,.. below hi -/
 |rng (lo hi:Int)
 /-- a thing that is known to the object (the script; a dict while a loop walks it): read,never written while it is so -/
 |frz (o:Obj) (u:HO)
 /-- a code object's table -/
 |tbl (ps:Array Value)
 /-- any other thing,by what is true of its one object (a def of one's own: SetO a S n:=HO.ext fun h=>..) -/
 |ext (φ:Heap->Prop)
abbrev Hp:=Addr->Option HO
def upd(H:Hp)(a:Addr)(o:HO):Hp:=λb=>if b=a then some o else H b
def yc{H:Hp}{a:Addr}{o:HO}:upd H a o a=some o:=by unfold upd;rw[if_pos rfl]
def zr{H:Hp}{a b:Addr}{o:HO}(h:b≠a):upd H a o b=H b:=by unfold upd;rw[if_neg h]
def jJ{H:Hp}{a b:Addr}{o:HO}(h:H a=some o)(h':H b=none):a≠b:=by
 intro e;subst e;rw[h]at h';cases h'
section
variable(P:Program)(w:World)
def jK(H:Hp)(h:Heap)(a:Addr):HO->Prop
 | .l xs=>xs.length<=sizeLine/\∃(its:List Value) (n:Nat),zg xs its/\h.get? a=some {cls:=.type "list",data:=.seq its.toArray n}| .t xs=>xs.length<=sizeLine/\∃its:List Value,zg xs its/\IsTup h a its.toArray| .dK kvs=>kvs.length<=sizeLine/\(a==sysModules)=false/\∃vs,KV kvs vs/\h.DictOf (uh P w) a vs
 | .dT kvs=>kvs.length<=sizeLine/\(a==sysModules)=false/\∃xs:List (List Key×Addr×Value),
   Paired (λ(p:List Key×V) (q:List Key×Addr×Value)=>p.1=q.1/\H q.2.1=some (.t (p.1.map kV))/\zy p.2 q.2.2) kvs xs /\
   ∃o es ep,h.get? a=some o/\o.ExactDict/\o.data=.dict es ep/\es.toList=xs.map (entryOfKey (tupleKind (uh P w)))/\(xs.map (·.1)).Nodup
 | .set S n=>h.SetOf (intKind P w) a S n
 | .ins C dx fs=>H dx=some (.own a)/\fs.length<=1000/\dx≠a/\h.get? a=some (instObj C dx) /\
   ∃mA,h.Ns1 dx mA/\(∀f,RelO (fs.lookup f) (mA f))/\PySem.Within mA (fs.map (·.1))
 | .own _=>∃o,h.get? a=some o| .xd fs=>∃mA,h.Ns1 a mA/\∀f,RelO (fs.lookup f) (mA f)| .rng lo hi=>∃t u v,h.get? a=some {cls:=.type "range",data:=.fields #[.int lo t,.int hi u,.int 1 v]}| .frz o u=>h.get? a=some o/\jK H h a u| .tbl ps=>h.get? a=some {cls:=.none,data:=.fields ps}| .met f x=>h.get? a=some (methodObj (.ref f) (.ref x))| .ext φ=>φ h/\(∃o,h.get? a=some o)/\∀h1 h2:Heap,φ h1->(∀o,h1.get? a=some o->h2.get? a=some o)->φ h2
def HOk(H:Hp)(h:Heap):Prop:=∀a o,H a=some o->jK P w H h a o
end
section
variable{P:Program}{w:World}{H H':Hp}{h h':Heap}{a:Addr}{o:HO}
theorem jK.lt(x:jK P w H h a o):a<h.objs.size:=by
 cases o with
 |l xs=>obtain⟨_,_,_,_,e⟩:=x;exact lt_size e|t xs=>obtain⟨_,_,_,p⟩:=x;exact p.lt|dK kvs=>obtain⟨_,_,_,_,o,_,_,e,_⟩:=x;exact lt_size e|dT kvs=>obtain⟨_,_,_,_,o,_,_,e,_⟩:=x;exact lt_size e|set S n=>obtain⟨o,_,_,_,e,_⟩:=x;exact lt_size e|ins C dx fs=>obtain⟨_,_,_,e,_⟩:=x;exact lt_size e|own y=>obtain⟨_,e⟩:=x;exact lt_size e|xd fs=>obtain⟨_,⟨_,_,_,e,_⟩,_⟩:=x;exact lt_size e|rng lo hi=>obtain⟨_,_,_,e⟩:=x;exact lt_size e|frz ob u=>obtain⟨e,_⟩:=x;exact lt_size e|tbl ps=>exact lt_size (show h.get? a=some _ from x)|met f y=>exact lt_size (show h.get? a=some _ from x)|ext φ=>obtain⟨_,⟨_,e⟩,_⟩:=x;exact lt_size e
theorem Paired.mapP{α β:Type}{F G:α->β->Prop}:∀{l₁:List α} {l₂:List β},Paired F l₁ l₂->(∀a b,F a b->G a b)->Paired G l₁ l₂
 |_,_,.nil,_=>.nil|_,_,.cons r t,f=>.cons (f _ _ r) (Paired.mapP t f)
def jK.stay(x:jK P w H h a o)(k:∀b u,(b=a\/H b=some (.own a))->h.get? b=some u->h'.get? b=some u)
  (ho:∀b,H b=some (.own a)->H' b=some (.own a)) (ht:∀b xs,H b=some (.t xs)->H' b=some (.t xs)):jK P w H' h' a o:=by
 induction o with
 |l xs=>obtain⟨z,its,n,r,e⟩:=x;exact⟨z,its,n,r,k _ _ (.inl rfl) e⟩|t xs=>obtain⟨z,its,r,ob,e,c⟩:=x;exact⟨z,its,r,ob,k _ _ (.inl rfl) e,c⟩|dK kvs=>obtain⟨z,y,vs,r,ob,es,ep,e,c⟩:=x;exact⟨z,y,vs,r,ob,es,ep,k _ _ (.inl rfl) e,c⟩
 |dT kvs =>
  obtain⟨z,y,xs,r,ob,es,ep,e,c⟩:=x;exact⟨z,y,xs,Paired.mapP r λp q z=>⟨z.1,ht _ _ z.2.1,z.2.2⟩,ob,es,ep,k _ _ (.inl rfl) e,c⟩
 |set S n=>obtain⟨ob,es,ep,t,e,c⟩:=x;exact⟨ob,es,ep,t,k _ _ (.inl rfl) e,c⟩
 |ins C dx fs =>
  obtain⟨d,z,ne,e,mA,⟨od,es,ep,e2,c⟩,r⟩:=x;exact⟨ho _ d,z,ne,k _ _ (.inl rfl) e,mA,⟨od,es,ep,k _ _ (.inr d) e2,c⟩,r⟩
 |own y=>obtain⟨ob,e⟩:=x;exact⟨ob,k _ _ (.inl rfl) e⟩|xd fs=>obtain⟨mA,⟨od,es,ep,e,c⟩,r⟩:=x;exact⟨mA,⟨od,es,ep,k _ _ (.inl rfl) e,c⟩,r⟩|rng lo hi=>obtain⟨t,u,v,e⟩:=x;exact⟨t,u,v,k _ _ (.inl rfl) e⟩|frz ob u ih=>obtain⟨e,q⟩:=x;exact⟨k _ _ (.inl rfl) e,ih q⟩
 |tbl ps =>
  have e:h.get? a=some {cls:=.none,data:=.fields ps}:=x;show h'.get? a=some {cls:=.none,data:=.fields ps};exact k a _ (.inl rfl) e
 |met f y =>
  have e:h.get? a=some (methodObj (.ref f) (.ref y)):=x;show h'.get? a=some (methodObj (.ref f) (.ref y));exact k a _ (.inl rfl) e
 |ext φ=>obtain⟨p,⟨o,e⟩,st⟩:=x;exact⟨st _ _ p λo q=>k _ _ (.inl rfl) q,⟨o,k _ _ (.inl rfl) e⟩,st⟩
theorem HOk.lt(x:HOk P w H h)(e:H a=some o):a<h.objs.size:=(x a o e).lt
def HOk.fresh(x:HOk P w H h)(e:h.objs.size<=a):H a=none:=by
 cases q:H a with
 |none=>rfl|some u=>exact absurd (lt_of_lt_of_le (x.lt q) e) (lt_irrefl _)
def HOk.kept(x:HOk P w H h)(k:∀b u,h.get? b=some u->h'.get? b=some u):HOk P w H h':=λa o e =>
 (x a o e).stay (λb u _ q=>k b u q) (λ_ q=>q) λ_ _ q=>q
def HOk.laid(x:HOk P w H h)(k:∀b u,h.get? b=some u->h'.get? b=some u)(hp:h.objs.size<=a)(new:jK P w (upd H a o) h' a o):HOk P w (upd H a o) h':=λb u e=>by
 have hn:=x.fresh hp;by_cases hb:b=a
 ·subst hb;rw[yc]at e;cases e;exact new
 ·rw[zr hb]at e
  exact(x b u e).stay (λc v _ q=>k c v q) (λc q=>by rw[zr (jJ q hn)];exact q) λc xs q=>by rw[zr (jJ q hn)];exact q
end
def Rd(H:Hp)(a:Addr)(u:HO):Prop:=H a=some u\/∃o,H a=some (.frz o u)
def Rd.of{H:Hp}{a:Addr}{u:HO}(h:H a=some u):Rd H a u:=.inl h
def Rd.ok{P:Program}{w:World}{H:Hp}{h:Heap}{a:Addr}{u:HO}(r:Rd H a u)(x:HOk P w H h):jK P w H h a u:=by
 rcases r with r|⟨o,r⟩
 ·exact x a u r
 ·obtain⟨_,q⟩:=x a _ r
  exact q
def Mut:Option HO->Prop
 |some (.l _)=>True|some (.dK _)=>True|some (.dT _)=>True|some (.set _ _)=>True|some (.ins _ _ _)=>True|some (.ext _)=>True|_=>False
section
variable{P:Program}{w:World}{H:Hp}{h h':Heap}{x e:Addr}{o':HO}
def HOk.write(ok:HOk P w H h)(mu:Mut (H x))(he:e=x\/H e=some (.own x))(k:∀b u,b≠e->h.get? b=some u->h'.get? b=some u)(heo:∃u,h'.get? e=some u)
  (new:jK P w (upd H x o') h' x o'):HOk P w (upd H x o') h':=λb u q=>by
 have nown:∀c y,H c=some (.own y)->c≠x:=λc y r z=>by subst z;rw[r]at mu;exact mu
 have ntup:∀c xs,H c=some (.t xs)->c≠x:=λc xs r z=>by subst z;rw[r]at mu;exact mu
 by_cases hb:b=x
 ·subst hb;rw[yc]at q;cases q;exact new
 ·rw[zr hb]at q
  by_cases hbe:b=e
  ·have q':H b=some (.own x):=by
    rcases he with z|z
    ·exact absurd (hbe.trans z) hb
    ·rw[hbe];exact z
   rw[q]at q';cases q';obtain⟨v,hv⟩:=heo;exact⟨v,by rw[hbe];exact hv⟩
  ·refine(ok b u q).stay (λc v hc r=>k c v ?_ r) (λc r=>by rw[zr (nown c b r)];exact r) λc xs r=>by rw[zr (ntup c xs r)];exact r
   rcases hc with rfl|hc
   ·exact hbe
   ·rintro rfl
    rcases he with z|z
    ·exact nown c b hc z
    ·rw[hc]at z;cases z;exact hb rfl
end
structure Un(fs ex:List Addr)(H H':Hp)(h h':Heap):Prop where
 keep:∀b o,h.get? b=some o->H b=none->b∉fs->b∉ex->h'.get? b=some o
 slot:∀b o,h.get? b=some o->H b=none->b∈fs->b∉ex->∃sl,h'.get? b=some {o with slots:=sl}
 free:∀b o,h.get? b=some o->H b=none->b∉ex->H' b=none
 there:∀b o,h.get? b=some o->b∉ex->∃o',h'.get? b=some o'
 tups:∀b xs,H b=some (.t xs)->H' b=some (.t xs)
 frzs:∀b o u,H b=some (.frz o u)->H' b=some (.frz o u)
 tbls:∀b ps,H b=some (.tbl ps)->∃more,H' b=some (.tbl (ps++more))
section
variable{fs fs' ex ex':List Addr}{H H1 H2:Hp}{h h1 h2 h':Heap}{a x e:Addr}{o:HO}
def Un.any(u:Un fs ex H H1 h h1){b:Addr}{ob:Obj}(q:h.get? b=some ob)(n:H b=none)(hx:b∉ex):∃sl,h1.get? b=some {ob with slots:=sl}:=by
 by_cases hb:b∈fs
 ·exact u.slot b ob q n hb hx
 ·exact⟨ob.slots,u.keep b ob q n hb hx⟩
def Un.trans(a:Un fs ex H H1 h h1)(b:Un fs ex H1 H2 h1 h2):Un fs ex H H2 h h2 where
 keep:=λc ob q n hc hx=>b.keep c ob (a.keep c ob q n hc hx) (a.free c ob q n hx) hc hx
 slot:=λc ob q n hc hx=>by
  obtain⟨sl,e1⟩:=a.slot c ob q n hc hx;obtain⟨sl',e2⟩:=b.slot c _ e1 (a.free c ob q n hx) hc hx;exact⟨sl',e2⟩
 free:=λc ob q n hx=>by
  obtain⟨o',e1⟩:=a.there c ob q hx;exact b.free c o' e1 (a.free c ob q n hx) hx
 there:=λc ob q hx=>by
  obtain⟨o',e1⟩:=a.there c ob q hx;exact b.there c o' e1 hx
 tups:=λc xs q=>b.tups c xs (a.tups c xs q)
 frzs:=λc ob xs q=>b.frzs c ob xs (a.frzs c ob xs q)
 tbls:=λc ps q=>by
  obtain⟨m1,e1⟩:=a.tbls c ps q;obtain⟨m2,e2⟩:=b.tbls c _ e1;exact⟨m1++m2,by rw[e2,Array.append_assoc]⟩
def Un.kept(k:∀b u,h.get? b=some u->h'.get? b=some u):Un fs ex H H h h' :=
 ⟨λb ob q _ _ _=>k b ob q,λb ob q _ _ _=>⟨ob.slots,k b ob q⟩,λ_ _ _ n _=>n,λb ob q _=>⟨ob,k b ob q⟩,λ_ _ q=>q,λ_ _ _ q=>q,λ_ ps q=>⟨#[],by rw[q];simp⟩⟩
def Un.refl:Un fs ex H H h h:=Un.kept λ_ _ q=>q
def Un.laid(k:∀b u,h.get? b=some u->h'.get? b=some u)(hp:h.objs.size<=a)(hn:H a=none):Un fs ex H (upd H a o) h h' where
 keep:=λb u q _ _ _=>k b u q
 slot:=λb u q _ _ _=>⟨u.slots,k b u q⟩
 free:=λb u q n _=>by rw[zr (ne_of_lt (lt_of_lt_of_le (lt_size q) hp))];exact n
 there:=λb u q _=>⟨u,k b u q⟩
 tups:=λb xs q=>by rw[zr (jJ q hn)];exact q
 frzs:=λb u xs q=>by rw[zr (jJ q hn)];exact q
 tbls:=λb ps q=>⟨#[],by rw[zr (jJ q hn),q];simp⟩
def Un.write(mu:Mut (H x))(he:e=x\/H e=some (.own x))(k:∀b u,b≠e->h.get? b=some u->h'.get? b=some u)(heo:∃u,h'.get? e=some u):Un fs ex H (upd H x o) h h':=by
 have hx:∀b,H b=none->b≠x:=λb n z=>by subst z;rw[n]at mu;exact mu
 have hb:∀b,H b=none->b≠e:=λb n z=>by
  subst z;rcases he with r|r
  ·exact hx b n r
  ·rw[n]at r;cases r
 have hm:∀b u,H b=some u->¬Mut (some u)->b≠x:=λb u q nm z=>by subst z;rw[q]at mu;exact nm mu
 refine⟨λb u q n _ _=>k b u (hb b n) q,λb u q n _ _=>⟨u.slots,k b u (hb b n) q⟩,λb u q n _=>by rw[zr (hx b n)];exact n,λb u q _=>?_,
  λb xs q=>by rw[zr (hm b _ q λz=>z)];exact q,λb u xs q=>by rw[zr (hm b _ q λz=>z)];exact q,λb ps q=>⟨#[],by rw[zr (hm b _ q λz=>z),q];simp⟩⟩
 by_cases hbe:b=e
 ·subst hbe;exact heo
 ·exact⟨u,k b u hbe q⟩
def Un.mono(u:Un fs ex H H1 h h1)(hs:∀b∈fs,b∈fs')(hx:∀b∈ex,b∈ex'):Un fs' ex' H H1 h h1 :=
 ⟨λb ob q n hb he=>u.keep b ob q n (λz=>hb (hs b z)) λz=>he (hx b z),λ_ _ q n _ he=>u.any q n λz=>he (hx _ z),λb ob q n he=>u.free b ob q n λz=>he (hx b z),λb ob q he=>u.there b ob q λz=>he (hx b z),u.tups,u.frzs,u.tbls⟩
end
def trk(h:Heap)(H:Hp):List Addr:=(List.range h.objs.size).filter λa=>(H a).isSome
def Ql(h:Heap)(H:Hp):Heap:=hideAll h (trk h H)
def ui(h:Heap)(H:Hp):(Ql h H).objs.size=h.objs.size:=PySem.W.hideAll_size _ _
def Qm{h:Heap}{H:Hp}{b:Addr}{o:Obj}(e:h.get? b=some o)(n:H b=none):(Ql h H).get? b=some o :=
 hideAll_get _ e λhm=>by
  have q:(H b).isSome=true:=(mem_filter.mp hm).2;rw[n]at q;simp at q
def of_hidT{h:Heap}{H:Hp}{b:Addr}{o:Obj}(e:(Ql h H).get? b=some o):h.get? b=some o/\H b=none:=by
 have e':h.get? b=some o:=of_hideAll (trk h H) e;refine⟨e',?_⟩;cases q:H b with
 |none=>rfl
 |some x =>
  have hm:b∈trk h H:=mem_filter.mpr ⟨mem_range.mpr (lt_size e'),by simp[q]⟩;have z:(Ql h H).get? b=none:=PySem.W.hideAll_none (trk h H) hm;rw[z]at e;cases e
def allNews(g h:Heap)(L:Addr):List (Addr×Obj):=(List.range h.objs.size).filterMap λa=>if a=L\/(g.get? a).isSome=true then none else(h.get? a).map λo=>(a,o)
def jf(g h:Heap)(L d:Addr):List (Addr×Obj):=(allNews g h L).filter λp=>decide (p.1≠d)
structure Mod(K:PySem.W.Frag)(mg:Str->Option Value)(base:Heap):Prop where
 kin:K.In base
 glob:base.Ns mainGlobals mg
 blt:∃mb,base.Ns builtinsNs mb/\∀x:Str,x≠"__name__"->mb x=bootBuiltins x
 nolimit:base.NoLimit
structure Cx where
 prog:Program
 w:World
 K:PySem.W.Frag
 mg:Str->Option Value
 base:Heap
 A:Around
 N:List Str
 s₀:Shared
 H₀:Hp
 env:Env
 outer:List Env
 stack:List Env
 ex:List Addr
 fn:Str->Bool
 calm:Bool
 pn:List (Addr×Obj)
 xe:Value->Shared->Prop
def frs(l:List Env):List Addr:=l.filterMap (·.frame)
abbrev Cx.fs(X:Cx):List Addr:=frs X.outer
def Vis(sc:Scope)(x:Str):Prop:=sc.names.lookup x=some .local\/sc.names.lookup x=some .cell\/sc.names.lookup x=some .free
def Loc(sc:Scope)(x:Str):Prop:=sc.names.lookup x=some .local\/sc.names.lookup x=some .cell
def Look(env:Env)(h:Heap)(m:Str->Option Value)(x:Str)(u:Value):Prop :=
 (env.kindOf x=some .local/\m x=some u)\/((env.kindOf x=some .cell\/env.kindOf x=some .free)/\∃c,env.cells.lookup x=some c/\h.IsCell c (some u))
structure Cx.Ok(X:Cx):Prop where
 mod:Mod X.K X.mg X.base
 kind:X.env.scope.kind=.function
 glob:X.env.globals=mainGlobals
 blt:X.env.builtins=builtinsNs
 above:X.s₀.heap.objs.size<=X.env.locals
 inj:∀x y c,X.env.cells.lookup x=some c->X.env.cells.lookup y=some c->x=y
 has:∀x,(X.env.kindOf x=some .cell\/X.env.kindOf x=some .free)->∃c,X.env.cells.lookup x=some c
 cab:∀x c,X.fn x=true->X.env.cells.lookup x=some c->X.s₀.heap.objs.size<=c
 hd:X.calm=true->X.A.handled=none
 frames:X.A.frames=some X.stack
 stk:X.stack=X.outer\/(X.stack=X.env::X.outer/\X.env.frame=some X.env.locals)
 exf:∀b∈X.ex,b≠X.env.locals/\∀x c,X.env.cells.lookup x=some c->c≠b
 bs:∀b o,X.base.get? b=some o->X.s₀.heap.get? b=some o/\X.H₀ b=none
 bsz:X.base.objs.size<=X.s₀.heap.objs.size
 noex:∀b o,X.base.get? b=some o->b∉X.ex
 exfs:∀b∈X.ex,b∉X.fs
 funs:X.s₀.heap.FunFrames X.base X.outer
 frf:∀b∈X.fs,X.H₀ b=none
structure Inv(X:Cx)(pins:List (Addr×Obj))(O:List (Option V))(H:Hp)(s:Shared):Prop where
 ok:X.Ok
 os:s.os=X.s₀.os
 bare:AllBare s.gens
 base:Un X.fs X.ex X.H₀ H X.s₀.heap s.heap
 loc:∃m,s.heap.Ns X.env.locals m/\∀(i:Nat) (x:Str) (v:V),X.N[i]?=some x->O[i]?=some (some v)->Vis X.env.scope x->∃u,zy v u/\Look X.env s.heap m x u
 cell:∀x c,X.env.cells.lookup x=some c->∃v,s.heap.IsCell c v
 free:H X.env.locals=none
 freeC:∀x c,X.env.cells.lookup x=some c->H c=none
 pin:∀p∈X.pn++pins,s.heap.get? p.1=some p.2/\H p.1=none/\p.1≠X.env.locals/\p.1∉X.fs/\∀v,p.2.data≠.cell v
 hok:HOk X.prog X.w H s.heap
 len:O.length=X.N.length
section
variable{X:Cx}{pins:List (Addr×Obj)}{O:List (Option V)}{H H':Hp}{s:Shared}{h':Heap}
def Cx.Ok.nofr(ok:X.Ok){b:Addr}{o:Obj}(e:X.base.get? b=some o):b∉X.fs:=λhb=>by
 have:=(ok.funs.mem hb).1;rw[e]at this;cases this
theorem Inv.bs(I:Inv X pins O H s):∀b o,X.base.get? b=some o->s.heap.get? b=some o/\H b=none:=λb o e =>
 ⟨I.base.keep b o (I.ok.bs b o e).1 (I.ok.bs b o e).2 (I.ok.nofr e) (I.ok.noex b o e),I.base.free b o (I.ok.bs b o e).1 (I.ok.bs b o e).2 (I.ok.noex b o e)⟩
def Inv.bk(I:Inv X pins O H s):∀b o,X.base.get? b=some o->s.heap.get? b=some o:=λb o e=>(I.bs b o e).1
theorem Inv.mod(I:Inv X pins O H s):Mod X.K X.mg X.base:=I.ok.mod
def Inv.kIn(I:Inv X pins O H s):X.K.In s.heap:=I.ok.mod.kin.keeps I.bk
theorem Inv.nolimit(I:Inv X pins O H s):s.heap.NoLimit:=I.ok.mod.nolimit.keeps I.bk
def Inv.fr(I:Inv X pins O H s):∃m,Fr X.base X.env.locals s.heap m :=
 let ⟨m,hn,_⟩:=I.loc
 ⟨m,hn,I.bk,le_trans I.ok.bsz I.ok.above⟩
theorem Inv.lt(I:Inv X pins O H s):X.env.locals<s.heap.objs.size:=let ⟨_,hn,_⟩:=I.loc;hn.lt
def Inv.sz(I:Inv X pins O H s):X.s₀.heap.objs.size<=s.heap.objs.size:=le_trans I.ok.above (Nat.le_of_lt I.lt)
def Inv.nofs(I:Inv X pins O H s){a:Addr}(h:s.heap.objs.size<=a):a∉X.fs:=λhb=>by
 obtain⟨_,o,ho,_⟩:=I.ok.funs.mem hb;exact absurd (lt_of_lt_of_le (lt_size ho) (le_trans I.sz h)) (lt_irrefl _)
def Inv.cne(I:Inv X pins O H s):∀x c,X.env.cells.lookup x=some c->c≠X.env.locals:=λx c e z=>by
 obtain⟨v,o,ho,hd⟩:=I.cell x c e;obtain⟨m,⟨o',es,ep,ho',hd',_⟩,_⟩:=I.loc;rw[z,ho']at ho;cases ho;rw[hd']at hd;cases hd
theorem Inv.funs(I:Inv X pins O H s):s.heap.FunFrames X.base X.outer:=by
 have all:∀(l:List Env),(∀b∈frs l,b∈X.fs)->X.s₀.heap.FunFrames X.base l->s.heap.FunFrames X.base l:=by
  intro l
  induction l with
  |nil=>intro _ _;trivial
  |cons env r ih =>
   intro hs hl;obtain⟨hk,⟨L,o,hf,hn,ho,hd⟩,hr⟩:=hl;have hL:L∈X.fs:=hs L (by unfold frs;rw[filterMap_cons,hf];exact mem_cons_self);obtain⟨sl,e⟩:=I.base.slot L o ho (I.ok.frf L hL) hL λz=>I.ok.exfs L z hL
   exact⟨hk,⟨L,_,hf,hn,e,hd⟩,ih (λb hb=>hs b (by unfold frs;rw[filterMap_cons,hf];exact mem_cons_of_mem _ hb)) hr⟩
 exact all X.outer (λ_ hb=>hb) I.ok.funs
theorem Inv.stack(I:Inv X pins O H s):s.heap.FunFrames X.base X.stack:=by
 rcases I.ok.stk with e|⟨e,hf⟩
 ·rw[e];exact I.funs
 ·rw[e]
  obtain⟨m,hn,_⟩:=I.loc;refine .cons (by rw[I.ok.kind];decide) hf hn ?_ I.funs;exact Heap.get?_none_of_le (le_trans I.ok.bsz I.ok.above)
def Inv.stkSub(I:Inv X pins O H s):∀b∈frs X.stack,b∈X.env.locals::X.fs:=λb hb=>by
 rcases I.ok.stk with e|⟨e,hf⟩
 ·rw[e]at hb;exact mem_cons_of_mem _ hb
 ·rw[e]at hb
  unfold frs at hb;rw[filterMap_cons,hf]at hb;exact hb
def Inv.stkFree(I:Inv X pins O H s):∀b∈frs X.stack,H b=none:=λb hb=>by
 rcases mem_cons.mp (I.stkSub b hb)with e|hb
 ·rw[e];exact I.free
 ·obtain⟨_,o,ho,_⟩:=I.ok.funs.mem hb
  exact I.base.free b o ho (I.ok.frf b hb) λz=>I.ok.exfs b z hb
def Inv.step{g':Array GenState}{t':Nat}{d':Drawn}{ch:List Addr}(I:Inv X pins O H s)
  (hch:∀b∈ch,(b∈X.ex\/X.s₀.heap.objs.size<=b)/\b≠X.env.locals/\(∀x c,X.env.cells.lookup x=some c->c≠b)/\∀p∈X.pn++pins,p.1≠b)
  (keep:∀b o,b≠X.env.locals->b∉X.fs->b∉ch->s.heap.get? b=some o->H b=none->h'.get? b=some o)
  (slot:∀b o,b≠X.env.locals->b∈X.fs->b∉ch->s.heap.get? b=some o->H b=none->∃sl,h'.get? b=some {o with slots:=sl}) (free:∀b o,b∉ch->s.heap.get? b=some o->H b=none->H' b=none)
  (there:∀b o,b∉ch->s.heap.get? b=some o->∃o',h'.get? b=some o')
  (tups:∀b xs,H b=some (.t xs)->H' b=some (.t xs)) (frzs:∀b o u,H b=some (.frz o u)->H' b=some (.frz o u)) (tbls:∀b ps,H b=some (.tbl ps)->∃more,H' b=some (.tbl (ps++more)))
  (ns:∀m,s.heap.Ns X.env.locals m->h'.Ns X.env.locals m) (hok:HOk X.prog X.w H' h') (hg:AllBare g') :
  Inv X pins O H' {s with heap:=h',gens:=g',drawn:=d',toks:=t'}:=by
 have neL:∀b o,X.s₀.heap.get? b=some o->b≠X.env.locals:=λb o e=>ne_of_lt (lt_of_lt_of_le (lt_size e) I.ok.above)
 have neC:∀b o,X.s₀.heap.get? b=some o->b∉X.ex->b∉ch:=λb o e hx hb=>by
  rcases(hch b hb).1 with z|z
  ·exact hx z
  ·exact absurd (lt_of_lt_of_le (lt_size e) z) (lt_irrefl _)
 have cellK:∀x c,X.env.cells.lookup x=some c->∀v,s.heap.IsCell c v->h'.IsCell c v:=λx c e v ⟨o,ho,hd⟩=>by
  have nch:c∉ch:=λz=>(hch c z).2.2.1 x c e rfl
  by_cases hc:c∈X.fs
  ·obtain⟨sl,q⟩:=slot c o (I.cne x c e) hc nch ho (I.freeC x c e)
   exact⟨_,q,hd⟩
  ·exact⟨o,keep c o (I.cne x c e) hc nch ho (I.freeC x c e),hd⟩
 refine⟨I.ok,I.os,hg,⟨λb o e n hb hx=>?_,λb o e n hb hx=>?_,λb o e n hx=>?_,λb o e hx=>?_,λb xs e=>tups b xs (I.base.tups b xs e),λb o xs e=>frzs b o xs (I.base.frzs b o xs e),λb ps e=>?_⟩,?_,λx c e=>?_,?_,λx c e=>?_,λp hp=>?_,hok,I.len⟩
 ·exact keep b o (neL b o e) hb (neC b o e hx) (I.base.keep b o e n hb hx) (I.base.free b o e n hx)
 ·obtain⟨sl,e1⟩:=I.base.slot b o e n hb hx
  obtain⟨sl',e2⟩:=slot b _ (neL b o e) hb (neC b o e hx) e1 (I.base.free b o e n hx);exact⟨sl',e2⟩
 ·obtain⟨o',e1⟩:=I.base.there b o e hx
  exact free b o' (neC b o e hx) e1 (I.base.free b o e n hx)
 ·obtain⟨o',e1⟩:=I.base.there b o e hx
  exact there b o' (neC b o e hx) e1
 ·obtain⟨m1,e1⟩:=I.base.tbls b ps e
  obtain⟨m2,e2⟩:=tbls b _ e1;exact⟨m1++m2,by rw[e2,Array.append_assoc]⟩
 ·obtain⟨m,hn,hl⟩:=I.loc
  refine⟨m,ns m hn,λi x v e1 e2 e3=>?_⟩;obtain⟨u,r,l⟩:=hl i x v e1 e2 e3;refine⟨u,r,?_⟩;rcases l with l|⟨k,c,e,z⟩
  ·exact .inl l
  ·exact .inr ⟨k,c,e,cellK x c e _ z⟩
 ·obtain⟨v,z⟩:=I.cell x c e
  exact⟨v,cellK x c e v z⟩
 ·obtain⟨m,⟨o,_,_,ho,_⟩,_⟩:=I.loc
  exact free _ o (λz=>(hch _ z).2.1 rfl) ho I.free
 ·obtain⟨v,o,ho,hd⟩:=I.cell x c e
  exact free c o (λz=>(hch c z).2.2.1 x c e rfl) ho (I.freeC x c e)
 ·obtain⟨e,n,ne,nf,d⟩:=I.pin p hp
  have nch:p.1∉ch:=λz=>(hch p.1 z).2.2.2 p hp rfl
  exact⟨keep p.1 p.2 ne nf nch e n,free p.1 p.2 nch e n,ne,nf,d⟩
def Inv.un{t':Nat}(I:Inv X pins O H s)(u:Un X.fs [] H H' s.heap h')(hok:HOk X.prog X.w H' h'):Inv X pins O H' {s with heap:=h',toks:=t'}:=by
 obtain⟨m,⟨o,es,ep,ho,r⟩,_⟩:=id I.loc;obtain⟨sl,hL⟩:=u.any ho I.free (by simp);exact I.step (g':=s.gens) (d':=s.drawn) (ch:=[]) (λ_ z=>nomatch z) (λb o _ hb _ e n=>u.keep b o e n hb (by simp)) (λb o _ hb _ e n=>u.slot b o e n hb (by simp)) (λb o _ e n=>u.free b o e n (by simp)) (λb o _ e=>u.there b o e (by simp)) u.tups u.frzs u.tbls (λm' hm=>by
  obtain⟨o',es',ep',ho',r'⟩:=hm;rw[ho]at ho';cases ho';exact⟨_,es',ep',hL,r'⟩) hok I.bare
def Inv.call{g':Array GenState}{t':Nat}{d':Drawn}{ch:List Addr}(I:Inv X pins O H s)(u:Un (frs X.stack) ch H H' s.heap h')(hok:HOk X.prog X.w H' h')(hg:AllBare g')
  (hch:∀b∈ch,(b∈X.ex\/X.s₀.heap.objs.size<=b)/\b≠X.env.locals/\(∀x c,X.env.cells.lookup x=some c->c≠b)/\∀p∈X.pn++pins,p.1≠b) :
  Inv X pins O H' {s with heap:=h',gens:=g',drawn:=d',toks:=t'}:=by
 obtain⟨m,⟨o,es,ep,ho,r⟩,_⟩:=id I.loc;obtain⟨sl,hL⟩:=u.any ho I.free λz=>(hch _ z).2.1 rfl
 exact I.step (ch:=ch) hch (λb o hL hb hc e n=>u.keep b o e n (λz=>(mem_cons.mp (I.stkSub b z)).elim hL hb) hc) (λb o _ _ hc e n=>u.any e n hc) (λb o hc e n=>u.free b o e n hc) (λb o hc e=>u.there b o e hc) u.tups u.frzs u.tbls (λm' hm=>by
  obtain⟨o',es',ep',ho',r'⟩:=hm;rw[ho]at ho';cases ho';exact⟨_,es',ep',hL,r'⟩) hok hg
def Inv.turned{t':Nat}{it:Addr}(I:Inv X pins O H s)(k:∀b o,b≠it->s.heap.get? b=some o->h'.get? b=some o)(hn:H it=none)(hL:it≠X.env.locals)
  (h1:it∈X.ex\/X.s₀.heap.objs.size<=it) (h2:∀x c,X.env.cells.lookup x=some c->c≠it) (h3:∀p∈X.pn++pins,p.1≠it):Inv X pins O H {s with heap:=h',toks:=t'}:=by
 have nit:∀b u,H b=some u->b≠it:=λb u e z=>by rw[z,hn]at e;cases e
 refine I.step (g':=s.gens) (d':=s.drawn) (ch:=[it]) (λb hb=>?_) (λb o _ _ hc e _=>k b o (λz=>hc (by simp[z])) e) (λb o _ _ hc e _=>⟨o.slots,k b o (λz=>hc (by simp[z])) e⟩) (λ_ _ _ _ n=>n)
  (λb o hc e=>⟨o,k b o (λz=>hc (by simp[z])) e⟩) (λ_ _ e=>e) (λ_ _ _ e=>e) (λb ps e=>⟨#[],by rw[e];simp⟩) (λm hm=>?_) (λb u e=>?_) I.bare
 ·have e:b=it:=by simpa using hb
  subst e;exact⟨h1,hL,h2,h3⟩
 ·obtain⟨o,es,ep,ho,r⟩:=hm
  exact⟨o,es,ep,k _ o (Ne.symm hL) ho,r⟩
 ·refine(I.hok b u e).stay (λc v hc q=>k c v ?_ q) (λ_ q=>q) λ_ _ q=>q
  rcases hc with z|z
  ·rw[z];exact nit b u e
  ·exact nit c _ z
def Inv.tok(I:Inv X pins O H s)(t:Nat):Inv X pins O H {s with toks:=t}:=I.un (h':=s.heap) (t':=t) Un.refl I.hok
theorem Inv.kept{t':Nat}(I:Inv X pins O H s)(k:∀b u,s.heap.get? b=some u->h'.get? b=some u):Inv X pins O H {s with heap:=h',toks:=t'}:=I.un (Un.kept k) (I.hok.kept k)
theorem Inv.laid{a:Addr}{o:HO}{t':Nat}(I:Inv X pins O H s)(k:∀b u,s.heap.get? b=some u->h'.get? b=some u)(hp:s.heap.objs.size<=a)(new:jK X.prog X.w (upd H a o) h' a o) :
  Inv X pins O (upd H a o) {s with heap:=h',toks:=t'}:=I.un (Un.laid k hp (I.hok.fresh hp)) (I.hok.laid k hp new)
theorem Inv.write{x e:Addr}{o:HO}{t':Nat}(I:Inv X pins O H s)(mu:Mut (H x))(he:e=x\/H e=some (.own x))(k:∀b u,b≠e->s.heap.get? b=some u->h'.get? b=some u)(heo:∃u,h'.get? e=some u)
  (new:jK X.prog X.w (upd H x o) h' x o):Inv X pins O (upd H x o) {s with heap:=h',toks:=t'}:=I.un (Un.write mu he k heo) (I.hok.write mu he k heo new)
def Inv.weak{O':List (Option V)}(I:Inv X pins O H s)(hl:O'.length=O.length)(w:∀(i:Nat) v,O'[i]?=some (some v)->O[i]?=some (some v)):Inv X pins O' H s :=
 ⟨I.ok,I.os,I.bare,I.base,let ⟨m,hn,hl'⟩:=I.loc;⟨m,hn,λi x v e1 e2 e3=>hl' i x v e1 (w i v e2) e3⟩,I.cell,I.free,I.freeC,I.pin,I.hok,hl.trans I.len⟩
def Inv.pins_of{pins':List (Addr×Obj)}(I:Inv X pins O H s)(h:∀p∈pins',s.heap.get? p.1=some p.2/\H p.1=none/\p.1≠X.env.locals/\p.1∉X.fs/\∀v,p.2.data≠.cell v):Inv X pins' O H s :=
 ⟨I.ok,I.os,I.bare,I.base,I.loc,I.cell,I.free,I.freeC,λp hp=>(mem_append.mp hp).elim (λz=>I.pin p (mem_append_left _ z)) (h p),I.hok,I.len⟩
def ZV{N:List Str}(hN:N.Nodup){i j:Nat}{x:Str}(a:N[i]?=some x)(b:N[j]?=some x):i=j:=by
 obtain⟨h1,e1⟩:=List.getElem?_eq_some_iff.mp a;obtain⟨h2,e2⟩:=List.getElem?_eq_some_iff.mp b;exact(List.getElem_inj hN).mp (e1.trans e2.symm)
def WA{M:Model}{A:Around}{E:Value->Shared->Prop}{i:Nat}{x:Str}{v:V}{u:Value}{Q:Unit->Shared->Prop}(I:Inv X pins O H s)(hN:X.N.Nodup)(hi:X.N[i]?=some x)(hx:Loc X.env.scope x)(r:zy v u)
  (h:∀s',Inv X pins (O.set i (some v)) H s'->(∃a,Heap.SameBut a s.heap s'.heap/\(a=X.env.locals\/X.env.cells.lookup x=some a))->Q () s') (hf:X.fn x=true\/X.env.scope.names.lookup x=some .local:=by first|exact .inl rfl|exact .inr rfl|assumption):wpAny M A (storeName X.env x u) Q E s:=by
 obtain⟨m,hn,hl⟩:=id I.loc;have hcls:(X.env.scope.kind==.class||(X.env.scope.kind==.module&&X.env.locals != X.env.globals))=false:=by rw[I.ok.kind];rfl
 have hiO:i<O.length:=by rw[I.len];exact(List.getElem?_eq_some_iff.mp hi).1
 have cne:=I.cne;have tracked:∀{a:Addr} {h':Heap},(∃o,s.heap.get? a=some o/\H a=none)->Heap.SameBut a s.heap h'->HOk X.prog X.w H h':=λ{a h'} ha hs b ob e=>by
  obtain⟨_,_,hfree⟩:=ha;refine(I.hok b ob e).stay (λc w' hc q=>(hs.2 c ?_).trans q) (λ_ q=>q) λ_ _ q=>q
  rintro rfl
  rcases hc with rfl|hc
  ·rw[hfree]at e;cases e
  ·rw[hfree]at hc;cases hc
 rcases hx with hk|hk
 ·refine wpAny_storeName_local hk hn (λh' hn' hs=>?_) hcls
  obtain⟨oL,_,_,hoL,_⟩:=id hn;refine h _ ⟨I.ok,I.os,I.bare,⟨λb o e n hb hx=>?_,λb o e n hb hx=>?_,I.base.free,λb o e hx=>?_,I.base.tups,I.base.frzs,I.base.tbls⟩,⟨_,hn',λj y v' e1 e2 e3=>?_⟩,λy c e=>?_,I.free,I.freeC,λp hp=>?_,tracked ⟨oL,hoL,I.free⟩ hs,by simpa using I.len⟩ ⟨_,hs,.inl rfl⟩
  ·exact(hs.2 b (ne_of_lt (lt_of_lt_of_le (lt_size e) I.ok.above))).trans (I.base.keep b o e n hb hx)
  ·obtain⟨sl,e1⟩:=I.base.slot b o e n hb hx
   exact⟨sl,(hs.2 b (ne_of_lt (lt_of_lt_of_le (lt_size e) I.ok.above))).trans e1⟩
  ·obtain⟨o',e1⟩:=I.base.there b o e hx
   exact⟨o',(hs.2 b (ne_of_lt (lt_of_lt_of_le (lt_size e) I.ok.above))).trans e1⟩
  ·by_cases hj:j=i
   ·subst hj
    rw[hi]at e1;cases e1;rw[getElem?_set_self hiO]at e2;cases e2;exact⟨u,r,.inl ⟨hk,by simp⟩⟩
   ·rw[getElem?_set_ne (Ne.symm hj)]at e2
    obtain⟨u',r',q⟩:=hl j y v' e1 e2 e3;refine⟨u',r',?_⟩;rcases q with⟨k,e⟩|⟨k,c,e,z⟩
    ·refine .inl ⟨k,?_⟩
     have:y≠x:=λe=>hj (ZV hN e1 (e▸hi))
     simp[this,e]
    ·exact .inr ⟨k,c,e,z.sameBut hs (cne y c e)⟩
  ·obtain⟨w',z⟩:=I.cell y c e
   exact⟨w',z.sameBut hs (cne y c e)⟩
  ·obtain⟨e,n,ne,nf,d⟩:=I.pin p hp
   exact⟨(hs.2 p.1 ne).trans e,n,ne,nf,d⟩
 ·have hfn:X.fn x=true:=by
   rcases hf with z|z
   ·exact z
   ·rw[z]at hk;cases hk
  obtain⟨c,hc⟩:=I.ok.has x (.inl hk);obtain⟨w',z⟩:=I.cell x c hc;refine wpAny_storeName_cell I.ok.kind hk hc z (λh' hc' hs=>?_);obtain⟨oc,hoc,hocd⟩:=id z;refine h {s with heap:=h'} ⟨I.ok,I.os,I.bare,⟨λb o e n hb hx=>?_,λb o e n hb hx=>?_,I.base.free,λb o e hx=>?_,I.base.tups,I.base.frzs,I.base.tbls⟩,⟨m,hn.sameBut hs (Ne.symm (cne x c hc)),λj y v' e1 e2 e3=>?_⟩,λy c' e=>?_,I.free,I.freeC,λp hp=>?_,tracked ⟨oc,hoc,I.freeC x c hc⟩ hs,by simpa using I.len⟩ ⟨c,hs,.inr hc⟩
  ·exact(hs.2 b (ne_of_lt (lt_of_lt_of_le (lt_size e) (I.ok.cab x c hfn hc)))).trans (I.base.keep b o e n hb hx)
  ·obtain⟨sl,e1⟩:=I.base.slot b o e n hb hx
   exact⟨sl,(hs.2 b (ne_of_lt (lt_of_lt_of_le (lt_size e) (I.ok.cab x c hfn hc)))).trans e1⟩
  ·obtain⟨o',e1⟩:=I.base.there b o e hx
   exact⟨o',(hs.2 b (ne_of_lt (lt_of_lt_of_le (lt_size e) (I.ok.cab x c hfn hc)))).trans e1⟩
  ·by_cases hj:j=i
   ·subst hj
    rw[hi]at e1;cases e1;rw[getElem?_set_self hiO]at e2;cases e2;exact⟨u,r,.inr ⟨.inl hk,c,hc,hc'⟩⟩
   ·rw[getElem?_set_ne (Ne.symm hj)]at e2
    obtain⟨u',r',q⟩:=hl j y v' e1 e2 e3;refine⟨u',r',?_⟩;rcases q with q|⟨k,c',e,z'⟩
    ·exact .inl q
    ·refine .inr ⟨k,c',e,z'.sameBut hs ?_⟩
     rintro rfl
     exact hj (ZV hN e1 (I.ok.inj _ _ _ e hc▸hi))
  ·by_cases hcc:c'=c
   ·subst hcc;exact⟨_,hc'⟩
   ·obtain⟨w2,z2⟩:=I.cell y c' e
    exact⟨w2,z2.sameBut hs hcc⟩
  ·obtain⟨e,n,ne,nf,d⟩:=I.pin p hp
   refine⟨(hs.2 p.1 ?_).trans e,n,ne,nf,d⟩;intro q;rw[q,hoc]at e;have q':oc=p.2:=Option.some.inj e;exact d w' (by rw[<- q'];exact hocd)
def jp{M:Model}{A:Around}{E:Value->Shared->Prop}{i:Nat}{x:Str}{v:V}{u:Value}{Q:Unit->Shared->Prop}(I:Inv X pins O H s)(hN:X.N.Nodup)(hi:X.N[i]?=some x)(hx:Loc X.env.scope x)(r:zy v u)
  (h:∀s',Inv X pins (O.set i (some v)) H s'->Q () s') (hf:X.fn x=true\/X.env.scope.names.lookup x=some .local:=by first|exact .inl rfl|exact .inr rfl|assumption):wpAny M A (storeName X.env x u) Q E s :=
 WA I hN hi hx r (λs' I' _=>h s' I') hf
def Inv.call'{s':Shared}{ch:List Addr}(I:Inv X pins O H s)(ho:s'.os=s.os)(u:Un (frs X.stack) ch H H' s.heap s'.heap)(hok:HOk X.prog X.w H' s'.heap)(hg:AllBare s'.gens)
  (hch:∀b∈ch,(b∈X.ex\/X.s₀.heap.objs.size<=b)/\b≠X.env.locals/\(∀x c,X.env.cells.lookup x=some c->c≠b)/\∀p∈X.pn++pins,p.1≠b):Inv X pins O H' s':=by
 obtain⟨h',g',d',t',o'⟩:=s';have e:o'=s.os:=ho;subst e;exact I.call (g':=g') (t':=t') (d':=d') u hok hg hch
end
abbrev XK:=Value->Option Addr->Hp->Prop
abbrev St:=List (Option V)
abbrev VK:=V->Hp->Prop
abbrev TE:=St->Hp->VK->Prop
abbrev TT:=St->Hp->(Bool->Hp->Prop)->Prop
abbrev TA:=St->Hp->(List V->Hp->Prop)->Prop
structure Ends where
 nx:St->Hp->Prop
 rt:VK
 bk:St->Hp->Prop:=λ_ _=>False
 ct:St->Hp->Prop:=λ_ _=>False
abbrev TS:=Ends->St->Hp->Prop
def EP(X:Cx)(pins:List (Addr×Obj))(O:St)(Q:VK)(u:Value)(s':Shared):Prop:=∃v H',Inv X pins O H' s'/\zy v u/\Q v H'
def TP(X:Cx)(pins:List (Addr×Obj))(O:St)(Q:Bool->Hp->Prop)(b:Bool)(s':Shared):Prop:=∃H',Inv X pins O H' s'/\Q b H'
def AP(X:Cx)(pins:List (Addr×Obj))(O:St)(Q:List V->Hp->Prop)(us:List Value)(s':Shared):Prop:=∃vs H',Inv X pins O H' s'/\zg vs us/\Q vs H'
def SP(X:Cx)(pins:List (Addr×Obj))(D:Ends)(f:Flow)(s':Shared):Prop :=
 match f with
 | .next=>∃O' H',Inv X pins O' H' s'/\D.nx O' H'| .brk=>∃O' H',Inv X pins O' H' s'/\D.bk O' H'| .cont=>∃O' H',Inv X pins O' H' s'/\D.ct O' H'| .ret u=>∃v O' H',Inv X pins O' H' s'/\zy v u/\D.rt v H'
def PE(X:Cx)(e:Expr)(t:TE):Prop :=
 ∀(pins:List (Addr×Obj)) (s:Shared) (O:St) (H:Hp) (Q:VK),Inv X pins O H s->t O H Q->wpAny (model X.prog X.w) X.A (eval e X.env) (EP X pins O Q) X.xe s
def PT(X:Cx)(e:Expr)(t:TT):Prop :=
 ∀(pins:List (Addr×Obj)) (s:Shared) (O:St) (H:Hp) (Q:Bool->Hp->Prop),Inv X pins O H s->t O H Q->wpAny (model X.prog X.w) X.A (isTrue e X.env (eval e X.env)) (TP X pins O Q) X.xe s
def PW(X:Cx)(e:Expr)(t:TT):Prop :=
 ∀(whole:Sem Value) (pins:List (Addr×Obj)) (s:Shared) (O:St) (H:Hp) (Q:Bool->Hp->Prop),Inv X pins O H s->t O H Q->wpAny (model X.prog X.w) X.A (isTrue e X.env whole) (TP X pins O Q) X.xe s
def PW.pt{X:Cx}{e:Expr}{t:TT}(h:PW X e t):PT X e t:=h _
def PA(X:Cx)(es:List Expr)(t:TA):Prop :=
 ∀(pos:Pos) (pins:List (Addr×Obj)) (s:Shared) (O:St) (H:Hp) (Q:List V->Hp->Prop),Inv X pins O H s->t O H Q->wpAny (model X.prog X.w) X.A (spliced (backTo pos (starEach es X.env))) (AP X pins O Q) X.xe s
def PS(X:Cx)(st:Stmt)(t:TS):Prop :=
 ∀(pins:List (Addr×Obj)) (s:Shared) (O:St) (H:Hp) (D:Ends),Inv X pins O H s->t D O H->wpAny (model X.prog X.w) X.A (exec st X.env) (SP X pins D) X.xe s
def PSs(X:Cx)(st:List Stmt)(t:TS):Prop :=
 ∀(pins:List (Addr×Obj)) (s:Shared) (O:St) (H:Hp) (D:Ends),Inv X pins O H s->t D O H->wpAny (model X.prog X.w) X.A (execs st X.env) (SP X pins D) X.xe s
def thn{α:Type}{t:Sem α}{Q Q':α->Shared->Prop}{M:Model}{A:Around}{E:Value->Shared->Prop}{s:Shared}(h:wpAny M A t Q E s)(hQ:∀a s,Q a s->Q' a s):wpAny M A t Q' E s:=wpAny_mono h hQ λ_ _ x=>x
section
variable{X:Cx}
def bin{a b:Expr}{ta tb:TE}(ha:PE X a ta)(hb:PE X b tb){pins:List (Addr×Obj)}{s:Shared}{O:St}{H:Hp}{R:V->V->Hp->Prop}(I:Inv X pins O H s)(h:ta O H λx H1=>tb O H1 λy H2=>R x y H2)
  {α:Type} {Q:α->Shared->Prop} {f:Value->Value->Sem α}
  (hf:∀v u s2 x y H2,Inv X pins O H2 s2->zy x v->zy y u->R x y H2->wpAny (model X.prog X.w) X.A (f v u) Q X.xe s2) :
  wpAny (model X.prog X.w) X.A (eval a X.env) (λv s₁=>wpAny (model X.prog X.w) X.A (eval b X.env) (λu s₂=>wpAny (model X.prog X.w) X.A (f v u) Q X.xe s₂) X.xe s₁) X.xe s:=by
 refine thn (ha pins s O H _ I h) λv s1 ⟨x,H1,I1,r1,q1⟩=>?_
 refine thn (hb pins s1 O H1 _ I1 q1) λu s2 ⟨y,H2,I2,r2,q2⟩=>?_
 exact hf v u s2 x y H2 I2 r1 r2 q2
def uJ(i:Nat):TE:=λO H Q=>∃v,O[i]?=some (some v)/\Q v H
def tC(v:V):TE:=λ_ H Q=>Q v H
def pe_var{i:Nat}{x:Str}{pos:Pos}(hN:X.N[i]?=some x)(hv:Vis X.env.scope x)(hd:(x==("__debug__":Str))=false:=by decide)(hcd:(x==("__classdict__":Str))=false:=by decide):PE X (.Name x pos) (uJ i):=by
 intro pins s O H Q I h;obtain⟨v,e,h⟩:=h;obtain⟨m,hn,hl⟩:=I.loc;obtain⟨u,r,l⟩:=hl i x v hN e hv;have fin:EP X pins O Q u s:=⟨v,H,I,r,h⟩;rcases l with⟨hk,hm⟩|⟨hk,c,hc,hcell⟩
 ·exact wpAny_Name (wpAny_loadName_local I.ok.kind hk hn hm fin) hd
 ·rcases hk with hk|hk
  ·exact wpAny_Name (wpAny_loadName_cell I.ok.kind hk hc hcell fin) hd
  ·exact wpAny_Name (wpAny_loadName_free I.ok.kind hk hc hcell fin hcd) hd
def pe_int{i j pos}:PE X (.Constant (.int i) j pos) (tC (.int i)):=λ_ _ _ H _ I h=>wpAny_Constant_int ⟨.int i,H,I.tok _,⟨_,rfl⟩,h⟩
def pe_bl{b j pos}:PE X (.Constant (.bool b) j pos) (tC (.bl b)):=λ_ _ _ H _ I h=>Constant_bool ⟨.bl b,H,I,rfl,h⟩
def pe_non{j pos}:PE X (.Constant .none j pos) (tC .non):=λ_ _ _ H _ I h=>Constant_none ⟨.non,H,I,rfl,h⟩
def pe_str{x j pos}:PE X (.Constant (.str x) j pos) (tC (.str x)):=λ_ _ _ H _ I h=>Calls.Constant_str ⟨.str x,H,I.tok _,⟨_,rfl⟩,h⟩
def Gl(X:Cx)(x:Str):Prop:=X.env.kindOf x=some .globalImplicit
def ZW{E:Value->Shared->Prop}{pins:List (Addr×Obj)}{s:Shared}{O:St}{H:Hp}{x:Str}{u:Value}{pos:Pos}{Q:Value->Shared->Prop}(I:Inv X pins O H s)(hg:Gl X x)(hm:X.mg x=some u)(h:Q u s)
  (hd:(x==("__debug__":Str))=false:=by decide):wpAny (model X.prog X.w) X.A (eval (.Name x pos) X.env) Q E s :=
 Calls.Name_function_global I.ok.kind hg (Calls.loadGlobal_global (by rw[I.ok.glob];exact I.mod.glob.keeps I.bk) hm h) hd
def vX{E:Value->Shared->Prop}{pins:List (Addr×Obj)}{s:Shared}{O:St}{H:Hp}{x:Str}{u:Value}{pos:Pos}{Q:Value->Shared->Prop}(I:Inv X pins O H s)(hg:Gl X x)(hm:X.mg x=none)(hv:bootBuiltins x=some u)(h:Q u s)
  (hn:x≠"__name__":=by decide) (hd:(x==("__debug__":Str))=false:=by decide):wpAny (model X.prog X.w) X.A (eval (.Name x pos) X.env) Q E s:=by
 obtain⟨mb,h1,h2⟩:=I.mod.blt;exact Calls.Name_function_global I.ok.kind hg (Calls.loadGlobal_builtin (by rw[I.ok.glob];exact I.mod.glob.keeps I.bk) hm (by rw[I.ok.blt];exact h1.keeps I.bk) ((h2 x hn).trans hv) h) hd
def uj{x:Str}{v:V}{u:Value}{pos:Pos}(hg:Gl X x)(hm:X.mg x=some u)(r:zy v u)(hd:(x==("__debug__":Str))=false:=by decide):PE X (.Name x pos) (tC v) :=
 λ_ _ _ H _ I h=>ZW I hg hm ⟨v,H,I,r,h⟩ hd
def uk{x:Str}{v:V}{u:Value}{pos:Pos}(hg:Gl X x)(hm:X.mg x=none)(hv:bootBuiltins x=some u)(r:zy v u)(hn:x≠"__name__":=by decide)(hd:(x==("__debug__":Str))=false:=by decide):PE X (.Name x pos) (tC v) :=
 λ_ _ _ H _ I h=>vX I hg hm hv ⟨v,H,I,r,h⟩ hn hd
variable{a b:Expr}{ta tb:TE}{pos:Pos}
def tB(t:TE):TT:=λO H Q=>t O H λx H1=>∃c,x=.bl c/\Q c H1
def pt_val{e:Expr}{t:TE}(h:PE X e t)(he:∀whole,isTrue e X.env whole=(do let v <- whole;standAt e.pos;holding [v] (truthy v)):=by intro _;rfl):PT X e (tB t):=by
 intro pins s O H Q I hw;refine isTrue_plain (thn (h pins s O H _ I hw) λv s1 ⟨x,H1,I1,r1,q1⟩=>?_) (he _);obtain⟨d,rfl,q⟩:=q1;cases r1;exact wpAny_truthy_bool ⟨H1,I1,q⟩
variable{tA tB':TT}{jf:List Expr}
def tAnd(t u:TT):TT:=λO H Q=>t O H λc H1=>if c=true then u O H1 Q else Q false H1
def tOr(t u:TT):TT:=λO H Q=>t O H λc H1=>if c=true then Q true H1 else u O H1 Q
def tNot(t:TT):TT:=λO H Q=>t O H λc H1=>Q (!c) H1
def pw_and1(ha:PT X a tA):PW X (.BoolOp .And [a] pos) tA:=by
 intro wh pins s O H Q I h;refine isTrue_and (thn (ha pins s O H Q I h) λc s1 e=>?_);cases c with
 |true=>exact isTrue_and_nil e|false=>exact e
def pw_or1(ha:PT X a tA):PW X (.BoolOp .Or [a] pos) tA:=by
 intro wh pins s O H Q I h;refine isTrue_or (thn (ha pins s O H Q I h) λc s1 e=>?_);cases c with
 |false=>exact isTrue_or_nil e|true=>exact e
def pw_and(ha:PT X a tA)(hb:PW X (.BoolOp .And (b::jf) pos) tB'):PW X (.BoolOp .And (a::b::jf) pos) (tAnd tA tB'):=by
 intro wh pins s O H Q I h;refine isTrue_and (thn (ha pins s O H _ I h) λc s1 ⟨H1,I1,q1⟩=>?_);cases c with
 |true=>exact hb wh pins s1 O H1 Q I1 q1|false=>exact⟨H1,I1,q1⟩
def pw_or(ha:PT X a tA)(hb:PW X (.BoolOp .Or (b::jf) pos) tB'):PW X (.BoolOp .Or (a::b::jf) pos) (tOr tA tB'):=by
 intro wh pins s O H Q I h;refine isTrue_or (thn (ha pins s O H _ I h) λc s1 ⟨H1,I1,q1⟩=>?_);cases c with
 |true=>exact⟨H1,I1,q1⟩|false=>exact hb wh pins s1 O H1 Q I1 q1
def pt_not(ha:PT X a tA):PT X (.UnaryOp .Not a pos) (tNot tA):=by
 intro pins s O H Q I h;exact isTrue_not (ha pins s O H (λc H1=>Q (!c) H1) I h)
def tAndV(ta tb:TE):TE:=λO H Q=>ta O H λx H1=>∃c,x=.bl c/\if c=true then tb O H1 Q else Q (.bl false) H1
def tNotV(ta:TE):TE:=λO H Q=>ta O H λx H1=>∃c,x=.bl c/\Q (.bl (!c)) H1
def pe_one{op}{t:TE}(h:PE X a t):PE X (.BoolOp op [a] pos) t:=λpins s O H Q I hw=>BoolOp_one (h pins s O H Q I hw)
def pe_and(ha:PE X a ta)(hb:PE X (.BoolOp .And (b::jf) pos) tb):PE X (.BoolOp .And (a::b::jf) pos) (tAndV ta tb):=by
 intro pins s O H Q I h;refine BoolOp_and (thn (ha pins s O H _ I h) λv s1 ⟨x,H1,I1,r1,q1⟩=>?_);obtain⟨c,rfl,q1⟩:=q1;cases r1;refine wpAny_truthy_bool ?_;cases c with
 |true=>exact hb pins s1 O H1 Q I1 q1|false=>exact⟨.bl false,H1,I1,rfl,q1⟩
def pe_not(ha:PE X a ta):PE X (.UnaryOp .Not a pos) (tNotV ta):=by
 intro pins s O H Q I h;refine UnaryOp_ (thn (ha pins s O H _ I h) λv s1 ⟨x,H1,I1,r1,q1⟩=>?_);obtain⟨c,rfl,q1⟩:=q1;cases r1;exact not_of (wpAny_truthy_bool ⟨.bl (!c),H1,I1,rfl,q1⟩)
def tIf(t:TT)(ta tb:TE):TE:=λO H Q=>t O H λc H1=>if c=true then ta O H1 Q else tb O H1 Q
def Qn{c:Expr}(hc:PT X c tA)(ha:PE X a ta)(hb:PE X b tb):PE X (.IfExp c a b pos) (tIf tA ta tb):=by
 intro pins s O H Q I h;refine wpAny_IfExp (thn (hc pins s O H _ I h) λd s1 ⟨H1,I1,q1⟩=>?_);cases d with
 |true=>exact ha pins s1 O H1 Q I1 q1|false=>exact hb pins s1 O H1 Q I1 q1
end
def SqL(K:PySem.W.Frag)(H:Hp)(a:Addr)(xs:List V):Prop :=
 Rd H a (.l xs) \/
  ∃(o:Obj) (its:Array Value) (n:Nat),K.lookup a=some o/\o.cls=.type "list"/\o.dict=none/\o.data=.seq its n/\its.size<=sizeLine/\zg xs its.toList
def SqT(K:PySem.W.Frag)(H:Hp)(a:Addr)(xs:List V):Prop :=
 Rd H a (.t xs) \/
  ∃(o:Obj) (its:Array Value) (n:Nat),K.lookup a=some o/\o.cls=.type "tuple"/\o.data=.seq its n/\its.size<=sizeLine/\zg xs its.toList
def absV:Value->Option V
 | .none=>some .non| .bool b=>some (.bl b)| .int i _=>some (.int i)| .str x _=>some (.str x)| .bytes b _=>some (.byt b)| .float b _=>some (.flt b)| .ref a=>some (.ref a)| .type n=>some (.ty n)|_=>none
def zy.abs{x:V}{u:Value}(r:zy x u):absV u=some x:=by
 cases x with
 |non=>cases r;rfl|bl _=>cases r;rfl|int _=>obtain⟨t,rfl⟩:=r;rfl|str _=>obtain⟨t,rfl⟩:=r;rfl|byt _=>obtain⟨t,rfl⟩:=r;rfl|flt _=>obtain⟨t,rfl⟩:=r;rfl|ref _=>cases r;rfl|ty _=>cases r;rfl
theorem zy.inj{x y:V}{u:Value}(r:zy x u)(q:zy y u):x=y:=Option.some.inj (r.abs.symm.trans q.abs)
theorem zg.inj:∀{xs ys:List V} {us:List Value},zg xs us->zg ys us->xs=ys
 |_,_,_,.nil,.nil=>rfl|_,_,_,.cons r t,.cons r' t'=>by rw[r.inj r',zg.inj t t']
section
variable{X:Cx}{pins:List (Addr×Obj)}{O:St}{H:Hp}{s:Shared}{a:Addr}{xs ys:List V}
def SqL.of{K:PySem.W.Frag}(h:H a=some (.l xs)):SqL K H a xs:=.inl (.inl h)
def SqT.of{K:PySem.W.Frag}(h:H a=some (.t xs)):SqT K H a xs:=.inl (.inl h)
def Inv.list(I:Inv X pins O H s)(h:SqL X.K H a xs):∃its:List Value,zg xs its/\PlainL s.heap a its.toArray/\xs.length<=sizeLine:=by
 rcases h with h|⟨o,its,n,hk,hc,hd,hs,hz,r⟩
 ·obtain⟨z,its,n,r,e⟩:=h.ok I.hok
  exact⟨its,r,⟨_,n,e,rfl,rfl,rfl⟩,z⟩
 ·refine⟨its.toList,r,⟨o,n,I.kIn a o hk,hc,hd,by simpa using hs⟩,?_⟩
  have e:=r.length;simp only[Array.length_toList]at e;omega
def Inv.tuple(I:Inv X pins O H s)(h:SqT X.K H a xs):∃its:List Value,zg xs its/\IsTup s.heap a its.toArray/\xs.length<=sizeLine:=by
 rcases h with h|⟨o,its,n,hk,hc,hs,hz,r⟩
 ·obtain⟨z,its,r,p⟩:=h.ok I.hok
  exact⟨its,r,p,z⟩
 ·refine⟨its.toList,r,⟨o,I.kIn a o hk,hc,n,by simpa using hs⟩,?_⟩
  have e:=r.length;simp only[Array.length_toList]at e;omega
def Inv.list_inj(I:Inv X pins O H s)(h:SqL X.K H a xs)(h':SqL X.K H a ys):xs=ys:=by
 obtain⟨its,r,⟨o,n,e,_,_,d⟩,_⟩:=I.list h;obtain⟨its',r',⟨o',n',e',_,_,d'⟩,_⟩:=I.list h';rw[e]at e';cases e';rw[d]at d';injection d' with d1 _
 have:its=its':=by simpa using congrArg Array.toList d1
 subst this;exact r.inj r'
def Inv.tuple_inj(I:Inv X pins O H s)(h:SqT X.K H a xs)(h':SqT X.K H a ys):xs=ys:=by
 obtain⟨its,r,⟨o,e,_,n,d⟩,_⟩:=I.tuple h;obtain⟨its',r',⟨o',e',_,n',d'⟩,_⟩:=I.tuple h';rw[e]at e';cases e';rw[d]at d';injection d' with d1 _
 have:its=its':=by simpa using congrArg Array.toList d1
 subst this;exact r.inj r'
end
abbrev Cx.wish(X:Cx)(E:Value->Shared->Prop):Cx:={X with xe:=E}
abbrev Cx.nox(X:Cx):Cx:=X.wish λ_ _=>False
theorem Cx.Ok.wish{X:Cx}(ok:X.Ok)(E:Value->Shared->Prop):(X.wish E).Ok :=
 ⟨ok.mod,ok.kind,ok.glob,ok.blt,ok.above,ok.inj,ok.has,ok.cab,ok.hd,ok.frames,ok.stk,ok.exf,ok.bs,ok.bsz,ok.noex,ok.exfs,ok.funs,ok.frf⟩
def Cx.Ok.unwish{X:Cx}{E:Value->Shared->Prop}(ok:(X.wish E).Ok):X.Ok :=
 ⟨ok.mod,ok.kind,ok.glob,ok.blt,ok.above,ok.inj,ok.has,ok.cab,ok.hd,ok.frames,ok.stk,ok.exf,ok.bs,ok.bsz,ok.noex,ok.exfs,ok.funs,ok.frf⟩
section
variable{X:Cx}{pins:List (Addr×Obj)}{O:St}{H:Hp}{s:Shared}{E:Value->Shared->Prop}
theorem Inv.wish(I:Inv X pins O H s)(E:Value->Shared->Prop):Inv (X.wish E) pins O H s:=⟨I.ok.wish E,I.os,I.bare,I.base,I.loc,I.cell,I.free,I.freeC,I.pin,I.hok,I.len⟩
theorem Inv.unwish(I:Inv (X.wish E) pins O H s):Inv X pins O H s:=⟨I.ok.unwish,I.os,I.bare,I.base,I.loc,I.cell,I.free,I.freeC,I.pin,I.hok,I.len⟩
theorem SP.unwish{D:Ends}{f:Flow}{s':Shared}(h:SP (X.wish E) pins D f s'):SP X pins D f s':=by
 cases f with
 |next=>obtain⟨O',H',I,q⟩:=h;exact⟨O',H',I.unwish,q⟩|brk=>obtain⟨O',H',I,q⟩:=h;exact⟨O',H',I.unwish,q⟩|cont=>obtain⟨O',H',I,q⟩:=h;exact⟨O',H',I.unwish,q⟩|ret u=>obtain⟨v,O',H',I,r,q⟩:=h;exact⟨v,O',H',I.unwish,r,q⟩
theorem PE.nox{e:Expr}{t:TE}(h:PE X.nox e t):PE X e t:=λpins s O H Q I hw =>
 wpAny_mono (h pins s O H Q (I.wish _) hw) (λ_ _ ⟨v,H',I',r,q⟩=>⟨v,H',I'.unwish,r,q⟩) λ_ _ z=>False.elim z
theorem PT.nox{e:Expr}{t:TT}(h:PT X.nox e t):PT X e t:=λpins s O H Q I hw =>
 wpAny_mono (h pins s O H Q (I.wish _) hw) (λ_ _ ⟨H',I',q⟩=>⟨H',I'.unwish,q⟩) λ_ _ z=>False.elim z
theorem PSs.nox{st:List Stmt}{t:TS}(h:PSs X.nox st t):PSs X st t:=λpins s O H D I hw =>
 wpAny_mono (h pins s O H D (I.wish _) hw) (λ_ _ q=>q.unwish) λ_ _ z=>False.elim z
end
section
variable{X:Cx}{st:Stmt}{jf:List Stmt}{t u:TS}{e:Expr}{te:TE}{pos:Pos}
def tNext:TS:=λD O H=>D.nx O H
def tSeq(t u:TS):TS:=λD O H=>t {D with nx:=u D} O H
def pss_nil:PSs X [] tNext:=λ_ _ O H _ I h=>wpAny_execs_nil ⟨O,H,I,h⟩
def Qo(h1:PS X st t)(h2:PSs X jf u):PSs X (st::jf) (tSeq t u):=by
 intro pins s O H D I h;refine wpAny_execs_cons (thn (h1 pins s O H {D with nx:=u D} I h) λf s1 q=>?_)
 cases f with
 |next =>
  obtain⟨O',H',I',q⟩:=q;exact h2 pins s1 O' H' D I' q
 |ret v=>exact q|brk=>exact q|cont=>exact q
def pss_one(h1:PS X st t):PSs X [st] t:=by
 intro pins s O H D I h;refine wpAny_execs_cons (thn (h1 pins s O H D I h) λf s1 q=>?_);cases f with
 |next=>exact wpAny_execs_nil q|ret v=>exact q|brk=>exact q|cont=>exact q
def Inv.quiet{pins:List (Addr×Obj)}{O:St}{H:Hp}{s:Shared}(I:Inv X pins O H s):interactive X.env=false:=by simp[interactive,I.ok.kind]
def tDrop(te:TE):TS:=λD O H=>te O H λ_ H1=>D.nx O H1
def ul(he:PE X e te)(hs:swapsWith e none pos.line X.env=pure false:=by rfl):PS X (.Expr e pos) (tDrop te):=by
 intro pins s O H D I h;exact wpAny_Expr_any (thn (he pins s O H _ I h) λv s1 ⟨x,H1,I1,r1,q1⟩=>⟨O,H1,I1,q1⟩) I.quiet hs
def tRet(te:TE):TS:=λD O H=>te O H D.rt
def ps_ret(he:PE X e te):PS X (.Return (some e) pos) (tRet te):=by
 intro pins s O H D I h;exact wpAny_Return_some (thn (he pins s O H _ I h) λv s1 ⟨x,H1,I1,r1,q1⟩=>⟨x,O,H1,I1,r1,q1⟩)
def tIfS(c:TT)(t u:TS):TS:=λD O H=>c O H λb H1=>if b=true then t D O H1 else u D O H1
def ps_if{c:Expr}{a b:List Stmt}{tc:TT}(hc:PT X c tc)(ha:PSs X a t)(hb:PSs X b u):PS X (.If c a b pos) (tIfS tc t u):=by
 intro pins s O H D I h;refine wpAny_If (thn (hc pins s O H _ I h) λd s1 ⟨H1,I1,q1⟩=>?_);cases d with
 |true=>exact ha pins s1 O H1 D I1 q1|false=>exact hb pins s1 O H1 D I1 q1
def tNever:TS:=λ_ _ _=>False
def Qp:PS X st tNever:=λ_ _ _ _ _ _ h=>h.elim
end
abbrev TG:=V->St->Hp->(St->Hp->Prop)->Prop
abbrev TGs:=List V->St->Hp->(St->Hp->Prop)->Prop
def PG(X:Cx)(target:Expr)(t:TG):Prop :=
 ∀(pins:List (Addr×Obj)) (s:Shared) (O:St) (H:Hp) (v:V) (u:Value) (Q:St->Hp->Prop),Inv X pins O H s->zy v u->t v O H Q ->
  wpAny (model X.prog X.w) X.A (assign target X.env u) (λ_ s'=>∃O' H',Inv X pins O' H' s'/\Q O' H') X.xe s
def PGs(X:Cx)(ts:List Expr)(t:TGs):Prop :=
 ∀(pins:List (Addr×Obj)) (s:Shared) (O:St) (H:Hp) (vs:List V) (us:List Value) (Q:St->Hp->Prop),Inv X pins O H s->zg vs us->t vs O H Q ->
  wpAny (model X.prog X.w) X.A (assignInOrder ((assignEach ts X.env).map (·.2)) us) (λ_ s'=>∃O' H',Inv X pins O' H' s'/\Q O' H') X.xe s
abbrev TSet:=V->V->V->Hp->(Hp->Prop)->Prop
def PSet(X:Cx)(t:TSet):Prop :=
 ∀(pins:List (Addr×Obj)) (s:Shared) (O:St) (H:Hp) (o i v:V) (ov iv u:Value) (Q:Hp->Prop),Inv X pins O H s->zy o ov->zy i iv->zy v u->t o i v H Q ->
  wpAny (model X.prog X.w) X.A (setItem ov iv u) (λ_ s'=>∃H',Inv X pins O H' s'/\Q H') X.xe s
section
variable{X:Cx}{pos:Pos}
def W1(i:Nat):TG:=λv O H Q=>Q (O.set i (some v)) H
def um{i:Nat}{x:Str}(hN:X.N.Nodup)(hi:X.N[i]?=some x)(hx:Loc X.env.scope x)(hf:X.fn x=true\/X.env.scope.names.lookup x=some .local:=by first|exact .inl rfl|exact .inr rfl|assumption):PG X (.Name x pos) (W1 i):=by
 intro pins s O H v u Q I r h;exact wpAny_assign_Name (jp I hN hi hx r (λs' I'=>⟨_,H,I',h⟩) hf)
def gNil:TGs:=λvs O H Q=>vs=[]/\Q O H
def gCons(t:TG)(u:TGs):TGs:=λvs O H Q=>∃v r,vs=v::r/\t v O H λO' H'=>u r O' H' Q
def pgs_nil:PGs X [] gNil:=by
 intro pins s O H vs us Q I r h;obtain⟨e,h⟩:=h;subst e;cases r;exact assignInOrder_nil ⟨O,H,I,h⟩
def Qq{e:Expr}{es:List Expr}{t:TG}{u:TGs}(h1:PG X e t)(h2:PGs X es u)
  (hs:(assignEach (e::es) X.env).map (·.2)=assign e X.env::(assignEach es X.env).map (·.2):=by rfl):PGs X (e::es) (gCons t u):=by
 intro pins s O H vs us Q I r h;obtain⟨v,vr,e1,h⟩:=h;subst e1;cases r with
 |cons r rr =>
  rw[hs];refine assignInOrder_cons (thn (h1 pins s O H _ _ _ I r h) λ_ s1 ⟨O1,H1,I1,q1⟩=>?_);exact h2 pins s1 O1 H1 _ _ Q I1 rr q1
def gTup(K:PySem.W.Frag)(n:Nat)(t:TGs):TG:=λv O H Q=>∃a xs,v=.ref a/\SqT K H a xs/\xs.length=n/\t xs O H Q
def pg_tup{es:List Expr}{k:Nat}{t:TGs}{n:Nat}(hc:X.calm=true)(h:PGs X es t)
  (hn:(assignEach es X.env).length=n:=by rfl) (hst:(assignEach es X.env).findIdx? (·.1)=none:=by rfl):PG X (.Tuple es k pos) (gTup X.K n t):=by
 intro pins s O H v u Q I r hw;obtain⟨a,xs,e1,hq,hl,hw⟩:=hw;subst e1;cases r;obtain⟨its,rv,ht,hz⟩:=I.tuple hq;refine assign_Tuple_tuple (I.ok.hd hc) ht (by simp[hn,<- hl,rv.length]) hst λh' hx=>?_
 have I1:Inv X pins O H {s with heap:=h'}:=I.kept (t':=s.toks) λb o e=>hx b o (ne_of_lt (lt_size e)) e
 exact h pins _ O H xs _ Q I1 (by simpa using rv) hw
def gSub(to ti:TE)(t:TSet):TG:=λv O H Q=>to O H λo H1=>ti O H1 λi H2=>t o i v H2 λH3=>Q O H3
def pg_sub{o i:Expr}{to ti:TE}{t:TSet}(ho:PE X o to)(hi:PE X i ti)(hs:PSet X t)
  (ha:∀v,assign (.Subscript o i pos) X.env v=(do
   let ov <- holding [v] (eval o X.env)
   let iv <- holding [v,ov] (eval i X.env)
   standAt pos
   holding [v,ov,iv] (setItem ov iv v)
   release [v,ov,iv] []):=by intro _;rfl):PG X (.Subscript o i pos) (gSub to ti t):=by
 intro pins s O H v u Q I r h;rw[ha];refine wpAny_bind (wpAny_holding (thn (ho pins s O H _ I h) λov s1 ⟨x,H1,I1,r1,q1⟩=>?_));refine wpAny_bind (wpAny_holding (thn (hi pins s1 O H1 _ I1 q1) λiv s2 ⟨y,H2,I2,r2,q2⟩=>?_));refine wpAny_bind (wpAny_standAt (wpAny_bind (wpAny_holding (thn (hs pins s2 O H2 x y v ov iv u _ I2 r1 r2 r q2) λ_ s3 ⟨H3,I3,q3⟩=>?_))));exact wpAny_release ⟨O,H3,I3,q3⟩
def tAsg(te:TE)(g:TG):TS:=λD O H=>te O H λx H1=>g x O H1 D.nx
def zBG{tg e:Expr}{te:TE}{g:TG}(he:PE X e te)(hg:PG X tg g)(hs:swapsWithSole [tg] e pos.line X.env=pure false:=by rfl)(hw:swappedStores [tg] e X.env=pure none:=by rfl)
  (h1:(assignEach [tg] X.env).map (·.2)=[assign tg X.env]:=by rfl):PS X (.Assign [tg] e pos) (tAsg te g):=by
 intro pins s O H D I h;refine wpAny_Assign_stores (thn (he pins s O H _ I h) λv s1 ⟨x,H1,I1,r1,q1⟩=>?_) hs hw;rw[h1];exact thn (hg pins s1 O H1 x v _ I1 r1 q1) λ_ s2 q=>q
def ps_set{i:Nat}{x:Str}{e:Expr}{te:TE}{pos':Pos}(hN:X.N.Nodup)(hi:X.N[i]?=some x)(hx:Loc X.env.scope x)(he:PE X e te)(hs:swapsWith e (some (.Name x pos')) pos.line X.env=pure false:=by rfl)(hf:X.fn x=true\/X.env.scope.names.lookup x=some .local:=by first|exact .inl rfl|exact .inr rfl|assumption) :
  PS X (.Assign [.Name x pos'] e pos) (tAsg te (W1 i)):=by
 intro pins s O H D I h;refine wpAny_Assign_Name (thn (he pins s O H _ I h) λv s1 ⟨y,H1,I1,r1,q1⟩=>?_) hs;exact jp I1 hN hi hx r1 (λs2 I2=>⟨_,H1,I2,q1⟩) hf
def tPar(i j:Nat)(ta:TA):TS:=λD O H=>ta O H λvs H1=>∃v w,vs=[v,w]/\D.nx ((O.set i (some v)).set j (some w)) H1
def ps_par{i j:Nat}{x y:Str}{a b:Expr}{ta:TA}{px py pt:Pos}{kt k2 pt2}(hc:X.calm=true)(hN:X.N.Nodup)(hi:X.N[i]?=some x)(hj:X.N[j]?=some y)(hij:i≠j)
  (hx:X.env.scope.names.lookup x=some .local) (hy:X.env.scope.names.lookup y=some .local) (ha:PA X [a,b] ta)
  (hw:swappedStores [.Tuple [.Name x px,.Name y py] kt pt] (.Tuple [a,b] k2 pt2) X.env=pure (some [x,y]))
  (hs:swapsWithSole [.Tuple [.Name x px,.Name y py] kt pt] (.Tuple [a,b] k2 pt2) pos.line X.env=pure false:=by rfl) :
  PS X (.Assign [.Tuple [.Name x px,.Name y py] kt pt] (.Tuple [a,b] k2 pt2) pos) (tPar i j ta):=by
 intro pins s O H D I h;rw[exec_Assign_arm];refine wpAny_bind (wpAny_standAt ?_);rw[hs];refine wpAny_bind (wpAny_pure ?_);rw[if_neg (by decide)];refine wpAny_bind (Tuple_ (thn (ha _ pins s O H _ I h) λus s1 ⟨vs,H1,I1,r1,q1⟩=>?_));obtain⟨v,w,e1,q1⟩:=q1;subst e1;obtain⟨u1,u2,rfl,rv,rw'⟩:∃u1 u2,us=[u1,u2]/\zy v u1/\zy w u2:=by
  cases r1 with
  |cons p q =>
   cases q with
   |cons p' q' =>
    cases q';exact⟨_,_,rfl,p,p'⟩
 refine wpAny_newObj_type ?_ (by show 2<=sizeLine;decide);have I2:Inv X pins O H1 {s1 with heap:=s1.heap.push {cls:=.type "tuple",data:=.seq [u1,u2].toArray}}:=I1.kept (t':=s1.toks) λb o e=>get?_push_of_some _ e
 rw[hw];refine wpAny_bind (wpAny_pure ?_);show wpAny (model X.prog X.w) X.A (do rule "assign.swapped-stores";let items <- unpackItems (.ref s1.heap.objs.size) 2 none;assignInOrder [λv=>bindName X.env y v,λv=>bindName X.env x v] items.reverse;pure Flow.next) _ _ _;refine wpAny_bind (wpAny_rule (wpAny_bind (unpackItems_tuple (items:=#[u1,u2]) (I.ok.hd hc) (IsTup.new s1.heap _) λh' hx'=>?_)));have I3:=I2.kept (h':=h') (t':=s1.toks) λb o e=>hx' b o (ne_of_lt (lt_size e)) e
 show wpAny _ _ (assignInOrder [λv=>bindName X.env y v,λv=>bindName X.env x v] [u2,u1] >>= λ_=>pure Flow.next) _ _ _
 refine wpAny_bind (assignInOrder_cons (wpAny_bindName (jp I3 hN hj (.inl hy) rw' (λs2 I4=>?_) (.inr hy))));refine assignInOrder_cons (wpAny_bindName (jp I4 hN hi (.inl hx) rv (λs3 I5=>assignInOrder_nil (wpAny_pure ?_)) (.inr hx)));rw[List.set_comm _ _ (Ne.symm hij)]at I5;exact⟨_,H1,I5,q1⟩
end
structure It where
 go:Nat->Hp->Prop
 yld:Nat->Hp->V->Hp->Prop
 stop:Nat->Hp->Prop
def zBH(X:Cx)(pins:List (Addr×Obj))(H:Hp)(b:Addr):Prop :=
 H b=none/\b≠X.env.locals/\b∉X.fs/\(b∈X.ex\/X.s₀.heap.objs.size<=b)/\(∀x c,X.env.cells.lookup x=some c->c≠b)/\∀p∈X.pn++pins,p.1≠b
def Inv.fpOk{X:Cx}{pins:List (Addr×Obj)}{O:St}{H H':Hp}{s:Shared}{b:Addr}(I:Inv X pins O H s)(hb:s.heap.objs.size<=b)(hn:H' b=none):zBH X pins H' b:=by
 refine⟨hn,Nat.ne_of_gt (lt_of_lt_of_le I.lt hb),I.nofs hb,.inr (le_trans I.sz hb),λx c e z=>?_,λp hp z=>?_⟩
 ·obtain⟨v,q⟩:=I.cell x c e
  exact absurd (lt_of_lt_of_le q.lt (by rw[z];exact hb)) (lt_irrefl _)
 ·exact absurd (lt_of_lt_of_le (lt_size (I.pin p hp).1) (by rw[z];exact hb)) (lt_irrefl _)
structure Turn(P:Program)(w:World)(K:PySem.W.Frag)(tg:Expr)(J:It)(fp:List Addr)(it:Addr)(tn:Nat->Heap->Prop):Prop where
 mem:it∈fp
 obj:∀i h,tn i h->∀b∈fp,∃o,h.get? b=some o/\∀v,o.data≠.cell v
 keep:∀i h h',tn i h->(∀b∈fp,∀o,h.get? b=some o->h'.get? b=some o)->tn i h'
 item:∀(X:Cx),X.prog=P->X.w=w->X.K=K->X.calm=true->∀(i:Nat) (pins:List (Addr×Obj)) (s:Shared) (O:St) (H:Hp) (E:Value->Shared->Prop),Inv X pins O H s->(∀b∈fp,zBH X pins H b)->tn i s.heap->J.go i H ->
  wpAny (model P w) X.A (pyNext (.ref it)) (λr s1=>∃u,r=some u /\
   wpAny (model P w) X.A (letOwnedTupleGo tg (.ref it) u) (λ_ s2=>∃x H',Inv X pins O H' s2/\zy x u/\J.yld i H x H'/\tn (i+1) s2.heap/\∀b∈fp,H' b=none) E s1) E s
 done:∀(X:Cx),X.prog=P->X.w=w->X.K=K->X.calm=true->∀(i:Nat) (pins:List (Addr×Obj)) (s:Shared) (O:St) (H:Hp) (E:Value->Shared->Prop),Inv X pins O H s->(∀b∈fp,zBH X pins H b)->tn i s.heap->J.stop i H ->
  wpAny (model P w) X.A (pyNext (.ref it)) (λr s1=>r=none/\Inv X pins O H s1) E s
 self:∀(A:Around) (i:Nat) (s:Shared) (Q:Value->Shared->Prop) (E:Value->Shared->Prop),tn i s.heap->Q (.ref it) s->wpAny (model P w) A (pyIter (.ref it)) Q E s
abbrev TI:=St->Hp->(It->Hp->Prop)->Prop
def PIE(X:Cx)(pins:List (Addr×Obj))(O:St)(tg:Expr)(R:It->Hp->Prop)(itv:Value)(s2:Shared):Prop :=
 ∃(it:Addr) (fp:List Addr) (tn:Nat->Heap->Prop) (J:It) (H':Hp),itv=.ref it/\Inv X pins O H' s2/\Turn X.prog X.w X.K tg J fp it tn/\tn 0 s2.heap/\(∀b∈fp,zBH X pins H' b)/\R J H'
def PI(X:Cx)(tg iter:Expr)(wi:TI):Prop :=
 ∀(pins:List (Addr×Obj)) (s:Shared) (O:St) (H:Hp) (R:It->Hp->Prop),Inv X pins O H s->wi O H R ->
  wpAny (model X.prog X.w) X.A (eval iter X.env) (λv s1=>wpAny (model X.prog X.w) X.A (pyIter v) (PIE X pins O tg R) X.xe s1) X.xe s
def WB{M:Model}{A:Around}{E:Value->Shared->Prop}{s:Shared}{tg:Expr}{it:Addr}{u:Value}{o:Obj}{n:String}{vs:Array Value}{Q:Unit->Shared->Prop}(ho:s.heap.get? it=some o)(hc:o.cls=.type n)(hd:o.data=.fields vs)
  (hn:["enumerate","zip","dict_itemiterator","dict_reverseitemiterator","odict_iterator","itertools.zip_longest","itertools.pairwise"].contains n=false) (hQ:Q () s):wpAny M A (letOwnedTupleGo tg (.ref it) u) Q E s:=by
 unfold letOwnedTupleGo
 cases tg<;>first
  |exact wpAny_pure hQ
  | (cases u<;>first
    |exact wpAny_pure hQ
    | (refine wpAny_bind (wpAny_load ho ?_)
       rw[hc,hd];show wpAny M A (if(["enumerate","zip","dict_itemiterator","dict_reverseitemiterator","odict_iterator","itertools.zip_longest","itertools.pairwise"].contains n&&vs[0]?==some (rawInt _))=true then _ else _) Q E s;rw[if_neg (by intro h;rw[hn,Bool.false_and]at h;cases h)];exact wpAny_pure hQ))
def Itl(K:PySem.W.Frag)(a:Addr):It :=
 ⟨λi H=>∃xs x,SqL K H a xs/\xs[i]?=some x,λi H x H'=>H'=H/\∀xs,SqL K H a xs->xs[i]?=some x,λi H=>∃xs,SqL K H a xs/\xs.length<=i⟩
def Itt(K:PySem.W.Frag)(a:Addr):It :=
 ⟨λi H=>∃xs x,SqT K H a xs/\xs[i]?=some x,λi H x H'=>H'=H/\∀xs,SqT K H a xs->xs[i]?=some x,λi H=>∃xs,SqT K H a xs/\xs.length<=i⟩
def Itr(lo:Int)(n:Nat):It:=⟨λi _=>i<n,λi H x H'=>H'=H/\x=.int (lo+i),λi _=>n<=i⟩
def uo{P:Program}{w:World}{K:PySem.W.Frag}{tg:Expr}(a it:Addr):Turn P w K tg (Itl K a) [it] it (λi h=>h.IsListIter it a i) where
 mem:=by simp
 obj:=λi h st b hb=>by
  have e:b=it:=by simpa using hb
  subst e;obtain⟨o,e,c,d⟩:=st;exact⟨o,e,λv z=>by rw[d]at z;cases z⟩
 keep:=λi h h' st k=>st.at λo e=>k it (by simp) o e
 item:=by
  intro X hP hw hK hc i pins s O H E I hf st hg;subst hP hw hK;obtain⟨xs,x,hq,hx⟩:=hg;obtain⟨its,rv,p,hz⟩:=I.list hq;obtain⟨u,hu,ru⟩:=rv.get hx;obtain⟨f0,f1,f2,f3,f4,f5⟩:=hf it (by simp);refine wpAny_pyNext_list_item st p.isList (x:=u) (by simpa using hu) λh' st' sb=>?_
  have I1:Inv X pins O H {s with heap:=h'}:=I.turned (t':=s.toks) (λb o hb e=>(sb.2 b hb).trans e) f0 f1 f3 f4 f5
  obtain⟨o,e,c,d⟩:=id st';exact⟨u,rfl,WB (s:={s with heap:=h'}) e c d (by decide) ⟨x,H,I1,ru,⟨rfl,λys hy=>by rw[I.list_inj hy hq];exact hx⟩,st',λb hb=>(hf b hb).1⟩⟩
 done:=by
  intro X hP hw hK hc i pins s O H E I hf st hg;subst hP hw hK;obtain⟨xs,hq,hx⟩:=hg;obtain⟨its,rv,p,hz⟩:=I.list hq;obtain⟨f0,f1,f2,f3,f4,f5⟩:=hf it (by simp);have hl:=rv.length;exact wpAny_pyNext_list_end (I.ok.hd hc) st p.isList (by simp;omega) λh' eb=>⟨rfl,I.turned (t':=s.toks) (λb o hb e=>eb b o hb e) f0 f1 f3 f4 f5⟩
 self:=λ_ _ _ _ _ st h=>wpAny_pyIter_listiter st h
def uK{P:Program}{w:World}{K:PySem.W.Frag}{tg:Expr}(a it:Addr):Turn P w K tg (Itt K a) [it] it (λi h=>h.IsTupleIter it a i) where
 mem:=by simp
 obj:=λi h st b hb=>by
  have e:b=it:=by simpa using hb
  subst e;obtain⟨o,e,c,d⟩:=st;exact⟨o,e,λv z=>by rw[d]at z;cases z⟩
 keep:=λi h h' st k=>st.at λo e=>k it (by simp) o e
 item:=by
  intro X hP hw hK hc i pins s O H E I hf st hg;subst hP hw hK;obtain⟨xs,x,hq,hx⟩:=hg;obtain⟨its,rv,p,hz⟩:=I.tuple hq;obtain⟨u,hu,ru⟩:=rv.get hx;obtain⟨f0,f1,f2,f3,f4,f5⟩:=hf it (by simp);refine wpAny_pyNext_tuple_item st (show s.heap.IsTuple a its.toArray from p) (x:=u) (by simpa using hu) λh' st' sb=>?_
  have I1:Inv X pins O H {s with heap:=h'}:=I.turned (t':=s.toks) (λb o hb e=>(sb.2 b hb).trans e) f0 f1 f3 f4 f5
  obtain⟨o,e,c,d⟩:=id st';exact⟨u,rfl,WB (s:={s with heap:=h'}) e c d (by decide) ⟨x,H,I1,ru,⟨rfl,λys hy=>by rw[I.tuple_inj hy hq];exact hx⟩,st',λb hb=>(hf b hb).1⟩⟩
 done:=by
  intro X hP hw hK hc i pins s O H E I hf st hg;subst hP hw hK;obtain⟨xs,hq,hx⟩:=hg;obtain⟨its,rv,p,hz⟩:=I.tuple hq;obtain⟨f0,f1,f2,f3,f4,f5⟩:=hf it (by simp);have hl:=rv.length;exact wpAny_pyNext_tuple_end (I.ok.hd hc) st (show s.heap.IsTuple a its.toArray from p) (by simp;omega) λh' eb=>⟨rfl,I.turned (t':=s.toks) (λb o hb e=>eb b o hb e) f0 f1 f3 f4 f5⟩
 self:=λ_ _ _ _ _ st h=>wpAny_pyIter_tupleiter st h
def uL{P:Program}{w:World}{K:PySem.W.Frag}{tg:Expr}(it:Addr)(lo:Int)(n:Nat):Turn P w K tg (Itr lo n) [it] it (λi h=>IsRangeIter h it (lo+(i:Nat)*1) ((n:Int)-(i:Nat)) 1) where
 mem:=by simp
 obj:=λi h st b hb=>by
  have e:b=it:=by simpa using hb
  subst e;exact⟨_,st,λv z=>by
   have z':Data.fields _=Data.cell v:=z;cases z'⟩
 keep:=λi h h' st k=>k it (by simp) _ st
 item:=by
  intro X hP hw hK hc i pins s O H E I hf st hg;subst hP hw hK;obtain⟨f0,f1,f2,f3,f4,f5⟩:=hf it (by simp);have W:=Walks.range (prog:=X.prog) (w:=X.w) (I.ok.hd hc) it lo 1 n;refine W.item i s _ _ hg st λv h' tk hv st' kk=>?_
  obtain⟨t,rfl⟩:=hv;have I1:Inv X pins O H {s with heap:=h',toks:=tk}:=I.turned (λb o hb e=>kk b o (by simpa using hb) e) f0 f1 f3 f4 f5
  refine⟨_,rfl,WB (s:={s with heap:=h',toks:=tk}) (n:="range_iterator") st' rfl rfl (by decide) ⟨.int (lo+i),H,I1,⟨t,?_⟩,⟨rfl,rfl⟩,st',λb hb=>(hf b hb).1⟩⟩
  rw[Int.mul_one]
 done:=by
  intro X hP hw hK hc i pins s O H E I hf st hg;subst hP hw hK;obtain⟨f0,f1,f2,f3,f4,f5⟩:=hf it (by simp);exact wpAny_pyNext_range_end (I.ok.hd hc) st (by have:n<=i:=hg;omega) λh' eb=>⟨rfl,I.turned (t':=s.toks) (λb o hb e=>eb b o hb e) f0 f1 f3 f4 f5⟩
 self:=λ_ _ _ _ _ st h=>wpAny_pyIter_rangeiter st h
section
variable{X:Cx}{tg:Expr}
def iList(K:PySem.W.Frag)(tl:TE):TI:=λO H R=>tl O H λx H1=>∃a,x=.ref a/\(∃xs,SqL K H1 a xs)/\R (Itl K a) H1
def iTup(K:PySem.W.Frag)(tl:TE):TI:=λO H R=>tl O H λx H1=>∃a,x=.ref a/\(∃xs,SqT K H1 a xs)/\R (Itt K a) H1
def uq{l:Expr}{tl:TE}(hl:PE X l tl):PI X tg l (iList X.K tl):=by
 intro pins s O H R I h;refine thn (hl pins s O H _ I h) λv s1 ⟨x,H1,I1,r1,q1⟩=>?_
 obtain⟨a,e,⟨xs,hq⟩,q⟩:=q1;subst e;cases r1;obtain⟨its,rv,p,hz⟩:=I1.list hq;refine wpAny_pyIter_list p.isList ?_;refine⟨s1.heap.objs.size,[s1.heap.objs.size],_,_,H1,rfl,I1.kept (t':=s1.toks) λb o e=>get?_push_of_some _ e,uo a _,⟨_,get?_push_size _ rfl,rfl,rfl⟩,λb hb=>?_,q⟩;have e:b=s1.heap.objs.size:=by simpa using hb
 subst e;exact I1.fpOk (le_refl _) (I1.hok.fresh (le_refl _))
def pi_tup{l:Expr}{tl:TE}(hl:PE X l tl):PI X tg l (iTup X.K tl):=by
 intro pins s O H R I h;refine thn (hl pins s O H _ I h) λv s1 ⟨x,H1,I1,r1,q1⟩=>?_
 obtain⟨a,e,⟨xs,hq⟩,q⟩:=q1;subst e;cases r1;obtain⟨its,rv,p,hz⟩:=I1.tuple hq;refine wpAny_pyIter_tuple (show s1.heap.IsTuple a its.toArray from p) ?_;refine⟨s1.heap.objs.size,[s1.heap.objs.size],_,_,H1,rfl,I1.kept (t':=s1.toks) λb o e=>get?_push_of_some _ e,uK a _,⟨_,get?_push_size _ rfl,rfl,rfl⟩,λb hb=>?_,q⟩;have e:b=s1.heap.objs.size:=by simpa using hb
 subst e;exact I1.fpOk (le_refl _) (I1.hok.fresh (le_refl _))
def Qr{pins:List (Addr×Obj)}{O:St}{H:Hp}{s:Shared}{R:It->Hp->Prop}{E:Value->Shared->Prop}{lo hi:Int}{t u v:Tok}{tk:Nat}(I:Inv X pins O H s)(h1:-(2^62)<=lo)(h2:lo<2^62)(h3:-(2^62)<=hi)(h4:hi<2^62)
  (q:R (Itr lo (hi-lo).toNat) H):wpAny (model X.prog X.w) X.A (pyIter (.ref s.heap.objs.size)) (PIE X pins O tg R) E {s with heap:=s.heap.push {cls:=.type "range",data:=.fields #[.int lo t,.int hi u,.int 1 v]},toks:=tk}:=by
 refine wpAny_pyIter_range (IsRange.new ..) (small_one h1 h2 h3 h4) ?_;have I1:Inv X pins O H {s with heap:=s.heap.push {cls:=.type "range",data:=.fields #[.int lo t,.int hi u,.int 1 v]},toks:=tk}:=I.kept λb o e=>get?_push_of_some _ e
 refine⟨(s.heap.push {cls:=.type "range",data:=.fields #[.int lo t,.int hi u,.int 1 v]}).objs.size,[(s.heap.push {cls:=.type "range",data:=.fields #[.int lo t,.int hi u,.int 1 v]}).objs.size],_,_,H,rfl,
  I1.kept (t':=tk) λb o e=>get?_push_of_some _ e,uL _ lo (hi-lo).toNat,?_,λb hb=>?_,q⟩
 ·have e1:lo+((0:Nat):Int)*1=lo:=by simp
  have e2:(((hi-lo).toNat:Nat):Int)-((0:Nat):Int)=Builtin.Range.rangeSize lo hi 1:=by rw[rangeSize_one];split<;>omega
  show IsRangeIter _ _ (lo+((0:Nat):Int)*1) ((((hi-lo).toNat:Nat):Int)-((0:Nat):Int)) 1
  rw[e1,e2];exact get?_push_size _ rfl
 ·have e:b=(s.heap.push {cls:=.type "range",data:=.fields #[.int lo t,.int hi u,.int 1 v]}).objs.size:=by simpa using hb
  subst e;exact I1.fpOk (le_refl _) (I1.hok.fresh (le_refl _))
def iRng1(ta:TA):TI:=λO H R=>ta O H λvs H1=>∃j:Int,vs=[.int j]/\-(2^62)<=j/\j<2^62/\R (Itr 0 j.toNat) H1
def WC{a:Expr}{ta:TA}{p pos:Pos}(hg:Gl X "range")(hm:X.mg "range"=none)(ha:PA X [a] ta)(hs:starEach [a] X.env=[(false,eval a X.env)]:=by rfl):PI X tg (.Call (.Name "range" p) [a] [] pos) (iRng1 ta):=by
 intro pins s O H R I h;refine Call_ (vX I hg hm boot_range (PyProof.Rows.callWith_type1 (thn (ha pos pins s O H _ I h) λus s1 ⟨vs,H1,I1,r1,q1⟩=>?_) hs rfl));obtain⟨j,e,q1,q2,q⟩:=q1;subst e;cases r1 with
 |cons r rr =>
  cases rr;obtain⟨t,rfl⟩:=r;exact call_range_1 (Qr I1 (by omega) (by omega) q1 q2 (by simpa using q))
def tFor(wi:TI)(g:TG)(tb:TS):TS:=λD O H=>wi O H λJ H1=>∃W:Nat->Nat->St->Hp->Prop,(∃m,W 0 m O H1)/\∀i m O H,W i m O H ->
 (J.stop i H/\D.nx O H)\/(J.go i H/\∃N:St->Hp->Prop,(∀O' H',N O' H'->∃m',m'<m/\W (i+1) m' O' H')/\∀x H',J.yld i H x H'->g x O H' λO2 H2=>tb {D with nx:=N,ct:=N,bk:=D.nx} O2 H2)
def WD(fp:List Addr)(h:Heap):List (Addr×Obj):=fp.filterMap λb=>(h.get? b).map λo=>(b,o)
def jq{fp:List Addr}{h:Heap}{b:Addr}{o:Obj}(hb:b∈fp)(e:h.get? b=some o):(b,o)∈WD fp h:=mem_filterMap.mpr ⟨b,hb,by rw[e];rfl⟩
def ur{fp:List Addr}{h:Heap}{p:Addr×Obj}(hp:p∈WD fp h):p.1∈fp/\h.get? p.1=some p.2:=by
 obtain⟨b,hb,e⟩:=mem_filterMap.mp hp;cases q:h.get? b with
 |none=>rw[q]at e;cases e
 |some o =>
  rw[q]at e;have e':(b,o)=p:=Option.some.inj e;subst e';exact⟨hb,q⟩
def Inv.pinned{pins:List (Addr×Obj)}{O:St}{H:Hp}{s:Shared}{fp:List Addr}(I:Inv X pins O H s)(hf:∀b∈fp,zBH X pins H b)(ho:∀b∈fp,∃o,s.heap.get? b=some o/\∀v,o.data≠.cell v):Inv X (pins++WD fp s.heap) O H s :=
 I.pins_of λp hp=>(mem_append.mp hp).elim (λz=>I.pin p (mem_append_right _ z)) λz=>by
  obtain⟨hb,e⟩:=ur z;obtain⟨f0,f1,f2,_⟩:=hf p.1 hb;obtain⟨o,e',d⟩:=ho p.1 hb;rw[e]at e';cases e';exact⟨e,f0,f1,f2,d⟩
def Inv.unpinned{pins pl:List (Addr×Obj)}{O:St}{H:Hp}{s:Shared}(I:Inv X (pins++pl) O H s):Inv X pins O H s:=I.pins_of λp hp=>I.pin p (mem_append_right _ (mem_append_left _ hp))
def zBI{iter:Expr}{body:List Stmt}{wi:TI}{g:TG}{tb:TS}{pos:Pos}(hp:PassesOwn (model X.prog X.w) X.A X.env X.xe)(hc:X.calm=true)(hi:PI X tg iter wi)(hg:PG X tg g)(hb:PSs X body tb)
  (hs:∀x,foldedSetIterable iter X.env x=pure x:=by intro _;rfl):PS X (.For tg iter body [] pos) (tFor wi g tb):=by
 intro pins s O H D I h;refine wpAny_For (thn (hi pins s O H _ I h) λv s1 h1=>thn h1 λitv s2 h2=>?_) hs;obtain⟨it,fp,tn,J,H2,e,I2,T,st2,f2,W,⟨m0,w0⟩,turn⟩:=h2;subst e
 -- what stays true of the iterator's objects through the loop
 have stat:∀{H':Hp},(∀b∈fp,H' b=none)->∀b∈fp,zBH X pins H' b:=λhn b hb=>⟨hn b hb,(f2 b hb).2⟩
 refine codeAny_forLoop_any (λn s'=>∃i O' H',Inv X pins O' H' s'/\tn i s'.heap/\(∀b∈fp,H' b=none)/\W i n O' H') ?_ m0 ⟨0,O,H2,I2,st2,λb hb=>(f2 b hb).1,w0⟩
 rintro n s3 ⟨i,O3,H3,I3,st3,fr3,w3⟩
 rcases turn i n O3 H3 w3 with⟨stop,qn⟩|⟨go,N,hN,step⟩
 ·refine wpAny_passesOwn hp (thn (T.done X rfl rfl rfl hc i pins s3 O3 H3 X.xe I3 (stat fr3) st3 stop) λr s4 ⟨hr,I4⟩=>?_)
  subst hr;exact wpAny_execs_nil ⟨O3,H3,I4,qn⟩
 ·refine wpAny_passesOwn hp (thn (T.item X rfl rfl rfl hc i pins s3 O3 H3 X.xe I3 (stat fr3) st3 go) λr s4 ⟨u,hr,h4⟩=>?_)
  subst hr;refine wpAny_passesOwn hp (thn h4 λ_ s5 ⟨x,H5,I5,r5,y5,st5,fr5⟩=>?_);have I5':=I5.pinned (stat fr5) (T.obj _ _ st5);refine wpAny_passesOwn hp (thn (hg _ s5 O3 H5 x u _ I5' r5 (step x H5 y5)) λ_ s6 ⟨O6,H6,I6,q6⟩=>?_);refine wpAny_passesOwn hp (thn (hb _ s6 O6 H6 _ I6 q6) λf s7 q7=>?_);have again:∀{O7:St} {H7:Hp},Inv X (pins++WD fp s5.heap) O7 H7 s7->N O7 H7->∃m,m<n/\∃i O' H',Inv X pins O' H' s7/\tn i s7.heap/\(∀b∈fp,H' b=none)/\W i m O' H':=λ{O7 H7} I7 n7=>by
   obtain⟨m',hm,w7⟩:=hN O7 H7 n7;refine⟨m',hm,i+1,O7,H7,I7.unpinned,T.keep _ _ _ st5 λb hb o e=>(I7.pin (b,o) (mem_append_right _ (mem_append_right _ (jq hb e)))).1,λb hb=>?_,w7⟩;obtain⟨o,e,d⟩:=T.obj _ _ st5 b hb;exact(I7.pin (b,o) (mem_append_right _ (mem_append_right _ (jq hb e)))).2.1
  cases f with
  |next=>obtain⟨O7,H7,I7,n7⟩:=q7;exact again I7 n7|cont=>obtain⟨O7,H7,I7,n7⟩:=q7;exact again I7 n7|brk=>obtain⟨O7,H7,I7,q7⟩:=q7;exact⟨O7,H7,I7.unpinned,q7⟩|ret v=>obtain⟨x7,O7,H7,I7,r7,q7⟩:=q7;exact⟨x7,O7,H7,I7.unpinned,r7,q7⟩
end
def Qs{K:PySem.W.Frag}{a:Addr}{xs:List V}{g:TG}{tb:TS}{D:Ends}{O:St}{H:Hp}(Pv:Nat->St->Hp->Prop)(h0:Pv 0 O H)(hl:∀i O H,i<=xs.length->Pv i O H->SqL K H a xs)
  (hs:∀i x O H,xs[i]?=some x->Pv i O H->g x O H λO2 H2=>tb {D with nx:=Pv (i+1),ct:=Pv (i+1),bk:=D.nx} O2 H2) (hd:∀O H,Pv xs.length O H->D.nx O H) :
  ∃W:Nat->Nat->St->Hp->Prop,(∃m,W 0 m O H)/\∀i m O H,W i m O H ->
   ((Itl K a).stop i H/\D.nx O H)\/((Itl K a).go i H/\∃N:St->Hp->Prop,(∀O' H',N O' H'->∃m',m'<m/\W (i+1) m' O' H')/\∀x H',(Itl K a).yld i H x H'->g x O H' λO2 H2=>tb {D with nx:=N,ct:=N,bk:=D.nx} O2 H2):=by
 refine⟨λi m O H=>m=xs.length-i/\i<=xs.length/\Pv i O H,⟨xs.length,by simp,zero_le _,h0⟩,?_⟩
 rintro i m O H ⟨rfl,hi,p⟩
 have q:=hl i O H hi p;by_cases hlt:i<xs.length
 ·refine .inr ⟨⟨xs,xs[i],q,by simp[hlt]⟩,Pv (i+1),λO' H' p'=>⟨xs.length-(i+1),by omega,rfl,hlt,p'⟩,λx H' y=>?_⟩
  obtain⟨e,y⟩:=y;subst e;exact hs i x O _ (y xs q) p
 ·have e:i=xs.length:=by omega
  subst e;exact .inl ⟨⟨xs,q,le_refl _⟩,hd O H p⟩
def ut{lo:Int}{n:Nat}{g:TG}{tb:TS}{D:Ends}{O:St}{H:Hp}(Pv:Nat->St->Hp->Prop)(h0:Pv 0 O H)
  (hs:∀i O H,i<n->Pv i O H->g (.int (lo+i)) O H λO2 H2=>tb {D with nx:=Pv (i+1),ct:=Pv (i+1),bk:=D.nx} O2 H2) (hd:∀O H,Pv n O H->D.nx O H) :
  ∃W:Nat->Nat->St->Hp->Prop,(∃m,W 0 m O H)/\∀i m O H,W i m O H ->
   ((Itr lo n).stop i H/\D.nx O H)\/((Itr lo n).go i H/\∃N:St->Hp->Prop,(∀O' H',N O' H'->∃m',m'<m/\W (i+1) m' O' H')/\∀x H',(Itr lo n).yld i H x H'->g x O H' λO2 H2=>tb {D with nx:=N,ct:=N,bk:=D.nx} O2 H2):=by
 refine⟨λi m O H=>m=n-i/\i<=n/\Pv i O H,⟨n,by simp,zero_le _,h0⟩,?_⟩
 rintro i m O H ⟨rfl,hi,p⟩
 by_cases hlt:i<n
 ·refine .inr ⟨hlt,Pv (i+1),λO' H' p'=>⟨n-(i+1),by omega,rfl,hlt,p'⟩,λx H' y=>?_⟩
  obtain⟨e,y⟩:=y;subst e y;exact hs i O _ hlt p
 ·have e:i=n:=by omega
  subst e;exact .inl ⟨le_refl _,hd O H p⟩
abbrev R2:=V->V->Hp->VK->Prop
def OpR(X:Cx)(f:Value->Value->Sem Value)(r:R2):Prop :=
 ∀(pins:List (Addr×Obj)) (s:Shared) (O:St) (H:Hp) (x y:V) (v u:Value) (Q:VK),Inv X pins O H s->zy x v->zy y u->r x y H Q ->
  wpAny (model X.prog X.w) X.A (f v u) (EP X pins O Q) X.xe s
def UnR(X:Cx)(f:Value->Sem Value)(r:V->Hp->VK->Prop):Prop :=
 ∀(pins:List (Addr×Obj)) (s:Shared) (O:St) (H:Hp) (x:V) (v:Value) (Q:VK),Inv X pins O H s->zy x v->r x H Q ->
  wpAny (model X.prog X.w) X.A (f v) (EP X pins O Q) X.xe s
def jQ(X:Cx)(f:Value)(r:List V->Hp->VK->Prop):Prop :=
 ∀(pins:List (Addr×Obj)) (s:Shared) (O:St) (H:Hp) (xs:List V) (us:List Value) (Q:VK),Inv X pins O H s->zg xs us->r xs H Q ->
  wpAny (model X.prog X.w) X.A (call f us) (EP X pins O Q) X.xe s
def tOp(r:R2)(ta tb:TE):TE:=λO H Q=>ta O H λx H1=>tb O H1 λy H2=>r x y H2 Q
def tUn(r:V->Hp->VK->Prop)(ta:TE):TE:=λO H Q=>ta O H λx H1=>r x H1 Q
def rI(C:Int->Int->Prop)(g:Int->Int->V):R2:=λx y H Q=>∃i j,x=.int i/\y=.int j/\C i j/\Q (g i j) H
def rI0(g:Int->Int->V):R2:=λx y H Q=>∃i j,x=.int i/\y=.int j/\Q (g i j) H
def rU(g:Int->V):V->Hp->VK->Prop:=λx H Q=>∃i,x=.int i/\Q (g i) H
section
variable{X:Cx}{a b c:Expr}{ta tb tc:TE}{pos:Pos}
def binT(ha:PE X a ta)(hb:PE X b tb){pins:List (Addr×Obj)}{s:Shared}{O:St}{H:Hp}{R:V->V->Hp->Prop}(I:Inv X pins O H s)
  (h:ta O H λx H1=>tb O H1 λy H2=>R x y H2) {Q:Value->Shared->Prop} {f:Value->Value->Sem Value}
  (hf:∀v u s2 x y H2,Inv X pins O H2 s2->zy x v->zy y u->R x y H2->wpAny (model X.prog X.w) X.A (f v u) Q X.xe s2) :
  wpAny (model X.prog X.w) X.A (eval a X.env) (λv s₁=>wpAny (model X.prog X.w) X.A (eval b X.env) (λu s₂=>wpAny (model X.prog X.w) X.A (f v u) Q X.xe s₂) X.xe s₁) X.xe s:=by
 refine thn (ha pins s O H _ I h) λv s1 ⟨x,H1,I1,r1,q1⟩=>?_
 refine thn (hb pins s1 O H1 _ I1 q1) λu s2 ⟨y,H2,I2,r2,q2⟩=>?_
 exact hf v u s2 x y H2 I2 r1 r2 q2
def pe_op{op:Operator}{r:R2}(ho:OpR X (binaryOp op) r)(ha:PE X a ta)(hb:PE X b tb):PE X (.BinOp a op b pos) (tOp r ta tb):=by
 intro pins s O H Q I h;exact wpAny_BinOp (binT ha hb I h λv u s2 x y H2 I2 rx ry q=>ho pins s2 O H2 x y v u Q I2 rx ry q)
def pe_un{op:UnaryOp}{r:V->Hp->VK->Prop}(ho:UnR X (unaryOp op) r)(ha:PE X a ta):PE X (.UnaryOp op a pos) (tUn r ta):=by
 intro pins s O H Q I h;exact UnaryOp_ (thn (ha pins s O H _ I h) λv s1 ⟨x,H1,I1,r1,q1⟩=>ho pins s1 O H1 x v Q I1 r1 q1)
def opI{f:Value->Value->Sem Value}{C:Int->Int->Prop}{g:Int->Int->Int}
  (rule:∀(i j:Int) (t u:Tok) (s:Shared) (Q:Value->Shared->Prop) (E:Value->Shared->Prop),C i j->Q (.int (g i j) s.toks) {s with toks:=s.toks+1}->wpAny (model X.prog X.w) X.A (f (.int i t) (.int j u)) Q E s) :
  OpR X f (rI C λi j=>.int (g i j)):=by
 intro pins s O H x y v u Q I rx ry h;obtain⟨i,j,rfl,rfl,hc,q⟩:=h;obtain⟨t,rfl⟩:=rx;obtain⟨t',rfl⟩:=ry;exact rule i j t t' s _ _ hc ⟨.int (g i j),H,I.tok _,⟨_,rfl⟩,q⟩
def opI0{f:Value->Value->Sem Value}{g:Int->Int->Int}
  (rule:∀(i j:Int) (t u:Tok) (s:Shared) (Q:Value->Shared->Prop) (E:Value->Shared->Prop),Q (.int (g i j) s.toks) {s with toks:=s.toks+1}->wpAny (model X.prog X.w) X.A (f (.int i t) (.int j u)) Q E s) :
  OpR X f (rI0 λi j=>.int (g i j)):=by
 intro pins s O H x y v u Q I rx ry h;obtain⟨i,j,rfl,rfl,q⟩:=h;obtain⟨t,rfl⟩:=rx;obtain⟨t',rfl⟩:=ry;exact rule i j t t' s _ _ ⟨.int (g i j),H,I.tok _,⟨_,rfl⟩,q⟩
def opB0{f:Value->Value->Sem Value}{g:Int->Int->Bool}
  (rule:∀(i j:Int) (t u:Tok) (s:Shared) (Q:Value->Shared->Prop) (E:Value->Shared->Prop),Q (.bool (g i j)) s->wpAny (model X.prog X.w) X.A (f (.int i t) (.int j u)) Q E s) :
  OpR X f (rI0 λi j=>.bl (g i j)):=by
 intro pins s O H x y v u Q I rx ry h;obtain⟨i,j,rfl,rfl,q⟩:=h;obtain⟨t,rfl⟩:=rx;obtain⟨t',rfl⟩:=ry;exact rule i j t t' s _ _ ⟨.bl (g i j),H,I,rfl,q⟩
def CPow(i j:Int):Prop:=0<=j/\j<=1000000/\i.natAbs<2^64
def CMul(i j:Int):Prop:=(-(2^64)<i/\i<2^64)\/(-(2^64)<j/\j<2^64)
def CMul.ok{i j:Int}(h:CMul i j):IntMulOk i j:=by
 rcases h with⟨h1,h2⟩|⟨h1,h2⟩
 ·exact .of_left (intBits_le_64 h1 h2)
 ·exact .of_right (intBits_le_64 h1 h2)
def op_add:OpR X (binaryOp .Add) (rI0 λi j=>.int (i+j)):=opI0 λ_ _ _ _ _ _ _ q=>add_int q
def op_sub:OpR X (binaryOp .Sub) (rI0 λi j=>.int (i-j)):=opI0 λ_ _ _ _ _ _ _ q=>sub_int q
def op_mod:OpR X (binaryOp .Mod) (rI (λ_ j=>0<j) λi j=>.int (i%j)):=opI λi j _ _ _ _ _ hc q=>by
 have h1:(0:Int)<j:=hc;exact mod_int' (by omega) (by rw[Int.fmod_eq_emod_of_nonneg i (by omega)];exact q)
def op_pow:OpR X (binaryOp .Pow) (rI CPow λi j=>.int (i^j.toNat)):=opI λ_ _ _ _ _ _ _ hc q=>pow_int_small hc.1 hc.2.1 hc.2.2 q
def unI{f:Value->Sem Value}{g:Int->Int}
  (rule:∀(i:Int) (t:Tok) (s:Shared) (Q:Value->Shared->Prop) (E:Value->Shared->Prop),Q (.int (g i) s.toks) {s with toks:=s.toks+1}->wpAny (model X.prog X.w) X.A (f (.int i t)) Q E s) :
  UnR X f (rU λi=>.int (g i)):=by
 intro pins s O H x v Q I rx h;obtain⟨i,rfl,q⟩:=h;obtain⟨t,rfl⟩:=rx;exact rule i t s _ _ ⟨.int (g i),H,I.tok _,⟨_,rfl⟩,q⟩
def un_neg:UnR X (unaryOp .USub) (rU λi=>.int (-i)):=unI λ_ _ _ _ _ q=>neg_int q
end
def scal:V->V->Bool
 | .non,.non=>true | .non,.int _=>true | .int _,.non=>true | .non,.bl _=>true | .bl _,.non=>true | .non,.str _=>true | .str _,.non=>true
 | .int _,.int _=>true | .bl _,.bl _=>true | .str _,.str _=>true | .byt _,.byt _=>true
 | .int _,.str _=>true | .str _,.int _=>true | .bl _,.str _=>true | .str _,.bl _=>true
 |_,_=>false
def rEq:R2:=λx y H Q=>scal x y=true/\Q (.bl (decide (x=y))) H
def rNe:R2:=λx y H Q=>scal x y=true/\Q (.bl (!decide (x=y))) H
def uu{i j:Int}:decide (V.int i=V.int j)=(i==j):=by
 rw[Bool.eq_iff_iff];simp
def zBJ{i j:Bool}:decide (V.bl i=V.bl j)=(i==j):=by
 rw[Bool.eq_iff_iff];simp
def uv{i j:Str}:decide (V.str i=V.str j)=(i==j):=by
 rw[Bool.eq_iff_iff];simp
def uw{i j:Array UInt8}:decide (V.byt i=V.byt j)=(i.toList==j.toList):=by
 rw[Bool.eq_iff_iff];cases i;cases j;simp
section
variable{X:Cx}{a b c:Expr}{ta tb tc:TE}{pos:Pos}
def zl{pins:List (Addr×Obj)}{O:St}{H:Hp}{s:Shared}{Q:VK}{k k':Bool}(I:Inv X pins O H s)(q:Q (.bl k) H)(e:k=k'):EP X pins O Q (.bool k') s:=by
 subst e;exact⟨.bl k,H,I,rfl,q⟩
def op_eq:OpR X (compareOp .Eq) rEq:=by
 intro pins s O H x y v u Q I rx ry h;obtain⟨hs,q⟩:=h;cases x with
 |non =>
  cases rx;cases y with
  |non=>cases ry;exact PySem.EqNone.eq_none_none (zl I q (by simp))|bl j=>cases ry;exact PySem.EqNone.eq_none_bool (zl I q (by simp))|int j=>obtain⟨t',rfl⟩:=ry;exact PySem.EqNone.eq_none_int (zl I q (by simp))|str j=>obtain⟨t',rfl⟩:=ry;exact PySem.EqNone.eq_none_str (zl I q (by simp))|_=>exact absurd (show false=true from hs) Bool.false_ne_true
 |bl i =>
  cases rx;cases y with
  |non=>cases ry;exact PySem.EqNone.eq_bool_none (zl I q (by simp))|bl j=>cases ry;exact eq_bool (zl I q zBJ)|str j=>obtain⟨t',rfl⟩:=ry;exact PySem.EqMixed.eq_bool_str (zl I q (by simp))|_=>exact absurd (show false=true from hs) Bool.false_ne_true
 |int i =>
  obtain⟨t,rfl⟩:=rx;cases y with
  |non=>cases ry;exact PySem.EqNone.eq_int_none (zl I q (by simp))|int j=>obtain⟨t',rfl⟩:=ry;exact eq_int (zl I q uu)|str j=>obtain⟨t',rfl⟩:=ry;exact PySem.EqMixed.eq_int_str (zl I q (by simp))|_=>exact absurd (show false=true from hs) Bool.false_ne_true
 |str i =>
  obtain⟨t,rfl⟩:=rx;cases y with
  |non=>cases ry;exact PySem.EqNone.eq_str_none (zl I q (by simp))|bl j=>cases ry;exact PySem.EqMixed.eq_str_bool (zl I q (by simp))|int j=>obtain⟨t',rfl⟩:=ry;exact PySem.EqMixed.eq_str_int (zl I q (by simp))|str j=>obtain⟨t',rfl⟩:=ry;exact eq_str (zl I q uv)|_=>exact absurd (show false=true from hs) Bool.false_ne_true
 |byt i =>
  obtain⟨t,rfl⟩:=rx;cases y with
  |byt j=>obtain⟨t',rfl⟩:=ry;exact PySem.W.eq_bytes (zl I q uw)|_=>exact absurd (show false=true from hs) Bool.false_ne_true
 |_=>cases y<;>exact absurd (show false=true from hs) Bool.false_ne_true
def op_ne:OpR X (compareOp .NotEq) rNe:=by
 intro pins s O H x y v u Q I rx ry h;obtain⟨hs,q⟩:=h;cases x with
 |non =>
  cases rx;cases y with
  |non=>cases ry;exact PySem.EqNone.ne_none_none (zl I q (by simp))|bl j=>cases ry;exact PySem.EqNone.ne_none_bool (zl I q (by simp))|int j=>obtain⟨t',rfl⟩:=ry;exact PySem.EqNone.ne_none_int (zl I q (by simp))|str j=>obtain⟨t',rfl⟩:=ry;exact PySem.EqNone.ne_none_str (zl I q (by simp))|_=>exact absurd (show false=true from hs) Bool.false_ne_true
 |bl i =>
  cases rx;cases y with
  |non=>cases ry;exact PySem.EqNone.ne_bool_none (zl I q (by simp))|bl j=>cases ry;exact ne_bool (zl I q (congrArg not zBJ))|str j=>obtain⟨t',rfl⟩:=ry;exact PySem.EqMixed.ne_bool_str (zl I q (by simp))|_=>exact absurd (show false=true from hs) Bool.false_ne_true
 |int i =>
  obtain⟨t,rfl⟩:=rx;cases y with
  |non=>cases ry;exact PySem.EqNone.ne_int_none (zl I q (by simp))|int j=>obtain⟨t',rfl⟩:=ry;exact ne_int (zl I q (congrArg not uu))|str j=>obtain⟨t',rfl⟩:=ry;exact PySem.EqMixed.ne_int_str (zl I q (by simp))|_=>exact absurd (show false=true from hs) Bool.false_ne_true
 |str i =>
  obtain⟨t,rfl⟩:=rx;cases y with
  |non=>cases ry;exact PySem.EqNone.ne_str_none (zl I q (by simp))|bl j=>cases ry;exact PySem.EqMixed.ne_str_bool (zl I q (by simp))|int j=>obtain⟨t',rfl⟩:=ry;exact PySem.EqMixed.ne_str_int (zl I q (by simp))|str j=>obtain⟨t',rfl⟩:=ry;exact ne_str (zl I q (congrArg not uv))|_=>exact absurd (show false=true from hs) Bool.false_ne_true
 |byt i =>
  obtain⟨t,rfl⟩:=rx;cases y with
  |byt j=>obtain⟨t',rfl⟩:=ry;exact PySem.W.ne_bytes (zl I q (congrArg not uw))|_=>exact absurd (show false=true from hs) Bool.false_ne_true
 |_=>cases y<;>exact absurd (show false=true from hs) Bool.false_ne_true
def op_lt:OpR X (compareOp .Lt) (rI0 λi j=>.bl (decide (i<j))):=opB0 λ_ _ _ _ _ _ _ q=>lt_int q
def op_le:OpR X (compareOp .LtE) (rI0 λi j=>.bl (decide (i<=j))):=opB0 λ_ _ _ _ _ _ _ q=>le_int q
def op_gt:OpR X (compareOp .Gt) (rI0 λi j=>.bl (decide (j<i))):=opB0 λ_ _ _ _ _ _ _ q=>gt_int q
def op_ge:OpR X (compareOp .GtE) (rI0 λi j=>.bl (decide (j<=i))):=opB0 λ_ _ _ _ _ _ _ q=>ge_int q
def OpR.or{f:Value->Value->Sem Value}{r r':R2}(h:OpR X f r)(h':OpR X f r'):OpR X f (λx y H Q=>r x y H Q\/r' x y H Q):=by
 intro pins s O H x y v u Q I rx ry q;rcases q with q|q
 ·exact h pins s O H x y v u Q I rx ry q
 ·exact h' pins s O H x y v u Q I rx ry q
def pe_cmpR{op:CmpOp}{r:R2}(ho:OpR X (compareOp op) r)(ha:PE X a ta)(hb:PE X b tb)(hm:behindInMarks op b=false):PE X (.Compare a [op] [b] pos) (tOp r ta tb):=by
 intro pins s O H Q I h;exact wpAny_Compare1 (binT ha hb I h λv u s2 x y H2 I2 rx ry q=>ho pins s2 O H2 x y v u Q I2 rx ry q) hm
def tTest(t:TE):TT:=λO H Q=>t O H λx H'=>∃k,x=.bl k/\Q k H'
def pt_cmpR{op:CmpOp}{r:R2}(ho:OpR X (compareOp op) r)(ha:PE X a ta)(hb:PE X b tb)(hm:behindInMarks op b=false):PT X (.Compare a [op] [b] pos) (tTest (tOp r ta tb)):=by
 intro pins s O H Q I h;refine wpAny_isTrue_Compare1 (thn (ha pins s O H _ I h) λv s1 ⟨x,H1,I1,r1,q1⟩=>thn (hb pins s1 O H1 _ I1 q1) λu s2 ⟨y,H2,I2,r2,q2⟩ =>
  thn (ho pins s2 O H2 x y v u _ I2 r1 r2 q2) λc s3 ⟨z,H3,I3,r3,k,e,q3⟩=>?_) hm
 subst e;cases r3;exact wpAny_truthy_bool ⟨H3,I3,q3⟩
def ux(r r':R2)(ta tb tc:TE):TE:=λO H Q=>ta O H λx H1=>tb O H1 λy H2=>r x y H2 λz H3=>∃k,z=.bl k /\
 (if k=true then tc O H3 λw' H4=>r' y w' H4 Q else Q (.bl false) H3)
def Qt{op op':CmpOp}{r r':R2}(ho:OpR X (compareOp op) r)(ho':OpR X (compareOp op') r')(ha:PE X a ta)(hb:PE X b tb)(hc:PE X c tc)
  (hm:lastMarks [op,op'] [b,c]=false:=by with_unfolding_all rfl):PE X (.Compare a [op,op'] [b,c] pos) (ux r r' ta tb tc):=by
 intro pins s O H Q I h;refine Compare_chain (thn (ha pins s O H _ I h) λv s1 ⟨x,H1,I1,r1,q1⟩=>chain_link (thn (hb pins s1 O H1 _ I1 q1) λu s2 ⟨y,H2,I2,r2,q2⟩ =>
  thn (ho pins s2 O H2 x y v u _ I2 r1 r2 q2) λd s3 ⟨z,H3,I3,r3,k,e,q3⟩=>?_)) hm
 subst e;cases r3;refine wpAny_truthy_bool ?_;cases k with
 |false=>exact ite_ff ⟨.bl false,H3,I3,rfl,q3⟩|true=>exact ite_tt (chain_last (thn (hc pins s3 O H3 _ I3 q3) λw' s4 ⟨z',H4,I4,r4,q4⟩=>ho' pins s4 O H4 y z' u w' Q I4 r2 r4 q4))
def Qu{op op':CmpOp}{r r':R2}(ho:OpR X (compareOp op) r)(ho':OpR X (compareOp op') r')(ha:PE X a ta)(hb:PE X b tb)(hc:PE X c tc)
  (hm:lastMarks [op,op'] [b,c]=false:=by with_unfolding_all rfl):PT X (.Compare a [op,op'] [b,c] pos) (tTest (ux r r' ta tb tc)):=by
 intro pins s O H Q I h;refine isTrue_chain (thn (ha pins s O H _ I h) λv s1 ⟨x,H1,I1,r1,q1⟩=>test_link (thn (hb pins s1 O H1 _ I1 q1) λu s2 ⟨y,H2,I2,r2,q2⟩ =>
  thn (ho pins s2 O H2 x y v u _ I2 r1 r2 q2) λd s3 ⟨z,H3,I3,r3,k,e,q3⟩=>?_)) hm
 subst e;cases r3;refine wpAny_truthy_bool ?_;cases k with
 |false =>
  obtain⟨k',e',q'⟩:=q3;cases e';exact ite_ff ⟨H3,I3,q'⟩
 |true =>
  refine ite_tt (test_last (thn (hc pins s3 O H3 _ I3 q3) λw' s4 ⟨z',H4,I4,r4,q4⟩=>thn (ho' pins s4 O H4 y z' u w' _ I4 r2 r4 q4) λd' s5 ⟨z2,H5,I5,r5,k2,e2,q5⟩=>?_));subst e2;cases r5;exact wpAny_truthy_bool ⟨H5,I5,q5⟩
def YE:(sizeLine:Nat)<2^63:=by rw[sizeLine_eq];decide
def uM:OpR X (binaryOp .Add) (λx y H Q=>∃i j,x=.str i/\y=.str j/\i.length+j.length<=sizeLine/\Q (.str (i++j)) H):=by
 intro pins s O H x y v u Q I rx ry h;obtain⟨i,j,rfl,rfl,hz,q⟩:=h;obtain⟨t,rfl⟩:=rx;obtain⟨t',rfl⟩:=ry;exact add_str (λt' tk=>⟨.str (i++j),H,I.tok _,⟨_,rfl⟩,q⟩) hz
def YF{x:V}{us:List Value}(r:zg [x] us):∃u,us=[u]/\zy x u:=by
 cases r with
 |cons r1 r2=>cases r2;exact⟨_,rfl,r1⟩
def vals2{x y:V}{us:List Value}(r:zg [x,y] us):∃u w',us=[u,w']/\zy x u/\zy y w':=by
 cases r with
 |cons r1 r2 =>
  cases r2 with
  |cons r3 r4=>cases r4;exact⟨_,_,rfl,r1,r3⟩
def uy(hc:X.calm=true):jQ X (.builtin "max") (λxs H Q=>∃i j,xs=[.int i,.int j]/\Q (.int (if j > i then j else i)) H):=by
 intro pins s O H xs us Q I r h;obtain⟨i,j,rfl,q⟩:=h;obtain⟨u,w',rfl,⟨t,rfl⟩,⟨t',rfl⟩⟩:=vals2 r;refine max_two_ints (I.ok.hd hc) λh' tk k=>⟨_,H,I.kept k,?_,q⟩
 by_cases hj:j > i
 ·rw[if_pos hj,if_pos hj];exact⟨_,rfl⟩
 ·rw[if_neg hj,if_neg hj];exact⟨_,rfl⟩
def uz:jQ X (.type "int") (λxs H Q=>(∃i,xs=[.int i]/\Q (.int i) H)\/∃k,xs=[.bl k]/\Q (.int (if k then 1 else 0)) H):=by
 intro pins s O H xs us Q I r h;rcases h with⟨i,rfl,q⟩|⟨k,rfl,q⟩
 ·obtain⟨u,rfl,t,rfl⟩:=YF r
  exact call_int_int ⟨.int i,H,I,⟨_,rfl⟩,q⟩
 ·obtain⟨u,rfl,r1⟩:=YF r
  cases r1;exact call_int_bool ⟨.int (if k then 1 else 0),H,I.tok _,⟨_,rfl⟩,q⟩
def WE:jQ X (.type "str") (λxs H Q=>∃i,xs=[.int i]/\i.natAbs.log2<1920/\Q (.str (toString i)) H):=by
 intro pins s O H xs us Q I r h;obtain⟨i,rfl,hz,q⟩:=h;obtain⟨u,rfl,t,rfl⟩:=YF r;exact PySem.P.str_of_int hz ⟨.str _,H,I.tok _,⟨_,rfl⟩,q⟩
end
structure ObjM(h:Heap)(x dx C:Addr)(mA:Str->Option Value):Prop where
 obj:h.get? x=some (instObj C dx)
 ns:h.Ns1 dx mA
 ne:dx≠x
structure Cls(K:PySem.W.Frag)(C:Addr):Prop where
 pg:plainGet K C Str.empty=true
 hd:PySem.W.hasDictIn K C=true
 po:PySem.W.plainOver K C=true
 sa:findIn K (.ref C) "__setattr__"=some (some (.builtin "object.__setattr__"))
def Cls.get{K:PySem.W.Frag}{C:Addr}(c:Cls K C)(f:Str):plainGet K C f=true:=c.pg
structure Con(K:PySem.W.Frag)(C:Addr)(f:Str)(v:V)(u:Value):Prop where
 at_:findIn K (.ref C) f=some (some u)
 rel:zy v u
 get:specialIn K u "__get__"=some none
 cp:PySem.W.copiedNames.contains f=false
structure Meth(K:PySem.W.Frag)(C:Addr)(m:Str)(f:Addr):Prop where
 at_:findIn K (.ref C) m=some (some (.ref f))
 fn:PySem.W.isFn K (.ref f)=true
 kp:keepIn K (.ref f)=true
section
variable{X:Cx}{pins:List (Addr×Obj)}{O:St}{H:Hp}{s:Shared}{a C dx:Addr}{fs:List (Str×V)}{f:Str}{v:V}{A:Around}{E:Value->Shared->Prop}
def Inv.made(I:Inv X pins O H s):Inv X pins O (upd (upd H s.heap.objs.size (.own (s.heap.objs.size+1))) (s.heap.objs.size+1) (.ins C s.heap.objs.size []))
  {s with heap:=(s.heap.push emptyDict).push (instObj C s.heap.objs.size)}:=by
 have e1:(s.heap.push emptyDict).get? s.heap.objs.size=some emptyDict:=get?_push_size s.heap rfl;have e2:((s.heap.push emptyDict).push (instObj C s.heap.objs.size)).get? (s.heap.objs.size+1)=some (instObj C s.heap.objs.size):=by
  have:=get?_push_size (s.heap.push emptyDict) (o:=instObj C s.heap.objs.size) rfl
  rwa [size_push]at this
 have e3:(s.heap.push emptyDict).Ns s.heap.objs.size (λ_=>none):=⟨emptyDict,#[],_,e1,rfl,(λe he=>absurd he (by simp)),λ_=>rfl⟩;have I1:=I.laid (a:=s.heap.objs.size) (o:=.own (s.heap.objs.size+1)) (h':=s.heap.push emptyDict) (t':=s.toks) (λb u q=>get?_push_of_some _ q) (le_refl _) ⟨_,e1⟩;refine I1.laid (a:=s.heap.objs.size+1) (o:=.ins C s.heap.objs.size []) (t':=s.toks) (λb u q=>get?_push_of_some _ q) (Nat.le_of_eq (size_push _ _)) ?_;have ne:s.heap.objs.size≠s.heap.objs.size+1:=ne_of_lt (Nat.lt_succ_self _);refine⟨by rw[zr ne,yc],zero_le _,ne,e2,λ_=>none,(Heap.Ns1.of_empty e3).at λo q=>get?_push_of_some _ q,λ_=>True.intro,λy hy=>absurd rfl hy⟩
end
section
variable{X:Cx}{pins:List (Addr×Obj)}{O:St}{H:Hp}{s:Shared}{A:Around}{E:Value->Shared->Prop}{Q:Value->Shared->Prop}{c:Value}{b:Bool}
inductive TyOf(K:PySem.W.Frag)(H:Hp):V->Value->Prop where
 |non:TyOf K H .non (.type "NoneType")
 |bl (x:Bool):TyOf K H (.bl x) (.type "bool")
 |int (i:Int):TyOf K H (.int i) (.type "int")
 |str (x:Str):TyOf K H (.str x) (.type "str")
 |flt (x:UInt64):TyOf K H (.flt x) (.type "float")
 |l {a:Addr} {xs:List V} (e:H a=some (.l xs)):TyOf K H (.ref a) (.type "list")
 |frz {a:Addr} {o:Obj} {xs:List V} (e:H a=some (.frz o (.l xs))):TyOf K H (.ref a) (.type "list")
 |t {a:Addr} {xs:List V} (e:H a=some (.t xs)):TyOf K H (.ref a) (.type "tuple")
 |dK {a:Addr} {kvs:List (Key×V)} (e:H a=some (.dK kvs)):TyOf K H (.ref a) (.type "dict")
 |dT {a:Addr} {kvs:List (List Key×V)} (e:H a=some (.dT kvs)):TyOf K H (.ref a) (.type "dict")
 |ins {a C dx:Addr} {fs:List (Str×V)} (e:H a=some (.ins C dx fs)) (cl:Cls K C) (ha:findIn K (.ref C) "__class__"=some (some (.builtin "object.__class__")))
   (hn:specialIn K (.builtin "object.__class__") "__get__"=some (some (.builtin "getset_descriptor.__get__"))) (htk:takesIn K (.builtin "object.__class__")=some true)
   (hm:mroIn K C (.type "object")=some true):TyOf K H (.ref a) (.ref C)
end
structure Room(k:Nat)(A:Around):Prop where
 hd:A.handled=none
 gd:A.guards=some []
 dp:A.depth+3*k+5<recursionLimit
 un:A.units+16*k+200<cLine
def Room.mono{j k:Nat}{A:Around}(r:Room k A)(h:j<=k):Room j A:=⟨r.hd,r.gd,by have:=r.dp;omega,by have:=r.un;omega⟩
theorem Room.deeper{k:Nat}{A:Around}(r:Room (k+1) A)(env:Env):Room k (A.deeper env) :=
 ⟨r.hd,r.gd,by have:=r.dp;show A.depth+1+3*k+5<_;omega,by have:=r.un;show A.units+3+16*k+200<_;omega⟩
theorem Room.in1{k:Nat}{A:Around}(r:Room (k+1) A):Room k A.in1 :=
 ⟨r.hd,r.gd,by have:=r.dp;show A.depth+3*k+5<_;omega,by have:=r.un;show A.units+1+16*k+200<_;omega⟩
theorem Room.depth{k:Nat}{A:Around}(r:Room k A):A.depth<recursionLimit:=by have:=r.dp;omega
theorem Room.units{k:Nat}{A:Around}(r:Room k A):A.units+64<cLine:=by have:=r.un;omega
def tNil:TA:=λ_ H Q=>Q [] H
def W2(ta:TE)(tr:TA):TA:=λO H Q=>ta O H λx H1=>tr O H1 λxs H2=>Q (x::xs) H2
section
variable{X:Cx}{e:Expr}{es:List Expr}{te:TE}{t:TA}{pos:Pos}
def jg:PA X [] tNil:=λ_ _ _ _ H Q I h=>Calls.spliced_nil ⟨[],H,I,.nil,h⟩
def yK(ha:PE X e te)(hr:PA X es t)(hs:starEach (e::es) X.env=(false,eval e X.env)::starEach es X.env:=by rfl):PA X (e::es) (W2 te t):=by
 intro pos pins s O H Q I h;rw[hs];show wpAny _ _ (spliced ((false,eval e X.env)::backTo pos (starEach es X.env))) _ _ s;refine Calls.spliced_cons (thn (ha pins s O H _ I h) λu s1 ⟨x,H1,I1,r1,q1⟩=>?_);exact thn (hr pos pins s1 O H1 _ I1 q1) λus s2 ⟨xs,H2,I2,r2,q2⟩=>⟨x::xs,H2,I2,.cons r1 r2,q2⟩
def tTup(t:TA):TE:=λO H Q=>t O H λxs H1=>xs.length<=sizeLine/\∀p,H1 p=none->Q (.ref p) (upd H1 p (.t xs))
def tLst(t:TA):TE:=λO H Q=>t O H λxs H1=>xs.length<=sizeLine/\∀p,H1 p=none->Q (.ref p) (upd H1 p (.l xs))
def pe_tup{x1}(h:PA X es t):PE X (.Tuple es x1 pos) (tTup t):=by
 intro pins s O H Q I hq;refine wpAny_Tuple_spliced (thn (h pos pins s O H _ I hq) λus s1 ⟨xs,H1,I1,r,z,q⟩=>⟨by rw[<- r.length];exact z,?_⟩);have hf:H1 s1.heap.objs.size=none:=I1.hok.fresh (le_refl _);refine⟨.ref s1.heap.objs.size,upd H1 s1.heap.objs.size (.t xs),I1.laid (t':=s1.toks) (λb u e=>get?_push_of_some _ e) (le_refl _) ?_,rfl,q _ hf⟩;exact⟨z,us,r,⟨_,get?_push_size _ rfl,rfl,_,rfl⟩⟩
def pe_lst(h:PA X es t):PE X (.List es pos) (tLst t):=by
 intro pins s O H Q I hq;refine wpAny_List_spliced (thn (h pos pins s O H _ I hq) λus s1 ⟨xs,H1,I1,r,z,q⟩=>⟨by rw[<- r.length];exact z,?_⟩);have hf:H1 s1.heap.objs.size=none:=I1.hok.fresh (le_refl _);refine⟨.ref s1.heap.objs.size,upd H1 s1.heap.objs.size (.l xs),I1.laid (t':=s1.toks) (λb u e=>get?_push_of_some _ e) (le_refl _) ?_,rfl,q _ hf⟩;exact⟨z,us,0,r,get?_push_size _ rfl⟩
end
abbrev Sp:=List V->Hp->VK->XK->Prop
abbrev CXT:=List Env->Hp->Shared->XK->Value->Shared->Prop
structure Env0(P:Program)(w:World)(K:PySem.W.Frag)(mg:Str->Option Value)(base:Heap)(A:Around)(outer:List Env)(s:Shared)(H:Hp):Prop where
 frames:A.frames=some outer
 mod:Mod K mg base
 bs:∀b o,base.get? b=some o->s.heap.get? b=some o/\H b=none
 bsz:base.objs.size<=s.heap.objs.size
 funs:s.heap.FunFrames base outer
 frf:∀b∈frs outer,H b=none
 hok:HOk P w H s.heap
 bare:AllBare s.gens
def CE(outer:List Env)(P:Program)(w:World)(H:Hp)(s:Shared)(Q:VK)(u:Value)(s':Shared):Prop :=
 ∃v H',s'.os=s.os/\AllBare s'.gens/\Un (frs outer) [] H H' s.heap s'.heap/\HOk P w H' s'.heap/\zy v u/\Q v H'
def CR(CX:CXT)(outer:List Env)(P:Program)(w:World)(H:Hp)(s:Shared)(Q:VK)(E:XK)(r:Result)(s':Shared):Prop :=
 match r with
 | .ok (.ret u)=>CE outer P w H s Q u s'| .ok _=>False| .error e=>CX outer H s E e s'
structure FnOk(P:Program)(w:World)(K:PySem.W.Frag)(mg:Str->Option Value)(base:Heap)(CX:CXT)(k:Nat)(f:Addr)(fd:FuncData)(ps:List Str)(sp:Sp):Prop where
 len:∀vs H Q E,sp vs H Q E->vs.length=ps.length
 run:∀(A:Around) (outer:List Env) (s:Shared) (H:Hp) (args:Args) (us:List Value) (vs:List V) (Q:VK) (E:XK),Room k A->Env0 P w K mg base A outer s H->BindsTo s fd args (ps.zip us)->zg vs us->sp vs H Q E ->
  codeAny (model P w) A (.call (.ref f) args) (CR CX outer P w H s Q E) s
theorem FnOk.mono{P:Program}{w:World}{K:PySem.W.Frag}{mg:Str->Option Value}{base:Heap}{CX:CXT}{j k:Nat}{f:Addr}{fd:FuncData}{ps:List Str}{sp:Sp}(F:FnOk P w K mg base CX j f fd ps sp)(h:j<=k) :
  FnOk P w K mg base CX k f fd ps sp:=⟨F.len,λA outer s H args us vs Q E hr=>F.run A outer s H args us vs Q E (hr.mono h)⟩
def FnOk.imp{P:Program}{w:World}{K:PySem.W.Frag}{mg:Str->Option Value}{base:Heap}{CX:CXT}{k:Nat}{f:Addr}{fd:FuncData}{ps:List Str}{sp sp':Sp}(F:FnOk P w K mg base CX k f fd ps sp)
  (h:∀vs H Q E,sp' vs H Q E->sp vs H Q E):FnOk P w K mg base CX k f fd ps sp' :=
 ⟨λvs H Q E q=>F.len vs H Q E (h _ _ _ _ q),λA outer s H args us vs Q E hr he hb hv hs=>F.run A outer s H args us vs Q E hr he hb hv (h _ _ _ _ hs)⟩
theorem Env0.in1{P:Program}{w:World}{K:PySem.W.Frag}{mg:Str->Option Value}{base:Heap}{A:Around}{outer:List Env}{s:Shared}{H:Hp}(e:Env0 P w K mg base A outer s H) :
  Env0 P w K mg base A.in1 outer s H:=⟨e.frames,e.mod,e.bs,e.bsz,e.funs,e.frf,e.hok,e.bare⟩
section
variable{X:Cx}{pins:List (Addr×Obj)}{O:St}{H:Hp}{s s':Shared}
def Inv.env0(I:Inv X pins O H s):Env0 X.prog X.w X.K X.mg X.base X.A X.stack s H :=
 ⟨I.ok.frames,I.ok.mod,I.bs,le_trans I.ok.bsz I.sz,I.stack,I.stkFree,I.hok,I.bare⟩
def Inv.after{Q:VK}{u:Value}(I:Inv X pins O H s)(h:CE X.stack X.prog X.w H s Q u s'):EP X pins O Q u s':=by
 obtain⟨v,H',os,bare,un,hok,r,q⟩:=h;obtain⟨hh,g,d,t,os'⟩:=s';obtain rfl:os'=s.os:=os;exact⟨v,H',I.call (h':=hh) (g':=g) (d':=d) (t':=t) (ch:=[]) un hok bare (λb z=>absurd z (by simp)),r,q⟩
end
def YG(K:PySem.W.Frag)(fd:FuncData)(ps:List Str)(ds:List Value):Prop :=
 ∀(s:Shared) (us:List Value),K.In s.heap->(us++ds).length=ps.length->BindsTo s fd ⟨us,[]⟩ (ps.zip (us++ds))
def YG.all{K:PySem.W.Frag}{fd:FuncData}{ps:List Str}(h:∀us:List Value,us.length=ps.length->bindArgs fd ⟨us,[]⟩=pure (ps.zip us)):YG K fd ps []:=λs us _ hl=>by
 rw[append_nil]at hl ⊢;exact .of_eq (h us hl)
section
variable{X:Cx}{CX:CXT}{k:Nat}{f C:Addr}{fd:FuncData}{ps:List Str}{sp:Sp}{dvs:List V}{ds:List Value}{E:XK}{x m:Str}{p pos apos:Pos}{e o:Expr}{es:List Expr}{ta:TE}{t:TA}
structure Mk(K:PySem.W.Frag)(C f:Addr):Prop where
 makes:PySem.W.makesIn K C=true
 init:findIn K (.ref C) "__init__"=some (some (.ref f))
 fn:PySem.W.isFn K (.ref f)=true
 kp:keepIn K (.ref C)=true
end
section
variable{X:Cx}{CX:CXT}{k:Nat}{f C:Addr}{fd:FuncData}{ps ks:List Str}{sp:Sp}{E:XK}{x m:Str}{p pos apos kpos:Pos}{e o:Expr}{es:List Expr}{kws:List Keyword}{te ta:TE}{t tk:TA}{nm:Option Str}
structure KBinds(K:PySem.W.Frag)(fd:FuncData)(ps ks:List Str)(g:List Value->List Value->List Value)(gV:List V->List V->List V):Prop where
 to:∀(s:Shared) (us ws:List Value),K.In s.heap->(g us ws).length=ps.length->BindsTo s fd ⟨us,ks.zip ws⟩ (ps.zip (g us ws))
 rel:∀{vs:List V} {us:List Value} {zs:List V} {ws:List Value},zg vs us->zg zs ws->zg (gV vs zs) (g us ws)
variable{g:List Value->List Value->List Value}{gV:List V->List V->List V}
end
structure FnScope(N P:List Str)(sc:Scope):Prop where
 kind:sc.kind=.function
 co:sc.isCoroutine=false
 gen:sc.isGenerator=false
 nd:N.Nodup
 pre:N.take P.length=P
 par:∀x∈P,sc.names.lookup x=some .local\/sc.names.lookup x=some .cell
 nofree:∀y∈sc.names,y.2≠.free
theorem WF{kindOf:Str->Option NameKind}{x:Str}:∀{binds:List (Str×Value)} {m:Str->Option Value},(∀v,(x,v)∉binds)->bindL kindOf binds m x=m x
 | [],_,_=>rfl
 | (n,v)::r,m,h=>by
  unfold bindL;rw[WF λw hw=>h w (mem_cons_of_mem _ hw)];split
  ·have:x≠n:=by rintro rfl;exact h v mem_cons_self
   simp[this]
  ·rfl
theorem WG{kindOf:Str->Option NameKind}{x:Str}:∀{binds:List (Str×Value)} {m:Str->Option Value},(∀v,(x,v)∉binds)->bindC kindOf binds m x=m x
 | [],_,_=>rfl
 | (n,v)::r,m,h=>by
  unfold bindC;rw[WG λw hw=>h w (mem_cons_of_mem _ hw)];split
  ·rfl
  ·have:x≠n:=by rintro rfl;exact h v mem_cons_self
   simp[this]
theorem WH{kindOf:Str->Option NameKind}{x:Str}{v:Value}:∀{P:List Str} {vs:List Value} {i:Nat} {m:Str->Option Value},P.Nodup->P[i]?=some x->vs[i]?=some v->kindOf x=some .local ->
  bindL kindOf (P.zip vs) m x=some v
 | [],_,_,_,_,h,_,_=>by simp at h|_::_,[],_,_,_,_,h,_=>by simp at h
 |p::P,w::vs,0,m,nd,h1,h2,hk=>by
  simp at h1 h2;subst h1;subst h2
  show bindL kindOf ((p,w)::P.zip vs) m p=_
  unfold bindL;rw[WF λv hv=>(nodup_cons.mp nd).1 (of_mem_zip hv).1,if_pos hk];simp
 |p::P,w::vs,i+1,m,nd,h1,h2,hk=>by
  show bindL kindOf ((p,w)::P.zip vs) m x=_
  unfold bindL;exact WH (i:=i) (nodup_cons.mp nd).2 (by simpa using h1) (by simpa using h2) hk
theorem WI{kindOf:Str->Option NameKind}{x:Str}{v:Value}:∀{P:List Str} {vs:List Value} {i:Nat} {m:Str->Option Value},P.Nodup->P[i]?=some x->vs[i]?=some v->kindOf x≠some .local ->
  bindC kindOf (P.zip vs) m x=some v
 | [],_,_,_,_,h,_,_=>by simp at h|_::_,[],_,_,_,_,h,_=>by simp at h
 |p::P,w::vs,0,m,nd,h1,h2,hk=>by
  simp at h1 h2;subst h1;subst h2
  show bindC kindOf ((p,w)::P.zip vs) m p=_
  unfold bindC;rw[WG λv hv=>(nodup_cons.mp nd).1 (of_mem_zip hv).1,if_neg hk];simp
 |p::P,w::vs,i+1,m,nd,h1,h2,hk=>by
  show bindC kindOf ((p,w)::P.zip vs) m x=_
  unfold bindC;exact WI (i:=i) (nodup_cons.mp nd).2 (by simpa using h1) (by simpa using h2) hk
def jE(N:List Str)(vs:List V):St:=vs.map some++replicate (N.length-vs.length) none
def Qv(CX:CXT)(P:Program)(w:World)(K:PySem.W.Frag)(mg:Str->Option Value)(base:Heap)(N:List Str)(qual:Str)(scope:Scope)(f:Addr)(cd:Value)(A:Around)(outer:List Env)(s:Shared)(H:Hp)(E:XK):Cx where
 prog:=P
 w:=w
 K:=K
 mg:=mg
 base:=base
 A:=A.deeper (envOfC qual scope s.heap.objs.size f cd)
 N:=N
 s₀:=s
 H₀:=H
 env:=envOfC qual scope s.heap.objs.size f cd
 outer:=outer
 stack:=envOfC qual scope s.heap.objs.size f cd::outer
 ex:=[]
 calm:=true
 fn:=λ_=>true
 pn:=[]
 xe:=λe s'=>wpAny (model P w) (A.deeper (envOfC qual scope s.heap.objs.size f cd)) (leaving (envOfC qual scope s.heap.objs.size f cd) e) (λ_ s''=>CX outer H s E e s'') (λe' s''=>CX outer H s E e' s'') s'
def vY{sc:Scope}{n:Nat}{x:Str}(h:sc.names.lookup x=some .cell):∃c,(cellsFrom n sc.names []).lookup x=some c:=by
 have q:=cellsFrom_some sc.names n [] (.inl h);exact Option.isSome_iff_exists.mp q
def WJ{CX:CXT}{P:Program}{w:World}{K:PySem.W.Frag}{mg:Str->Option Value}{base:Heap}{N ps:List Str}{qual:Str}{scope:Scope}{f:Addr}{cd:Value}{A:Around}{outer:List Env}{s s1:Shared}{H:Hp}{E:XK}{us:List Value}{vs:List V}
  (S:FnScope N ps scope) (hd:A.handled=none) (e0:Env0 P w K mg base A outer s H) (hl:vs.length=ps.length) (r:zg vs us)
  (x:InCallC s s.heap.objs.size (bindL (envOfC qual scope s.heap.objs.size f cd).kindOf (ps.zip us) λ_=>none) (cellsFrom (s.heap.objs.size+1) scope.names []) (bindC (envOfC qual scope s.heap.objs.size f cd).kindOf (ps.zip us) λ_=>none) s1) :
  Inv (Qv CX P w K mg base N qual scope f cd A outer s H E) [] (jE N vs) H s1:=by
 have hpl:ps.length<=N.length:=by have:=congrArg length S.pre;rw[List.length_take]at this;omega
 obtain⟨h1,tk,rfl,hk⟩:=x.done;have noA:∀b:Addr,b∉(Qv CX P w K mg base N qual scope f cd A outer s H E).ex:=λb z=>absurd (show b∈([]:List Addr)from z) (by simp)
 refine⟨⟨e0.mod,S.kind,rfl,rfl,le_refl _,λy z c h1 h2=>?_,λy hy=>?_,λy c _ h=>?_,λ_=>hd,Around.frames_deeper e0.frames,.inr ⟨rfl,rfl⟩,λb z=>absurd z (noA b),e0.bs,e0.bsz,λb _ _=>noA b,λb z=>absurd z (noA b),e0.funs,e0.frf⟩,
  rfl,e0.bare,Un.kept hk,⟨_,x.toInCall.ns,λi y v h1 h2 h3=>?_⟩,λy c h=>⟨_,x.cell y c h⟩,e0.hok.fresh (le_refl _),λy c h=>?_,λp hp=>absurd (show p∈([]:List (Addr×Obj))from hp) (by simp),e0.hok.kept hk,?_⟩
 ·exact name_of_addr x.apart (PySem.mem_of_lookup h1) (PySem.mem_of_lookup h2)
 ·have hy:scope.names.lookup y=some .cell\/scope.names.lookup y=some .free:=hy
  rcases hy with hy|hy
  ·exact vY hy
  ·exact absurd rfl (S.nofree _ (PySem.mem_of_lookup hy))
 ·exact Nat.le_of_lt (x.above y c (PySem.mem_of_lookup h))
 ·have hi:i<vs.length:=by
   unfold jE at h2;by_cases hi:i<vs.length
   ·exact hi
   ·rw[List.getElem?_append_right (by simpa using hi)]at h2
    rw[List.getElem?_replicate]at h2;split at h2<;>cases h2
  have ha:vs[i]?=some v:=by
   unfold jE at h2;rw[List.getElem?_append_left (by simpa using hi),List.getElem?_map]at h2;cases e:vs[i]? with
   |none=>rw[e]at h2;cases h2|some a=>rw[e]at h2;cases h2;rfl
  obtain⟨u,hu,rv⟩:=r.get ha;have hp:ps[i]?=some y:=by
   rw[<- S.pre,List.getElem?_take_of_lt (by omega)];exact h1
  have ndP:ps.Nodup:=by rw[<- S.pre];exact S.nd.sublist (List.take_sublist _ _)
  refine⟨u,rv,?_⟩;rcases S.par y (mem_of_getElem? hp)with k|k
  ·exact .inl ⟨k,WH ndP hp hu k⟩
  ·obtain⟨c,e⟩:=vY (n:=s.heap.objs.size+1) k
   refine .inr ⟨.inl k,c,e,?_⟩;have q:=x.cell y c e;rw[WI ndP hp hu (by show scope.names.lookup y≠_;rw[k];decide)]at q;exact q
 ·exact e0.hok.fresh (Nat.le_of_lt (x.above y c (PySem.mem_of_lookup h)))
 ·unfold jE
  show _=N.length
  rw[length_append,length_map,List.length_replicate];omega
def fn_of{CX:CXT}{P:Program}{w:World}{K:PySem.W.Frag}{mg:Str->Option Value}{base:Heap}{k:Nat}{f:Addr}{name qual:Str}{params:Arguments}{body:List Stmt}{scope:Scope}{dV kV doc pm cdv ct oc:Value}{an od:Option Addr}
  {osl:Array (Option Value)} {N ps:List Str} {sp:Sp} (lk:K.lookup f=some ⟨oc,od,.func (fnOf name qual params body scope dV kV doc pm an cdv ct),osl⟩) (hcd:codeIn K cdv qual=true) (S:FnScope N ps scope)
  (len:∀vs H Q E,sp vs H Q E->vs.length=ps.length)
  (hbody:∀(A:Around) (outer:List Env) (s:Shared) (H:Hp) (vs:List V) (Q:VK) (E:XK),Room k (A.deeper (envOfC qual scope s.heap.objs.size f cdv))->sp vs H Q E ->
   ∃t,PSs (Qv CX P w K mg base N qual scope f cdv A outer s H E) body t/\t {nx:=λ_ H'=>Q .non H',rt:=Q} (jE N vs) H) :
  FnOk P w K mg base CX (k+1) f (fnOf name qual params body scope dV kV doc pm an cdv ct) ps sp:=by
 refine⟨len,λA outer s H args us vs Q E hr e0 hb r hsp=>?_⟩;have hl:=len _ _ _ _ hsp;have KX:K.In s.heap:=e0.mod.kin.keeps λb o e=>(e0.bs b o e).1
 have lim:s.heap.NoLimit:=e0.mod.nolimit.keeps λb o e=>(e0.bs b o e).1
 have hkind:∀y∈ps.zip us,scope.names.lookup y.1=some .local\/(scope.names.lookup y.1=some .cell/\((cellsFrom (s.heap.objs.size+1) scope.names []).lookup y.1).isSome=true):=λ⟨n,v⟩ hy=>by
  rcases S.par n (of_mem_zip hy).1 with q|q
  ·exact .inl q
  ·exact .inr ⟨q,cellsFrom_some _ _ _ (.inl q)⟩
 refine codeAny_call_function hr.depth (KX _ _ lk) rfl S.co S.gen rfl (codeRec_of KX hcd) (hb _ _ _ _ ?_);refine wpAny_newFunctionEnv_cells S.kind hkind λenv he s1 x=>?_
 subst he;refine⟨lim.keeps x.toInCall.keep,codeAny_func ?_⟩;obtain⟨t,ht,hq⟩:=hbody A outer s H vs Q E (hr.deeper _) hsp;have I:Inv (Qv CX P w K mg base N qual scope f cdv A outer s H E) [] (jE N vs) H s1:=WJ S hr.hd e0 hl r x;refine wpAny_mono (ht [] s1 (jE N vs) H _ I hq) (λfl s' hs=>?_) λe s' hs=>hs
 have fin:∀{O':St} {H':Hp} {v:V} {u:Value},Inv (Qv CX P w K mg base N qual scope f cdv A outer s H E) [] O' H' s'->zy v u->Q v H'->CE outer P w H s Q u s' :=
  λ{O' H' v u} J rv q=>⟨v,H',J.os,J.bare,J.base,J.hok,rv,q⟩
 cases fl with
 |ret u =>
  obtain⟨v,O',H',J,rv,q⟩:=hs;exact fin J rv q
 |next =>
  obtain⟨O',H',J,q⟩:=hs;exact fin (v:=V.non) (u:=Value.none) J rfl q
 |brk =>
  obtain⟨_,_,_,q⟩:=hs;exact False.elim q
 |cont =>
  obtain⟨_,_,_,q⟩:=hs;exact False.elim q
section
variable{X:Cx}{x:Str}{p pos:Pos}{e:Expr}{es:List Expr}{t:TA}{id T:String}{r:List V->Hp->VK->Prop}
def tCB(r:List V->Hp->VK->Prop)(t:TA):TE:=λO H Q=>t O H λvs H1=>r vs H1 Q
def wg(hc:jQ X (.builtin id) r)(hg:Gl X x)(hm:X.mg x=none)(hv:bootBuiltins x=some (.builtin id))(ha:PA X (e::es) t)(hn:x≠"__name__":=by decide)(hdb:(x==("__debug__":Str))=false:=by decide)
  (he:starEach (e::es) X.env=(false,eval e X.env)::starEach es X.env:=by rfl) (hpl:(backTo pos (starEach es X.env)).any (·.1)=false:=by rfl):PE X (.Call (.Name x p) (e::es) [] pos) (tCB r t):=by
 intro pins s O H Q I h;refine wpAny_Call_Name_kw (vX I hg hm hv ?_ hn hdb);exact PyProof.Rows.callWith_builtin1 (thn (ha pos pins s O H _ I h) λus s1 ⟨vs,H1,I1,r1,q1⟩=>hc pins s1 O H1 vs us Q I1 r1 q1) he hpl
def u7(hc:jQ X (.type T) r)(hg:Gl X x)(hm:X.mg x=none)(hv:bootBuiltins x=some (.type T))(ha:PA X (e::es) t)(hn:x≠"__name__":=by decide)(hdb:(x==("__debug__":Str))=false:=by decide)
  (he:starEach (e::es) X.env=(false,eval e X.env)::starEach es X.env:=by rfl) (hpl:(backTo pos (starEach es X.env)).any (·.1)=false:=by rfl):PE X (.Call (.Name x p) (e::es) [] pos) (tCB r t):=by
 intro pins s O H Q I h;refine wpAny_Call_Name_kw (vX I hg hm hv ?_ hn hdb);exact PyProof.Rows.callWith_type1 (thn (ha pos pins s O H _ I h) λus s1 ⟨vs,H1,I1,r1,q1⟩=>hc pins s1 O H1 vs us Q I1 r1 q1) he hpl
end
end L2
namespace HT
open PySem PyProof.Rows
section
variable{prog:Program}{w:World}{A:Around}{E:Value->Shared->Prop}{s:Shared}
def cat_tup{t b:Addr}{vs ws:List Value}{Q:Value->Shared->Prop}(ht:IsTup s.heap t vs.toArray)(hb:IsTup s.heap b ws.toArray)(hv:vs≠[])
  (h1:ws=[]->Q (.ref t) s) (h2:ws≠[]->Q (.ref s.heap.objs.size) {s with heap:=s.heap.push {cls:=.type "tuple",data:=.seq (vs++ws).toArray}})
  (hsz:vs.length+ws.length<=sizeLine):wpAny (model prog w) A (binaryOp .Add (.ref t) (.ref b)) Q E s:=by
 obtain⟨⟨cls,dd,data,sl⟩,ho,hc,n,hd⟩:=id ht;obtain⟨⟨cls2,dd2,data2,sl2⟩,ho2,hc2,n2,hd2⟩:=id hb;simp only at hc hd hc2 hd2;subst hc hd hc2 hd2;have e:vs.toArray++ws.toArray=(vs++ws).toArray:=by simp
 by_cases hw:ws=[]
 ·exact concat_meets ⟨_,ho,rfl⟩ ⟨_,ho2,rfl⟩ noFill_tuple_add seq_tuple_add PySem.F.slot_tuple_add PySem.F.entry_tuple_add (PySem.F.args_tuple_add_2 _ _)
   (tuple_addW1 t b vs.toArray ws.toArray n n2 dd dd2 sl sl2 (by simpa using hv) (by simp[hw])) ⟨ho,ho2,h1 hw⟩
 ·refine concat_meets ⟨_,ho,rfl⟩ ⟨_,ho2,rfl⟩ noFill_tuple_add seq_tuple_add PySem.F.slot_tuple_add PySem.F.entry_tuple_add (PySem.F.args_tuple_add_2 _ _)
   (tuple_addW2 t b vs.toArray ws.toArray n n2 dd dd2 sl sl2 (by simpa using hv) (by simpa using hw) (by rw[size_toArray,size_toArray];exact hsz)) ⟨ho,ho2,?_⟩
  rw[e];exact h2 hw
def sIx(n d:Nat):Option Int->Nat
 |none=>d|some v=>if v<0 then(v+(n:Int)).toNat else min v.toNat n
def sIx_nat(n d k:Nat):sIx n d (some (k:Int))=min k n:=by
 show(if(k:Int)<0 then((k:Int)+(n:Int)).toNat else min (k:Int).toNat n)=min k n
 rw[if_neg (by omega),Int.toNat_natCast]
def sIx_le(n d:Nat)(hd:d<=n)(o:Option Int):sIx n d o<=n:=by
 cases o with
 |none=>exact hd
 |some v =>
  show(if v<0 then(v+(n:Int)).toNat else min v.toNat n)<=n
  by_cases hv:v<0
  ·rw[if_pos hv];omega
  ·rw[if_neg hv];exact Nat.min_le_right _ _
def u8(v:Int)(n d:Nat):(if v<0 then max (v+(n:Int)) 0 else min v (n:Int))=((sIx n d (some v):Nat):Int):=by
 show(if v<0 then max (v+(n:Int)) 0 else min v (n:Int))=(((if v<0 then(v+(n:Int)).toNat else min v.toNat n):Nat):Int)
 by_cases hv:v<0
 ·simp only[if_pos hv];omega
 ·simp only[if_neg hv];omega
def uN(lo hi:Option Int)(n:Nat):Builtin.Slice.sliceAdjust lo hi 1 (n:Int)=(((sIx n 0 lo:Nat):Int),((sIx n n hi:Nat):Int)):=by
 have h1:¬((1:Int)<0):=by omega
 unfold Builtin.Slice.sliceAdjust;simp only[h1,if_false];refine Prod.ext ?_ ?_
 ·cases lo with
  |none=>rfl|some v=>exact u8 v n 0
 ·cases hi with
  |none=>rfl|some v=>exact u8 v n n
def uO(i j:Nat):Builtin.Slice.slicePlaces (i:Int) (j:Int) 1=j-i:=by
 unfold Builtin.Slice.slicePlaces;have h1:(1:Int) > 0:=by omega
 simp only[h1,if_true,Int.ediv_one];split<;>omega
def ZF{v:Value}{o:Option Int}{Q:Option Int->Shared->Prop}(p:IsPart v o)(h:Q o s):wpAny (model prog w) A (Builtin.Slice.slicePartIndex v) Q E s:=by
 cases p with
 |none=>exact slicePart_none h|int i t=>exact slicePart_int h
def sliceApplied_gen{sl:Addr}{vl vu:Value}{lo hi:Option Int}{n:Nat}{Q:Int×Int×Nat->Shared->Prop}(hs:s.heap.IsSliceOf sl vl vu .none)(pl:IsPart vl lo)(pu:IsPart vu hi)
  (h:Q (((sIx n 0 lo:Nat):Int),1,sIx n n hi-sIx n 0 lo) s):wpAny (model prog w) A (Builtin.Slice.sliceApplied (.ref sl) (pure (n:Int))) Q E s:=by
 obtain⟨os,hos,hcs,hds⟩:=id hs;unfold Builtin.Slice.sliceApplied Builtin.Slice.sliceFields;refine wpAny_bind (wpAny_bind (wpAny_field hos hds (x:=vl) rfl (wpAny_bind (wpAny_field hos hds (x:=vu) rfl (wpAny_bind (wpAny_field hos hds (x:=.none) rfl (wpAny_pure ?_)))))));refine wpAny_bind (slicePart_none ?_);show wpAny _ _ (if((1:Int)==0)=true then _ else _) _ _ s;rw[if_neg (by decide)];refine wpAny_bind (ZF pl (wpAny_bind (ZF pu (wpAny_bind (wpAny_pure ?_)))));show wpAny _ _ (match Builtin.Slice.sliceAdjust lo hi 1 (n:Int)with|(lo,hi)=>pure (lo,(1:Int),Builtin.Slice.slicePlaces lo hi 1)) _ _ s
 rw[uN lo hi n];show wpAny _ _ (pure (((sIx n 0 lo:Nat):Int),(1:Int),Builtin.Slice.slicePlaces ((sIx n 0 lo:Nat):Int) ((sIx n n hi:Nat):Int) 1)) _ _ s;rw[uO];exact wpAny_pure h
def Qw(xs:Array Value)(i k:Nat):((List.range k).filterMap λ(m:Nat)=>xs[((i:Int)+(m:Int)*1).toNat]?).toArray=((xs.toList.drop i).take k).toArray:=by
 have e:(λ(m:Nat)=>xs[((i:Int)+(m:Int)*1).toNat]?)=λm=>xs[i+m]?:=by
  funext m
  have:((i:Int)+(m:Int)*1).toNat=i+m:=by omega
  rw[this]
 rw[e];have:=pick_run xs i k;rw[List.filterMap_map]at this;have e2:((λx=>xs[x]?) ∘ λx=>i+x)=λm=>xs[i+m]?:=rfl
 rw[e2]at this;rw[this]
def getItem_tuple_cut{t sl:Addr}{items:Array Value}{vl vu:Value}{lo hi:Option Int}{Q:Value->Shared->Prop}(ht:IsTup s.heap t items)(hs:s.heap.IsSliceOf sl vl vu .none)(pl:IsPart vl lo)(pu:IsPart vu hi)
  (hw:¬(sIx items.size 0 lo=0/\sIx items.size items.size hi=items.size))
  (h:Q (.ref s.heap.objs.size) {s with heap:=s.heap.push {cls:=.type "tuple",data:=.seq ((items.toList.drop (sIx items.size 0 lo)).take (sIx items.size items.size hi-sIx items.size 0 lo)).toArray}})
  (hsz:items.size<=sizeLine):wpAny (model prog w) A (getItem (.ref t) (.ref sl)) Q E s:=by
 have htake:sizeOk (.seq ((items.toList.drop (sIx items.size 0 lo)).take (sIx items.size items.size hi-sIx items.size 0 lo)).toArray):=by
  show((items.toList.drop (sIx items.size 0 lo)).take (sIx items.size items.size hi-sIx items.size 0 lo)).toArray.size<=sizeLine
  rw[size_toArray,List.length_take,List.length_drop,Array.length_toList];omega
 have hj:sIx items.size items.size hi<=items.size:=sIx_le _ _ (le_refl _) hi;obtain⟨os,hos,hcs,hds⟩:=id hs;have hTs:s.TypeIs (.ref sl) "slice":=⟨os,hos,hcs⟩;unfold getItem
 try with_reducible refine wpAny_holding ?_
 first|refine wpAny_bind (wpAny_pure ?_)|skip
 refine wpAny_bind (wpAny_sequenceKey ht.typeIs (by decide) ?_);refine wpAny_bind (wpAny_callSpecial?_slot (name:=Str.ofString "__getitem__") ht.typeIs PyProof.Rows.slot_tuple_getitem
  (wpAny_call_entry PyProof.Rows.slot_tuple_getitem ht.typeIs entry_tuple_getitem ?_ (args_tuple_getitem _ _)))
 show wpAny _ _ (Builtin.Tuple.tupleItemsOf (.ref t) >>= _) _ _ s
 refine wpAny_bind (tupleItemsOf_ ht ?_);refine wpAny_bind (wpAny_typeOf hTs ?_);rw[if_pos (by decide)];refine wpAny_bind (sliceApplied_gen hs pl pu ?_);have hno:¬((((sIx items.size 0 lo:Nat):Int)==0&&(1:Int)==1&&(sIx items.size items.size hi-sIx items.size 0 lo)==items.size)=true):=by
  intro q;rw[Bool.and_eq_true,Bool.and_eq_true]at q;have q1:((sIx items.size 0 lo:Nat):Int)=0:=eq_of_beq q.1.1;have q2:sIx items.size items.size hi-sIx items.size 0 lo=items.size:=eq_of_beq q.2;exact hw ⟨by omega,by omega⟩
 show wpAny _ _ (if(((sIx items.size 0 lo:Nat):Int)==0&&(1:Int)==1&&(sIx items.size items.size hi-sIx items.size 0 lo)==items.size)=true then _ else _) _ _ s
 rw[if_neg hno,Qw]
 first
  |exact wpAny_bind (m:=Builtin.Tuple.tupleExact _) (wpAny_newObj_type (wpAny_pure ⟨_,rfl,wpAny_pure h⟩) htake)
  |exact wpAny_bind (m:=Builtin.Tuple.tupleExact _) (wpAny_newObj_type (wpAny_bind (wpAny_pure (wpAny_pure ⟨_,rfl,wpAny_pure h⟩))) htake)
  |exact wpAny_bind (wpAny_bind (m:=Builtin.Tuple.tupleExact _) (wpAny_newObj_type (wpAny_pure (wpAny_pure ⟨_,rfl,wpAny_pure h⟩)) htake))
  |exact wpAny_bind (wpAny_bind (m:=Builtin.Tuple.tupleExact _) (wpAny_newObj_type (wpAny_pure ⟨_,rfl,wpAny_pure h⟩) htake))
end
end HT
namespace L2
open PySem PySem.Spec PyProof.Rows
abbrev TO:=St->Hp->(Option Int->Hp->Prop)->Prop
def PO(X:Cx)(e:Option Expr)(t:TO):Prop :=
 ∀(pins:List (Addr×Obj)) (s:Shared) (O:St) (H:Hp) (Q:Option Int->Hp->Prop),Inv X pins O H s->t O H Q ->
  wpAny (model X.prog X.w) X.A (evalPart e X.env) (λu s'=>∃o H',Inv X pins O H' s'/\IsPart u o/\Q o H') X.xe s
def tNoPart:TO:=λ_ H Q=>Q none H
def tPart(t:TE):TO:=λO H Q=>t O H λx H1=>∃i,x=.int i/\Q (some i) H1
section
variable{X:Cx}{e:Expr}{te:TE}{lo hi:Option Expr}{tl th:TO}{pos p2:Pos}
def po_none:PO X none tNoPart:=by
 intro pins s O H Q I h;rw[evalPart_none];exact wpAny_pure ⟨none,H,I,.none,h⟩
def po_some(h:PE X e te):PO X (some e) (tPart te):=by
 intro pins s O H Q I hw;rw[evalPart_some];refine thn (h pins s O H _ I hw) λu s1 ⟨x,H1,I1,r1,q1⟩=>?_
 obtain⟨i,rfl,q⟩:=q1;obtain⟨t,rfl⟩:=r1;exact⟨some i,H1,I1,.int i t,q⟩
def SlR(X:Cx)(r:V->Option Int->Option Int->Hp->VK->Prop):Prop :=
 ∀(pins:List (Addr×Obj)) (s:Shared) (O:St) (H:Hp) (x:V) (v vl vu:Value) (lo hi:Option Int) (sl:Addr) (Q:VK),Inv X pins O H s->zy x v->s.heap.IsSliceOf sl vl vu .none->IsPart vl lo->IsPart vu hi->r x lo hi H Q ->
  ∃T id,typeLookup (.type T) "__getitem__"=pure (some (.builtin id))/\s.TypeIs v T/\wpAny (model X.prog X.w) X.A (getItem v (.ref sl)) (EP X pins O Q) X.xe s
def SlR.or{r r':V->Option Int->Option Int->Hp->VK->Prop}(h:SlR X r)(h':SlR X r'):SlR X (λx lo hi H Q=>r x lo hi H Q\/r' x lo hi H Q):=by
 intro pins s O H x v vl vu lo hi sl Q I rx hs pl pu q;rcases q with q|q
 ·exact h pins s O H x v vl vu lo hi sl Q I rx hs pl pu q
 ·exact h' pins s O H x v vl vu lo hi sl Q I rx hs pl pu q
def tSl(r:V->Option Int->Option Int->Hp->VK->Prop)(te:TE)(tl th:TO):TE:=λO H Q=>te O H λx H1=>tl O H1 λl H2=>th O H2 λu H3=>r x l u H3 Q
def Qx{r:V->Option Int->Option Int->Hp->VK->Prop}(hr:SlR X r)(he:PE X e te)(hl:PO X lo tl)(hu:PO X hi th):PE X (.Subscript e (.Slice lo hi none p2) pos) (tSl r te tl th):=by
 intro pins s O H Q I h;refine Subscript_ (thn (he pins s O H _ I h) λv s1 ⟨x,H1,I1,r1,q1⟩=>?_);refine wpAny_Slice (thn (hl pins s1 O H1 _ I1 q1) λvl s2 ⟨l,H2,I2,pl,q2⟩=>thn (hu pins s2 O H2 _ I2 q2) λvu s3 ⟨u,H3,I3,pu,q3⟩=>?_);rw[evalPart_none];refine wpAny_pure ?_;have I4:Inv X pins O H3 {s3 with heap:=s3.heap.push {cls:=.type "slice",data:=.fields #[vl,vu,.none]}}:=I3.kept (t':=s3.toks) λb ob q=>get?_push_of_some _ q
 obtain⟨T,id,hT,ht,hg⟩:=hr pins {s3 with heap:=s3.heap.push {cls:=.type "slice",data:=.fields #[vl,vu,.none]}} O H3 x v vl vu l u s3.heap.objs.size Q I4 r1 (Heap.IsSliceOf.new ..) pl pu q3
 show wpAny (model X.prog X.w) X.A (subscriptTail e (.Slice lo hi none p2) v (.ref s3.heap.objs.size)) (EP X pins O Q) X.xe {s3 with heap:=s3.heap.push {cls:=.type "slice",data:=.fields #[vl,vu,.none]}}
 exact tail_any (ops:=[.ref s3.heap.objs.size,v]) ht hT hg (by with_unfolding_all rfl)
def Qy(xs:List V)(lo hi:Option Int):List V:=(xs.drop (HT.sIx xs.length 0 lo)).take (HT.sIx xs.length xs.length hi-HT.sIx xs.length 0 lo)
def YH(xs:List V)(lo hi:Option Int):(Qy xs lo hi).length<=xs.length:=by
 unfold Qy;rw[List.length_take,List.length_drop];omega
def rSlT(K:PySem.W.Frag):V->Option Int->Option Int->Hp->VK->Prop:=λx lo hi H Q=>∃a xs,x=.ref a/\SqT K H a xs /\
 ¬(HT.sIx xs.length 0 lo=0/\HT.sIx xs.length xs.length hi=xs.length)/\∀p,H p=none->Q (.ref p) (upd H p (.t (Qy xs lo hi)))
def sl_tup:SlR X (rSlT X.K):=by
 intro pins s O H x v vl vu lo hi sl Q I rx hs pl pu h;obtain⟨a,xs,rfl,hx,hw,q⟩:=h;cases rx;obtain⟨its,r,ht,hz⟩:=I.tuple hx;have hlen:its.toArray.size=xs.length:=by rw[size_toArray];exact r.length.symm
 refine⟨"tuple",_,PyProof.Rows.slot_tuple_getitem.lookup,ht.typeIs,?_⟩;refine HT.getItem_tuple_cut ht hs pl pu (by rw[hlen];exact hw) ?_ (by rw[hlen];exact hz);rw[hlen];refine⟨.ref s.heap.objs.size,_,I.laid (t':=s.toks) (o:=.t (Qy xs lo hi)) (λb ob q=>get?_push_of_some _ q) (le_refl _) ?_,rfl,q _ (I.hok.fresh (le_refl _))⟩;exact⟨le_trans (YH xs lo hi) hz,_,(r.drop (HT.sIx xs.length 0 lo)).take (HT.sIx xs.length xs.length hi-HT.sIx xs.length 0 lo),IsTup.new _ _⟩
def rCatT(K:PySem.W.Frag):R2:=λx y H Q=>∃a b xs ys,x=.ref a/\y=.ref b/\SqT K H a xs/\SqT K H b ys/\xs≠[]/\xs.length+ys.length<=sizeLine /\
 (ys=[]->Q (.ref a) H)/\(ys≠[]->∀p,H p=none->Q (.ref p) (upd H p (.t (xs++ys))))
def zg.nil_iff{xs:List V}{us:List Value}(r:zg xs us):us=[]↔xs=[]:=by
 cases r with
 |nil=>simp|cons _ _=>simp
def op_catT:OpR X (binaryOp .Add) (rCatT X.K):=by
 intro pins s O H x y v u Q I rx ry h;obtain⟨a,b,xs,ys,rfl,rfl,ha,hb,hx,hz,q1,q2⟩:=h;cases rx;cases ry;obtain⟨its,r1,p1,_⟩:=I.tuple ha;obtain⟨its2,r2,p2,_⟩:=I.tuple hb;refine HT.cat_tup p1 p2 (λz=>hx (r1.nil_iff.mp z)) (λz=>⟨.ref a,H,I,rfl,q1 (r2.nil_iff.mp z)⟩) (λz=>?_) (by rw[<- r1.length,<- r2.length];exact hz);refine⟨.ref s.heap.objs.size,_,I.laid (t':=s.toks) (o:=.t (xs++ys)) (λb ob q=>get?_push_of_some _ q) (le_refl _) ?_,rfl,q2 (λw=>z (r2.nil_iff.mpr w)) _ (I.hok.fresh (le_refl _))⟩;exact⟨by rw[length_append];exact hz,_,r1.append r2,IsTup.new _ _⟩
end
def ixN(n:Nat)(i:Int):Option Nat:=if 0<=i then(if i<n then some i.toNat else none)else if -(n:Int)<=i then some (i+n).toNat else none
def atI{α:Type}(xs:List α)(i:Int):Option α:=(ixN xs.length i).bind λj=>xs[j]?
def u9{n:Nat}{i:Int}{j:Nat}(h:ixN n i=some j):seqIndex? i n=some j/\j<n/\-(n:Int)<=i/\i<n:=by
 unfold ixN at h;by_cases h0:0<=i
 ·rw[if_pos h0]at h
  by_cases h1:i<n
  ·rw[if_pos h1]at h
   have e:i.toNat=j:=Option.some.inj h;exact⟨by rw[seqIndex_of h0 h1,e],by omega,by omega,h1⟩
  ·rw[if_neg h1]at h;cases h
 ·rw[if_neg h0]at h
  by_cases h1:-(n:Int)<=i
  ·rw[if_pos h1]at h
   have e:(i+n).toNat=j:=Option.some.inj h;exact⟨by rw[seqIndex_neg (by omega) h1,e],by omega,h1,by omega⟩
  ·rw[if_neg h1]at h;cases h
def W3{α:Type}{xs:List α}{i:Int}{v:α}(h:atI xs i=some v):∃j,seqIndex? i xs.length=some j/\xs[j]?=some v/\j<xs.length/\-(xs.length:Int)<=i/\i<xs.length:=by
 unfold atI at h;cases e:ixN xs.length i with
 |none=>rw[e]at h;cases h
 |some j =>
  rw[e]at h;obtain⟨h1,h2,h3,h4⟩:=u9 e;exact⟨j,h1,h,h2,h3,h4⟩
def ZX(b:Expr):Prop:=∀o i,subscripted b false o i=operate [o,i] (getItem o i)
def IxR(X:Cx)(r:R2):Prop :=
 ∀(value slice:Expr) (pins:List (Addr×Obj)) (s:Shared) (O:St) (H:Hp) (x y:V) (v u:Value) (Q:VK),Inv X pins O H s->zy x v->zy y u->r x y H Q ->
  subscripted slice false v u=operate [v,u] (getItem v u)->wpAny (model X.prog X.w) X.A (subscriptTail value slice v u) (EP X pins O Q) X.xe s
def MtR(X:Cx)(id:String)(r:V->List V->Hp->VK->Prop):Prop :=
 ∀(pins:List (Addr×Obj)) (s:Shared) (O:St) (H:Hp) (x:V) (xs:List V) (v:Value) (us:List Value) (Q:VK),Inv X pins O H s->zy x v->zg xs us->r x xs H Q ->
  wpAny (model X.prog X.w) X.A (call (.builtin id) (v::us)) (EP X pins O Q) X.xe s
section
variable{X:Cx}{a b:Expr}{ta tb:TE}{pos:Pos}
def IxR.or{r r':R2}(h:IxR X r)(h':IxR X r'):IxR X (λx y H Q=>r x y H Q\/r' x y H Q):=by
 intro value slice pins s O H x y v u Q I rx ry q hs;rcases q with q|q
 ·exact h value slice pins s O H x y v u Q I rx ry q hs
 ·exact h' value slice pins s O H x y v u Q I rx ry q hs
def MtR.or{id:String}{r r':V->List V->Hp->VK->Prop}(h:MtR X id r)(h':MtR X id r'):MtR X id (λx xs H Q=>r x xs H Q\/r' x xs H Q):=by
 intro pins s O H x xs v us Q I rx rs q;rcases q with q|q
 ·exact h pins s O H x xs v us Q I rx rs q
 ·exact h' pins s O H x xs v us Q I rx rs q
def pe_ix{r:R2}(hr:IxR X r)(ha:PE X a ta)(hb:PE X b tb)(hs:ZX b):PE X (.Subscript a b pos) (tOp r ta tb):=by
 intro pins s O H Q I h;exact Subscript_ (binT ha hb I h λv u s2 x y H2 I2 rx ry q=>hr a b pins s2 O H2 x y v u Q I2 rx ry q (hs _ _))
def rIxL(K:PySem.W.Frag):R2:=λx y H Q=>∃p xs i v,x=.ref p/\y=.int i/\SqL K H p xs/\atI xs i=some v/\Q v H
def rIxT(K:PySem.W.Frag):R2:=λx y H Q=>∃p xs i v,x=.ref p/\y=.int i/\SqT K H p xs/\atI xs i=some v/\Q v H
def rIxS:R2:=λx y H Q=>∃z i c,x=.str z/\y=.int i/\z.length<=sizeLine/\atI z.cps.toList i=some c/\Q (.str ⟨#[c]⟩) H
def GB:IxR X (rIxL X.K):=by
 intro value slice pins s O H x y v u Q I rx ry h hs;obtain⟨p,xs,i,z,rfl,rfl,hq,he,q⟩:=h;cases rx;obtain⟨t,rfl⟩:=ry;obtain⟨its,r,pl,hz⟩:=I.list hq;obtain⟨j,h1,h2,h3,h4,h5⟩:=W3 he;obtain⟨w,ew,rw'⟩:=r.get h2;have hl:=r.length;have hn:=YE;have fin:EP X pins O Q w s:=⟨z,H,I,rw',q⟩;by_cases h0:0<=i
 ·have hj:i.toNat=j:=by
   rw[seqIndex_of h0 h5]at h1;exact Option.some.inj h1
  exact item_listR pl.isList h0 (by omega) (by rw[hj];simpa using ew) fin hs
 ·have hj:(i+(its.toArray.size:Int)).toNat=j:=by
   rw[seqIndex_neg (by omega) h4]at h1;rw[size_toArray,<- hl];exact Option.some.inj h1
  exact subscriptTail_builtinR (x:=w) pl.isList.typeIs slot_list_getitem.lookup
   (wpAny_getItem_list_neg (Q:=λr s'=>r=w/\EP X pins O Q r s') pl.isList (by omega) (by rw[size_toArray]<;>omega) (by omega) (by rw[hj];simpa using ew) ⟨rfl,fin⟩) hs
def ix_tup:IxR X (rIxT X.K):=by
 intro value slice pins s O H x y v u Q I rx ry h hs;obtain⟨p,xs,i,z,rfl,rfl,hq,he,q⟩:=h;cases rx;obtain⟨t,rfl⟩:=ry;obtain⟨its,r,pl,hz⟩:=I.tuple hq;obtain⟨j,h1,h2,h3,h4,h5⟩:=W3 he;obtain⟨w,ew,rw'⟩:=r.get h2;have hl:=r.length;have hn:=YE;have fin:EP X pins O Q w s:=⟨z,H,I,rw',q⟩;exact subscriptTail_builtinR (x:=w) pl.typeIs slot_tuple_getitem.lookup
  (getItem_tuple (j:=j) (Q:=λr s'=>r=w/\EP X pins O Q r s') pl (by omega) (by omega) (by rw[size_toArray,<- hl];exact h1) (by simpa using ew) ⟨rfl,fin⟩) hs
def ix_str:IxR X rIxS:=by
 intro value slice pins s O H x y v u Q I rx ry h hs;obtain⟨z,i,c,rfl,rfl,hz,he,q⟩:=h;obtain⟨t,rfl⟩:=rx;obtain⟨t',rfl⟩:=ry;obtain⟨j,h1,h2,h3,h4,h5⟩:=W3 he;have hl:z.cps.toList.length=z.length:=by simp[Str.length]
 rw[hl]at h1 h4 h5;have hn:=YE;exact tail_any (typeIs_str s z t) slot_str_getitem.lookup (getItem_str (c:=c) (by
  have e1:decide (i < -(2^63:Int))=false:=decide_eq_false (by omega);have e2:decide (i ≥ 2^63)=false:=decide_eq_false (by omega);rw[e1,e2,Bool.or_false]) (by rw[h1];simpa using h2) ⟨.str ⟨#[c]⟩,H,I.tok _,⟨_,rfl⟩,q⟩) hs
def uP(its:List Value)(n j:Nat)(u:Value):Obj.mapSeq (·.setIfInBounds j u) {cls:=.type "list",data:=.seq its.toArray n}={cls:=.type "list",data:=.seq (its.set j u).toArray n}:=by
 simp[Obj.mapSeq]
theorem Inv.lst{pins:List (Addr×Obj)}{O:St}{H:Hp}{s:Shared}{p:Addr}{xs:List V}(I:Inv X pins O H s)(h:H p=some (.l xs)) :
  ∃(its:List Value) (n:Nat),zg xs its/\s.heap.get? p=some {cls:=.type "list",data:=.seq its.toArray n}/\xs.length<=sizeLine:=by
 obtain⟨z,its,n,r,e⟩:=I.hok p _ h;exact⟨its,n,r,e,z⟩
def Inv.lstUpd{pins:List (Addr×Obj)}{O:St}{H:Hp}{s:Shared}{p:Addr}{xs ys:List V}{its its':List Value}{n n':Nat}{f:Obj->Obj}(I:Inv X pins O H s)(h:H p=some (.l xs))
  (ho:s.heap.get? p=some {cls:=.type "list",data:=.seq its.toArray n}) (hf:f {cls:=.type "list",data:=.seq its.toArray n}={cls:=.type "list",data:=.seq its'.toArray n'}) (r:zg ys its') (hz:ys.length<=sizeLine) (t:Nat) :
  Inv X pins O (upd H p (.l ys)) {s with heap:=s.heap.update p f,toks:=t}:=by
 have e:(s.heap.update p f).get? p=some {cls:=.type "list",data:=.seq its'.toArray n'}:=by
  rw[Heap.get?_update_self f ho (by rw[hf]<;>rfl),hf]
 refine I.write (x:=p) (e:=p) (by rw[h];trivial) (.inl rfl) (λb u hb q=>(Heap.get?_update_other _ _ (Ne.symm hb)).trans q) ⟨_,e⟩ ?_;exact⟨hz,its',n',r,e⟩
def rSetL:V->V->V->Hp->(Hp->Prop)->Prop:=λo i v H Q=>∃p xs k j,o=.ref p/\i=.int k/\H p=some (.l xs)/\ixN xs.length k=some j/\Q (upd H p (.l (xs.set j v)))
def Qz:PSet X rSetL:=by
 intro pins s O H o i v ov iv u Q I ro ri rv h;obtain⟨p,xs,k,j,rfl,rfl,hp,hj,q⟩:=h;cases ro;obtain⟨t,rfl⟩:=ri;obtain⟨its,n,r,ho,hz⟩:=I.lst hp;obtain⟨h1,h2,h3,h4⟩:=u9 hj;have hl:=r.length;have hn:=YE;have I':Inv X pins O (upd H p (.l (xs.set j v))) {s with heap:=s.heap.update p (Obj.mapSeq (·.setIfInBounds j u))} :=
  I.lstUpd hp ho (uP its n j u) (r.set rv j) (by rw[List.length_set];exact hz) s.toks
 by_cases h0:0<=k
 ·have hk:k.toNat=j:=by
   rw[seqIndex_of h0 h4]at h1;exact Option.some.inj h1
  exact PySem.W.ki_setAt ho h0 (by omega) (by rw[size_toArray,<- hl];exact h4) (by rw[hk];exact⟨_,I',q⟩)
 ·have hk:(k+(its.toArray.size:Int)).toNat=j:=by
   rw[seqIndex_neg (by omega) h3]at h1;rw[size_toArray,<- hl];exact Option.some.inj h1
  exact PySem.W.ki_setBack ho (by omega) (by rw[size_toArray,<- hl];exact h3) (by omega) (by rw[hk];exact⟨_,I',q⟩)
def WK(lo hi:Option Int)(n:Nat):(sliceBounds lo hi none n).1=((HT.sIx n 0 lo:Nat):Int)/\(sliceBounds lo hi none n).2.1=((HT.sIx n n hi:Nat):Int)/\(sliceBounds lo hi none n).2.2=1:=by
 refine⟨?_,?_,rfl⟩
 ·cases lo with
  |none=>simp[sliceBounds,HT.sIx]
  |some i =>
   simp only[sliceBounds,HT.sIx,Option.getD_none,show(1:Int) > 0 by decide,if_true];by_cases h:i<0
   ·simp only[h,if_true]<;>omega
   ·simp only[h,if_false]<;>omega
 ·cases hi with
  |none=>simp[sliceBounds,HT.sIx]
  |some i =>
   simp only[sliceBounds,HT.sIx,Option.getD_none,show(1:Int) > 0 by decide,if_true];by_cases h:i<0
   ·simp only[h,if_true]<;>omega
   ·simp only[h,if_false]<;>omega
def ZY(its:List Value)(lo hi:Option Int):slicePick its.toArray lo hi none=((its.drop (HT.sIx its.length 0 lo)).take (HT.sIx its.length its.length hi-HT.sIx its.length 0 lo)).toArray:=by
 obtain⟨h1,h2,h3⟩:=WK lo hi its.toArray.size;unfold slicePick;rw[h1,h2,h3];simp only[sliceRange_one,pick_run,size_toArray]<;>rfl
def rSlL(K:PySem.W.Frag):V->Option Int->Option Int->Hp->VK->Prop:=λx lo hi H Q=>∃a xs,x=.ref a/\SqL K H a xs/\∀p,H p=none->Q (.ref p) (upd H p (.l (Qy xs lo hi)))
def sl_list:SlR X (rSlL X.K):=by
 intro pins s O H x v vl vu lo hi sl Q I rx hs pl pu h;obtain⟨a,xs,rfl,hx,q⟩:=h;cases rx;obtain⟨its,r,ht,hz⟩:=I.list hx;have hlen:=r.length;refine⟨"list",_,slot_list_getitem.lookup,ht.isList.typeIs,?_⟩;refine wpAny_getItem_list_slice ht.isList hs pl pu .none (by simp) ?_ (by rw[size_toArray]<;>omega);rw[ZY,<- hlen];refine⟨.ref s.heap.objs.size,_,I.laid (t':=s.toks) (o:=.l (Qy xs lo hi)) (λb ob q=>get?_push_of_some _ q) (le_refl _) ?_,rfl,q _ (I.hok.fresh (le_refl _))⟩;exact⟨le_trans (YH xs lo hi) hz,_,0,(r.drop (HT.sIx xs.length 0 lo)).take (HT.sIx xs.length xs.length hi-HT.sIx xs.length 0 lo),get?_push_size _ rfl⟩
def ZZ:V->Bool
 | .non=>true| .bl _=>true| .int _=>true| .str _=>true|_=>false
def eqV:V->V->Bool
 | .non,.non=>true| .bl a,.bl b=>a==b| .bl a,.int b=>(if a then 1 else 0)==b| .int a,.bl b=>a==(if b then 1 else 0)| .int a,.int b=>a==b| .str a,.str b=>a==b|_,_=>false
def zBK{A:Around}{s:Shared}{y x:V}{u v:Value}(ry:zy y u)(rx:zy x v)(fy:ZZ y=true)(fx:ZZ x=true):SeqAt.EqAt A s u v (eqV y x):=by
 cases y with
 |non =>
  cases ry;cases x with
  |non=>cases rx;exact SeqAt.EqAt.same _|bl b=>cases rx;exact SeqAt.EqAt.none_bool b|int b=>obtain⟨t,rfl⟩:=rx;exact SeqAt.EqAt.none_int b t|str b=>obtain⟨t,rfl⟩:=rx;exact SeqAt.EqAt.none_str b t|_=>exact absurd (show false=true from fx) Bool.false_ne_true
 |bl a =>
  cases ry;cases x with
  |non=>cases rx;exact SeqAt.EqAt.bool_none a|bl b=>cases rx;exact SeqAt.EqAt.bool_bool a b|int b=>obtain⟨t,rfl⟩:=rx;exact SeqAt.EqAt.bool_int a b t|str b=>obtain⟨t,rfl⟩:=rx;exact SeqAt.EqAt.bool_str a b t|_=>exact absurd (show false=true from fx) Bool.false_ne_true
 |int a =>
  obtain⟨t',rfl⟩:=ry;cases x with
  |non=>cases rx;exact SeqAt.EqAt.int_none a t'|bl b=>cases rx;exact SeqAt.EqAt.int_bool a t' b|int b=>obtain⟨t,rfl⟩:=rx;exact SeqAt.EqAt.int_int a t' b t|str b=>obtain⟨t,rfl⟩:=rx;exact SeqAt.EqAt.int_str a t' b t|_=>exact absurd (show false=true from fx) Bool.false_ne_true
 |str a =>
  obtain⟨t',rfl⟩:=ry;cases x with
  |non=>cases rx;exact SeqAt.EqAt.str_none a t'|bl b=>cases rx;exact SeqAt.EqAt.str_bool a t' b|int b=>obtain⟨t,rfl⟩:=rx;exact SeqAt.EqAt.str_int a t' b t|str b=>obtain⟨t,rfl⟩:=rx;exact SeqAt.EqAt.str_str a t' b t|_=>exact absurd (show false=true from fx) Bool.false_ne_true
 |_=>exact absurd (show false=true from fy) Bool.false_ne_true
def Jb:jQ X (.builtin "len") (λxs H Q=>∃p ys,xs=[.ref p]/\(SqL X.K H p ys\/SqT X.K H p ys)/\Q (.int ys.length) H):=by
 intro pins s O H xs us Q I r h;obtain⟨p,ys,rfl,hq,q⟩:=h;obtain⟨u,rfl,rx⟩:=YF r;cases rx;have hn:=YE;rcases hq with hq|hq
 ·obtain⟨its,r',pl,hz⟩:=I.list hq
  have hlen:=r'.length;exact Calls.call_len_list pl.isList (by simp only[size_toArray]<;>omega) ⟨.int ys.length,H,I.tok _,⟨s.toks+1,by rw[size_toArray,hlen]⟩,q⟩
 ·obtain⟨its,r',pl,hz⟩:=I.tuple hq
  have hlen:=r'.length;exact len_tuple pl (by simp only[size_toArray]<;>omega) ⟨.int ys.length,H,I.tok _,⟨s.toks+1,by rw[size_toArray,hlen]⟩,q⟩
def WL:jQ X (.builtin "len") (λxs H Q=>∃z,xs=[.str z]/\z.length<=sizeLine/\Q (.int z.length) H):=by
 intro pins s O H xs us Q I r h;obtain⟨z,rfl,hz,q⟩:=h;obtain⟨u,rfl,t,rfl⟩:=YF r;have hn:=YE;exact len_str (by omega) ⟨.int z.length,H,I.tok _,⟨_,rfl⟩,q⟩
def jQ.or{f:Value}{r r':List V->Hp->VK->Prop}(h:jQ X f r)(h':jQ X f r'):jQ X f (λxs H Q=>r xs H Q\/r' xs H Q):=by
 intro pins s O H xs us Q I rs q;rcases q with q|q
 ·exact h pins s O H xs us Q I rs q
 ·exact h' pins s O H xs us Q I rs q
def WM:jQ X (.type "list") (λxs H Q=>∃p ys,xs=[.ref p]/\(SqL X.K H p ys\/SqT X.K H p ys)/\∀l,H l=none->Q (.ref l) (upd H l (.l ys))):=by
 intro pins s O H xs us Q I r h;obtain⟨p,ys,rfl,hq,q⟩:=h;obtain⟨u,rfl,rx⟩:=YF r;cases rx;have fin:∀(its:List Value),zg ys its->ys.length<=sizeLine->∀(h':Heap) (c':Nat),(∀b o',s.heap.get? b=some o'->h'.get? b=some o') ->
   h'.get? s.heap.objs.size=some {cls:=.type "list",dict:=none,data:=.seq its.toArray c',slots:=#[]}->EP X pins O Q (.ref s.heap.objs.size) {s with heap:=h'}:=λits r' hz h' c' kp e =>
  ⟨.ref s.heap.objs.size,_,I.laid (t':=s.toks) kp (le_refl _) (show jK X.prog X.w _ h' _ (.l ys)from⟨hz,its,c',r',e⟩),rfl,q _ (I.hok.fresh (le_refl _))⟩
 rcases hq with hq|hq
 ·obtain⟨its,r',pl,hz⟩:=I.list hq
  have hlen:=r'.length;obtain⟨o,ho,hc,n,hd⟩:=pl.isList;exact call_list_seq p (.inl rfl) ho hc hd (λh' c' kp e=>fin its r' hz h' c' kp e) (by simp only[size_toArray]<;>omega)
 ·obtain⟨its,r',pl,hz⟩:=I.tuple hq
  have hlen:=r'.length;obtain⟨o,ho,hc,n,hd⟩:=pl;exact call_list_seq p (.inr rfl) ho hc hd (λh' c' kp e=>fin its r' hz h' c' kp e) (by simp only[size_toArray]<;>omega)
def Za:jQ X (.type "tuple") (λxs H Q=>∃p ys,xs=[.ref p]/\((SqL X.K H p ys/\∀l,H l=none->Q (.ref l) (upd H l (.t ys)))\/(SqT X.K H p ys/\Q (.ref p) H))):=by
 intro pins s O H xs us Q I r h;obtain⟨p,ys,rfl,h⟩:=h;obtain⟨u,rfl,rx⟩:=YF r;cases rx;rcases h with⟨hq,q⟩|⟨hq,q⟩
 ·obtain⟨its,r',pl,hz⟩:=I.list hq
  have hlen:=r'.length;refine call_tuple_list pl.isList (λh' kp=>?_) (by simp only[size_toArray]<;>omega);have I1:Inv X pins O H {s with heap:=h'}:=I.kept (t':=s.toks) kp
  have I2:Inv X pins O (upd H h'.objs.size (.t ys)) {s with heap:=h'.push {cls:=.type "tuple",data:=.seq its.toArray}} :=
   I1.laid (t':=s.toks) (λb o e=>get?_push_of_some _ e) (le_refl _) (show jK X.prog X.w _ _ _ (.t ys)from⟨hz,its,r',IsTup.new _ _⟩)
  exact⟨.ref h'.objs.size,_,I2,rfl,q _ (I1.hok.fresh (le_refl _))⟩
 ·obtain⟨its,r',pl,hz⟩:=I.tuple hq
  exact call_tuple_same pl ⟨.ref p,H,I,rfl,q⟩
def tyV(K:PySem.W.Frag)(T:String)(x:V)(H:Hp):Prop:=match x with
 | .str _=>T="str"| .int _=>T="int"
 | .ref p=>(T="list"/\∃xs,SqL K H p xs)\/(T="tuple"/\∃o,K.lookup p=some o/\o.cls=.type "tuple"/\o.dict=none) \/
   (T="dict"/\((∃kvs,H p=some (.dK kvs))\/∃kvs,H p=some (.dT kvs)))\/(T="set"/\∃S n,H p=some (.set S n))
 |_=>False
def zBL{pins:List (Addr×Obj)}{O:St}{H:Hp}{s:Shared}{T:String}{x:V}{v:Value}(I:Inv X pins O H s)(r:zy x v)(ty:tyV X.K T x H) :
  s.TypeIs v T/\∀a,v=.ref a->∃ob,s.heap.get? a=some ob/\ob.dict=none:=by
 cases x with
 |str z =>
  obtain⟨t,rfl⟩:=r;cases (show T="str" from ty);exact⟨typeIs_str s z t,λ_ e=>nomatch e⟩
 |int i =>
  obtain⟨t,rfl⟩:=r;cases (show T="int" from ty);exact⟨typeIs_int s i t,λ_ e=>nomatch e⟩
 |ref p =>
  cases r;rcases ty with⟨rfl,xs,hq⟩|⟨rfl,o,hk,hc,hd⟩|⟨rfl,hk⟩|⟨rfl,S,n,hk⟩
  ·obtain⟨its,_,pl,_⟩:=I.list hq
   refine⟨pl.isList.typeIs,λa e=>?_⟩;cases e;obtain⟨o,n,e,c,hd,_⟩:=pl;exact⟨o,e,hd⟩
  ·refine⟨⟨o,I.kIn p o hk,hc⟩,λa e=>?_⟩
   cases e;exact⟨o,I.kIn _ o hk,hd⟩
  ·have z:∃o,s.heap.get? p=some o/\o.ExactDict:=by
    rcases hk with⟨kvs,hk⟩|⟨kvs,hk⟩
    ·obtain⟨_,_,_,_,o,_,_,e,ex,_⟩:=I.hok p _ hk
     exact⟨o,e,ex⟩
    ·obtain⟨_,_,_,_,o,_,_,e,ex,_⟩:=I.hok p _ hk
     exact⟨o,e,ex⟩
   obtain⟨o,e,ex⟩:=z;refine⟨⟨o,e,ex.1⟩,λa e2=>?_⟩;cases e2;exact⟨o,e,ex.2.1⟩
  ·obtain⟨o,_,_,_,e,ex,_⟩:=I.hok p _ hk
   refine⟨⟨o,e,ex.1⟩,λa e2=>?_⟩;cases e2;exact⟨o,e,ex.2.1⟩
 |_=>exact False.elim ty
def tBM0(K:PySem.W.Frag)(T:String)(r:V->List V->Hp->VK->Prop)(to:TE):TE:=λO H Q=>to O H λx H1=>tyV K T x H1/\r x [] H1 Q
def tBM(K:PySem.W.Frag)(T:String)(r:V->List V->Hp->VK->Prop)(to:TE)(t:TA):TE:=λO H Q=>to O H λx H1=>tyV K T x H1/\t O H1 λxs H2=>r x xs H2 Q
variable{o e:Expr}{es:List Expr}{to:TE}{t:TA}{name:Str}{apos cpos:Pos}{T id:String}{r:V->List V->Hp->VK->Prop}
def zBM(pa:PlainAttrs T)(slot:Slot T name id)(hty:typeOf (.builtin id)=pure (.type "method_descriptor"))(hm:MtR X id r)(ho:PE X o to)
  (hbase:attributeBase o name X.env (eval o X.env)=eval o X.env:=by rfl) (hline:(apos.endLine==cpos.line)=true:=by rfl):PE X (.Call (.Attribute o name apos) [] [] cpos) (tBM0 X.K T r to):=by
 intro pins s O H Q I h;refine wpAny_Call_method0_late hbase hline (thn (ho pins s O H _ I h) λv s1 ⟨x,H1,I1,r1,ty,q1⟩=>?_);obtain⟨h1,h2⟩:=zBL I1 r1 ty;exact⟨T,id,pa,slot,hty,h1,h2,Calls.callWith_builtin rfl (PySem.evalArgs_none (hm pins s1 O H1 x [] v [] Q I1 r1 .nil q1))⟩
def GC(pa:PlainAttrs T)(slot:Slot T name id)(hty:typeOf (.builtin id)=pure (.type "method_descriptor"))(hm:MtR X id r)(ho:PE X o to)(ha:PA X (e::es) t)
  (hbase:attributeBase o name X.env (eval o X.env)=eval o X.env:=by rfl)
  (hfew:((backTo cpos (starEach (e::es) X.env)).all (λx=>!x.1)&&(backToKw cpos (keywordEach [] X.env)).all (λx=>x.1.isSome)
   && decide ((e::es).length+([]:List Keyword).length+(if([]:List Keyword).isEmpty then 0 else 1)<30))=true:=by rfl)
  (hline:(apos.endLine==cpos.line)=true:=by rfl) (hs:starEach (e::es) X.env=(false,eval e X.env)::starEach es X.env:=by rfl) (hplain:(backTo cpos (starEach es X.env)).any (·.1)=false:=by rfl) :
  PE X (.Call (.Attribute o name apos) (e::es) [] cpos) (tBM X.K T r to t):=by
 intro pins s O H Q I h;refine wpAny_Call_method_late hbase hfew hline rfl (thn (ho pins s O H _ I h) λv s1 ⟨x,H1,I1,r1,ty,q1⟩=>?_);obtain⟨h1,h2⟩:=zBL I1 r1 ty;refine⟨T,id,pa,slot,hty,h1,h2,?_⟩;have hA:=ha cpos pins s1 O H1 _ I1 q1;rw[hs]at hA ⊢;refine Calls.callWith_builtin (by show(false||(backTo cpos (starEach es X.env)).any (·.1))=false;rw[hplain]<;>rfl) (Calls.evalArgs_plain ?_);exact thn hA λus s2 ⟨vs,H2,I2,r2,q2⟩=>hm pins s2 O H2 x vs v us Q I2 r1 r2 q2
end
def MtM(X:Cx)(id:String)(r:V->List V->Hp->VK->Prop):Prop :=
 ∀(pins:List (Addr×Obj)) (s:Shared) (O:St) (H:Hp) (x:V) (xs:List V) (v:Value) (us:List Value) (Q:VK),Inv X pins O H s->zy x v->zg xs us->r x xs H Q ->
  wpAny (model X.prog X.w) X.A (call (.builtin id) (v::us)) (EP X pins O Q) X.xe s
def zg.one:∀{x:V} {us:List Value},zg [x] us->∃u,us=[u]/\zy x u
 |_,_,.cons r .nil=>⟨_,rfl,r⟩
def zg.zero:∀{us:List Value},zg [] us->us=[]
 |_,.nil=>rfl
theorem zg.dropLast{xs:List V}{us:List Value}(h:zg xs us):zg xs.dropLast us.dropLast:=by
 induction h with
 |nil=>exact .nil
 |cons r t ih =>
  cases t with
  |nil=>exact .nil|cons q t'=>exact .cons r ih
theorem zg.eraseIdx:∀{xs:List V} {us:List Value} (i:Nat),zg xs us->zg (xs.eraseIdx i) (us.eraseIdx i)
 |_,_,_,.nil=>.nil|_,_,0,.cons _ t=>t|_,_,i+1,.cons r t=>.cons r (zg.eraseIdx i t)
theorem zg.reverse{xs:List V}{us:List Value}(h:zg xs us):zg xs.reverse us.reverse:=by
 induction h with
 |nil=>exact .nil|cons r t ih=>rw[reverse_cons,reverse_cons];exact zg.append ih (.cons r .nil)
theorem zg.rep{xs:List V}{us:List Value}(h:zg xs us):∀k:Nat,zg (replicate k xs).flatten (replicate k us).flatten
 |0=>.nil
 |k+1=>by
  rw[replicate_succ,replicate_succ,flatten_cons,flatten_cons];exact zg.append h (zg.rep h k)
theorem YI(its:List Value):∀(k:Nat) (acc:List Value),
  foldl (λx1 x2=>x1++x2) acc.toArray (replicate k its.toArray)=(acc++(replicate k its).flatten).toArray
 |0,acc=>by simp
 |k+1,acc=>by
  have e:acc.toArray++its.toArray=(acc++its).toArray:=by simp
  have e2:(acc++its)++(replicate k its).flatten=acc++(replicate (k+1) its).flatten:=by
   rw[replicate_succ,flatten_cons,append_assoc]
  rw[<- e2,<- YI its k (acc++its),<- e,replicate_succ,List.foldl_cons]
section
variable{X:Cx}{pins:List (Addr×Obj)}{O:St}{H:Hp}{s:Shared}{l b:Addr}{xs ys zs:List V}
def Inv.lset{its its':List Value}{n:Nat}{f:Array Value->Array Value}{t':Nat}(I:Inv X pins O H s)(hH:H l=some (.l xs))
  (e:s.heap.get? l=some {cls:=.type "list",data:=.seq its.toArray n}) (hf:f its.toArray=its'.toArray) (hv:zg ys its') (hz:ys.length<=sizeLine) :
  Inv X pins O (upd H l (.l ys)) {s with heap:=s.heap.update l (Obj.mapSeq f),toks:=t'}:=by
 have q:=PySem.IsL.update e f;rw[hf]at q;refine I.write (x:=l) (e:=l) (by rw[hH];exact trivial) (.inl rfl) (λb' u hb hu=>(Heap.get?_update_other s.heap (Obj.mapSeq f) (Ne.symm hb)).trans hu) ⟨_,q⟩ ?_;exact⟨hz,its',_,hv,q⟩
def Inv.lnew{its:List Value}{t':Nat}(I:Inv X pins O H s)(hv:zg ys its)(hz:ys.length<=sizeLine) :
  Inv X pins O (upd H s.heap.objs.size (.l ys)) {s with heap:=s.heap.push {cls:=.type "list",data:=.seq its.toArray},toks:=t'} :=
 I.laid (λ_ _ q=>get?_push_of_some _ q) (le_refl _) ⟨hz,its,0,hv,get?_push_size _ rfl⟩
theorem Inv.fresh(I:Inv X pins O H s):H s.heap.objs.size=none:=I.hok.fresh (le_refl _)
def Inv.lstM(I:Inv X pins O H s)(hH:H l=some (.l xs)):xs.length<=sizeLine/\∃(its:List Value) (n:Nat),zg xs its/\xs.length=its.length/\s.heap.get? l=some {cls:=.type "list",data:=.seq its.toArray n}:=by
 obtain⟨z,its,n,r,e⟩:=I.hok l _ hH;exact⟨z,its,n,r,r.length,e⟩
def Q0{n:Nat}(h:n<=sizeLine):Builtin.List.listTooLong n=false:=by
 unfold Builtin.List.listTooLong;exact decide_eq_false (by omega)
end
section
variable{X:Cx}
def GD:V->List V->Hp->VK->Prop:=λx vs H Q=>∃l xs y,x=.ref l/\vs=[y]/\H l=some (.l xs)/\xs.length<sizeLine/\Q .non (upd H l (.l (xs++[y])))
def WN:MtM X "list.append" GD:=by
 intro pins s O H x vs v us Q I rx rv h;obtain⟨l,xs,y,rfl,rfl,hH,hz,q⟩:=h;cases rx;obtain⟨u,rfl,ru⟩:=rv.one;obtain⟨z,its,n,r,hl,e⟩:=I.lstM hH;refine call_meets F.slot_list_append ⟨_,e,rfl⟩ F.entry_list_append (F.args_list_append_2 _ _) (PySem.list_append l its.toArray n u (by rw[size_toArray];omega)) ⟨e,?_⟩;refine⟨.non,_,I.lset (its':=its++[u]) hH e (by simp) (r.append (.cons ru .nil)) ?_,rfl,q⟩;rw[length_append,List.length_singleton];omega
def W4{α:Type}(xs:List α)(k:Nat):(replicate k xs).flatten.length=k*xs.length:=by
 induction k with
 |zero=>simp|succ k ih=>rw[replicate_succ,flatten_cons,length_append,ih,Nat.succ_mul,Nat.add_comm]
end
end L2
namespace Att
open PySem PySem.W PySem.Calls PyProof.Rows
def YJ{P:Params}{h:Heap}:∀(ns:List Int) (vs:List Value),WellAll P h vs (ns.map WData.int)->IntsAre vs ns:=by
 intro ns
 induction ns with
 |nil =>
  intro vs w;rw[List.map_nil]at w;cases w;exact .nil
 |cons n ns ih =>
  intro vs w;rw[map_cons]at w;cases w with
  |cons a b =>
   cases a;exact .cons _ _ (ih _ b)
def GE{l:OpenLaw}{n:Nat}(hn:l.most=some n){P:Params}{h:Heap}{args:List WData}{vals:List Value}
  (hpre:l.row.toRowW.claim.pre args=true) (hwl:WellAll P h vals args) :
  ∃a vs ns,vals=[Value.ref a]/\args=[WData.list (ns.map WData.int)]/\h.get? a=some {cls:=.type "list",data:=.seq vs.toArray}/\IntsAre vs ns/\ns.length<=n:=by
 have hsh:WShape.hasAll [] args [.list .int]=true:=(pre_splitW hpre).1;have hc:l.pre.holds [] {args:=args}=true:=(pre_splitW hpre).2;obtain⟨d,r,rfl,h1,h2⟩:=hasAllW_cons hsh;obtain rfl:=hasAllW_nil h2;obtain⟨xs,rfl,h3⟩:=hasW_list h1;obtain⟨ns,rfl⟩:=items_int h3;have hlen:ns.length<=n:=by
  unfold OpenLaw.pre at hc;have h4:(WTm.not (.lt (.lit (.int (n:Int))) (.len (.arg 0)))).holds [] {args:=[.list (ns.map .int)]}=true:=by
   have h4:=(holds_andW hc).1;rw[hn]at h4;exact h4
  have h5:=condW_of h4 (w_not (w_lt w_lit (w_len_list (w_arg rfl))));rw[length_map]at h5;refine Nat.le_of_not_lt λq=>?_
  have q':(n:Int)<((ns.length:Nat):Int):=by omega
  first
   | (rw[decide_eq_true q']at h5;exact absurd h5 (by decide))
   | (simp at h5;omega)
 cases hwl with
 |cons w1 w2 =>
  cases w2;cases w1 with
  |list ho hall=>exact⟨_,_,ns,rfl,rfl,ho,YJ ns _ hall,hlen⟩
def GF(l:OpenLaw)(args:List WData):l.row.toRowW.claim.post args (.bool true) args=true :=
 postW_of (r:=l.row.toRowW) (X:=(true==true))
  (show WShape.has [] (.bool true) .bool=true by first|rfl|decide|simp[WShape.has,WShape.arms,WShape.armsAll])
  (show(WTm.eq .res (.lit (.bool true))).value [] {args:=args,res:=some (.bool true),after:=args}=some (.bool (true==true))from w_eq_bool (w_res rfl) w_lit) rfl
def attach_call{l:OpenLaw}{n:Nat}{q:Program}{loose:List Str}{XP:(Str->Option Value)->Heap->Prop}{YP:World->Heap->Prop}{d:DefRec}
  (hn:l.most=some n) (hdf:d.params.defaults=[])
  (call:∀(w:World) (s₀ s₁:Shared) (mg mb:Str->Option Value) (fa:Addr) (o:Obj) (pm cd doc:Value) (a:Addr) (vs:List Value) (ns:List Int),
   Ground q loose [] XP w s₀ mg mb s₁.heap->YP w s₁.heap ->
   s₁.heap.get? fa=some o->o.data=.func (docDef d.name d.params d.body d.scope pm cd doc)->s₁.heap.CodeRec cd d.name->mg d.name=some (.ref fa) ->
   s₁.heap.get? a=some {cls:=.type "list",data:=.seq vs.toArray}->IntsAre vs ns->ns.length<=n->s₁.gens=#[] ->
   codeAny (model l.prog w) callerA (.call (.ref fa) ⟨[.ref a],[]⟩) (λr s'=>r=.ok (.ret (.bool true))/\OldK s₁.heap s'.heap/\s'.os=s₁.os/\AllBare s'.gens) s₁) :
  WalkO q loose XP YP l.row.toRowW d [] (λf vs=>PySem.call f vs):=by
 intro w s₀ s₁ mg mb G Y fa o pm cd doc dV kV ho hd hcd hD hmg hg args vals as hpre hlay hrd hwl hlo;obtain rfl:dV=.none:=Dflts.none hD hdf;obtain rfl:kV=.none:=Dflts.noKw hD;obtain⟨a,vs,ns,rfl,rfl,hobj,hints,hlen⟩:=GE hn hpre hwl;refine enter_call (codeAny_mono (call w s₀ s₁ mg mb fa o pm cd doc a vs ns G Y ho (fd_plain hd) hcd hmg hobj hints hlen hg) λr s' hq=>?_);obtain⟨rfl,h2,h3,h4⟩:=hq;exact⟨.inl ⟨.bool true,.bool true,[],rfl,λ_=>rfl,.bool true,GF l _,λ_=>⟨List.Pairwise.nil,λ_ hm=>(nomatch hm)⟩⟩,h2,h3,h4⟩
end Att
namespace L2
open PySem PySem.Spec PyProof.Rows
theorem WO:∀{vs:List Value} {ns:List Int},IntsAre vs ns->zg (ns.map V.int) vs
 |_,_,.nil=>.nil|_,_,.cons n t h=>.cons ⟨t,rfl⟩ (WO h)
def Only(H:Hp):Prop:=∀b,H b=none\/∃o xs,H b=some (.frz o (.l xs))
def Q1{P:Program}{w:World}{K:PySem.W.Frag}{mg mb:Str->Option Value}{CX:CXT}{k:Nat}{fa a:Addr}{fd:FuncData}{x:Str}{sp:Sp}{s₁:Shared}{vs:List Value}{ns:List Int}
  (KX:K.In s₁.heap) (hns:s₁.heap.Ns mainGlobals mg) (hb:s₁.heap.Ns builtinsNs mb) (hbb:∀x:Str,x≠"__name__"->mb x=bootBuiltins x) (hlim:s₁.heap.NoLimit) (hg:s₁.gens=#[])
  (ha:s₁.heap.get? a=some {cls:=.type "list",data:=.seq vs.toArray}) (hi:IntsAre vs ns) (hl:ns.length<=sizeLine) (hr:Room k callerA)
  (F:∀base:Heap,K.In base->base.Ns mainGlobals mg->FnOk P w K mg base CX k fa fd [x] sp) (hbind:∀(s:Shared) (u:Value),BindsTo s fd ⟨[u],[]⟩ [(x,u)])
  (hsp:∀H:Hp,Only H->SqL K H a (ns.map V.int)->sp [.ref a] H (λv _=>v=.bl true) λ_ _ _=>False)
  (hCX:∀H e s',CX [] H s₁ (λ_ _ _=>False) e s'->False) :
  codeAny (model P w) callerA (.call (.ref fa) ⟨[.ref a],[]⟩) (λr s'=>r=.ok (.ret (.bool true))/\OldK s₁.heap s'.heap/\s'.os=s₁.os/\AllBare s'.gens) s₁:=by
 have rv:=WO hi;have lenV:=hi.length
 -- from an abstract heap in which nothing but the script may be tracked
 have core:∀H:Hp,Only H->SqL K H a (ns.map V.int)->HOk P w H s₁.heap->(∀b,H b≠none->b=a)->(H a≠none->K.lookup a=none) ->
   codeAny (model P w) callerA (.call (.ref fa) ⟨[.ref a],[]⟩) (λr s'=>r=.ok (.ret (.bool true))/\OldK s₁.heap s'.heap/\s'.os=s₁.os/\AllBare s'.gens) s₁:=by
  intro H hO hS hok hA hK;have base_of:∀{b:Addr} {o:Obj},s₁.heap.get? b=some o->H b=none->(Ql s₁.heap H).get? b=some o:=λe n=>Qm e n
  have noA:∀{b:Addr} {o:Obj} {es:Array DictEntry} {ep:Nat},s₁.heap.get? b=some o->o.data=.dict es ep->H b=none:=λ{b o es ep} e d=>by
   cases q:H b with
   |none=>rfl
   |some u =>
    have e':b=a:=hA b (by rw[q];simp);subst e';rw[ha]at e;cases e;have d':Data.seq vs.toArray _=Data.dict es ep:=d;cases d'
  have nsK:∀{b:Addr} {m:Str->Option Value},s₁.heap.Ns b m->(Ql s₁.heap H).Ns b m:=λ{b m} ⟨o,es,ep,e,d,r⟩=>⟨o,es,ep,base_of e (noA e d),d,r⟩
  have hKb:K.In (Ql s₁.heap H):=λb o e=>base_of (KX b o e) (by
   cases q:H b with
   |none=>rfl
   |some u =>
    have e':b=a:=hA b (by rw[q];simp);subst e';rw[hK (by rw[q];simp)]at e;cases e)
  have hM:Mod K mg (Ql s₁.heap H):=⟨hKb,nsK hns,⟨mb,nsK hb,hbb⟩,let ⟨mc,h1,h2⟩:=hlim;⟨mc,nsK h1,h2⟩⟩;have e0:Env0 P w K mg (Ql s₁.heap H) callerA [] s₁ H:=⟨rfl,hM,λb o e=>of_hidT e,Nat.le_of_eq (ui _ _),trivial,λb hb=>absurd (show b∈([]:List Addr)from hb) (by simp),hok,.of_eq hg⟩;refine codeAny_mono ((F _ hKb (nsK hns)).run callerA [] s₁ H ⟨[.ref a],[]⟩ [.ref a] [.ref a] _ _ hr e0 (hbind s₁ (.ref a)) (.cons rfl .nil) (hsp H hO hS)) λr s' h=>?_
  cases r with
  |error e=>exact(hCX H e s' h).elim
  |ok fl =>
   cases fl with
   |next=>exact False.elim h|brk=>exact False.elim h|cont=>exact False.elim h
   |ret u =>
    obtain⟨v,H',os,bare,un,hok',r',q⟩:=h;have q':v=.bl true:=q;subst q';obtain rfl:u=Value.bool true:=r';refine⟨rfl,OldK.of_keep λb o e=>?_,os,bare⟩;cases q:H b with
    |none=>exact un.keep b o e q (by intro z;exact absurd (show b∈([]:List Addr)from z) (by simp)) (by simp)
    |some u =>
     rcases hO b with z|⟨ob,xs,z⟩
     ·rw[q]at z;cases z
     ·have z2:=un.frzs b ob _ z
      obtain⟨e1,_⟩:=hok b _ z;obtain⟨e2,_⟩:=hok' b _ z2;rw[e]at e1;cases e1;exact e2
 cases hk:K.lookup a with
 |some o =>
  -- the script is one of the module's own objects
  have e:=KX a o hk;rw[ha]at e;cases e;refine core (λ_=>none) (λ_=>.inl rfl) (.inr ⟨_,vs.toArray,_,hk,rfl,rfl,rfl,by rw[size_toArray,lenV];exact hl,by simpa using rv⟩) (λb u z=>by have z':(none:Option HO)=some u:=z;cases z') (λb z=>absurd rfl z) λz=>absurd rfl z
 |none =>
  refine core (λb=>if b=a then some (.frz {cls:=.type "list",data:=.seq vs.toArray} (.l (ns.map V.int)))else none) (λb=>?_) (.inl (.inr ⟨{cls:=.type "list",data:=.seq vs.toArray},if_pos rfl⟩)) (λb u z=>?_) (λb z=>?_) λ_=>hk
  ·by_cases hb:b=a
   ·exact .inr ⟨_,_,if_pos hb⟩
   ·exact .inl (if_neg hb)
  ·by_cases hb:b=a
   ·have z':=(if_pos hb).symm.trans z
    cases z';subst hb;exact⟨ha,by rw[length_map];exact hl,vs,_,rv,ha⟩
   ·have z':=(if_neg hb).symm.trans z
    cases z'
  ·by_cases hb:b=a
   ·exact hb
   ·exact absurd (if_neg hb) z
abbrev CX0:CXT:=λ_ _ _ _ _ _=>False
abbrev E0:XK:=λ_ _ _=>False
structure Fun(K:PySem.W.Frag)(x qual:Str)(st:Stmt)(f:Addr)(fd:FuncData):Prop where
 ex:∃(oc:Value) (od:Option Addr) (kV doc pm:Value) (an:Option Addr) (cdv ct:Value) (osl:Array (Option Value)),
  fd=fnOf x qual (wL st) (yZ st) (zV st) .none kV doc pm an cdv ct/\K.lookup f=some ⟨oc,od,.func fd,osl⟩/\codeIn K cdv qual=true
 kp:keepIn K (.ref f)=true
section
variable{P:Program}{w:World}{K:PySem.W.Frag}{mg:Str->Option Value}{base:Heap}
def Fun.ok{x qual:Str}{st:Stmt}{f:Addr}{fd:FuncData}{N ps:List Str}{k:Nat}{sp:Sp}(F:Fun K x qual st f fd)(S:FnScope N ps (zV st))(len:∀vs H Q E,sp vs H Q E->vs.length=ps.length)
  (hbody:∀(cdv:Value) (A:Around) (outer:List Env) (s:Shared) (H:Hp) (vs:List V) (Q:VK) (E:XK),Room k (A.deeper (envOfC qual (zV st) s.heap.objs.size f cdv))->sp vs H Q E ->
   ∃t,PSs (Qv CX0 P w K mg base N qual (zV st) f cdv A outer s H E).nox (yZ st) t/\t {nx:=λ_ H'=>Q .non H',rt:=Q} (jE N vs) H):FnOk P w K mg base CX0 (k+1) f fd ps sp:=by
 obtain⟨oc,od,kV,doc,pm,an,cdv,ct,osl,rfl,lk,hcd⟩:=F.ex;refine fn_of lk hcd S len λA outer s H vs Q E hr hsp=>?_
 obtain⟨t,h,q⟩:=hbody cdv A outer s H vs Q E hr hsp;exact⟨t,h.nox,q⟩
def Fun.binds{x qual:Str}{st:Stmt}{f:Addr}{fd:FuncData}{ps:List Str}(F:Fun K x qual st f fd)
  (h:∀(kV doc pm:Value) (an:Option Addr) (cdv ct:Value) (us:List Value),us.length=ps.length->bindArgs (fnOf x qual (wL st) (yZ st) (zV st) .none kV doc pm an cdv ct) ⟨us,[]⟩=pure (ps.zip us)):YG K fd ps []:=by
 obtain⟨oc,od,kV,doc,pm,an,cdv,ct,osl,rfl,lk,hcd⟩:=F.ex;exact .all (h kV doc pm an cdv ct)
def zBN{x qual:Str}{st:Stmt}{f:Addr}{oc:Value}{od an:Option Addr}{osl:Array (Option Value)}{kV doc pm cdv ct:Value}(l:K.lookup f=some ⟨oc,od,.func (fnOf x qual (wL st) (yZ st) (zV st) .none kV doc pm an cdv ct),osl⟩)
  (c:codeIn K cdv qual=true) (k:keepIn K (.ref f)=true):Fun K x qual st f (fnOf x qual (wL st) (yZ st) (zV st) .none kV doc pm an cdv ct):=⟨⟨oc,od,kV,doc,pm,an,cdv,ct,osl,rfl,l,c⟩,k⟩
end
def iteF{A B:Prop}(h:B):if false=true then A else B:=by
 rw[if_neg Bool.false_ne_true];exact h
def iteT{A B:Prop}(h:A):if true=true then A else B:=by
 rw[if_pos rfl];exact h
def JI(H H':Hp):Prop:=∀b o,H b=some o->H' b=some o
def JI.refl(H:Hp):JI H H:=λ_ _ h=>h
def JI.trans{H H1 H2:Hp}(a:JI H H1)(b:JI H1 H2):JI H H2:=λc o h=>b c o (a c o h)
def JI.free{H H':Hp}(e:JI H H'){l:Addr}(h:H' l=Option.none):H l=Option.none:=by
 cases q:H l with
 |none=>rfl
 |some o =>
  rw[e l o q]at h;cases h
def JI.seq{K:PySem.W.Frag}{H H':Hp}{a:Addr}{xs:List V}(e:JI H H')(h:SqL K H a xs):SqL K H' a xs:=by
 rcases h with(h|⟨o,h⟩)|h
 ·exact .inl (.inl (e _ _ h))
 ·exact .inl (.inr ⟨o,e _ _ h⟩)
 ·exact .inr h
end L2
namespace DV
open PySem L2 PyProof.Rows
def ExO(C a:Addr):HO:=.ext λh=>∃o,h.get? a=some o/\o.cls=.ref C
def GG{P:Program}{w:World}{H:Hp}{h:Heap}{C a:Addr}{o:Obj}(e:h.get? a=some o)(c:o.cls=.ref C):jK P w H h a (ExO C a) :=
 ⟨⟨o,e,c⟩,⟨o,e⟩,λh1 h2 ⟨o1,e1,c1⟩ k=>⟨o1,k o1 e1,c1⟩⟩
def vZ{P:Program}{w:World}{H:Hp}{h:Heap}{a:Addr}{o:HO}(x:jK P w H h a o):∃u,h.get? a=some u:=by
 cases o with
 |l xs=>obtain⟨_,_,_,_,e⟩:=x;exact⟨_,e⟩|t xs=>obtain⟨_,_,_,o,e,_⟩:=x;exact⟨_,e⟩|dK kvs=>obtain⟨_,_,_,_,o,_,_,e,_⟩:=x;exact⟨_,e⟩|dT kvs=>obtain⟨_,_,_,_,o,_,_,e,_⟩:=x;exact⟨_,e⟩|set S n=>obtain⟨o,_,_,_,e,_⟩:=x;exact⟨_,e⟩|ins C dx fs=>obtain⟨_,_,_,e,_⟩:=x;exact⟨_,e⟩|own y=>exact x|xd fs=>obtain⟨_,⟨_,_,_,e,_⟩,_⟩:=x;exact⟨_,e⟩|rng lo hi=>obtain⟨_,_,_,e⟩:=x;exact⟨_,e⟩|frz ob u=>obtain⟨e,_⟩:=x;exact⟨_,e⟩|tbl ps=>exact⟨_,(show h.get? a=some _ from x)⟩|met f y=>exact⟨_,(show h.get? a=some _ from x)⟩|ext φ=>obtain⟨_,e,_⟩:=x;exact e
def Qh(B:Heap)(H:Hp)(g:Heap)(fs:List Addr)(h:Heap):Prop:=∀b o,h.get? b=some o->((∃o',g.get? b=some o')\/H b≠none)->b∉fs->B.get? b=some o
def Flies(l:List Env)(H:Hp)(g:Heap)(a C:Addr)(h:Heap):Prop:=∃B t,Heap.FlyingW B l a (.ref C) (.ref t) h/\Qh B H g (frs l) h
def CXx(P:Program)(w:World):CXT:=λouter H s E e s'=>∃a C H',e=.ref a/\s'.os=s.os/\AllBare s'.gens/\Un (frs outer) [] H H' s.heap s'.heap/\HOk P w H' s'.heap/\H' a=none/\Flies outer H' s.heap a C s'.heap/\E (.ref C) none H'
section
variable{P:Program}{w:World}{fs:List Addr}{H H':Hp}{g h h' B:Heap}{L:Addr}
def un_on(u:Un fs [] H H' g h)(ok:HOk P w H' h)(kb:Qh B H' g (L::fs) h)(st:B.StaysIn h')(hL:g.get? L=none)(hf:∀b∈fs,∀o,h.get? b=some o->∃sl,h'.get? b=some {o with slots:=sl}):Un fs [] H H' g h' where
 keep:=λb o e n hb hx=>st b o (kb b o (u.keep b o e n hb hx) (.inl ⟨o,e⟩) λz=>by
  rcases mem_cons.mp z with rfl|z
  ·rw[hL]at e;cases e
  ·exact hb z)
 slot:=λb o e n hb hx=>by
  obtain⟨sl,q⟩:=u.slot b o e n hb hx;obtain⟨sl',q'⟩:=hf b hb _ q;exact⟨sl',q'⟩
 free:=u.free
 there:=λb o e hx=>by
  obtain⟨o',q⟩:=u.there b o e hx;by_cases hb:b∈fs
  ·obtain⟨sl,q'⟩:=hf b hb _ q;exact⟨_,q'⟩
  ·exact⟨o',st b o' (kb b o' q (.inl ⟨o,e⟩) λz=>by
    rcases mem_cons.mp z with rfl|z
    ·rw[hL]at e;cases e
    ·exact hb z)⟩
 tups:=u.tups
 frzs:=u.frzs
 tbls:=u.tbls
def GH(ok:HOk P w H' h)(kb:Qh B H' g (L::fs) h)(st:B.StaysIn h')(hn:∀b∈L::fs,H' b=none):HOk P w H' h':=λa o e=>by
 refine(ok a o e).stay (λb u hb q=>?_) (λ_ q=>q) λ_ _ q=>q
 have ht:H' b≠none:=by
  rcases hb with rfl|hb
  ·rw[e];exact λz=>by cases z
  ·rw[hb];exact λz=>by cases z
 exact st b u (kb b u q (.inr ht) λz=>ht (hn b z))
def GI(u:Un fs [] H H' g h)(ok:HOk P w H' h)(kb:Qh B H' g (L::fs) h)(st:B.StaysIn h')(hL:g.get? L=none)(hn:∀b∈L::fs,H' b=none):Qh B H' g fs h':=λb o e hb nf=>by
 have nL:b∉L::fs:=λz=>by
  rcases mem_cons.mp z with rfl|z
  ·rcases hb with⟨o',q⟩|q
   ·rw[hL]at q;cases q
   ·exact q (hn _ (mem_cons_self))
  ·exact nf z
 have:∃o1,h.get? b=some o1:=by
  rcases hb with⟨o',q⟩|q
  ·exact u.there b o' q (by simp)
  ·obtain⟨x,hx⟩:=Option.ne_none_iff_exists'.mp q
   exact vZ (ok b x hx)
 obtain⟨o1,q1⟩:=this;have q2:=kb b o1 q1 hb nL;have q3:=st b o1 q2;rw[e]at q3;cases q3;exact q2
end
section
variable{P:Program}{w:World}{K:PySem.W.Frag}{mg:Str->Option Value}{base:Heap}{N:List Str}{qual:Str}{scope:Scope}{f:Addr}{cd:Value}{A:Around}{outer:List Env}{s:Shared}{H:Hp}{E:XK}
abbrev cxC(c:Bool)(P:Program)(w:World)(K:PySem.W.Frag)(mg:Str->Option Value)(base:Heap)(N:List Str)(qual:Str)(scope:Scope)(f:Addr)(cd:Value)(A:Around)(outer:List Env)(s:Shared)(H:Hp)(E:XK):Cx :=
 {Qv (CXx P w) P w K mg base N qual scope f cd A outer s H E with calm:=c}
variable{c:Bool}
abbrev cxX(P:Program)(w:World)(K:PySem.W.Frag)(mg:Str->Option Value)(base:Heap)(N:List Str)(qual:Str)(scope:Scope)(f:Addr)(cd:Value)(A:Around)(outer:List Env)(s:Shared)(H:Hp)(E:XK):Cx :=
 Qv (CXx P w) P w K mg base N qual scope f cd A outer s H E
variable{pins:List (Addr×Obj)}{O:L2.St}{H':Hp}{s' s1:Shared}{a C:Addr}
def W5:frs (envOfC qual scope s.heap.objs.size f cd::outer)=s.heap.objs.size::frs outer:=rfl
def uQ(I:Inv (cxC c P w K mg base N qual scope f cd A outer s H E) pins O H' s')(u:Un (frs outer) [] H H' s.heap s'.heap)(hn:H' a=none)
  (hf:∃B t,Heap.FlyingW B (cxC c P w K mg base N qual scope f cd A outer s H E).stack a (.ref C) (.ref t) s'.heap/\Qh B H' s.heap (frs (cxC c P w K mg base N qual scope f cd A outer s H E).stack) s'.heap) (hE:E (.ref C) none H') :
  (cxC c P w K mg base N qual scope f cd A outer s H E).xe (.ref a) s':=by
 obtain⟨B,t,fl,kb⟩:=hf;have hL:s.heap.get? s.heap.objs.size=none:=Heap.get?_none_of_le (le_refl _);have hN:∀b∈s.heap.objs.size::frs outer,H' b=none:=λb hb=>I.stkFree b (by show b∈frs (envOfC qual scope s.heap.objs.size f cd::outer);rw[W5];exact hb)
 have kb':Qh B H' s.heap (s.heap.objs.size::frs outer) s'.heap:=kb;refine wpAny_leaves_onW (base:=B) I.ok.frames rfl fl λh' fl' sl=>?_
 have st:B.StaysIn h':=fl'.1;have hfs:∀b∈frs outer,∀o,s'.heap.get? b=some o->∃sl,h'.get? b=some {o with slots:=sl}:=λb hb o e=>by
  obtain⟨_,o',q,nd⟩:=I.funs.mem hb;rw[e]at q;cases q;exact sl b o e nd
 exact⟨a,C,H',rfl,I.os,I.bare,un_on u I.hok kb' st hL hfs,GH I.hok kb' st hN,hn,⟨B,t,fl',GI u I.hok kb' st hL hN⟩,hE⟩
def W6(I:Inv (cxC c P w K mg base N qual scope f cd A outer s H E) pins O H' s1)(hx:Heap.MadeExcOf s1.heap s'.heap a (.ref C) [])(hs:s'={s1 with heap:=s'.heap})(hn:H' a=none)(hE:E (.ref C) none H') :
  (cxC c P w K mg base N qual scope f cd A outer s H E).xe (.ref a) s':=by
 have u:Un (frs outer) [] H H' s.heap s1.heap:=I.base;have hL:s.heap.get? s.heap.objs.size=none:=Heap.get?_none_of_le (le_refl _);have hN:∀b∈s.heap.objs.size::frs outer,H' b=none:=λb hb=>I.stkFree b (by show b∈frs (envOfC qual scope s.heap.objs.size f cd::outer);rw[W5];exact hb)
 have kb:Qh (hideAll s1.heap (s.heap.objs.size::frs outer)) H' s.heap (s.heap.objs.size::frs outer) s1.heap:=λb o e _ nf=>hideAll_get _ e nf
 have hin:∀env∈(envOfC qual scope s.heap.objs.size f cd::outer),∀b,env.frame=some b->b∈s.heap.objs.size::frs outer:=λenv he b hb=>by
  rw[<- W5 (qual:=qual) (scope:=scope) (f:=f) (cd:=cd)];exact mem_filterMap.mpr ⟨env,he,hb⟩
 have hstk:s1.heap.FunFrames base (envOfC qual scope s.heap.objs.size f cd::outer):=I.stack;refine wpAny_leaves_madeW (base:=hideAll s1.heap (s.heap.objs.size::frs outer)) (h:=s1.heap) I.ok.frames rfl (λb o q=>of_hideAll _ q) (PySem.W.funFrames_hide hstk hin) hx λh' t x1 x2 x3 x4=>?_
 have st:=x1.1;have hfs:∀b∈frs outer,∀o,s1.heap.get? b=some o->∃sl,h'.get? b=some {o with slots:=sl}:=λb hb o e=>by
  obtain⟨_,o',q,nd⟩:=I.funs.mem hb;rw[e]at q;cases q;exact x4 b o (hx.keeps b o e) nd
 have os:s'.os=s1.os:=by rw[hs]
 have ge:s'.gens=s1.gens:=by rw[hs]
 refine⟨a,C,H',rfl,os.trans I.os,?_,un_on u I.hok kb st hL hfs,GH I.hok kb st hN,hn,⟨_,t,x1,GI u I.hok kb st hL hN⟩,hE⟩;show AllBare s'.gens;rw[ge];exact I.bare
end
structure RoomN(k:Nat)(A:Around):Prop where
 gd:A.guards=some []
 dp:A.depth+3*k+5<recursionLimit
 un:A.units+16*k+200<cLine
def RoomN.mono{j k:Nat}{A:Around}(r:RoomN k A)(h:j<=k):RoomN j A:=⟨r.gd,by have:=r.dp;omega,by have:=r.un;omega⟩
theorem RoomN.deeper{k:Nat}{A:Around}(r:RoomN (k+1) A)(env:Env):RoomN k (A.deeper env) :=
 ⟨r.gd,by have:=r.dp;show A.depth+1+3*k+5<_;omega,by have:=r.un;show A.units+3+16*k+200<_;omega⟩
theorem RoomN.depth{k:Nat}{A:Around}(r:RoomN k A):A.depth<recursionLimit:=by have:=r.dp;omega
def RoomN.room{k:Nat}{A:Around}(r:RoomN k A)(h:A.handled=none):Room k A:=⟨h,r.gd,r.dp,r.un⟩
def Q2{k:Nat}{A:Around}(r:Room k A):RoomN k A:=⟨r.gd,r.dp,r.un⟩
section
variable{X:Cx}{pins:List (Addr×Obj)}{O:L2.St}{H:Hp}{s:Shared}
def JJ(I:Inv X pins O H s)(A':Around)(c:Bool)(E:Value->Shared->Prop)(hd:c=true->A'.handled=none)(fr:A'.frames=some X.stack):Inv {X with A:=A',calm:=c,xe:=E} pins O H s :=
 ⟨⟨I.ok.mod,I.ok.kind,I.ok.glob,I.ok.blt,I.ok.above,I.ok.inj,I.ok.has,I.ok.cab,hd,fr,I.ok.stk,I.ok.exf,I.ok.bs,I.ok.bsz,I.ok.noex,I.ok.exfs,I.ok.funs,I.ok.frf⟩,I.os,I.bare,I.base,I.loc,I.cell,I.free,I.freeC,I.pin,I.hok,I.len⟩
end
abbrev cxN(c:Bool)(P:Program)(w:World)(K:PySem.W.Frag)(mg:Str->Option Value)(base:Heap)(N:List Str)(qual:Str)(scope:Scope)(f:Addr)(cd:Value)(A:Around)(outer:List Env)(s:Shared)(H:Hp)(E:XK):Cx :=
 cxC c P w K mg base N qual scope f cd A outer s H E
structure FnOkN(c:Bool)(P:Program)(w:World)(K:PySem.W.Frag)(mg:Str->Option Value)(base:Heap)(k:Nat)(f:Addr)(fd:FuncData)(ps:List Str)(sp:Sp):Prop where
 len:∀vs H Q E,sp vs H Q E->vs.length=ps.length
 run:∀(A:Around) (outer:List Env) (s:Shared) (H:Hp) (args:Args) (us:List Value) (vs:List V) (Q:VK) (E:XK),(c=true->A.handled=none)->RoomN k A->Env0 P w K mg base A outer s H->BindsTo s fd args (ps.zip us)->zg vs us->sp vs H Q E ->
  codeAny (model P w) A (.call (.ref f) args) (CR (CXx P w) outer P w H s Q E) s
section
variable{c:Bool}{P:Program}{w:World}{K:PySem.W.Frag}{mg:Str->Option Value}{base:Heap}
theorem FnOkN.mono{j k:Nat}{f:Addr}{fd:FuncData}{ps:List Str}{sp:Sp}(F:FnOkN c P w K mg base j f fd ps sp)(h:j<=k):FnOkN c P w K mg base k f fd ps sp :=
 ⟨F.len,λA outer s H args us vs Q E hd hr=>F.run A outer s H args us vs Q E hd (hr.mono h)⟩
def FnOkN.fn{k:Nat}{f:Addr}{fd:FuncData}{ps:List Str}{sp:Sp}(F:FnOkN c P w K mg base k f fd ps sp):FnOk P w K mg base (CXx P w) k f fd ps sp :=
 ⟨F.len,λA outer s H args us vs Q E hr=>F.run A outer s H args us vs Q E (λ_=>hr.hd) (Q2 hr)⟩
def fn_ofN{k:Nat}{f:Addr}{name qual:Str}{params:Arguments}{body:List Stmt}{scope:Scope}{dV kV doc pm cdv ct oc:Value}{an od:Option Addr}
  {osl:Array (Option Value)} {N ps:List Str} {sp:Sp} (lk:K.lookup f=some ⟨oc,od,.func (fnOf name qual params body scope dV kV doc pm an cdv ct),osl⟩) (hcd:codeIn K cdv qual=true) (S:FnScope N ps scope)
  (len:∀vs H Q E,sp vs H Q E->vs.length=ps.length)
  (hbody:∀(A:Around) (outer:List Env) (s:Shared) (H:Hp) (vs:List V) (Q:VK) (E:XK),(c=true->A.handled=none)->RoomN k (A.deeper (envOfC qual scope s.heap.objs.size f cdv))->sp vs H Q E ->
   ∃t,PSs (cxN c P w K mg base N qual scope f cdv A outer s H E) body t/\t {nx:=λ_ H'=>Q .non H',rt:=Q} (jE N vs) H) :
  FnOkN c P w K mg base (k+1) f (fnOf name qual params body scope dV kV doc pm an cdv ct) ps sp:=by
 refine⟨len,λA outer s H args us vs Q E hd hr e0 hb r hsp=>?_⟩;have hl:=len _ _ _ _ hsp;have KX:K.In s.heap:=e0.mod.kin.keeps λb o e=>(e0.bs b o e).1
 have lim:s.heap.NoLimit:=e0.mod.nolimit.keeps λb o e=>(e0.bs b o e).1
 have hkind:∀y∈ps.zip us,scope.names.lookup y.1=some .local\/(scope.names.lookup y.1=some .cell/\((cellsFrom (s.heap.objs.size+1) scope.names []).lookup y.1).isSome=true):=λ⟨n,v⟩ hy=>by
  rcases S.par n (of_mem_zip hy).1 with q|q
  ·exact .inl q
  ·exact .inr ⟨q,cellsFrom_some _ _ _ (.inl q)⟩
 refine codeAny_call_function hr.depth (KX _ _ lk) rfl S.co S.gen rfl (codeRec_of KX hcd) (hb _ _ _ _ ?_);refine wpAny_newFunctionEnv_cells S.kind hkind λenv he s1 x=>?_
 subst he;refine⟨lim.keeps x.toInCall.keep,codeAny_func ?_⟩;obtain⟨t,ht,hq⟩:=hbody A outer s H vs Q E hd (hr.deeper _) hsp;have e1:Env0 P w K mg base {A with handled:=none} outer s H:=⟨e0.frames,e0.mod,e0.bs,e0.bsz,e0.funs,e0.frf,e0.hok,e0.bare⟩
 have I0:Inv (Qv (CXx P w) P w K mg base N qual scope f cdv {A with handled:=none} outer s H E) [] (jE N vs) H s1:=WJ S rfl e1 hl r x
 have I:Inv (cxN c P w K mg base N qual scope f cdv A outer s H E) [] (jE N vs) H s1:=JJ I0 (A.deeper (envOfC qual scope s.heap.objs.size f cdv)) c _ hd (Around.frames_deeper e0.frames);refine wpAny_mono (ht [] s1 (jE N vs) H _ I hq) (λfl s' hs=>?_) λe s' hs=>hs
 have fin:∀{O':L2.St} {H':Hp} {v:V} {u:Value},Inv (cxN c P w K mg base N qual scope f cdv A outer s H E) [] O' H' s'->zy v u->Q v H'->CE outer P w H s Q u s' :=
  λ{O' H' v u} J rv q=>⟨v,H',J.os,J.bare,J.base,J.hok,rv,q⟩
 cases fl with
 |ret u =>
  obtain⟨v,O',H',J,rv,q⟩:=hs;exact fin J rv q
 |next =>
  obtain⟨O',H',J,q⟩:=hs;exact fin (v:=V.non) (u:=Value.none) J rfl q
 |brk =>
  obtain⟨_,_,_,q⟩:=hs;exact False.elim q
 |cont =>
  obtain⟨_,_,_,q⟩:=hs;exact False.elim q
end
structure Exn where
 cls:Str
 made:Bool
 deriving Inhabited
def RelX(X:Cx)(pins:List (Addr×Obj))(O:L2.St)(x:Exn)(H:Hp)(e:Value)(s:Shared):Prop:=∃a C,e=.ref a/\X.mg x.cls=some (.ref C)/\H a=none /\
 ((x.made=true/\∃s1,Inv X pins O H s1/\s={s1 with heap:=s.heap}/\Heap.MadeExcOf s1.heap s.heap a (.ref C) []) \/
  (x.made=false/\∃sc Hc,Inv X pins O Hc sc/\Un (frs X.stack) [] Hc H sc.heap s.heap/\Flies X.stack H sc.heap a C s.heap))
def XE(X:Cx)(O:L2.St)(H:Hp)(x:Exn):Prop:=∀(pins:List (Addr×Obj)) (s:Shared) (e:Value),Inv X pins O H s->RelX X pins O x H e s->X.xe e s
def EX(X:Cx)(O:L2.St):XK:=λc _ H'=>∃x C,c=.ref C/\X.mg x.cls=some (.ref C)/\x.made=false/\XE X O H' x
section
variable{X:Cx}{pins:List (Addr×Obj)}{O:L2.St}{H:Hp}{s s':Shared}{e:Value}
def pass_x(I:Inv X pins O H s)(h:CXx X.prog X.w X.stack H s (EX X O) e s'):X.xe e s':=by
 obtain⟨a,C,H',rfl,os,bare,un,hok,hn,fl,x,C',ec,hm,hmd,k⟩:=h;cases ec;have I':Inv X pins O H' s':=I.call' (ch:=[]) os un hok bare (λb z=>absurd z (by simp));exact k pins s' _ I' ⟨a,C,rfl,hm,hn,.inr ⟨hmd,s,H,I,un,fl⟩⟩
def run_fnN{c:Bool}{k:Nat}{f:Addr}{fd:FuncData}{ps:List Str}{sp:Sp}{Q:VK}{us:List Value}{vs:List V}(F:FnOkN c X.prog X.w X.K X.mg X.base k f fd ps sp)(hd:c=true->X.A.handled=none)(hr:RoomN k X.A)(hb:YG X.K fd ps [])
  (I:Inv X pins O H s) (r:zg vs us) (h:sp vs H Q (EX X O)):wpAny (model X.prog X.w) X.A (call (.ref f) us) (EP X pins O Q) X.xe s:=by
 have hl:us.length=ps.length:=by rw[<- r.length];exact F.len _ _ _ _ h
 have hbd:=hb s us I.kIn (by rw[append_nil];exact hl);rw[append_nil]at hbd;refine wpAny_call (codeAny_mono (F.run X.A X.stack s H ⟨us,[]⟩ us vs Q (EX X O) hd hr I.env0 hbd r h) λr s' hq=>?_);cases r with
 |error e=>exact pass_x I hq
 |ok fl =>
  cases fl with
  |ret u=>exact I.after hq|next=>exact False.elim hq|brk=>exact False.elim hq|cont=>exact False.elim hq
end
section
variable{X:Cx}{c:Bool}{k:Nat}{f:Addr}{fd:FuncData}{ps:List Str}{sp:Sp}{x:Str}{p pos:Pos}{e:Expr}{es:List Expr}{t:TA}
def Q3(F:FnOkN c X.prog X.w X.K X.mg X.base k f fd ps sp)(hdl:c=true->X.A.handled=none)(hr:RoomN k X.A)(hg:Gl X x)(hm:X.mg x=some (.ref f))(hk:keepIn X.K (.ref f)=true)(hb:YG X.K fd ps [])
  (ha:PA X (e::es) t) (hdb:(x==("__debug__":Str))=false:=by decide) (he:starEach (e::es) X.env=(false,eval e X.env)::starEach es X.env:=by rfl) (hpl:(backTo pos (starEach es X.env)).any (·.1)=false:=by rfl) :
  PE X (.Call (.Name x p) (e::es) [] pos) (λO H Q=>t O H λvs H1=>sp vs H1 Q (EX X O)):=by
 intro pins s O H Q I h;refine wpAny_Call_Name_kw (ZW I hg hm ?_ hdb);refine PySem.W.callWith_K (h₀:=X.base) I.ok.mod.kin hk (thn (ha pos pins s O H _ I h) λus s1 ⟨vs,H1,I1,r,q⟩=>⟨I1.kIn,?_⟩) he hpl;exact run_fnN F hdl hr hb I1 r q
end
def Q4{c:Bool}{P:Program}{w:World}{K:PySem.W.Frag}{mg:Str->Option Value}{base:Heap}{N:List Str}{qual:Str}{scope:Scope}{f:Addr}{cd:Value}{A:Around}{outer:List Env}{s:Shared}{H H':Hp}{E:XK}{O:L2.St}{x:Exn}
  (hE:∀C,mg x.cls=some (.ref C)->E (.ref C) none H'):XE (cxN c P w K mg base N qual scope f cd A outer s H E) O H' x:=by
 intro pins s' e I ⟨a,C,he,hm,hn,h⟩;subst he;have sw:∀{H1:Hp} {s1:Shared},Inv (cxN c P w K mg base N qual scope f cd A outer s H E) pins O H1 s1->Inv (cxX P w K mg base N qual scope f cd {A with handled:=none} outer s H E) pins O H1 s1:=λJ=>JJ J _ true _ (λ_=>rfl) J.ok.frames
 rcases h with⟨_,s1,I1,hs,hx⟩|⟨_,sc,Hc,Ic,un,fl⟩
 ·exact W6 I1 hx hs hn (hE C hm)
 ·obtain⟨B,t,f1,f2⟩:=fl
  refine uQ I I.base hn ⟨B,t,f1,λb o q z nf=>f2 b o q ?_ nf⟩ (hE C hm);rcases z with⟨o',z⟩|z
  ·exact .inl (Ic.base.there b o' z (by show b∉([]:List Addr);simp))
  ·exact .inr z
end DV
namespace DV
open PySem L2 PyProof.Rows PySem.Spec
open PySem.W (Frag Looks)
structure XCls(K:Frag)(c:Str)(C T:Addr):Prop where
 cd:∃cd,clsIn K C=some cd/\cd.name=c/\cd.mro=[.ref C,.ref T,.type "ValueError",.type "Exception",.type "BaseException",.type "object"]
 ty:typeIn K (.ref C)=some (.type "type")
 ga:findIn K (.ref C) "__getattribute__"=some (some (.builtin "BaseException.__getattribute__"))
 gn:findIn K (.ref C) "__getattr__"=some none
 gc:findIn K (.ref C) "__class__"=some (some (.builtin "object.__class__"))
 sp:specialIn K (.builtin "object.__class__") "__get__"=some (some (.builtin "getset_descriptor.__get__"))
 tk:takesIn K (.builtin "object.__class__")=some true
section
open Builtin Builtin.ObjectAttr Builtin.Getset_descriptor
variable{K:Frag}{c:Str}{C T x:Addr}{h:Heap}{ox:Obj}{M:Model}
def XCls.mro(F:XCls K c C T)(b:Value):mroIn K C b=some ([Value.ref C,.ref T,.type "ValueError",.type "Exception",.type "BaseException",.type "object"].contains b):=by
 obtain⟨cd,h1,_,h3⟩:=F.cd;unfold mroIn;rw[h1,Option.bind_some,h3];rfl
def typ(e:h.get? x=some ox)(ec:ox.cls=.ref C):Looks M h (typeOf (.ref x)) (.ref C):=ec▸(Looks.ld e).andThen .now
def Q5(F:XCls K c C T)(X:K.In h):Looks M h (find (.ref x) (.ref C) "__class__") (.bind (.builtin "getset_descriptor.__get__") (.builtin "object.__class__")):=by
 have l3:Looks M h (takesStores (.builtin "object.__class__")) true:=PySem.W.looks_takesIn X F.tk;have l4:Looks M h (dataDescriptor? (some (.builtin "object.__class__")) (some (.builtin "getset_descriptor.__get__"))) (some (.builtin "getset_descriptor.__get__",.builtin "object.__class__")):=l3.andThen .now;exact(looks_findIn X F.gc).andThen ((PySem.W.looks_specialIn X F.sp).andThen (l4.andThen (Looks.tag .now)))
end
section
open Builtin Builtin.ObjectAttr Builtin.Getset_descriptor
variable{K:Frag}{c:Str}{C T x:Addr}{ox:Obj}{prog:Program}{w:World}{A:Around}{E:Value->Shared->Prop}{s:Shared}
def cls_get{R:Result->Shared->Prop}(F:XCls K c C T)(X:K.In s.heap)(e:s.heap.get? x=some ox)(ec:ox.cls=.ref C)(hq:R (.ok (.ret (.ref C))) s) :
  codeAny (model prog w) A (.call (.builtin "getset_descriptor.__get__") ⟨[.builtin "object.__class__",.ref x,.ref C],[]⟩) R s:=by
 obtain⟨hh,gs,dr,tt,os⟩:=s;have ty:Looks (model prog w) hh (typeOf (.ref x)) (.ref C):=typ e ec;have sb:Looks (model prog w) hh (isSubtype (.ref C) (.type "object")) true:=looks_mroIn X (by rw[F.mro];rfl);refine codeAny_call_builtin PySem.W.KF.slot_gs.plain PySem.W.KF.entry_gs (PySem.W.KF.slot_gs.check _ _ _ _ _ _ _ _ PySem.W.KF.type_class (PySem.W.KF.args_gs _ _ _) ?_);unfold Builtin.«getset_descriptor.__get__»;unfold descrGet;rw[PySem.W.dga_obj];refine wpAny_bind (wpAny_pure ?_);unfold descrGetter descrCheckInstance descrNameAndClass isInstance;simp only[PySem.W.KF.owner_class]
 repeat lk
 refine⟨Code.quiet_builtin _ (by decide +kernel),?_⟩;refine codeAny_builtin PySem.W.KF.entry_class ?_;unfold Builtin.«object.__class__»;unfold shownTypeOf
 repeat lk
 exact hq
def GJ{tk:Tok}{Q:Fin->Shared->Prop}(F:XCls K c C T)(X:K.In s.heap)(e:s.heap.get? x=some ox)(ec:ox.cls=.ref C)(hq:Q (.done (.ret (.ref C))) s) :
  wpAny (model prog w) A (Builtin.«object.__getattribute__» ⟨[.ref x,.str "__class__" tk],[]⟩) Q E s:=by
 obtain⟨hh,gs,dr,tt,os⟩:=s;have ty:Looks (model prog w) hh (typeOf (.ref x)) (.ref C):=typ e ec;have fd:Looks (model prog w) hh (find (.ref x) (.ref C) "__class__") _:=Q5 F X;have go:∀Q',Q' (.done (.ret (.ref C))) (⟨hh,gs,dr,tt,os⟩:Shared)->wpAny (model prog w) A (bindTo (.builtin "getset_descriptor.__get__") (.builtin "object.__class__") (.ref x) (.ref C)) Q' E ⟨hh,gs,dr,tt,os⟩:=λQ' q=>by
  unfold bindTo;refine wpAny_bind (wpAny_call (cls_get F X e ec ?_));exact wpAny_pure q
 refine wpAny_bind (wpAny_pure ?_);refine wpAny_bind (wpAny_pure ?_);refine wpAny_bind (ty.at ?_);refine wpAny_bind (fd.at ?_);exact go _ hq
def GK{nameV:Value}{M:Model}{Q:Unit->Shared->Prop}(F:XCls K c C T)(X:K.In s.heap)(e:s.heap.get? x=some ox)(ec:ox.cls=.ref C)(hq:Q () s) :
  wpAny M A (checkBuiltinCall "BaseException.__getattribute__" ⟨[.ref x,nameV],[]⟩) Q E s:=by
 obtain⟨hh,gs,dr,tt,os⟩:=s;have ty:Looks M hh (typeOf (.ref x)) (.ref C):=typ e ec;have sb:Looks M hh (isSubtype (.ref C) (.type "BaseException")) true:=looks_mroIn X (by rw[F.mro];rfl);have inst:Looks M hh (isInstance (.ref x) (.type "BaseException")) true:=ty.andThen sb;have k1:builtinKind "BaseException.__getattribute__"=some .slot:=by decide +kernel
 have k2:splitId "BaseException.__getattribute__"=some ("BaseException","__getattribute__"):=by decide +kernel
 have k3:=PySem.F.args_bexc_ga (.ref x) nameV;simp only[checkBuiltinCall,k1,k2];refine wpAny_bind (inst.at ?_)
 repeat (any_goals (first|assumption|wp_step))
def Q6{tk:Tok}{R:Result->Shared->Prop}(F:XCls K c C T)(X:K.In s.heap)(e:s.heap.get? x=some ox)(ec:ox.cls=.ref C)(hq:R (.ok (.ret (.ref C))) s) :
  codeAny (model prog w) A (.call (.builtin "BaseException.__getattribute__") ⟨[.ref x,.str "__class__" tk],[]⟩) R s :=
 codeAny_call_builtin PySem.F.attr_ValueError.ga.plain PySem.F.entry_bexc_ga (GK F X e ec (GJ F X e ec hq))
def Q7{Q:Option Value->Shared->Prop}(F:XCls K c C T)(X:K.In s.heap)(e:s.heap.get? x=some ox)(ec:ox.cls=.ref C)(hq:Q (some (.ref C)) {s with toks:=s.toks+1}) :
  wpAny (model prog w) A (getAttr? (.ref x) "__class__") Q E s:=by
 obtain⟨hh,gs,dr,tt,os⟩:=s;have ty:Looks (model prog w) hh (typeOf (.ref x)) (.ref C):=typ e ec;have l1:Looks (model prog w) hh (typeLookup (.ref C) "__getattribute__") _:=looks_findIn X F.ga;have l2:Looks (model prog w) hh (typeLookup (.ref C) "__getattr__") _:=looks_findIn X F.gn;have b1:=PySem.F.attr_ValueError.ga.bind (.ref x);unfold getAttr? getAttrBy?;refine wpAny_bind (wpAny_mkText (wpAny_bind (wpAny_attempt ?_)));unfold getAttrBy;refine wpAny_holding (wpAny_bind (ty.at (wpAny_bind (l1.at ?_))));have ne:(Value.builtin "BaseException.__getattribute__" == Value.builtin "object.__getattribute__")=false:=by decide +kernel
 dsimp only;rw[ne,Bool.and_false,if_neg (by decide)];unfold getAttrByItsOwn hookBefore;refine wpAny_bind (l2.at ?_);refine wpAny_bind (wpAny_attempt (wpAny_holding ?_));unfold callGetattribute;rw[if_neg (by decide +kernel)];unfold boundAndCalled;rw[b1];refine wpAny_bind (wpAny_pure (wpAny_call (Q6 F X e ec ?_)));exact wpAny_pure (wpAny_pure hq)
end
structure TCls(K:Frag)(T:Addr):Prop where
 cd:∃cd,clsIn K T=some cd/\cd.mro=.ref T::VB
 ty:typeIn K (.ref T)=some (.type "type")
section
variable{K:Frag}{c y:Str}{C Y T x:Addr}{h:Heap}{ox:Obj}{M:Model}
def TCls.mro(F:TCls K T)(b:Value):mroIn K T b=some ((Value.ref T::VB).contains b):=by
 obtain⟨cd,h1,h3⟩:=F.cd;unfold mroIn;rw[h1,Option.bind_some,h3];rfl
def GL{cd:ClassData}(X:K.In h)(e:clsIn K C=some cd):Looks M h (isType (.ref C)) true:=by
 unfold clsIn at e;split at e
 ·rename_i ho
  intro A Q E s k q;unfold isType loadHead;exact wpAny_bind (wpAny_loadPart (k _ _ (X _ _ ho)) (wpAny_pure q))
 ·cases e
def GM{cd:ClassData}{tp:Addr}{dd:Option Addr}{its:List Value}{n:Nat}{sl:Array (Option Value)}(X:K.In h)(e:clsIn K C=some cd)(ht:h.get? tp=some ⟨.type "tuple",dd,.seq its.toArray n,sl⟩):(Value.ref C==.ref tp)=false:=by
 refine Bool.eq_false_iff.mpr λq=>?_
 obtain rfl:C=tp:=Value.ref.inj (beq_iff_eq.mp q);unfold clsIn at e;split at e
 ·rename_i ho;have z:=(X _ _ ho).symm.trans ht;cases z
 ·cases e
def kit_exc(F:XCls K c C T):PySem.W.KitX K (.ref x) (.ref C) (λh=>∃o,h.get? x=some o/\o.cls=.ref C) where
 ty:=λM h X ⟨o,e,ec⟩=>typ e ec
 it:=λM h X _=>let ⟨_,e,_⟩:=F.cd;GL X e
 ne:=λh tp dd its n sl X ht=>let ⟨_,e,_⟩:=F.cd;GM X e ht
 ca:=λX ⟨o,e,ec⟩ q=>Q7 F X e ec q
def kit_own(F:XCls K c C T)(G:XCls K y Y T)(hY:Y≠T)(he:c=y->C=Y):kitOne K (.ref C) (.ref Y)=some (c==y):=by
 obtain⟨cd,h1,h2,h3⟩:=F.cd;obtain⟨cy,g1,g2,g3⟩:=G.cd;unfold kitOne;by_cases e:C=Y
 ·subst e
  rw[h1]at g1;cases g1;rw[if_pos (by simp),<- h2,<- g2];simp
 ·have ne:(c==y)=false:=by
   cases q:c==y with
   |false=>rfl|true=>exact absurd (he (by simpa using q)) e
  rw[if_neg (by simpa using e),ne];unfold kitCls;dsimp only;rw[if_pos (by rw[g1,G.ty];rfl)];show mroIn K C (.ref Y)=_;rw[F.mro];have e1:(Value.ref Y==Value.ref C)=false:=by simpa using λz:Y=C=>e z.symm
  have e2:(Value.ref Y==Value.ref T)=false:=by simpa using hY
  simp only[List.contains_cons,e1,e2];rfl
def kit_val(F:XCls K c C T):kitOne K (.ref C) (.type "ValueError")=some true:=by
 unfold kitOne;rw[if_neg (by simp)];unfold kitCls;dsimp only;rw[if_pos (by decide +kernel)];show mroIn K C _=_;rw[F.mro];rfl
def W7{A:Around}{E:Value->Shared->Prop}{s:Shared}{Q:Bool->Shared->Prop}(F:XCls K c C T)(G:TCls K T)(X:K.In s.heap)(e:s.heap.get? x=some ox)(ec:ox.cls=.ref C)(hq:Q true s):wpAny M A (excMatches (.ref x) (.ref T)) Q E s:=by
 obtain⟨hh,gs,dr,tt,os⟩:=s;obtain⟨cd,g1,g2⟩:=G.cd;have ty:Looks M hh (typeOf (.ref x)) (.ref C):=typ e ec;have tT:Looks M hh (typeOf (.ref T)) (.type "type"):=PySem.W.looks_typeIn X G.ty;have nt:Looks M hh (isInstance (.ref T) (.type "tuple")) false:=tT.andThen (Looks.of_pure tc_notTuple);have iT:Looks M hh (isType (.ref T)) true:=GL X g1;have sT:Looks M hh (isSubtype (.ref T) (.type "BaseException")) true:=looks_mroIn X (by rw[G.mro];rfl);have sC:Looks M hh (isSubtype (.ref C) (.ref T)) true:=looks_mroIn X (by rw[F.mro];simp);unfold excMatches isExcClass;refine wpAny_bind (nt.at ?_);refine wpAny_bind (wpAny_pure ?_);refine wpAny_bind ?_;rw[forIn_cons];refine wpAny_bind (wpAny_bind (wpAny_bind (iT.at ?_)));refine sT.at ?_;refine wpAny_pure ?_;refine wpAny_pure ?_;refine wpAny_bind (ty.at ?_);refine wpAny_bind ?_;rw[forIn_cons];refine wpAny_bind (wpAny_bind (sC.at ?_));refine wpAny_pure (wpAny_pure ?_);exact wpAny_pure hq
def own_at{newId:String}{bmB:List Value}(X:K.In h)(q:excIn K C bmB newId=true) :
  ∃bm N nm q bs hdct sn sub ab col dd k0 k1 k2 k3 k5 mN,h.get? C=some (excClassObj nm q C N bs bm hdct sn sub ab col dd k0 k1 k2 k3 k5 newId)/\h.Ns N mN/\mN "__init__"=none/\OwnTail h bmB bm:=by
 unfold excIn at q;split at q
 ·rename_i dd cd sl ho
  split at q
  ·rename_i C' bm a0 a1 a2 a3 id a5 hm hs
   simp only[Bool.and_eq_true,beq_iff_eq,Bool.not_eq_true']at q;obtain⟨⟨⟨⟨⟨q1,q2⟩,q3⟩,q4⟩,q5⟩,q6⟩:=q;subst q1 q2;obtain⟨l⟩:=sl;have hs':l=[a0,a1,a2,a3,some (.builtin id),a5]:=hs;subst hs';obtain⟨nm,bs,mro,ns,qn,hd,sn,sub,ab,col,del⟩:=cd;cases hm;cases q3;exact⟨bm,ns,nm,qn,bs,hd,sn,sub,ab,col,dd,a0,a1,a2,a3,a5,_,X _ _ ho,.of_isNs (PySem.W.isNs_of_in X q5),PySem.W.nsMap_none_of_in X q5 q6,PySem.W.tail_of_in X q4⟩
  ·cases q
 ·cases q
end
end DV
namespace DV
open PySem L2
set_option genInjectivity true in
inductive D where
 |non
 |bl (b:Bool)
 |int (i:Int)
 |str (x:Str)
 |t (ds:List D)
 |l (ds:List D)
 |fn (x:Str)
 |dic
 |exn (c:Str)
 deriving Inhabited
mutual
def Rep(K:PySem.W.Frag)(mg:Str->Option Value)(H:Hp):D->V->Prop
 | .non,v=>v=.non| .bl b,v=>v=.bl b| .int i,v=>v=.int i| .str x,v=>v=.str x| .t ds,v=>∃a xs,v=.ref a/\SqT K H a xs/\Reps K mg H ds xs| .l ds,v=>∃a xs,v=.ref a/\SqL K H a xs/\Reps K mg H ds xs| .fn x,v=>∃f,v=.ref f/\mg x=some (.ref f)| .dic,v=>∃a,v=.ref a/\H a=some (.dK [])| .exn c,v=>∃a C,v=.ref a/\mg c=some (.ref C)/\H a=some (ExO C a)
def Reps(K:PySem.W.Frag)(mg:Str->Option Value)(H:Hp):List D->List V->Prop
 | [],vs=>vs=[]|d::ds,vs=>∃v r,vs=v::r/\Rep K mg H d v/\Reps K mg H ds r
end
section
variable{K:PySem.W.Frag}{mg:Str->Option Value}{H H':Hp}
def zw{a:Addr}{xs:List V}(e:JI H H')(h:SqT K H a xs):SqT K H' a xs:=by
 rcases h with(h|⟨o,h⟩)|h
 ·exact .inl (.inl (e _ _ h))
 ·exact .inl (.inr ⟨o,e _ _ h⟩)
 ·exact .inr h
mutual
theorem Rep.mono(e:JI H H'):∀{d:D} {v:V},Rep K mg H d v->Rep K mg H' d v
 | .non,_,h=>by simpa only[Rep]using h| .bl _,_,h=>by simpa only[Rep]using h| .int _,_,h=>by simpa only[Rep]using h| .str _,_,h=>by simpa only[Rep]using h
 | .t ds,_,h=>by
  simp only[Rep]at h ⊢;obtain⟨a,xs,h1,h2,h3⟩:=h;exact⟨a,xs,h1,zw e h2,Reps.mono e h3⟩
 | .l ds,_,h=>by
  simp only[Rep]at h ⊢;obtain⟨a,xs,h1,h2,h3⟩:=h;exact⟨a,xs,h1,e.seq h2,Reps.mono e h3⟩
 | .fn _,_,h=>by simpa only[Rep]using h
 | .dic,_,h=>by
  simp only[Rep]at h ⊢;obtain⟨a,h1,h2⟩:=h;exact⟨a,h1,e _ _ h2⟩
 | .exn _,_,h=>by
  simp only[Rep]at h ⊢;obtain⟨a,C,h1,h2,h3⟩:=h;exact⟨a,C,h1,h2,e _ _ h3⟩
theorem Reps.mono(e:JI H H'):∀{ds:List D} {vs:List V},Reps K mg H ds vs->Reps K mg H' ds vs
 | [],_,h=>by simpa only[Reps]using h
 |d::ds,_,h=>by
  simp only[Reps]at h ⊢;obtain⟨v,r,h1,h2,h3⟩:=h;exact⟨v,r,h1,Rep.mono e h2,Reps.mono e h3⟩
end
theorem Reps.length:∀{ds:List D} {vs:List V},Reps K mg H ds vs->vs.length=ds.length
 | [],_,h=>by simp only[Reps]at h;subst h;rfl
 |d::ds,_,h=>by
  simp only[Reps]at h;obtain⟨v,r,rfl,h2,h3⟩:=h;simp[Reps.length h3]
def Reps.nil:Reps K mg H [] []:=by simp only[Reps]
def Reps.cons{d:D}{v:V}{ds:List D}{vs:List V}(h:Rep K mg H d v)(t:Reps K mg H ds vs):Reps K mg H (d::ds) (v::vs):=by
 simp only[Reps];exact⟨v,vs,rfl,h,t⟩
theorem Reps.get:∀{ds:List D} {vs:List V} {i:Nat} {v:V},Reps K mg H ds vs->vs[i]?=some v->∃d,ds[i]?=some d/\Rep K mg H d v
 | [],_,_,_,h,e=>by simp only[Reps]at h;subst h;simp at e
 |d::ds,_,i,v,h,e=>by
  simp only[Reps]at h;obtain⟨v',r,rfl,h2,h3⟩:=h;cases i with
  |zero=>simp at e;subst e;exact⟨d,rfl,h2⟩|succ i=>simp at e;obtain⟨d',q1,q2⟩:=Reps.get h3 e;exact⟨d',by simpa using q1,q2⟩
theorem Reps.get':∀{ds:List D} {vs:List V} {i:Nat} {d:D},Reps K mg H ds vs->ds[i]?=some d->∃v,vs[i]?=some v/\Rep K mg H d v
 | [],_,_,_,h,e=>by simp at e
 |d::ds,_,i,d',h,e=>by
  simp only[Reps]at h;obtain⟨v',r,rfl,h2,h3⟩:=h;cases i with
  |zero=>simp at e;subst e;exact⟨v',rfl,h2⟩|succ i=>simp at e;obtain⟨v,q1,q2⟩:=Reps.get' h3 e;exact⟨v,by simpa using q1,q2⟩
theorem Reps.append:∀{ds es:List D} {vs ws:List V},Reps K mg H ds vs->Reps K mg H es ws->Reps K mg H (ds++es) (vs++ws)
 | [],_,_,_,h,g=>by simp only[Reps]at h;subst h;exact g
 |d::ds,_,_,_,h,g=>by
  simp only[Reps]at h;obtain⟨v',r,rfl,h2,h3⟩:=h;exact Reps.cons h2 (Reps.append h3 g)
theorem Reps.set:∀{ds:List D} {vs:List V} (i:Nat) {d:D} {v:V},Reps K mg H ds vs->Rep K mg H d v->Reps K mg H (ds.set i d) (vs.set i v)
 | [],_,_,_,_,h,g=>by simp only[Reps]at h;subst h;exact Reps.nil
 |d::ds,_,i,_,_,h,g=>by
  simp only[Reps]at h;obtain⟨v',r,rfl,h2,h3⟩:=h;cases i with
  |zero=>exact Reps.cons g h3|succ i=>exact Reps.cons h2 (Reps.set i h3 g)
theorem Reps.take:∀{ds:List D} {vs:List V} (n:Nat),Reps K mg H ds vs->Reps K mg H (ds.take n) (vs.take n)
 | [],_,_,h=>by simp only[Reps]at h;subst h;simp[Reps.nil]
 |d::ds,_,n,h=>by
  simp only[Reps]at h;obtain⟨v',r,rfl,h2,h3⟩:=h;cases n with
  |zero=>exact Reps.nil|succ n=>exact Reps.cons h2 (Reps.take n h3)
theorem Reps.drop:∀{ds:List D} {vs:List V} (n:Nat),Reps K mg H ds vs->Reps K mg H (ds.drop n) (vs.drop n)
 | [],_,_,h=>by simp only[Reps]at h;subst h;simp[Reps.nil]
 |d::ds,_,n,h=>by
  simp only[Reps]at h;obtain⟨v',r,rfl,h2,h3⟩:=h;cases n with
  |zero=>exact Reps.cons h2 h3|succ n=>exact Reps.drop n h3
theorem Reps.flatten{ds:List D}{vs:List V}(h:Reps K mg H ds vs):∀n:Nat,Reps K mg H (replicate n ds).flatten (replicate n vs).flatten
 |0=>Reps.nil|n+1=>by simp only[replicate_succ,flatten_cons];exact h.append (Reps.flatten h n)
end
open Classical in
def Hm(M:Addr->Prop)(H:Hp):Hp:=λb=>if M b then none else H b
section
variable{M M':Addr->Prop}{H H':Hp}{b:Addr}{o:HO}
def zJ:Hm M H b=some o↔¬M b/\H b=some o:=by
 unfold Hm;by_cases h:M b
 ·simp[h]
 ·simp[h]
def zK:JI (Hm M H) H:=λb o h=>(zJ.mp h).2
def jF(h:∀b,M' b->M b):JI (Hm M H) (Hm M' H):=λb o e=>zJ.mpr ⟨λx=>(zJ.mp e).1 (h b x),(zJ.mp e).2⟩
end
inductive Slot where
 |e
 |v (d:D)
 |own (ds:List D)
 |par (ds:List D)
 deriving Inhabited
abbrev zQ:=List Slot
set_option genInjectivity true in
inductive R where
 |v (d:D)
 |own (ds:List D)
 deriving Inhabited
def R.slot:R->Slot
 | .v d=>.v d| .own ds=>.own ds
def R.d:R->D
 | .v d=>d| .own ds=>.l ds
def Slot.list?:Slot->Option (List D)
 | .own ds=>some ds| .par ds=>some ds|_=>none
abbrev Fz:=List (Option V×Slot)
def Wz:Option V×Slot->Option Addr
 | (some (.ref a),.own _)=>some a| (some (.ref a),.par _)=>some a|_=>none
def zu(Z:Fz):List Addr:=Z.filterMap Wz
def Mo(M:Addr->Prop)(Z:Fz):Addr->Prop:=λb=>M b\/b∈zu Z
def zT(Z T:Fz):zu (Z++T)=zu Z++zu T:=List.filterMap_append
def zS(o:Option V)(d:D)(Z:Fz):zu ((o,.v d)::Z)=zu Z:=by
 unfold zu;rw[List.filterMap_cons_none];cases o with
 |none=>rfl
 |some v=>cases v<;>rfl
def wj(a:Addr)(ds:List D)(Z:Fz):zu ((some (.ref a),.own ds)::Z)=a::zu Z:=rfl
def yM(o:Option V)(Z:Fz):zu ((o,.e)::Z)=zu Z:=by
 unfold zu;rw[List.filterMap_cons_none];cases o with
 |none=>rfl
 |some v=>cases v<;>rfl
def yf(M:Addr->Prop)(T Z:Fz):Mo M (T++Z)=Mo (Mo M T) Z:=by
 funext b
 apply propext;simp only[Mo,zT,mem_append];constructor
 ·rintro (h|h|h)
  ·exact .inl (.inl h)
  ·exact .inl (.inr h)
  ·exact .inr h
 ·rintro ((h|h)|h)
  ·exact .inl h
  ·exact .inr (.inl h)
  ·exact .inr (.inr h)
def W8{M:Addr->Prop}{T Z:Fz}(p:T.Perm Z):Mo M T=Mo M Z:=by
 funext b
 apply propext;simp only[Mo,zu];rw[(p.filterMap Wz).mem_iff]
def YK(M:Addr->Prop)(o:Option V)(d:D)(Z:Fz):Mo M ((o,.v d)::Z)=Mo M Z:=by unfold Mo;rw[zS]
def Mo_emp(M:Addr->Prop)(o:Option V)(Z:Fz):Mo M ((o,.e)::Z)=Mo M Z:=by unfold Mo;rw[yM]
structure FR(K:PySem.W.Frag)(mg:Str->Option Value)(M:Addr->Prop)(H:Hp)(Z:Fz):Prop where
 val:∀o d,(o,Slot.v d)∈Z->∃v,o=some v/\Rep K mg (Hm (Mo M Z) H) d v
 own:∀o s ds,(o,s)∈Z->s.list?=some ds->∃a xs,o=some (.ref a)/\H a=some (.l xs)/\¬M a/\Reps K mg (Hm (Mo M Z) H) ds xs
 nd:(zu Z).Nodup
 mal:∀b,M b->∃o,H b=some o
structure Step(M:Addr->Prop)(H:Hp)(Z:Fz)(H':Hp)(Z':Fz):Prop where
 same:JI (Hm (Mo M Z) H) (Hm (Mo M Z') H')
 keep:∀b o,M b->H b=some o->H' b=some o
section
variable{K:PySem.W.Frag}{mg:Str->Option Value}{M:Addr->Prop}{H H' H1 H2:Hp}{Z Z' T Z1 Z2:Fz}
theorem Step.refl:Step M H Z H Z:=⟨JI.refl _,λ_ _ _ h=>h⟩
theorem Step.trans(a:Step M H Z H1 Z1)(b:Step M H1 Z1 H2 Z2):Step M H Z H2 Z2 :=
 ⟨a.same.trans b.same,λx o m h=>b.keep x o m (a.keep x o m h)⟩
def wk(h:∀b,b∈zu Z->b∈zu Z'):∀b,Mo M Z b->Mo M Z' b:=λb q=>q.elim .inl λq=>.inr (h b q)
def Step.weak(a:Step M H Z H' Z')(h:∀b,b∈zu T->b∈zu Z'):Step M H Z H' T :=
 ⟨a.same.trans (jF (wk h)),a.keep⟩
def Step.left(a:Step M H Z H' Z')(h:∀b,b∈zu Z->b∈zu T):Step M H T H' Z' :=
 ⟨(jF (wk h)).trans a.same,a.keep⟩
def zC(h:T.Sublist Z):∀b,b∈zu T->b∈zu Z:=λb q=>(h.filterMap Wz).subset q
def zB(h:T.Perm Z):∀b,b∈zu T->b∈zu Z:=λb q=>(h.filterMap Wz).subset q
def FR.perm(h:FR K mg M H Z)(p:Z.Perm T):FR K mg M H T where
 val:=λo d q=>by rw[<- W8 p];exact h.val o d (p.mem_iff.mpr q)
 own:=λo s ds q e=>by rw[<- W8 p];exact h.own o s ds (p.mem_iff.mpr q) e
 nd:=(p.filterMap Wz).nodup_iff.mp h.nd
 mal:=h.mal
def FR.sub(h:FR K mg M H Z)(p:T.Sublist Z):FR K mg M H T where
 val:=λo d q=>by
  obtain⟨v,e,r⟩:=h.val o d (p.subset q);exact⟨v,e,r.mono (jF (wk (zC p)))⟩
 own:=λo s ds q e=>by
  obtain⟨a,xs,e1,e2,e3,r⟩:=h.own o s ds (p.subset q) e;exact⟨a,xs,e1,e2,e3,r.mono (jF (wk (zC p)))⟩
 nd:=h.nd.sublist (p.filterMap Wz)
 mal:=h.mal
def FR.tail{x:Option V×Slot}(h:FR K mg M H (x::Z)):FR K mg M H Z:=h.sub (sublist_cons_self _ _)
def yx{o:Option V}{s:Slot}{ds:List D}{a:Addr}(h:(o,s)∈Z)(e:s.list?=some ds)(ho:o=some (.ref a)):a∈zu Z:=by
 subst ho;refine mem_filterMap.mpr ⟨_,h,?_⟩;cases s<;>simp[Slot.list?]at e<;>rfl
def W9{a:Addr}(h:a∈zu Z):∃s ds,(some (V.ref a),s)∈Z/\Slot.list? s=some ds:=by
 obtain⟨⟨o,s⟩,h1,h2⟩:=mem_filterMap.mp h;unfold Wz at h2;split at h2
 ·rename_i e;cases e;cases h2;exact⟨_,_,h1,rfl⟩
 ·rename_i e;cases e;cases h2;exact⟨_,_,h1,rfl⟩
 ·cases h2
def FR.ownAt(h:FR K mg M H Z){a:Addr}(e:a∈zu Z):∃xs,H a=some (.l xs)/\¬M a:=by
 obtain⟨s,ds,h1,h2⟩:=W9 e;obtain⟨a',xs,e1,e2,e3,_⟩:=h.own _ s ds h1 h2;cases e1;exact⟨xs,e2,e3⟩
def FR.moAl(h:FR K mg M H Z)(b:Addr)(e:Mo M Z b):∃o,H b=some o:=by
 rcases e with e|e
 ·exact h.mal b e
 ·obtain⟨xs,q,_⟩:=h.ownAt e
  exact⟨_,q⟩
def FR.inner(h:FR K mg M H (T++Z)):FR K mg (Mo M T) H Z where
 val:=λo d q=>by rw[<- yf];exact h.val o d (mem_append_right _ q)
 own:=λo s ds q e=>by
  obtain⟨a,xs,e1,e2,e3,r⟩:=h.own o s ds (mem_append_right _ q) e;refine⟨a,xs,e1,e2,λm=>?_,by rw[<- yf];exact r⟩;rcases m with m|m
  ·exact e3 m
  ·have nd:=h.nd
   rw[zT]at nd;exact(nodup_append.mp nd).2.2 a m a (yx q e e1) rfl
 nd:=by
  have nd:=h.nd;rw[zT]at nd;exact(nodup_append.mp nd).2.1
 mal:=λb q=>by
  rcases q with q|q
  ·exact h.mal b q
  ·obtain⟨xs,q,_⟩:=h.ownAt (a:=b) (by rw[zT];exact mem_append_left _ q)
   exact⟨_,q⟩
def FR.outer(h:FR K mg M H (T++Z))(g:FR K mg (Mo M T) H' Z')(st:Step (Mo M T) H Z H' Z'):FR K mg M H' (T++Z') where
 val:=λo d q=>by
  rw[yf];rcases mem_append.mp q with q|q
  ·obtain⟨v,e,r⟩:=h.val o d (mem_append_left _ q)
   rw[yf]at r;exact⟨v,e,r.mono st.same⟩
  ·exact g.val o d q
 own:=λo s ds q e=>by
  rw[yf];rcases mem_append.mp q with q|q
  ·obtain⟨a,xs,e1,e2,e3,r⟩:=h.own o s ds (mem_append_left _ q) e
   rw[yf]at r;exact⟨a,xs,e1,st.keep a _ (.inr (yx q e e1)) e2,e3,r.mono st.same⟩
  ·obtain⟨a,xs,e1,e2,e3,r⟩:=g.own o s ds q e
   exact⟨a,xs,e1,e2,λm=>e3 (.inl m),r⟩
 nd:=by
  rw[zT];have nd:=h.nd;rw[zT]at nd;refine nodup_append.mpr ⟨(nodup_append.mp nd).1,g.nd,λa ha b hb e=>?_⟩;subst e;obtain⟨xs,_,q⟩:=g.ownAt hb;exact q (.inr ha)
 mal:=λb q=>g.mal b (.inl q)
def Step.outer(st:Step (Mo M T) H Z H' Z'):Step M H (T++Z) H' (T++Z') :=
 ⟨by rw[yf,yf];exact st.same,λb o m h=>st.keep b o (.inl m) h⟩
def yN{p:Addr}{o:HO}(hp:H p=none):JI H (upd H p o):=λb u e=>by
 rw[zr (λq=>by subst q;rw[hp]at e;cases e)];exact e
def FR.grow(h:FR K mg M H Z){p:Addr}{o:HO}(hp:H p=none):FR K mg M (upd H p o) Z where
 val:=λo' d q=>by
  obtain⟨v,e,r⟩:=h.val o' d q;exact⟨v,e,r.mono λb u x=>zJ.mpr ⟨(zJ.mp x).1,yN hp b u (zJ.mp x).2⟩⟩
 own:=λo' s ds q e=>by
  obtain⟨a,xs,e1,e2,e3,r⟩:=h.own o' s ds q e;exact⟨a,xs,e1,yN hp _ _ e2,e3,r.mono λb u x=>zJ.mpr ⟨(zJ.mp x).1,yN hp b u (zJ.mp x).2⟩⟩
 nd:=h.nd
 mal:=λb q=>by obtain⟨u,e⟩:=h.mal b q;exact⟨u,yN hp _ _ e⟩
def Step.grow{p:Addr}{o:HO}(hp:H p=none):Step M H Z (upd H p o) Z :=
 ⟨λb u x=>zJ.mpr ⟨(zJ.mp x).1,yN hp b u (zJ.mp x).2⟩,λb u _ e=>yN hp b u e⟩
def FR.add(h:FR K mg M H Z){v:V}{d:D}(r:Rep K mg (Hm (Mo M Z) H) d v):FR K mg M H ((some v,.v d)::Z) where
 val:=λo d' q=>by
  rw[YK];rcases mem_cons.mp q with q|q
  ·cases q;exact⟨v,rfl,r⟩
  ·exact h.val o d' q
 own:=λo s ds q e=>by
  rw[YK];rcases mem_cons.mp q with q|q
  ·cases q;cases e
  ·exact h.own o s ds q e
 nd:=by rw[zS];exact h.nd
 mal:=h.mal
def Step.add{v:Option V}{d:D}(st:Step M H Z H' Z'):Step M H Z H' ((v,.v d)::Z'):=by
 refine⟨?_,st.keep⟩;rw[YK];exact st.same
def wm(h:FR K mg M H Z){p:Addr}(hp:H p=none):¬Mo M Z p:=λq=>by
 obtain⟨o,e⟩:=h.moAl p q;rw[hp]at e;cases e
def jR(h:FR K mg M H Z){p:Addr}{ds:List D}{xs:List V}(hp:H p=none):JI (Hm (Mo M Z) H) (Hm (Mo M ((some (.ref p),.own ds)::Z)) (upd H p (.l xs))):=λb u x=>by
 obtain⟨h1,h2⟩:=zJ.mp x;refine zJ.mpr ⟨λq=>?_,yN hp _ _ h2⟩;rcases q with q|q
 ·exact h1 (.inl q)
 ·rw[wj]at q
  rcases mem_cons.mp q with q|q
  ·subst q;rw[hp]at h2;cases h2
  ·exact h1 (.inr q)
def FR.newOwn(h:FR K mg M H Z){p:Addr}{ds:List D}{xs:List V}(hp:H p=none)(r:Reps K mg (Hm (Mo M Z) H) ds xs):FR K mg M (upd H p (.l xs)) ((some (.ref p),.own ds)::Z) where
 val:=λo d q=>by
  rcases mem_cons.mp q with q|q
  ·cases q
  ·obtain⟨v,e,r⟩:=h.val o d q
   exact⟨v,e,r.mono (jR h hp)⟩
 own:=λo s ds' q e=>by
  rcases mem_cons.mp q with q|q
  ·cases q;cases e
   exact⟨p,xs,rfl,yc,λm=>wm h hp (.inl m),r.mono (jR h hp)⟩
  ·obtain⟨a,ys,e1,e2,e3,r⟩:=h.own o s ds' q e
   exact⟨a,ys,e1,yN hp _ _ e2,e3,r.mono (jR h hp)⟩
 nd:=by
  rw[wj];exact nodup_cons.mpr ⟨λq=>wm h hp (.inr q),h.nd⟩
 mal:=λb q=>by obtain⟨u,e⟩:=h.mal b q;exact⟨u,yN hp _ _ e⟩
def Step.newOwn(h:FR K mg M H Z){p:Addr}{ds:List D}{xs:List V}(hp:H p=none):Step M H Z (upd H p (.l xs)) ((some (.ref p),.own ds)::Z) :=
 ⟨jR h hp,λb u _ e=>yN hp b u e⟩
def FR.newTup(h:FR K mg M H Z){p:Addr}{ds:List D}{xs:List V}(hp:H p=none)(r:Reps K mg (Hm (Mo M Z) H) ds xs):FR K mg M (upd H p (.t xs)) ((some (.ref p),.v (.t ds))::Z):=by
 refine(h.grow hp).add ?_;simp only[Rep];refine⟨p,xs,rfl,SqT.of (zJ.mpr ⟨wm h hp,yc⟩),r.mono λb u x=>zJ.mpr ⟨(zJ.mp x).1,yN hp b u (zJ.mp x).2⟩⟩
def Step.newVal{p:Addr}{o:HO}{v:Option V}{d:D}(hp:H p=none):Step M H Z (upd H p o) ((v,.v d)::Z):=(Step.grow hp).add
def FR.frz{o:Option V}{r:R}(h:FR K mg M H ((o,r.slot)::Z)):FR K mg M H ((o,.v r.d)::Z):=by
 cases r with
 |v d=>exact h
 |own ds =>
  obtain⟨a,xs,e1,e2,e3,rr⟩:=h.own o (.own ds) ds mem_cons_self rfl;subst e1;have hn:¬Mo M Z a:=λq=>by
   rcases q with q|q
   ·exact e3 q
   ·exact(nodup_cons.mp h.nd).1 q
  refine h.tail.add ?_;simp only[R.d,Rep];exact⟨a,xs,rfl,SqL.of (zJ.mpr ⟨hn,e2⟩),rr.mono (jF (wk (zC (sublist_cons_self _ _))))⟩
def Step.frz{o:Option V}{r:R}(h:Step M H Z H' ((o,r.slot)::Z')):Step M H Z H' ((o,.v r.d)::Z'):=by
 cases r with
 |v d=>exact h
 |own ds =>
  refine h.weak λb q=>?_
  rw[zS]at q;exact(zC (sublist_cons_self _ _)) b q
theorem Zb:∀(O:St) (E:zQ) (i:Nat) (o:Option V) (s:Slot),(O.set i o).zip (E.set i s)=(O.zip E).set i (o,s)
 | [],_,_,_,_=>by simp|_::_,[],_,_,_=>by simp|x::O,y::E,0,o,s=>by simp|x::O,y::E,i+1,o,s=>by simp[Zb O E i o s]
theorem zh{α:Type}(x:α):∀(l:List α) (i:Nat),i<l.length->(l.set i x).Perm (x::l.eraseIdx i)
 | [],_,h=>by simp at h|y::l,0,_=>List.Perm.refl _
 |y::l,i+1,h=>by
  have ih:=zh x l i (by simpa using h);simp only[List.set_cons_succ,List.eraseIdx_cons_succ];exact(ih.cons y).trans (List.Perm.swap x y _)
def FR.put(h:FR K mg M H (((o:Option V),s)::Z)){i:Nat}(hi:i<Z.length):FR K mg M H (Z.set i (o,s)) :=
 (h.sub ((List.eraseIdx_sublist Z i).cons_cons (o,s))).perm (zh _ _ _ hi).symm
def Step.put{o:Option V}{s:Slot}(h:Step M H Z H' ((o,s)::Z')){i:Nat}(hi:i<Z'.length):Step M H Z H' (Z'.set i (o,s)):=by
 refine h.weak λb q=>?_
 exact zC ((List.eraseIdx_sublist Z' i).cons_cons (o,s)) b (zB (zh _ _ _ hi) b q)
end
inductive Out(α:Type) where
 |z
 |ok (a:α)
 |exc (x:Exn) (E:zQ)
 deriving Inhabited
abbrev ME:=zQ->Out (R×zQ)
abbrev MA:=zQ->Out (List R×zQ)
abbrev MT:=zQ->Out (Bool×zQ)
def PKp(O:St)(E:zQ)(O':St)(E':zQ):Prop:=∀(i:Nat) ds,E[i]?=some (.par ds)->(∃ds',E'[i]?=some (.par ds'))/\O'[i]?=O[i]?
def PKp.refl{O:St}{E:zQ}:PKp O E O E:=λi ds h=>⟨⟨ds,h⟩,rfl⟩
theorem PKp.trans{O O1 O2:St}{E E1 E2:zQ}(a:PKp O E O1 E1)(b:PKp O1 E1 O2 E2):PKp O E O2 E2:=λi ds h=>by
 obtain⟨⟨ds1,h1⟩,e1⟩:=a i ds h;obtain⟨h2,e2⟩:=b i ds1 h1;exact⟨h2,e2.trans e1⟩
structure Got(K:PySem.W.Frag)(mg:Str->Option Value)(M:Addr->Prop)(O:St)(E:zQ)(H:Hp)(T0:Fz)(O':St)(E':zQ)(H':Hp)(T:Fz):Prop where
 len:E'.length=O'.length
 fr:FR K mg M H' (T++(T0++O'.zip E'))
 st:Step M H (T0++O.zip E) H' (T++(T0++O'.zip E'))
 pk:PKp O E O' E'
def GN(vs:List V)(rs:List R):Fz:=(vs.zip rs).map λp=>(some p.1,p.2.slot)
def KM(X:Cx)(M:Addr->Prop)(O:St)(E:zQ)(H:Hp)(T0:Fz)(Q:VK):Out (R×zQ)->Prop
 | .z=>False| .ok (r,E')=>∀v H',Got X.K X.mg M O E H T0 O E' H' [(some v,r.slot)]->Q v H'| .exc x E'=>∀H',Got X.K X.mg M O E H T0 O E' H' []->XE X O H' x
def KT(X:Cx)(M:Addr->Prop)(O:St)(E:zQ)(H:Hp)(T0:Fz)(Q:Bool->Hp->Prop):Out (Bool×zQ)->Prop
 | .z=>False| .ok (b,E')=>∀H',Got X.K X.mg M O E H T0 O E' H' []->Q b H'| .exc x E'=>∀H',Got X.K X.mg M O E H T0 O E' H' []->XE X O H' x
def KA(X:Cx)(M:Addr->Prop)(O:St)(E:zQ)(H:Hp)(T0:Fz)(Q:List V->Hp->Prop):Out (List R×zQ)->Prop
 | .z=>False| .ok (rs,E')=>∀vs H',vs.length=rs.length->Got X.K X.mg M O E H T0 O E' H' (GN vs rs)->Q vs H'| .exc x E'=>∀H',Got X.K X.mg M O E H T0 O E' H' []->XE X O H' x
def tM(X:Cx)(m:ME):TE:=λO H Q=>∃M E,E.length=O.length/\FR X.K X.mg M H (O.zip E)/\KM X M O E H [] Q (m E)
def tMT(X:Cx)(m:MT):TT:=λO H Q=>∃M E,E.length=O.length/\FR X.K X.mg M H (O.zip E)/\KT X M O E H [] Q (m E)
def tMA(X:Cx)(m:MA):TA:=λO H Q=>∃M E,E.length=O.length/\FR X.K X.mg M H (O.zip E)/\KA X M O E H [] Q (m E)
abbrev EOk(X:Cx)(e:Expr)(m:ME):Prop:=PE X e (tM X m)
abbrev TOk(X:Cx)(e:Expr)(m:MT):Prop:=PT X e (tMT X m)
abbrev AOk(X:Cx)(es:List Expr)(m:MA):Prop:=PA X es (tMA X m)
def zc{X:Cx}{e:Expr}{t t':TE}(h:PE X e t)(i:∀O H Q,t' O H Q->t O H Q):PE X e t':=λpins s O H Q I q=>h pins s O H Q I (i O H Q q)
def WP{X:Cx}{e:Expr}{t t':TT}(h:PT X e t)(i:∀O H Q,t' O H Q->t O H Q):PT X e t':=λpins s O H Q I q=>h pins s O H Q I (i O H Q q)
def zBO{X:Cx}{e:Expr}{t t':TT}(h:PW X e t)(i:∀O H Q,t' O H Q->t O H Q):PW X e t':=λwh pins s O H Q I q=>h wh pins s O H Q I (i O H Q q)
def WQ{X:Cx}{e:List Expr}{t t':TA}(h:PA X e t)(i:∀O H Q,t' O H Q->t O H Q):PA X e t':=λp pins s O H Q I q=>h p pins s O H Q I (i O H Q q)
def jc{X:Cx}{e:Stmt}{t t':TS}(h:PS X e t)(i:∀D O H,t' D O H->t D O H):PS X e t':=λpins s O H D I q=>h pins s O H D I (i D O H q)
def GO{X:Cx}{e:List Stmt}{t t':TS}(h:PSs X e t)(i:∀D O H,t' D O H->t D O H):PSs X e t':=λpins s O H D I q=>h pins s O H D I (i D O H q)
section
variable{X:Cx}{K:PySem.W.Frag}{mg:Str->Option Value}{M:Addr->Prop}{O O' O1 O2:St}{E E' E1 E2:zQ}{H H' H1 H2:Hp}{T0 T T1 T2:Fz}{Q:VK}
def swapP{α:Type}(A B C:List α):(A++(B++([]++C))).Perm (B++(A++C)):=by
 rw[nil_append,<- append_assoc,<- append_assoc];exact(perm_append_comm).append_right _
def Js{α:Type}{l:List α}{i:Nat}{x:α}(h:l[i]?=some x):l.set i x=l:=by
 obtain⟨hi,rfl⟩:=List.getElem?_eq_some_iff.mp h;exact List.set_getElem_self hi
theorem Got.outer(h:FR K mg M H (T0++O.zip E))(g:Got K mg (Mo M T0) O E H [] O' E' H' T):Got K mg M O E H T0 O' E' H' T where
 len:=g.len
 fr:=by
  have q:=FR.outer h g.fr g.st;exact q.perm (swapP _ _ _)
 st:=by
  have q:=Step.outer g.st;refine q.weak λb hb=>?_
  exact zB (swapP _ _ _).symm b hb
 pk:=g.pk
theorem Got.trans(a:Got K mg M O E H T0 O1 E1 H1 T1)(b:Got K mg M O1 E1 H1 (T1++T0) O2 E2 H2 T2):Got K mg M O E H T0 O2 E2 H2 (T2++T1) where
 len:=b.len
 fr:=by
  have q:=b.fr;rw[append_assoc]at q;rw[append_assoc];exact q
 st:=by
  have q:=b.st;rw[append_assoc,append_assoc]at q;rw[append_assoc];exact a.st.trans q
 pk:=a.pk.trans b.pk
def Got.drop(a:Got K mg M O E H T0 O1 E1 H1 (T2++T1)):Got K mg M O E H T0 O1 E1 H1 T1 where
 len:=a.len
 fr:=a.fr.sub (by rw[append_assoc];exact sublist_append_right _ _)
 st:=a.st.weak (zC (by rw[append_assoc];exact sublist_append_right _ _))
 pk:=a.pk
def Got.dropAll(a:Got K mg M O E H T0 O1 E1 H1 T1):Got K mg M O E H T0 O1 E1 H1 [] where
 len:=a.len
 fr:=a.fr.sub (sublist_append_right _ _)
 st:=a.st.weak (zC (sublist_append_right _ _))
 pk:=a.pk
def Got.trans'(a:Got K mg M O E H [] O1 E1 H1 T1)(b:Got K mg M O1 E1 H1 T1 O2 E2 H2 T2):Got K mg M O E H [] O2 E2 H2 (T2++T1):=a.trans (by rw[append_nil];exact b)
theorem Got.refl(hl:E.length=O.length)(h:FR K mg M H (T0++O.zip E)):Got K mg M O E H T0 O E H []:=⟨hl,h,Step.refl,PKp.refl⟩
def Got.more(a:Got K mg M O E H [] O1 E1 H1 T1)(f:FR K mg M H2 (T++O1.zip E1))(s:Step M H1 (O1.zip E1) H2 (T++O1.zip E1)):Got K mg M O E H [] O1 E1 H2 T where
 len:=a.len
 fr:=f
 st:=(a.st.weak (zC (sublist_append_right _ _))).trans s
 pk:=a.pk
def Got.frame(a:Got K mg M O E H [] O1 E1 H1 T1):FR K mg M H1 (O1.zip E1):=a.fr.sub (sublist_append_right _ _)
def ZG(v:V)(r:R)(vs:List V)(rs:List R):GN (v::vs) (r::rs)=(some v,r.slot)::GN vs rs:=rfl
theorem GP:∀{vs:List V} {rs:List R} {Z:Fz},vs.length=rs.length->FR K mg M H (GN vs rs++Z)->Reps K mg (Hm (Mo M Z) H) (rs.map R.d) vs
 | [],[],Z,_,h=>Reps.nil
 |v::vs,r::rs,Z,hl,h=>by
  rw[ZG,cons_append]at h;refine Reps.cons ?_ (GP (by simpa using hl) h.tail);obtain⟨v',e,q⟩:=h.frz.val (some v) r.d mem_cons_self;cases e;refine q.mono (jF (wk λb hb=>?_));rw[zS,zT];exact mem_append_right _ hb
def Got.reps{vs:List V}{rs:List R}(hl:vs.length=rs.length)(a:Got K mg M O E H [] O1 E1 H1 (GN vs rs)):Reps K mg (Hm (Mo M (O1.zip E1)) H1) (rs.map R.d) vs:=GP hl a.fr
def Got.rep{v:V}{r:R}(a:Got K mg M O E H [] O1 E1 H1 [(some v,r.slot)]):Rep K mg (Hm (Mo M (O1.zip E1)) H1) r.d v:=by
 have q:=Got.reps (vs:=[v]) (rs:=[r]) rfl a;simp only[List.map,Reps]at q;obtain⟨v',r',e,h,_⟩:=q;cases e;exact h
def zd{m:ME}(hl:E.length=O.length)(h:FR X.K X.mg M H (T0++O.zip E))
  (k:KM X M O E H T0 Q (m E)):tM X m O H Q:=by
 refine⟨Mo M T0,E,hl,h.inner,?_⟩;cases e:m E with
 |z=>rw[e]at k;exact k|ok a=>rw[e]at k;exact λv H' g=>k v H' (g.outer h)|exc x E'=>rw[e]at k;exact λH' g=>k H' (g.outer h)
def wM{m:MT}{Q:Bool->Hp->Prop}(hl:E.length=O.length)(h:FR X.K X.mg M H (T0++O.zip E))
  (k:KT X M O E H T0 Q (m E)):tMT X m O H Q:=by
 refine⟨Mo M T0,E,hl,h.inner,?_⟩;cases e:m E with
 |z=>rw[e]at k;exact k|ok a=>rw[e]at k;exact λH' g=>k H' (g.outer h)|exc x E'=>rw[e]at k;exact λH' g=>k H' (g.outer h)
def YL{m:MA}{Q:List V->Hp->Prop}(hl:E.length=O.length)(h:FR X.K X.mg M H (T0++O.zip E))
  (k:KA X M O E H T0 Q (m E)):tMA X m O H Q:=by
 refine⟨Mo M T0,E,hl,h.inner,?_⟩;cases e:m E with
 |z=>rw[e]at k;exact k|ok a=>rw[e]at k;exact λvs H' hv g=>k vs H' hv (g.outer h)|exc x E'=>rw[e]at k;exact λH' g=>k H' (g.outer h)
def eC(d:D):ME:=λE=>.ok (.v d,E)
def flat:D->Bool
 | .non | .bl _ | .int _ | .str _=>true
 |_=>false
def flV:D->V
 | .bl b=>.bl b| .int i=>.int i| .str x=>.str x|_=>.non
def va{d:D}(h:flat d=true):Rep K mg H d (flV d):=by
 cases d<;>simp[flat]at h<;>simp[Rep,flV]
theorem Got.flat(a:Got K mg M O E H [] O1 E1 H1 T1){d:D}(h:flat d=true):Got K mg M O E H [] O1 E1 H1 [(some (flV d),.v d)] :=
 a.more (a.frame.add (va h)) Step.refl.add
def ok_c{e:Expr}{d:D}(h:PE X e (tC (flV d)))(hf:flat d=true:=by rfl):EOk X e (eC d):=zc h λO H Q ⟨M,E,hl,f,k⟩ =>
 k (flV d) H ((Got.refl (T0:=[]) hl f).flat hf)
def ok_int{i j pos}:EOk X (.Constant (.int i) j pos) (eC (.int i)):=ok_c pe_int
def ok_bl{b j pos}:EOk X (.Constant (.bool b) j pos) (eC (.bl b)):=ok_c pe_bl
def ok_non{j pos}:EOk X (.Constant .none j pos) (eC .non):=ok_c pe_non
def ok_str{x j pos}:EOk X (.Constant (.str x) j pos) (eC (.str x)):=ok_c pe_str
def ub(i:Nat):ME:=λE=>match E[i]? with
 |some (.v d)=>.ok (.v d,E)|some (.own ds)=>.ok (.v (.l ds),E.set i (.v (.l ds)))|_=>.z
def JK{i:Nat}{s:Slot}(hl:E.length=O.length)(h:E[i]?=some s):∃o,O[i]?=some o/\(O.zip E)[i]?=some (o,s):=by
 have hi:i<E.length:=(List.getElem?_eq_some_iff.mp h).1;have:i<O.length:=hl▸hi;refine⟨O[i],by simp[this],?_⟩;rw[List.getElem?_zip_eq_some];exact⟨by simp[this],h⟩
def jh{i:Nat}{s:Slot}(hl:E.length=O.length)(h:E[i]?=some s):∃o,O[i]?=some o/\(o,s)∈O.zip E:=by
 obtain⟨o,h1,h2⟩:=JK hl h;exact⟨o,h1,mem_of_getElem? h2⟩
def z8{i:Nat}{o:Option V}(s:Slot)(h:O[i]?=some o):O.zip (E.set i s)=(O.zip E).set i (o,s):=by
 rw[<- Zb];congr 1;have hi:i<O.length:=(List.getElem?_eq_some_iff.mp h).1;apply List.ext_getElem?;intro j;by_cases e:i=j
 ·subst e;rw[getElem?_set_self hi,h]
 ·rw[getElem?_set_ne e]
def pk_set{i:Nat}{s:Slot}{ds0:List D}(h:E[i]?=some s)(hs:∀ds,s≠.par ds)(o:Slot):PKp O E O (E.set i o):=λj ds e=>by
 have ne:i≠j:=λq=>by subst q;rw[h]at e;exact hs ds (Option.some.inj e)
 exact⟨⟨ds,by rw[getElem?_set_ne ne];exact e⟩,rfl⟩
def ok_var(i:Nat){x:Str}{pos:Pos}(h:PE X (.Name x pos) (uJ i)):EOk X (.Name x pos) (ub i):=zc h λO H Q ⟨M,E,hl,f,k⟩=>by
 unfold ub at k;cases e:E[i]? with
 |none=>rw[e]at k;exact k.elim
 |some sl =>
 rw[e]at k;cases sl with
 |e=>exact k.elim|par ds=>exact k.elim
 |v d =>
  obtain⟨o,h1,h2⟩:=jh hl e;obtain⟨v,rfl,r⟩:=f.val o d h2;exact⟨v,h1,k v H ⟨hl,f.add r,Step.refl.add,PKp.refl⟩⟩
 |own ds =>
  obtain⟨o,h1,h2⟩:=JK hl e;obtain⟨a,xs,rfl,q1,q2,q3⟩:=f.own o (.own ds) ds (mem_of_getElem? h2) rfl;refine⟨.ref a,h1,k _ H ?_⟩;have hlt:i<(O.zip E).length:=(List.getElem?_eq_some_iff.mp h2).1;have p:(O.zip E).Perm ((some (.ref a),R.slot (.own ds))::(O.zip E).eraseIdx i):=by
   have:=zh (some (V.ref a),Slot.own ds) (O.zip E) i hlt;rw[Js h2]at this;exact this
  have f1:=(f.perm p).frz;have f2:FR X.K X.mg M H ((O.zip E).set i (some (.ref a),.v (.l ds))):=f1.perm (zh _ _ _ hlt).symm;rw[<- z8 (.v (.l ds)) h1]at f2;have r:=f1.val _ _ mem_cons_self;obtain⟨v,ev,rr⟩:=r;cases ev;have em:Mo M ((some (V.ref a),Slot.v (R.own ds).d)::(O.zip E).eraseIdx i)=Mo M (O.zip (E.set i (.v (.l ds)))):=by
   rw[z8 (.v (.l ds)) h1];exact(W8 (zh _ _ _ hlt)).symm
  rw[em]at rr;refine⟨by simp[hl],f2.add rr,?_,?_⟩
  ·refine Step.add ?_
   refine Step.weak Step.refl λb hb=>?_
   refine zB p.symm b ?_;rw[nil_append,z8 (.v (.l ds)) h1]at hb;have hb':=zB (zh _ _ _ hlt) b hb;rw[zS]at hb';exact zC (sublist_cons_self _ _) b hb'
  ·exact pk_set (ds0:=[]) e (λds' q=>by cases q) _
end
def zL:Expr->Bool
 | .Starred _ _=>true|_=>false
def yg:List Expr->Bool
 | []=>true|e::es=>!zL e&&yg es
def zF{e:Expr}{es:List Expr}{env:Env}(h:zL e=false):starEach (e::es) env=(false,eval e env)::starEach es env:=by
 cases e<;>first|rfl|(cases h)
def star1{a:Expr}{env:Env}(ha:zL a=false):starEach [a] env=[(false,eval a env)]:=by
 rw[zF ha];rfl
def yl:Expr->Bool
 | .Set _ _ _=>false|_=>true
def wn{e:Expr}{env:Env}(h:yl e=true):∀x,foldedSetIterable e env x=pure x:=by
 intro x;cases e<;>first|rfl|(cases h)
def wN:Expr->Bool
 | .ListComp _ _ _ _=>false| .SetComp _ _ _ _=>false| .DictComp _ _ _ _ _=>false|_=>true
def Zc{e:Expr}{t:Option Expr}{l:Nat}{env:Env}(h:wN e=true):swapsWith e t l env=pure false:=by
 cases e<;>first|rfl|(cases h)
def zBP:Expr->Bool
 | .UnaryOp .Not _ _=>false| .BoolOp _ _ _=>false| .IfExp _ _ _ _=>false| .Compare _ _ _ _=>false|_=>true
def test_of{e:Expr}{env:Env}(h:zBP e=true):∀whole,isTrue e env whole=(do let v <- whole;standAt e.pos;holding [v] (truthy v)):=by
 intro x;cases e<;>first|rfl|(cases h)|skip;rename_i op _ _;cases op<;>first|rfl|(cases h)
def Yw:Expr->Bool
 | .Slice _ _ _ _=>false|_=>true
theorem WR{env:Env}:∀{es:List Expr},yg es=true->(starEach es env).any (·.1)=false
 | [],_=>rfl
 |e::es,h=>by
  simp only[yg,Bool.and_eq_true,Bool.not_eq_true']at h;rw[zF h.1];simp[WR h.2]
def Q8(pos:Pos)(l:List (Bool×Sem Value)):(backTo pos l).any (·.1)=l.any (·.1):=by
 unfold backTo;rw[List.any_map];rfl
def yy{env:Env}{es:List Expr}{pos:Pos}(h:yg es=true):(backTo pos (starEach es env)).any (·.1)=false:=by
 rw[Q8,WR h]
end DV
namespace L2
open PySem PySem.Spec PyProof.Rows
section
variable{X:Cx}
def zBQ(K:PySem.W.Frag):R2:=λx y H Q=>∃a b xs ys,x=.ref a/\y=.ref b/\SqT K H a xs/\SqT K H b ys/\xs.length+ys.length<=sizeLine /\
 (xs=[]->Q (.ref b) H)/\(xs≠[]->ys=[]->Q (.ref a) H)/\(xs≠[]->ys≠[]->∀p,H p=none->Q (.ref p) (upd H p (.t (xs++ys))))
def Q9:OpR X (binaryOp .Add) (zBQ X.K):=by
 intro pins s O H x y v u Q I rx ry h;obtain⟨a,b,xs,ys,rfl,rfl,ha,hb,hz,q0,q1,q2⟩:=h;cases rx;cases ry;obtain⟨its,r1,p1,_⟩:=I.tuple ha;obtain⟨its2,r2,p2,_⟩:=I.tuple hb;by_cases hx:xs=[]
 ·have hi:its=[]:=r1.nil_iff.mpr hx
  obtain⟨⟨cls,dd,data,sl⟩,ho,hc,n,hd⟩:=id p1;obtain⟨⟨cls2,dd2,data2,sl2⟩,ho2,hc2,n2,hd2⟩:=id p2;simp only at hc hd hc2 hd2;subst hc hd hc2 hd2;exact concat_meets ⟨_,ho,rfl⟩ ⟨_,ho2,rfl⟩ noFill_tuple_add seq_tuple_add PySem.F.slot_tuple_add PySem.F.entry_tuple_add (PySem.F.args_tuple_add_2 _ _)
   (tuple_addW0 a b its.toArray its2.toArray n n2 dd dd2 sl sl2 (by simp[hi])) ⟨ho,ho2,⟨.ref b,H,I,rfl,q0 hx⟩⟩
 ·exact op_catT pins s O H (.ref a) (.ref b) (.ref a) (.ref b) Q I rfl rfl ⟨a,b,xs,ys,rfl,rfl,ha,hb,hx,hz,q1 hx,q2 hx⟩
def rCatL(K:PySem.W.Frag):R2:=λx y H Q=>∃l b xs zs,x=.ref l/\y=.ref b/\SqL K H l xs/\SqL K H b zs/\xs.length+zs.length<=sizeLine/\∀p,H p=none->Q (.ref p) (upd H p (.l (xs++zs)))
def op_catL:OpR X (binaryOp .Add) (rCatL X.K):=by
 intro pins s O H x y v u Q I rx ry h;obtain⟨l,b,xs,zs,rfl,rfl,hH,hB,hz,q⟩:=h;cases rx;cases ry;obtain⟨its,r,pl,_⟩:=I.list hH;obtain⟨its2,r2,pl2,_⟩:=I.list hB;have hl:=r.length;have hl2:=r2.length;obtain⟨⟨cls,dd,data,sl⟩,n,ho,hc,hdd,hd⟩:=pl;obtain⟨⟨cls2,dd2,data2,sl2⟩,n2,ho2,hc2,hdd2,hd2⟩:=pl2;simp only at hc hd hc2 hd2;subst hc hd hc2 hd2;refine concat_meets ⟨_,ho,rfl⟩ ⟨_,ho2,rfl⟩ noFill_list_add seq_list_add PySem.F.slot_list_add PySem.F.entry_list_add (PySem.F.args_list_add_2 _ _) (list_addW l b its.toArray its2.toArray n n2 dd dd2 sl sl2 (by rw[size_toArray,size_toArray];omega)) ⟨ho,ho2,?_⟩;have ea:its.toArray++its2.toArray=(its++its2).toArray:=by simp
 rw[ea];exact⟨.ref _,_,I.lnew (t':=s.toks) (r.append r2) (by rw[length_append];omega),rfl,q _ I.fresh⟩
def wO{prog:Program}{w:World}{A:Around}{E:Value->Shared->Prop}{s:Shared}{t sl:Addr}{items:Array Value}{vl vu:Value}{lo hi:Option Int}{Q:Value->Shared->Prop}(ht:IsTup s.heap t items)(hs:s.heap.IsSliceOf sl vl vu .none)(pl:IsPart vl lo)(pu:IsPart vu hi)
  (h1:HT.sIx items.size 0 lo=0) (h2:HT.sIx items.size items.size hi=items.size)
  (h:Q (.ref t) s):wpAny (model prog w) A (getItem (.ref t) (.ref sl)) Q E s:=by
 obtain⟨os,hos,hcs,hds⟩:=id hs;have hTs:s.TypeIs (.ref sl) "slice":=⟨os,hos,hcs⟩;unfold getItem
 try with_reducible refine wpAny_holding ?_
 first|refine wpAny_bind (wpAny_pure ?_)|skip
 refine wpAny_bind (wpAny_sequenceKey ht.typeIs (by decide) ?_);refine wpAny_bind (wpAny_callSpecial?_slot (name:=Str.ofString "__getitem__") ht.typeIs PyProof.Rows.slot_tuple_getitem
  (wpAny_call_entry PyProof.Rows.slot_tuple_getitem ht.typeIs entry_tuple_getitem ?_ (args_tuple_getitem _ _)))
 show wpAny _ _ (Builtin.Tuple.tupleItemsOf (.ref t) >>= _) _ _ s
 refine wpAny_bind (tupleItemsOf_ ht ?_);refine wpAny_bind (wpAny_typeOf hTs ?_);rw[if_pos (by decide)];refine wpAny_bind (HT.sliceApplied_gen hs pl pu ?_);have hyes:(((HT.sIx items.size 0 lo:Nat):Int)==0&&(1:Int)==1&&(HT.sIx items.size items.size hi-HT.sIx items.size 0 lo)==items.size)=true:=by
  rw[h1,h2];simp
 show wpAny _ _ (if(((HT.sIx items.size 0 lo:Nat):Int)==0&&(1:Int)==1&&(HT.sIx items.size items.size hi-HT.sIx items.size 0 lo)==items.size)=true then _ else _) _ _ s
 rw[if_pos hyes];unfold Builtin.Tuple.tupleIsExact;refine wpAny_bind (wpAny_bind (wpAny_typeOf ht.typeIs (wpAny_pure ?_)));rw[if_pos (by decide)];exact wpAny_bind (wpAny_rule (wpAny_pure ⟨_,rfl,wpAny_pure h⟩))
def rSlTT(K:PySem.W.Frag):V->Option Int->Option Int->Hp->VK->Prop:=λx lo hi H Q=>∃a xs,x=.ref a/\SqT K H a xs /\
 ((HT.sIx xs.length 0 lo=0/\HT.sIx xs.length xs.length hi=xs.length)->Q (.ref a) H) /\
 (¬(HT.sIx xs.length 0 lo=0/\HT.sIx xs.length xs.length hi=xs.length)->∀p,H p=none->Q (.ref p) (upd H p (.t (Qy xs lo hi))))
def sl_tupT:SlR X (rSlTT X.K):=by
 intro pins s O H x v vl vu lo hi sl Q I rx hs pl pu h;obtain⟨a,xs,rfl,hx,q1,q2⟩:=h;by_cases hw:HT.sIx xs.length 0 lo=0/\HT.sIx xs.length xs.length hi=xs.length
 ·cases rx
  obtain⟨its,r,ht,hz⟩:=I.tuple hx;have hlen:its.toArray.size=xs.length:=by rw[size_toArray];exact r.length.symm
  refine⟨"tuple",_,PyProof.Rows.slot_tuple_getitem.lookup,ht.typeIs,?_⟩;exact wO ht hs pl pu (by rw[hlen];exact hw.1) (by rw[hlen];exact hw.2) ⟨.ref a,H,I,rfl,q1 hw⟩
 ·exact sl_tup pins s O H (.ref a) v vl vu lo hi sl Q I rx hs pl pu ⟨a,xs,rfl,hx,hw,q2 hw⟩
theorem WS:∀bs:List Bool,(List.range bs.length).all (λi=>bs.getD i false)=bs.all id
 | []=>rfl
 |b::bs=>by
  rw[length_cons,List.range_succ_eq_map,all_cons,all_cons,List.all_map,<- WS bs];rfl
def zAA(hc:X.calm=true):jQ X (.builtin "all") (λxs H Q=>∃(p:Addr) (bs:List Bool),xs=[.ref p]/\SqL X.K H p (bs.map V.bl)/\Q (.bl (bs.all id)) H):=by
 intro pins s O H xs us Q I r h;obtain⟨p,bs,rfl,hq,q⟩:=h;obtain⟨u,rfl,rx⟩:=YF r;cases rx;obtain⟨its,rv,pl,hz⟩:=I.list hq;have hlen:=rv.length;refine call_all_walk (wpAny_pyIter_list pl.isList ?_);have hp:p<s.heap.objs.size:=by obtain⟨o,n,e,_⟩:=pl;exact lt_size e
 have hk:∀b o,s.heap.get? b=some o->(s.heap.push {cls:=.type "list_iterator",data:=.fields #[.ref p,.int 0 0]}).get? b=some o:=λb o e=>get?_push_of_some _ e
 have htr:∀(i:Nat) (v:Value),its.toArray[i]?=some v->v=Value.bool (bs.getD i false):=λi v hv=>by
  have hv':its[i]?=some v:=by simpa using hv
  have hi:i<its.length:=(List.getElem?_eq_some_iff.mp hv').1;have hx:i<(bs.map V.bl).length:=by rw[hlen];exact hi
  obtain⟨u',e1,e2⟩:=rv.get (i:=i) (x:=(bs.map V.bl)[i]) (by simp[hx]);rw[hv']at e1;cases e1;rw[length_map]at hx;rw[List.getElem_map]at e2;have:v=.bool (bs[i]):=e2;rw[this];simp[hx]
 refine⟨s.heap.objs.size,[s.heap.objs.size,p],[s.heap.objs.size],its.toArray.size,_,_,λi=>bs.getD i false,rfl,
  Walks.list (by show X.A.handled=none;exact I.ok.hd hc) _ p (ne_of_lt hp) its.toArray,⟨⟨_,get?_push_size _ rfl,rfl,rfl⟩,?_⟩,?_,?_⟩
 ·obtain⟨o,e,c⟩:=pl.isList
  exact⟨o,hk _ _ e,c⟩
 ·intro i v s' Q' E' hv hQ
  rw[htr i v hv];exact wpAny_truthy_bool hQ
 ·intro h' tk kp
  have e:(List.range its.toArray.size).all (λi=>bs.getD i false)=bs.all id:=by
   rw[size_toArray,<- hlen,length_map,WS]
  rw[e];exact⟨.bl (bs.all id),H,I.kept (t':=tk) λb o eb=>kp b o (λm=>by
   have:b=s.heap.objs.size:=by simpa using m
   subst this;exact absurd (lt_size eb) (lt_irrefl _)) (hk b o eb),rfl,q⟩
def Jn:fillsNumberSlot (.type "tuple") "mul"=pure false :=
 PySem.fillsNumberSlot_seq (id:="tuple.__mul__") (r:=some (.builtin "tuple.__rmul__")) F.slot_tuple_mul.lookup (by decide +kernel) F.slot_tuple_rmul.lookup (by decide +kernel)
def WT:seqRepeat? (.type "tuple")=pure (some (.builtin "tuple.__mul__")):=by
 unfold seqRepeat?;rw[PySem.seqSlot_of (T:="tuple") (name:="__mul__") (id:="tuple.__mul__") F.slot_tuple_mul.lookup (by decide +kernel),PySem.seqSlot_of (T:="tuple") (name:="__rmul__") (id:="tuple.__rmul__") F.slot_tuple_rmul.lookup (by decide +kernel)];rfl
def Yx(a:Int)(t:Tok)(l:Addr)(items:Array Value)(n:Nat)(dd:Option Addr)(sl:Array (Option Value)) :
  Meets (Builtin.«int.__rmul__» ⟨[.int a t,.ref l],[]⟩) (λ_ R s=>s.heap.get? l=some {cls:=.type "tuple",dict:=dd,data:=.seq items n,slots:=sl}/\R (.ok (.ret Value.notImplemented)) s) :=
 .of_wp λprog w A R s h=>by obtain⟨hp,g,d,tk,os⟩:=s;obtain⟨hl,h⟩:=h;wp_walk;exact⟨_,rfl,h⟩
def Yy{prog:Program}{w:World}{A:Around}{E:Value->Shared->Prop}{s:Shared}{l:Addr}{items:Array Value}{k:Int}{t:Tok}{Q:Value->Shared->Prop}(hl:IsTup s.heap l items)(h1:-(2^63)<=k)(h2:k<2^63)
  (hz:(items.size:Int)*k<=sizeLine) (q0:items.isEmpty=true\/k=1->Q (.ref l) s)
  (q1:k<=0->Q (.ref s.heap.objs.size) {s with heap:=s.heap.push {cls:=.type "tuple",data:=.seq #[]}})
  (q2:Q (.ref s.heap.objs.size) {s with heap:=s.heap.push {cls:=.type "tuple",data:=.seq ((replicate k.toNat items).foldl (·++·) #[])}})
  (hfit:sizeOk (.seq ((replicate k.toNat items).foldl (·++·) #[]))) :
  wpAny (model prog w) A (call (.builtin "tuple.__mul__") [.ref l,.int k t]) Q E s:=by
 refine wpAny_call_entry F.slot_tuple_mul hl.typeIs F.entry_tuple_mul ?_ (F.args_tuple_mul_2 _ _);show wpAny _ _ (asIndex (.int k t) >>= _) _ _ s;refine wpAny_bind (wpAny_of_eq (a:=k) rfl ?_);dsimp only;rw[if_neg (by simp only[Bool.or_eq_true,decide_eq_true_eq];omega)];refine wpAny_bind (tupleItemsOf_ hl ?_);by_cases e1:(items.isEmpty||k==1)=true
 ·rw[if_pos e1]
  unfold Builtin.Tuple.tupleIsExact;refine wpAny_bind (wpAny_bind (wpAny_typeOf hl.typeIs (wpAny_pure ?_)));rw[if_pos (by decide)];refine wpAny_bind (wpAny_rule (wpAny_pure ⟨_,rfl,q0 ?_⟩));rw[Bool.or_eq_true,beq_iff_eq]at e1;exact e1
 ·rw[if_neg e1]
  by_cases e2:(decide (k<=0)||items.isEmpty)=true
  ·rw[if_pos e2]
   have hk:k<=0:=by
    simp only[Bool.or_eq_true,decide_eq_true_eq,beq_iff_eq,not_or]at e1 e2;rcases e2 with e2|e2
    ·exact e2
    ·exact absurd e2 e1.1
   exact wpAny_bind (m:=Builtin.Tuple.tupleExact _) (wpAny_newObj_type (wpAny_pure ⟨_,rfl,q1 hk⟩) (by show(#[]:Array Value).size<=sizeLine;simp))
  ·rw[if_neg e2]
   have hs:sizeLine=16777216:=sizeLine_eq;rw[if_neg (by rw[hs]at hz;omega),if_neg (by unfold Builtin.Tuple.tupleTooMany;simp only[decide_eq_true_eq];omega)];exact wpAny_bind (m:=Builtin.Tuple.tupleExact _) (wpAny_newObj_type (wpAny_pure ⟨_,rfl,q2⟩) hfit)
def rRepT(K:PySem.W.Frag):R2:=λx y H Q=>∃l k xs,x=.ref l/\y=.int k/\SqT K H l xs/\-(2^63)<=k/\k<2^63/\xs.length*k.toNat<=sizeLine /\
 (xs=[]\/k=1->Q (.ref l) H)/\(∀p,H p=none->Q (.ref p) (upd H p (.t (replicate k.toNat xs).flatten)))
def op_repT:OpR X (binaryOp .Mult) (rRepT X.K):=by
 intro pins s O H x y v u Q I rx ry h;obtain⟨l,k,xs,rfl,rfl,hH,h1,h2,hz,q0,q⟩:=h;cases rx;obtain⟨t,rfl⟩:=ry;obtain⟨its,r,pt,_⟩:=I.tuple hH;have hl:=r.length;obtain⟨⟨cls,dd,data,sl⟩,ho,hc,n,hd⟩:=id pt;simp only at hc hd;subst hc hd;have hnew:foldl (λx1 x2=>x1++x2) #[] (replicate k.toNat its.toArray)=(replicate k.toNat its).flatten.toArray:=by
  have:=YI its k.toNat [];rw[nil_append]at this;exact this
 have hlen:(replicate k.toNat its).flatten.length<=sizeLine:=by rw[W4,Nat.mul_comm,<- hl];exact hz
 have hzz:((its.toArray.size:Nat):Int)*k<=(sizeLine:Nat):=by
  rw[size_toArray,<- hl];by_cases hk:0<=k
  ·obtain⟨m,rfl⟩:=Int.eq_ofNat_of_zero_le hk
   have:xs.length*m<=sizeLine:=by simpa using hz
   exact_mod_cast this
  ·have:(xs.length:Int)*k<=0:=Int.mul_nonpos_of_nonneg_of_nonpos (Int.natCast_nonneg _) (by omega)
   omega
 refine wpAny_binaryOp_repeat_ref (T:="tuple") (U:="int") (by decide) ⟨_,ho,rfl⟩ (λs'=>typeIs_int s' k t) Jn F.fills_int_mul F.slot_int_rmul WT F.slot_int_index.lookup
  (call_meets F.slot_int_rmul (typeIs_int s k t) F.entry_int_rmul (F.args_int_rmul_2 _ _) (Yx k t l its.toArray n dd sl) ⟨ho,rfl,⟨_,ho,rfl⟩,?_⟩)
 refine Yy pt h1 h2 hzz (λe=>⟨.ref l,H,I,rfl,q0 ?_⟩) (λe=>?_) ?_ ?_
 ·rcases e with e|e
  ·left
   have:its=[]:=by simpa using e
   exact r.nil_iff.mp this
  ·right;exact e
 ·have ek:k.toNat=0:=by omega
  have q':=q s.heap.objs.size I.fresh;rw[ek]at q';exact⟨.ref s.heap.objs.size,_,I.laid (t':=s.toks) (o:=.t []) (λb ob q=>get?_push_of_some _ q) (le_refl _) ⟨zero_le _,[],.nil,IsTup.new _ _⟩,rfl,q'⟩
 ·rw[hnew]
  exact⟨.ref s.heap.objs.size,_,I.laid (t':=s.toks) (o:=.t (replicate k.toNat xs).flatten) (λb ob q=>get?_push_of_some _ q) (le_refl _) ⟨by rw[W4,Nat.mul_comm];exact hz,_,r.rep k.toNat,IsTup.new _ _⟩,rfl,q _ I.fresh⟩
 ·rw[hnew]
  show(replicate k.toNat its).flatten.toArray.size<=sizeLine
  rw[size_toArray];exact hlen
end
end L2
namespace DV
open PySem L2
def cap:Nat:=1000000
def Jd{n:Nat}(h:n<=cap):n<=sizeLine:=le_trans h (by rw[sizeLine_eq];decide)
abbrev Kt(K:PySem.W.Frag)(mg:Str->Option Value)(M:Addr->Prop)(H:Hp)(Z:Fz)(res:R)(Q:VK):Prop :=
 ∀v H',FR K mg M H' ((some v,res.slot)::Z)->Step M H Z H' ((some v,res.slot)::Z)->Q v H'
def ROk(K:PySem.W.Frag)(mg:Str->Option Value)(rel:R2)(f:D->D->Option R):Prop :=
 ∀(M:Addr->Prop) (H:Hp) (Z:Fz) (x y:V) (d1 d2:D) (res:R) (Q:VK),FR K mg M H Z->Rep K mg (Hm (Mo M Z) H) d1 x->Rep K mg (Hm (Mo M Z) H) d2 y->f d1 d2=some res->Kt K mg M H Z res Q->rel x y H Q
def COk(K:PySem.W.Frag)(mg:Str->Option Value)(rel:List V->Hp->VK->Prop)(f:List D->Option R):Prop :=
 ∀(M:Addr->Prop) (H:Hp) (Z:Fz) (xs:List V) (ds:List D) (res:R) (Q:VK),FR K mg M H Z->Reps K mg (Hm (Mo M Z) H) ds xs->f ds=some res->Kt K mg M H Z res Q->rel xs H Q
section
variable{X:Cx}{K:PySem.W.Frag}{mg:Str->Option Value}{M:Addr->Prop}{H H':Hp}{Z:Fz}{Q:VK}{O:St}
theorem Kt.flat{d:D}(k:Kt K mg M H Z (.v d) Q)(f:FR K mg M H Z)(h:flat d=true):Q (flV d) H:=k _ _ (f.add (va h)) Step.refl.add
def Kt.rep{d:D}{v:V}(k:Kt K mg M H Z (.v d) Q)(f:FR K mg M H Z)(h:Rep K mg (Hm (Mo M Z) H) d v):Q v H:=k _ _ (f.add h) Step.refl.add
theorem Kt.tup{ds:List D}{xs:List V}{p:Addr}(k:Kt K mg M H Z (.v (.t ds)) Q)(f:FR K mg M H Z)(hp:H p=none)(h:Reps K mg (Hm (Mo M Z) H) ds xs):Q (.ref p) (upd H p (.t xs)):=k _ _ (f.newTup hp h) (Step.newVal hp)
theorem Kt.own{ds:List D}{xs:List V}{p:Addr}(k:Kt K mg M H Z (.own ds) Q)(f:FR K mg M H Z)(hp:H p=none)(h:Reps K mg (Hm (Mo M Z) H) ds xs):Q (.ref p) (upd H p (.l xs)):=k _ _ (f.newOwn hp h) (Step.newOwn f hp)
def Jt(f:D->D->Option R)(a b:ME):ME:=λE=>match a E with
 | .z=>.z| .exc x E1=>.exc x E1
 | .ok (r1,E1)=>match b E1 with
  | .z=>.z| .exc x E2=>.exc x E2
  | .ok (r2,E2)=>match f r1.d r2.d with
   |some r=>.ok (r,E2)|none=>.z
def Zd{rel:R2}{f:D->D->Option R}{a b:ME}(hr:ROk X.K X.mg rel f){H:Hp}{Q:VK}(h:tM X (Jt f a b) O H Q):tOp rel (tM X a) (tM X b) O H Q:=by
 obtain⟨M,E,hl,fr,k⟩:=h;unfold Jt at k;refine zd (T0:=[]) hl fr ?_;cases ea:a E with
 |z=>rw[ea]at k;exact k|exc x E1=>rw[ea]at k;exact λH' g=>k H' g
 |ok p =>
  obtain⟨r1,E1⟩:=p;rw[ea]at k;intro x H1 g1;refine zd (T0:=[(some x,r1.slot)]) g1.len g1.fr ?_;dsimp only at k;cases eb:b E1 with
  |z=>rw[eb]at k;exact k|exc x E2=>rw[eb]at k;exact λH' g=>k H' (g1.trans' g).dropAll
  |ok p =>
   obtain⟨r2,E2⟩:=p;rw[eb]at k;intro y H2 g2;have g:=g1.trans' g2;have rp:=Got.reps (vs:=[y,x]) (rs:=[r2,r1]) rfl g;simp only[List.map,Reps]at rp;obtain⟨y',_,e1,ry,x',_,e2,rx,_⟩:=rp;cases e1;cases e2;dsimp only at k;cases ef:f r1.d r2.d with
   |none=>rw[ef]at k;exact k.elim
   |some r =>
    rw[ef]at k;exact hr M H2 _ x y r1.d r2.d r Q g.frame rx ry ef λv H' f' s'=>k v H' (g.more (T:=[(some v,r.slot)]) f' s')
def vA{op:Operator}{rel:R2}{f:D->D->Option R}{a b:Expr}{ma mb:ME}{pos:Pos}(ho:OpR X (binaryOp op) rel)(hr:ROk X.K X.mg rel f)(ha:EOk X a ma)(hb:EOk X b mb):EOk X (.BinOp a op b pos) (Jt f ma mb) :=
 zc (pe_op ho ha hb) λO H Q h=>Zd hr h
def ZH{op:CmpOp}{rel:R2}{f:D->D->Option R}{a b:Expr}{ma mb:ME}{pos:Pos}(ho:OpR X (compareOp op) rel)(hr:ROk X.K X.mg rel f)(hm:behindInMarks op b=false)(ha:EOk X a ma)(hb:EOk X b mb):EOk X (.Compare a [op] [b] pos) (Jt f ma mb) :=
 zc (pe_cmpR ho ha hb hm) λO H Q h=>Zd hr h
def ok_ix{rel:R2}{f:D->D->Option R}{a b:Expr}{ma mb:ME}{pos:Pos}(ho:IxR X rel)(hr:ROk X.K X.mg rel f)(hs:ZX b)(ha:EOk X a ma)(hb:EOk X b mb):EOk X (.Subscript a b pos) (Jt f ma mb) :=
 zc (pe_ix ho ha hb hs) λO H Q h=>Zd hr h
def tT(m:ME):MT:=λE=>match m E with
 | .z=>.z| .exc x E1=>.exc x E1| .ok (.v (.bl b),E1)=>.ok (b,E1)|_=>.z
def GQ{m:ME}{H:Hp}{Q:Bool->Hp->Prop}(h:tMT X (tT m) O H Q):tM X m O H λx H'=>∃k,x=.bl k/\Q k H':=by
 obtain⟨M,E,hl,fr,k⟩:=h;refine⟨M,E,hl,fr,?_⟩;unfold tT at k;cases e:m E with
 |z=>rw[e]at k;exact k|exc x E1=>rw[e]at k;exact k
 |ok p =>
  obtain⟨r,E1⟩:=p;rw[e]at k;cases r with
  |own ds=>exact k.elim
  |v d =>
   cases d with
   |bl b =>
    intro v H' g;have rp:=g.rep;simp only[R.d,Rep]at rp;exact⟨b,rp,k H' g.dropAll⟩
   |_=>exact k.elim
def ok_test{e:Expr}{m:ME}(h:EOk X e m)(he:∀whole,isTrue e X.env whole=(do let v <- whole;standAt e.pos;holding [v] (truthy v)):=by intro _;rfl):TOk X e (tT m) :=
 WP (pt_val h he) λO H Q q=>GQ q
def JL{op:CmpOp}{rel:R2}{f:D->D->Option R}{a b:Expr}{ma mb:ME}{pos:Pos}(ho:OpR X (compareOp op) rel)(hr:ROk X.K X.mg rel f)(hm:behindInMarks op b=false)(ha:EOk X a ma)(hb:EOk X b mb):TOk X (.Compare a [op] [b] pos) (tT (Jt f ma mb)) :=
 WP (pt_cmpR ho ha hb hm) λO H Q h=>Zd hr (GQ h)
def uR(a b:MT):MT:=λE=>match a E with
 | .ok (true,E1)=>b E1|o=>o
def tOrM(a b:MT):MT:=λE=>match a E with
 | .ok (false,E1)=>b E1|o=>o
def GR(a:MT):MT:=λE=>match a E with
 | .z=>.z| .exc x E1=>.exc x E1| .ok (b,E1)=>.ok (!b,E1)
def and_run{a b:MT}{H:Hp}{Q:Bool->Hp->Prop}(h:tMT X (uR a b) O H Q):tAnd (tMT X a) (tMT X b) O H Q:=by
 obtain⟨M,E,hl,fr,k⟩:=h;unfold uR at k;refine wM (T0:=[]) hl fr ?_;cases ea:a E with
 |z=>rw[ea]at k;exact k|exc x E1=>rw[ea]at k;exact k
 |ok p =>
  obtain⟨c,E1⟩:=p;rw[ea]at k;intro H1 g1;cases c with
  |false=>exact iteF (k H1 g1)
  |true =>
   refine iteT ?_;refine wM (T0:=[]) g1.len g1.fr ?_;dsimp only at k;cases eb:b E1 with
   |z=>rw[eb]at k;exact k|exc x E2=>rw[eb]at k;exact λH' g=>k H' (g1.trans' g)|ok p=>rw[eb]at k;exact λH' g=>k H' (g1.trans' g)
def or_run{a b:MT}{H:Hp}{Q:Bool->Hp->Prop}(h:tMT X (tOrM a b) O H Q):tOr (tMT X a) (tMT X b) O H Q:=by
 obtain⟨M,E,hl,fr,k⟩:=h;unfold tOrM at k;refine wM (T0:=[]) hl fr ?_;cases ea:a E with
 |z=>rw[ea]at k;exact k|exc x E1=>rw[ea]at k;exact k
 |ok p =>
  obtain⟨c,E1⟩:=p;rw[ea]at k;intro H1 g1;cases c with
  |true=>exact iteT (k H1 g1)
  |false =>
   refine iteF ?_;refine wM (T0:=[]) g1.len g1.fr ?_;dsimp only at k;cases eb:b E1 with
   |z=>rw[eb]at k;exact k|exc x E2=>rw[eb]at k;exact λH' g=>k H' (g1.trans' g)|ok p=>rw[eb]at k;exact λH' g=>k H' (g1.trans' g)
def not_run{a:MT}{H:Hp}{Q:Bool->Hp->Prop}(h:tMT X (GR a) O H Q):tNot (tMT X a) O H Q:=by
 obtain⟨M,E,hl,fr,k⟩:=h;unfold GR at k;refine wM (T0:=[]) hl fr ?_;cases ea:a E with
 |z=>rw[ea]at k;exact k|exc x E1=>rw[ea]at k;exact k|ok p=>rw[ea]at k;exact k
abbrev WOk(X:Cx)(e:Expr)(m:MT):Prop:=PW X e (tMT X m)
def wk_and1{a:Expr}{m:MT}{pos:Pos}(h:TOk X a m):WOk X (.BoolOp .And [a] pos) m:=pw_and1 h
def wk_or1{a:Expr}{m:MT}{pos:Pos}(h:TOk X a m):WOk X (.BoolOp .Or [a] pos) m:=pw_or1 h
def zBR{a b:Expr}{jf:List Expr}{ma mb:MT}{pos:Pos}(ha:TOk X a ma)(hb:WOk X (.BoolOp .And (b::jf) pos) mb):WOk X (.BoolOp .And (a::b::jf) pos) (uR ma mb):=zBO (pw_and ha hb) λO H Q=>and_run
def wk_or{a b:Expr}{jf:List Expr}{ma mb:MT}{pos:Pos}(ha:TOk X a ma)(hb:WOk X (.BoolOp .Or (b::jf) pos) mb):WOk X (.BoolOp .Or (a::b::jf) pos) (tOrM ma mb):=zBO (pw_or ha hb) λO H Q=>or_run
def tk_w{e:Expr}{m:MT}(h:WOk X e m):TOk X e m:=h.pt
def tk_not{a:Expr}{m:MT}{pos:Pos}(h:TOk X a m):TOk X (.UnaryOp .Not a pos) (GR m):=WP (pt_not h) λO H Q=>not_run
def eNot(a:ME):ME:=λE=>match a E with
 | .ok (.v (.bl b),E1)=>.ok (.v (.bl (!b)),E1)| .exc x E1=>.exc x E1|_=>.z
def zBS(a b:ME):ME:=λE=>match a E with
 | .ok (.v (.bl true),E1)=>b E1| .ok (.v (.bl false),E1)=>.ok (.v (.bl false),E1)| .exc x E1=>.exc x E1|_=>.z
def zAB{a:ME}{H:Hp}{Q:VK}(h:tM X (eNot a) O H Q):tNotV (tM X a) O H Q:=by
 obtain⟨M,E,hl,fr,k⟩:=h;unfold eNot at k;refine zd (T0:=[]) hl fr ?_;cases ea:a E with
 |z=>rw[ea]at k;exact k|exc x E1=>rw[ea]at k;exact k
 |ok p =>
  obtain⟨r,E1⟩:=p;rw[ea]at k;cases r with
  |own ds=>exact k.elim
  |v d =>
   cases d with
   |bl b =>
    intro v H' g;have rp:=g.rep;simp only[R.d,Rep]at rp;exact⟨b,rp,k _ H' (g.flat (d:=.bl (!b)) rfl)⟩
   |_=>exact k.elim
def zAC{a b:ME}{H:Hp}{Q:VK}(h:tM X (zBS a b) O H Q):tAndV (tM X a) (tM X b) O H Q:=by
 obtain⟨M,E,hl,fr,k⟩:=h;unfold zBS at k;refine zd (T0:=[]) hl fr ?_;cases ea:a E with
 |z=>rw[ea]at k;exact k|exc x E1=>rw[ea]at k;exact k
 |ok p =>
  obtain⟨r,E1⟩:=p;rw[ea]at k;cases r with
  |own ds=>exact k.elim
  |v d =>
   cases d with
   |bl c =>
    intro v H' g;have rp:=g.rep;simp only[R.d,Rep]at rp;refine⟨c,rp,?_⟩;cases c with
    |false=>exact iteF (k _ H' (g.flat (d:=.bl false) rfl))
    |true =>
     refine iteT (zd (T0:=[]) g.len g.frame ?_);dsimp only at k;cases eb:b E1 with
     |z=>rw[eb]at k;exact k|exc x E2=>rw[eb]at k;exact λH'' g'=>k H'' (g.dropAll.trans' g')|ok p=>rw[eb]at k;exact λv'' H'' g'=>k v'' H'' (g.dropAll.trans' g')
   |_=>exact k.elim
def ok_not{a:Expr}{m:ME}{pos:Pos}(h:EOk X a m):EOk X (.UnaryOp .Not a pos) (eNot m):=zc (pe_not h) λO H Q=>zAB
def zBT{a b:Expr}{jf:List Expr}{ma mb:ME}{pos:Pos}(ha:EOk X a ma)(hb:EOk X (.BoolOp .And (b::jf) pos) mb):EOk X (.BoolOp .And (a::b::jf) pos) (zBS ma mb):=zc (pe_and ha hb) λO H Q=>zAC
def ok_one{a:Expr}{op:BoolOp}{m:ME}{pos:Pos}(h:EOk X a m):EOk X (.BoolOp op [a] pos) m:=pe_one h
def eIf(c:MT)(a b:ME):ME:=λE=>match c E with
 | .ok (true,E1)=>a E1| .ok (false,E1)=>b E1| .exc x E1=>.exc x E1| .z=>.z
def if_run{c:MT}{a b:ME}{H:Hp}{Q:VK}(h:tM X (eIf c a b) O H Q):tIf (tMT X c) (tM X a) (tM X b) O H Q:=by
 obtain⟨M,E,hl,fr,k⟩:=h;unfold eIf at k;refine wM (T0:=[]) hl fr ?_;cases ea:c E with
 |z=>rw[ea]at k;exact k|exc x E1=>rw[ea]at k;exact k
 |ok p =>
  obtain⟨t,E1⟩:=p;rw[ea]at k;intro H1 g1;cases t with
  |true =>
   refine iteT (zd (T0:=[]) g1.len g1.fr ?_);dsimp only at k;cases eb:a E1 with
   |z=>rw[eb]at k;exact k|exc x E2=>rw[eb]at k;exact λH' g=>k H' (g1.trans' g)|ok p=>rw[eb]at k;exact λv H' g=>k v H' (g1.trans' g)
  |false =>
   refine iteF (zd (T0:=[]) g1.len g1.fr ?_);dsimp only at k;cases eb:b E1 with
   |z=>rw[eb]at k;exact k|exc x E2=>rw[eb]at k;exact λH' g=>k H' (g1.trans' g)|ok p=>rw[eb]at k;exact λv H' g=>k v H' (g1.trans' g)
def ok_if{c a b:Expr}{mc:MT}{ma mb:ME}{pos:Pos}(hc:TOk X c mc)(ha:EOk X a ma)(hb:EOk X b mb):EOk X (.IfExp c a b pos) (eIf mc ma mb):=zc (Qn hc ha hb) λO H Q=>if_run
def aNil:MA:=λE=>.ok ([],E)
def vB(a:ME)(m:MA):MA:=λE=>match a E with
 | .z=>.z| .exc x E1=>.exc x E1
 | .ok (r,E1)=>match m E1 with
  | .z=>.z| .exc x E2=>.exc x E2| .ok (rs,E2)=>.ok (r::rs,E2)
def ak_nil:AOk X [] aNil:=WQ jg λO H Q ⟨M,E,hl,fr,k⟩=>k [] H rfl (Got.refl (T0:=[]) hl fr)
theorem Got.perm{K:PySem.W.Frag}{mg:Str->Option Value}{M:Addr->Prop}{O O1:St}{E E1:zQ}{H H1:Hp}{T0 T T':Fz}(a:Got K mg M O E H T0 O1 E1 H1 T)(p:T.Perm T'):Got K mg M O E H T0 O1 E1 H1 T' where
 len:=a.len
 fr:=a.fr.perm (p.append_right _)
 st:=a.st.weak (zB (p.append_right _).symm)
 pk:=a.pk
def zAD{a:ME}{m:MA}{H:Hp}{Q:List V->Hp->Prop}(h:tMA X (vB a m) O H Q):W2 (tM X a) (tMA X m) O H Q:=by
 obtain⟨M,E,hl,fr,k⟩:=h;unfold vB at k;refine zd (T0:=[]) hl fr ?_;cases ea:a E with
 |z=>rw[ea]at k;exact k|exc x E1=>rw[ea]at k;exact k
 |ok p =>
  obtain⟨r1,E1⟩:=p;rw[ea]at k;intro x H1 g1;refine YL (T0:=[(some x,r1.slot)]) g1.len g1.fr ?_;dsimp only at k;cases eb:m E1 with
  |z=>rw[eb]at k;exact k|exc x E2=>rw[eb]at k;exact λH' g=>k H' (g1.trans' g).dropAll
  |ok p =>
   obtain⟨rs,E2⟩:=p;rw[eb]at k;intro vs H2 hv g2;refine k (x::vs) H2 (by simp[hv]) ?_;rw[ZG];exact(g1.trans' g2).perm (perm_append_comm)
def ak_cons{e:Expr}{es:List Expr}{a:ME}{m:MA}(ha:EOk X e a)(hm:AOk X es m)(hs:zL e=false:=by rfl):AOk X (e::es) (vB a m):=WQ (yK ha hm (zF hs)) λO H Q=>zAD
def eCB(f:List D->Option R)(m:MA):ME:=λE=>match m E with
 | .z=>.z| .exc x E1=>.exc x E1
 | .ok (rs,E1)=>match f (rs.map R.d)with
  |some r=>.ok (r,E1)|none=>.z
def vb{rel:List V->Hp->VK->Prop}{f:List D->Option R}{m:MA}(hr:COk X.K X.mg rel f){H:Hp}{Q:VK}(h:tM X (eCB f m) O H Q):tCB rel (tMA X m) O H Q:=by
 obtain⟨M,E,hl,fr,k⟩:=h;unfold eCB at k;refine YL (T0:=[]) hl fr ?_;cases ea:m E with
 |z=>rw[ea]at k;exact k|exc x E1=>rw[ea]at k;exact k
 |ok p =>
  obtain⟨rs,E1⟩:=p;rw[ea]at k;intro vs H1 hv g;have rp:=Got.reps hv g;dsimp only at k;cases ef:f (rs.map R.d)with
  |none=>rw[ef]at k;exact k.elim
  |some r =>
   rw[ef]at k;exact hr M H1 _ vs _ r Q g.frame rp ef λv H' f' s'=>k v H' (g.more (T:=[(some v,r.slot)]) f' s')
def eTup(m:MA):ME:=eCB (λds=>if ds.length<=cap then some (.v (.t ds))else none) m
def eLst(m:MA):ME:=eCB (λds=>if ds.length<=cap then some (.own ds)else none) m
def ok_tup{es:List Expr}{m:MA}{x1:Nat}{pos:Pos}(h:AOk X es m):EOk X (.Tuple es x1 pos) (eTup m) :=
 zc (pe_tup h) λO H Q q=>vb (rel:=λxs H1 Q=>xs.length<=sizeLine/\∀p,H1 p=none->Q (.ref p) (upd H1 p (.t xs))) (λM H Z xs ds res Q f r e k=>by
  split at e
  ·rename_i hc
   cases e;exact⟨by rw[r.length];exact Jd hc,λp hp=>k.tup f hp r⟩
  ·cases e) q
def ok_lst{es:List Expr}{m:MA}{pos:Pos}(h:AOk X es m):EOk X (.List es pos) (eLst m) :=
 zc (pe_lst h) λO H Q q=>vb (rel:=λxs H1 Q=>xs.length<=sizeLine/\∀p,H1 p=none->Q (.ref p) (upd H1 p (.l xs))) (λM H Z xs ds res Q f r e k=>by
  split at e
  ·rename_i hc
   cases e;exact⟨by rw[r.length];exact Jd hc,λp hp=>k.own f hp r⟩
  ·cases e) q
def Ju{f:List D->Option R}{m:MA}{rel:List V->Hp->VK->Prop}{id:String}{x:Str}{p pos:Pos}{e:Expr}{es:List Expr}(hc:jQ X (.builtin id) rel)(hr:COk X.K X.mg rel f)(hg:Gl X x)(hm:X.mg x=none)(hv:bootBuiltins x=some (.builtin id))(ha:AOk X (e::es) m)(hn:x≠"__name__":=by decide)(hdb:(x==("__debug__":Str))=false:=by decide)
  (he:zL e=false:=by rfl) (hpl:yg es=true:=by rfl):EOk X (.Call (.Name x p) (e::es) [] pos) (eCB f m) :=
 zc (wg hc hg hm hv ha hn hdb (zF he) (yy hpl)) λO H Q q=>vb hr q
def ji{f:List D->Option R}{m:MA}{rel:List V->Hp->VK->Prop}{T:String}{x:Str}{p pos:Pos}{e:Expr}{es:List Expr}(hc:jQ X (.type T) rel)(hr:COk X.K X.mg rel f)(hg:Gl X x)(hm:X.mg x=none)(hv:bootBuiltins x=some (.type T))(ha:AOk X (e::es) m)(hn:x≠"__name__":=by decide)(hdb:(x==("__debug__":Str))=false:=by decide)
  (he:zL e=false:=by rfl) (hpl:yg es=true:=by rfl):EOk X (.Call (.Name x p) (e::es) [] pos) (eCB f m) :=
 zc (u7 hc hg hm hv ha hn hdb (zF he) (yy hpl)) λO H Q q=>vb hr q
end
section
variable{X:Cx}{K:PySem.W.Frag}{mg:Str->Option Value}
def zM{H:Hp}{i:Int}{v:V}(h:Rep K mg H (.int i) v):v=.int i:=by simpa only[Rep]using h
def wo{H:Hp}{i:Bool}{v:V}(h:Rep K mg H (.bl i) v):v=.bl i:=by simpa only[Rep]using h
def z9{H:Hp}{i:Str}{v:V}(h:Rep K mg H (.str i) v):v=.str i:=by simpa only[Rep]using h
def rep_non{H:Hp}{v:V}(h:Rep K mg H .non v):v=.non:=by simpa only[Rep]using h
def zY{H:Hp}{ds:List D}{v:V}(h:Rep K mg H (.t ds) v):∃a xs,v=.ref a/\SqT K H a xs/\Reps K mg H ds xs:=by simpa only[Rep]using h
def zN{H:Hp}{ds:List D}{v:V}(h:Rep K mg H (.l ds) v):∃a xs,v=.ref a/\SqL K H a xs/\Reps K mg H ds xs:=by simpa only[Rep]using h
def zR{H:Hp}{d:D}{v:V}(hf:flat d=true)(h:Rep K mg H d v):v=flV d:=by
 cases d<;>simp[flat]at hf<;>simpa only[Rep,flV]using h
def Z7:D->D->Option R
 | .int i,.int j=>some (.v (.int (i+j)))| .t a,.t b=>if a.length+b.length<=cap then some (.v (.t (a++b)))else none| .l a,.l b=>if a.length+b.length<=cap then some (.own (a++b))else none|_,_=>none
def rAddD(K:PySem.W.Frag):R2:=λx y H Q=>rI0 (λi j=>.int (i+j)) x y H Q\/(zBQ K x y H Q\/rCatL K x y H Q)
def op_addD:OpR X (binaryOp .Add) (rAddD X.K):=op_add.or (Q9.or op_catL)
def ro_add:ROk K mg (rAddD K) Z7:=by
 intro M H Z x y d1 d2 res Q f r1 r2 e k;cases d1 with
 |int i =>
  cases d2 with
  |int j =>
   cases e;exact .inl ⟨i,j,zM r1,zM r2,k.flat f rfl⟩
  |_=>cases e
 |t a =>
  cases d2 with
  |t b =>
   simp only[Z7]at e;split at e
   ·rename_i hc
    cases e;obtain⟨p,xs,rfl,h1,h2⟩:=zY r1;obtain⟨q,ys,rfl,h3,h4⟩:=zY r2;have l1:=h2.length;have l2:=h4.length;refine .inr (.inl ⟨p,q,xs,ys,rfl,rfl,zw zK h1,zw zK h3,by rw[l1,l2];exact Jd hc,λe=>?_,λ_ e=>?_,λ_ _ p' hp=>k.tup f hp (h2.append h4)⟩)
    ·subst e
     have:a=[]:=by simpa using l1.symm
     subst this;exact k.rep f (by simpa using r2)
    ·subst e
     have:b=[]:=by simpa using l2.symm
     subst this;exact k.rep f (by simpa using r1)
   ·cases e
  |_=>cases e
 |l a =>
  cases d2 with
  |l b =>
   simp only[Z7]at e;split at e
   ·rename_i hc
    cases e;obtain⟨p,xs,rfl,h1,h2⟩:=zN r1;obtain⟨q,ys,rfl,h3,h4⟩:=zN r2;have l1:=h2.length;have l2:=h4.length;exact .inr (.inr ⟨p,q,xs,ys,rfl,rfl,zK.seq h1,zK.seq h3,by rw[l1,l2];exact Jd hc,λp' hp=>k.own f hp (h2.append h4)⟩)
   ·cases e
  |_=>cases e
 |_=>cases e
def Qi(C:Int->Int->Bool)(g:Int->Int->D):D->D->Option R
 | .int i,.int j=>if C i j=true then some (.v (g i j))else none|_,_=>none
def GS{C:Int->Int->Bool}{P:Int->Int->Prop}{g:Int->Int->D}{gv:Int->Int->V}(hC:∀i j,C i j=true->P i j)(hg:∀i j,flat (g i j)=true/\flV (g i j)=gv i j):ROk K mg (rI P gv) (Qi C g):=by
 intro M H Z x y d1 d2 res Q f r1 r2 e k;cases d1 with
 |int i =>
  cases d2 with
  |int j =>
   simp only[Qi]at e;split at e
   ·rename_i hc
    cases e;refine⟨i,j,zM r1,zM r2,hC i j hc,?_⟩;have:=k.flat f (hg i j).1;rw[(hg i j).2]at this;exact this
   ·cases e
  |_=>cases e
 |_=>cases e
def zAE(g:Int->Int->D):D->D->Option R
 | .int i,.int j=>some (.v (g i j))|_,_=>none
def YM{g:Int->Int->D}{gv:Int->Int->V}(hg:∀i j,flat (g i j)=true/\flV (g i j)=gv i j):ROk K mg (rI0 gv) (zAE g):=by
 intro M H Z x y d1 d2 res Q f r1 r2 e k;cases d1 with
 |int i =>
  cases d2 with
  |int j =>
   cases e;refine⟨i,j,zM r1,zM r2,?_⟩;have:=k.flat f (hg i j).1;rw[(hg i j).2]at this;exact this
  |_=>cases e
 |_=>cases e
abbrev subD:=zAE λi j=>.int (i-j)
def ro_sub:ROk K mg (rI0 λi j=>.int (i-j)) subD:=YM λ_ _=>⟨rfl,rfl⟩
def Big:Nat:=2^4000
def GT{n:Nat}(h:n<Big):n.log2<4000:=by
 by_cases h0:n=0
 ·subst h0;decide +kernel
 ·exact(Nat.log2_lt h0).mpr h
def vc{i:Int}(h:i.natAbs<Big):Builtin.Int.intBits i<=4000:=by
 unfold Builtin.Int.intBits;split
 ·exact zero_le _
 ·exact GT h
def big_mul{i j:Int}(h1:i.natAbs<Big)(h2:j.natAbs<Big):IntMulOk i j:=by
 have b1:=vc h1;have b2:=vc h2;unfold IntMulOk;have:Builtin.Int.intTooBig (((Builtin.Int.intBits i:Nat):Int)+(Builtin.Int.intBits j:Nat))=false:=by
  unfold Builtin.Int.intTooBig bitsLine;simp only[decide_eq_false_iff_not];have:(2^27:Nat)=134217728:=by decide
  omega
 rw[this,Bool.and_false];decide
def CDivB(i j:Int):Prop:=0<j/\(j<1073741824\/j.natAbs<Big)
def zAF:OpR X (binaryOp .FloorDiv) (rI CDivB λi j=>.int (i/j)):=opI λi j _ _ _ _ _ hc q=>by
 have h1:(0:Int)<j:=hc.1;refine PyProof.Rows.floordiv_int (by omega) (by rw[Int.fdiv_eq_ediv_of_nonneg i (by omega)];exact q) (.inl ?_);rcases hc.2 with h|h
 ·exact PyProof.noPylong_small (by omega)
 ·exact PyProof.noPylong_of_log2 (lt_of_lt_of_le (GT h) (by decide))
def CMulB(i j:Int):Prop:=CMul i j\/(i.natAbs<Big/\j.natAbs<Big)
def op_mulB:OpR X (binaryOp .Mult) (rI CMulB λi j=>.int (i*j)):=opI λ_ _ _ _ _ _ _ hc q=>PyProof.Rows.mul_int q (by
 rcases hc with h|h
 ·exact h.ok
 ·exact big_mul h.1 h.2)
abbrev zAG:=Qi (λ_ j=>decide (0<j/\(j<1073741824\/j.natAbs<Big))) λi j=>.int (i/j)
def ro_fdiv:ROk K mg (rI CDivB λi j=>.int (i/j)) zAG:=GS (λi j h=>(of_decide_eq_true h:0<j/\(j<1073741824\/j.natAbs<Big))) λ_ _=>⟨rfl,rfl⟩
abbrev modD:=Qi (λ_ j=>decide (0<j)) λi j=>.int (i%j)
def ro_mod:ROk K mg (rI (λ_ j=>0<j) λi j=>.int (i%j)) modD:=GS (λi j h=>of_decide_eq_true h) λ_ _=>⟨rfl,rfl⟩
abbrev powD:=Qi (λi j=>decide (0<=j/\j<=1000000/\i.natAbs<2^64)) λi j=>.int (i^j.toNat)
def ro_pow:ROk K mg (rI CPow λi j=>.int (i^j.toNat)) powD:=GS (λi j h=>(of_decide_eq_true h:0<=j/\j<=1000000/\i.natAbs<2^64)) λ_ _=>⟨rfl,rfl⟩
def zAH:D->D->Option R
 | .int i,.int j=>if((-(2^64)<i/\i<2^64)\/(-(2^64)<j/\j<2^64))\/(i.natAbs<Big/\j.natAbs<Big)then some (.v (.int (i*j)))else none| .t a,.int k=>if -(2^63)<=k/\k<2^63/\a.length*k.toNat<=cap then some (.v (.t (replicate k.toNat a).flatten))else none|_,_=>none
def rMulD(K:PySem.W.Frag):R2:=λx y H Q=>rI CMulB (λi j=>.int (i*j)) x y H Q\/rRepT K x y H Q
def op_mulD:OpR X (binaryOp .Mult) (rMulD X.K):=op_mulB.or op_repT
def ro_mul:ROk K mg (rMulD K) zAH:=by
 intro M H Z x y d1 d2 res Q f r1 r2 e k;cases d1 with
 |int i =>
  cases d2 with
  |int j =>
   simp only[zAH]at e;split at e
   ·rename_i hc
    cases e;exact .inl ⟨i,j,zM r1,zM r2,hc,k.flat f rfl⟩
   ·cases e
  |_=>cases e
 |t a =>
  cases d2 with
  |int n =>
   simp only[zAH]at e;split at e
   ·rename_i hc
    cases e;obtain⟨p,xs,rfl,h1,h2⟩:=zY r1;have l1:=h2.length;refine .inr ⟨p,n,xs,rfl,zM r2,zw zK h1,hc.1,hc.2.1,by rw[l1];exact Jd hc.2.2,λe=>?_,λp' hp=>k.tup f hp (h2.flatten _)⟩;refine k.rep f ?_;rcases e with e|e
    ·subst e
     have:a=[]:=by simpa using l1.symm
     subst this;simpa using r1
    ·subst e
     simpa using r1
   ·cases e
  |_=>cases e
 |_=>cases e
abbrev ltD:=zAE λi j=>.bl (decide (i<j))
def ro_lt:ROk K mg (rI0 λi j=>.bl (decide (i<j))) ltD:=YM λ_ _=>⟨rfl,rfl⟩
abbrev leD:=zAE λi j=>.bl (decide (i<=j))
def ro_le:ROk K mg (rI0 λi j=>.bl (decide (i<=j))) leD:=YM λ_ _=>⟨rfl,rfl⟩
abbrev gtD:=zAE λi j=>.bl (decide (j<i))
def ro_gt:ROk K mg (rI0 λi j=>.bl (decide (j<i))) gtD:=YM λ_ _=>⟨rfl,rfl⟩
abbrev geD:=zAE λi j=>.bl (decide (j<=i))
def ro_ge:ROk K mg (rI0 λi j=>.bl (decide (j<=i))) geD:=YM λ_ _=>⟨rfl,rfl⟩
def eqF:D->D->Option R
 | .int i,.int j=>some (.v (.bl (decide (i=j))))| .bl i,.bl j=>some (.v (.bl (decide (i=j))))| .str i,.str j=>some (.v (.bl (decide (i=j))))|_,_=>none
def neF:D->D->Option R
 | .int i,.int j=>some (.v (.bl (!decide (i=j))))| .bl i,.bl j=>some (.v (.bl (!decide (i=j))))| .str i,.str j=>some (.v (.bl (!decide (i=j))))|_,_=>none
def vint{i j:Int}:decide (V.int i=V.int j)=decide (i=j):=by simp
def vbl{i j:Bool}:decide (V.bl i=V.bl j)=decide (i=j):=by simp
def vstr{i j:Str}:decide (V.str i=V.str j)=decide (i=j):=by simp
def ro_eq:ROk K mg rEq eqF:=by
 intro M H Z x y d1 d2 res Q f r1 r2 e k;cases d1<;>cases d2<;>cases e
 ·rw[wo r1,wo r2];refine⟨rfl,?_⟩;rw[vbl];exact k.flat f rfl
 ·rw[zM r1,zM r2];refine⟨rfl,?_⟩;rw[vint];exact k.flat f rfl
 ·rw[z9 r1,z9 r2];refine⟨rfl,?_⟩;rw[vstr];exact k.flat f rfl
def ro_ne:ROk K mg rNe neF:=by
 intro M H Z x y d1 d2 res Q f r1 r2 e k;cases d1<;>cases d2<;>cases e
 ·rw[wo r1,wo r2];refine⟨rfl,?_⟩;rw[vbl];exact k.flat f rfl
 ·rw[zM r1,zM r2];refine⟨rfl,?_⟩;rw[vint];exact k.flat f rfl
 ·rw[z9 r1,z9 r2];refine⟨rfl,?_⟩;rw[vstr];exact k.flat f rfl
def yH{d:D}(h:flat d=true):ZZ (flV d)=true:=by cases d<;>simp[flat]at h<;>rfl
def ixD:D->D->Option R
 | .t ds,.int i=>(atI ds i).map .v| .l ds,.int i=>(atI ds i).map .v|_,_=>none
def Jv{H:Hp}{ds:List D}{xs:List V}{i:Int}{d:D}(h:Reps K mg H ds xs)(e:atI ds i=some d):∃v,atI xs i=some v/\Rep K mg H d v:=by
 unfold atI at e ⊢;have hl:=h.length;rw[hl];cases hj:ixN ds.length i with
 |none=>rw[hj]at e;cases e
 |some j =>
  rw[hj]at e;exact h.get' e
def ro_ix:ROk K mg (λx y H Q=>rIxL K x y H Q\/rIxT K x y H Q) ixD:=by
 intro M H Z x y d1 d2 res Q f r1 r2 e k;cases d1 with
 |t ds =>
  cases d2 with
  |int i =>
   simp only[ixD]at e;cases ea:atI ds i with
   |none=>rw[ea]at e;cases e
   |some d =>
    rw[ea]at e;cases e;obtain⟨p,xs,rfl,h1,h2⟩:=zY r1;obtain⟨v,e1,e2⟩:=Jv h2 ea;exact .inr ⟨p,xs,i,v,rfl,zM r2,zw zK h1,e1,k.rep f e2⟩
  |_=>cases e
 |l ds =>
  cases d2 with
  |int i =>
   simp only[ixD]at e;cases ea:atI ds i with
   |none=>rw[ea]at e;cases e
   |some d =>
    rw[ea]at e;cases e;obtain⟨p,xs,rfl,h1,h2⟩:=zN r1;obtain⟨v,e1,e2⟩:=Jv h2 ea;exact .inl ⟨p,xs,i,v,rfl,zM r2,zK.seq h1,e1,k.rep f e2⟩
  |_=>cases e
 |_=>cases e
def ix_both:IxR X (λx y H Q=>rIxL X.K x y H Q\/rIxT X.K x y H Q):=GB.or ix_tup
def lenD:List D->Option R
 | [.t ds]=>some (.v (.int ds.length))| [.l ds]=>some (.v (.int ds.length))|_=>none
def wq{H:Hp}{d:D}{xs:List V}(h:Reps K mg H [d] xs):∃v,xs=[v]/\Rep K mg H d v:=by
 simp only[Reps]at h;obtain⟨v,r,rfl,h1,rfl⟩:=h;exact⟨v,rfl,h1⟩
def reps2{H:Hp}{d e:D}{xs:List V}(h:Reps K mg H [d,e] xs):∃v w,xs=[v,w]/\Rep K mg H d v/\Rep K mg H e w:=by
 simp only[Reps]at h;obtain⟨v,r,rfl,h1,w,r',rfl,h2,rfl⟩:=h;exact⟨v,w,rfl,h1,h2⟩
def co_len:COk K mg (λxs H Q=>∃p ys,xs=[.ref p]/\(SqL K H p ys\/SqT K H p ys)/\Q (.int ys.length) H) lenD:=by
 intro M H Z xs ds res Q f r e k
 match ds,e with
 | [.t ds],e =>
  cases e;obtain⟨v,rfl,h⟩:=wq r;obtain⟨p,ys,rfl,h1,h2⟩:=zY h;refine⟨p,ys,rfl,.inr (zw zK h1),?_⟩;rw[h2.length];exact k.flat f rfl
 | [.l ds],e =>
  cases e;obtain⟨v,rfl,h⟩:=wq r;obtain⟨p,ys,rfl,h1,h2⟩:=zN h;refine⟨p,ys,rfl,.inl (zK.seq h1),?_⟩;rw[h2.length];exact k.flat f rfl
def maxD:List D->Option R
 | [.int i,.int j]=>some (.v (.int (if j > i then j else i)))|_=>none
def co_max:COk K mg (λxs H Q=>∃i j,xs=[.int i,.int j]/\Q (.int (if j > i then j else i)) H) maxD:=by
 intro M H Z xs ds res Q f r e k
 match ds,e with
 | [.int i,.int j],e =>
  cases e;obtain⟨v,w,rfl,h1,h2⟩:=reps2 r;exact⟨i,j,by rw[zM h1,zM h2],k.flat f rfl⟩
def intF:List D->Option R
 | [.int i]=>some (.v (.int i))| [.bl b]=>some (.v (.int (if b then 1 else 0)))|_=>none
def co_int:COk K mg (λxs H Q=>(∃i,xs=[.int i]/\Q (.int i) H)\/∃k,xs=[.bl k]/\Q (.int (if k then 1 else 0)) H) intF:=by
 intro M H Z xs ds res Q f r e k
 match ds,e with
 | [.int i],e =>
  cases e;obtain⟨v,rfl,h1⟩:=wq r;exact .inl ⟨i,by rw[zM h1],k.flat f rfl⟩
 | [.bl b],e =>
  cases e;obtain⟨v,rfl,h1⟩:=wq r;exact .inr ⟨b,by rw[wo h1],k.flat f rfl⟩
def zBU:List D->Option R
 | [.l ds]=>some (.v (.t ds))| [.t ds]=>some (.v (.t ds))|_=>none
def zAI:COk K mg (λxs H Q=>∃p ys,xs=[.ref p]/\((SqL K H p ys/\∀l,H l=none->Q (.ref l) (upd H l (.t ys)))\/(SqT K H p ys/\Q (.ref p) H))) zBU:=by
 intro M H Z xs ds res Q f r e k
 match ds,e with
 | [.l ds],e =>
  cases e;obtain⟨v,rfl,h⟩:=wq r;obtain⟨p,ys,rfl,h1,h2⟩:=zN h;exact⟨p,ys,rfl,.inl ⟨zK.seq h1,λl hl=>k.tup f hl h2⟩⟩
 | [.t ds],e =>
  cases e;obtain⟨v,rfl,h⟩:=wq r;have h':=h;obtain⟨p,ys,rfl,h1,h2⟩:=zY h;exact⟨p,ys,rfl,.inr ⟨zw zK h1,k.rep f h'⟩⟩
def listD:List D->Option R
 | [.l ds]=>some (.own ds)| [.t ds]=>some (.own ds)|_=>none
def co_list:COk K mg (λxs H Q=>∃p ys,xs=[.ref p]/\(SqL K H p ys\/SqT K H p ys)/\∀l,H l=none->Q (.ref l) (upd H l (.l ys))) listD:=by
 intro M H Z xs ds res Q f r e k
 match ds,e with
 | [.l ds],e =>
  cases e;obtain⟨v,rfl,h⟩:=wq r;obtain⟨p,ys,rfl,h1,h2⟩:=zN h;exact⟨p,ys,rfl,.inl (zK.seq h1),λl hl=>k.own f hl h2⟩
 | [.t ds],e =>
  cases e;obtain⟨v,rfl,h⟩:=wq r;obtain⟨p,ys,rfl,h1,h2⟩:=zY h;exact⟨p,ys,rfl,.inr (zw zK h1),λl hl=>k.own f hl h2⟩
def yk:List D->Option (List Bool)
 | []=>some []| .bl b::ds=>(yk ds).map (b::·)|_=>none
theorem jr{H:Hp}:∀{ds:List D} {xs:List V} {bs:List Bool},yk ds=some bs->Reps K mg H ds xs->xs=bs.map V.bl
 | [],_,_,e,h=>by cases e;simp only[Reps]at h;subst h;rfl
 |d::ds,_,bs,e,h=>by
  simp only[Reps]at h;obtain⟨v,r,rfl,h1,h2⟩:=h;cases d with
  |bl b =>
   simp only[yk]at e;cases eb:yk ds with
   |none=>rw[eb]at e;cases e
   |some cs =>
    rw[eb]at e;cases e;rw[wo h1,jr eb h2];rfl
  |_=>cases e
def allD:List D->Option R
 | [.l ds]=>(yk ds).map λbs=>.v (.bl (bs.all id))|_=>none
def co_all:COk K mg (λxs H Q=>∃(p:Addr) (bs:List Bool),xs=[.ref p]/\SqL K H p (bs.map V.bl)/\Q (.bl (bs.all id)) H) allD:=by
 intro M H Z xs ds res Q f r e k
 match ds,e with
 | [.l ds],e =>
  simp only[allD]at e;cases eb:yk ds with
  |none=>rw[eb]at e;cases e
  |some bs =>
   rw[eb]at e;cases e;obtain⟨v,rfl,h⟩:=wq r;obtain⟨p,ys,rfl,h1,h2⟩:=zN h;have:=jr eb h2;subst this;exact⟨p,bs,rfl,zK.seq h1,k.flat f rfl⟩
end
abbrev MO:=zQ->Out (Option Int×zQ)
def tMO(X:Cx)(m:MO):TO:=λO H Q=>∃M E,E.length=O.length/\FR X.K X.mg M H (O.zip E)/\match m E with
 | .z=>False| .ok (b,E')=>∀H',Got X.K X.mg M O E H [] O E' H' []->Q b H'| .exc x E'=>∀H',Got X.K X.mg M O E H [] O E' H' []->XE X O H' x
section
variable{X:Cx}{K:PySem.W.Frag}{mg:Str->Option Value}{O:St}{M:Addr->Prop}{E:zQ}{H:Hp}{T0:Fz}
def GU{m:MO}{Q:Option Int->Hp->Prop}(hl:E.length=O.length)(h:FR X.K X.mg M H (T0++O.zip E))
  (k:match m E with | .z=>False | .ok (b,E')=>∀H',Got X.K X.mg M O E H T0 O E' H' []->Q b H' | .exc x E'=>∀H',Got X.K X.mg M O E H T0 O E' H' []->XE X O H' x):tMO X m O H Q:=by
 refine⟨Mo M T0,E,hl,h.inner,?_⟩;cases e:m E with
 |z=>rw[e]at k;exact k|ok a=>rw[e]at k;exact λH' g=>k H' (g.outer h)|exc x E'=>rw[e]at k;exact λH' g=>k H' (g.outer h)
abbrev OOk(X:Cx)(e:Option Expr)(m:MO):Prop:=PO X e (tMO X m)
def zBV{e:Option Expr}{t t':TO}(h:PO X e t)(i:∀O H Q,t' O H Q->t O H Q):PO X e t':=λpins s O H Q I q=>h pins s O H Q I (i O H Q q)
def oNone:MO:=λE=>.ok (none,E)
def zAJ(m:ME):MO:=λE=>match m E with
 | .ok (.v (.int i),E1)=>.ok (some i,E1)| .exc x E1=>.exc x E1|_=>.z
def oo_none:OOk X none oNone:=zBV po_none λO H Q ⟨M,E,hl,fr,k⟩=>k H (Got.refl (T0:=[]) hl fr)
def oo_some{e:Expr}{m:ME}(h:EOk X e m):OOk X (some e) (zAJ m):=zBV (po_some h) λO H Q ⟨M,E,hl,fr,k⟩=>by
 unfold zAJ at k;refine zd (T0:=[]) hl fr ?_;cases ea:m E with
 |z=>rw[ea]at k;exact k|exc x E1=>rw[ea]at k;exact k
 |ok p =>
  obtain⟨r,E1⟩:=p;rw[ea]at k;cases r with
  |own ds=>exact k.elim
  |v d =>
   cases d with
   |int i =>
    intro v H' g;exact⟨i,zM g.rep,k H' g.dropAll⟩
   |_=>exact k.elim
def eSl(f:D->Option Int->Option Int->Option R)(a:ME)(lo hi:MO):ME:=λE=>match a E with
 | .z=>.z| .exc x E1=>.exc x E1
 | .ok (r,E1)=>match lo E1 with
  | .z=>.z| .exc x E2=>.exc x E2
  | .ok (l,E2)=>match hi E2 with
   | .z=>.z| .exc x E3=>.exc x E3
   | .ok (u,E3)=>match f r.d l u with
    |some r=>.ok (r,E3)|none=>.z
def Z8(ds:List D)(lo hi:Option Int):List D:=(ds.drop (HT.sIx ds.length 0 lo)).take (HT.sIx ds.length ds.length hi-HT.sIx ds.length 0 lo)
def slD:D->Option Int->Option Int->Option R
 | .t ds,lo,hi=>some (.v (.t (Z8 ds lo hi)))| .l ds,lo,hi=>some (.own (Z8 ds lo hi))|_,_,_=>none
def vd{ds:List D}{xs:List V}(h:Reps K mg H ds xs)(lo hi:Option Int):Reps K mg H (Z8 ds lo hi) (Qy xs lo hi):=by
 unfold Z8 Qy;rw[h.length];exact(h.drop _).take _
def sl_run{a:ME}{lo hi:MO}{Q:VK}(h:tM X (eSl slD a lo hi) O H Q):tSl (λx l u H Q=>rSlTT X.K x l u H Q\/rSlL X.K x l u H Q) (tM X a) (tMO X lo) (tMO X hi) O H Q:=by
 obtain⟨M,E,hl,fr,k⟩:=h;unfold eSl at k;refine zd (T0:=[]) hl fr ?_;cases ea:a E with
 |z=>rw[ea]at k;exact k|exc x E1=>rw[ea]at k;exact λH' g=>k H' g
 |ok p =>
  obtain⟨r1,E1⟩:=p;rw[ea]at k;intro x H1 g1;refine GU (T0:=[(some x,r1.slot)]) g1.len g1.fr ?_;dsimp only at k;cases eb:lo E1 with
  |z=>rw[eb]at k;exact k|exc x E2=>rw[eb]at k;exact λH' g=>k H' (g1.trans' g).dropAll
  |ok p =>
   obtain⟨l,E2⟩:=p;rw[eb]at k;intro H2 g2;have g12:=g1.trans' g2;refine GU (T0:=[(some x,r1.slot)]) g12.len g12.fr ?_;dsimp only at k;cases ec:hi E2 with
   |z=>rw[ec]at k;exact k|exc x E3=>rw[ec]at k;exact λH' g=>k H' (g12.trans' g).dropAll
   |ok p =>
    obtain⟨u,E3⟩:=p;rw[ec]at k;intro H3 g3;have g:=g12.trans' g3;have rx:=g.rep;dsimp only at k;have f:=g.frame;cases ed:r1.d with
    |t ds =>
     rw[ed]at k rx;have k':Kt X.K X.mg M H3 (O.zip E3) (.v (.t (Z8 ds l u))) Q:=λv H' f' s'=>k v H' (g.more (T:=[(some v,_)]) f' s')
     obtain⟨p,xs,rfl,h1,h2⟩:=zY rx;refine .inl ⟨p,xs,rfl,zw zK h1,λhw=>k'.rep f ?_,λ_ p' hp=>k'.tup f hp (vd h2 l u)⟩;have:Z8 ds l u=ds:=by
      have hl:=h2.length;rw[hl]at hw;unfold Z8;rw[hw.1,hw.2];simp
     rw[this];exact rx
    |l ds =>
     rw[ed]at k rx;have k':Kt X.K X.mg M H3 (O.zip E3) (.own (Z8 ds l u)) Q:=λv H' f' s'=>k v H' (g.more (T:=[(some v,_)]) f' s')
     obtain⟨p,xs,rfl,h1,h2⟩:=zN rx;exact .inr ⟨p,xs,rfl,zK.seq h1,λp' hp=>k'.own f hp (vd h2 l u)⟩
    |_=>rw[ed]at k;exact k.elim
def ok_sl{a:Expr}{lo hi:Option Expr}{ma:ME}{ml mh:MO}{p2 pos:Pos}(ha:EOk X a ma)(hl:OOk X lo ml)(hh:OOk X hi mh):EOk X (.Subscript a (.Slice lo hi none p2) pos) (eSl slD ma ml mh) :=
 zc (Qx (sl_tupT.or sl_list) ha hl hh) λO H Q=>sl_run
def tyD:D->Option String
 | .non=>some "NoneType"| .bl _=>some "bool"| .int _=>some "int"| .str _=>some "str"| .t _=>some "tuple"| .l _=>some "list"| .dic=>some "dict"| .fn _=>none| .exn _=>none
def Ze(t T:String):Bool:=t==T||(t == "bool"&&T == "int")
def zAK{T:String}(hk:∀t∈["NoneType","bool","int","str","tuple","list","dict"],kitOne X.K (.type t) (.type T)=some (Ze t T)) :
  jQ X (.builtin "isinstance") (λxs H Q=>∃x d t,xs=[x,.ty T]/\Rep X.K X.mg H d x/\tyD d=some t/\Q (.bl (Ze t T)) H):=by
 intro pins s O H xs us Q I r h;obtain⟨x,d,t,rfl,rd,et,q⟩:=h;obtain⟨u,w',rfl,rx,ry⟩:=vals2 r;cases (show w'=Value.type T from ry);have fin:∀tk,EP X pins O Q (.bool (Ze t T)) {s with toks:=tk}:=λtk=>⟨.bl _,H,I.tok tk,rfl,q⟩
 cases d with
 |non=>cases et;rw[rep_non rd]at rx;cases (show u=Value.none from rx);exact kia_one PySem.W.kitx_none I.kIn True.intro (hk _ (by simp)) (λz=>nomatch z) fin|bl b=>cases et;rw[wo rd]at rx;cases (show u=Value.bool b from rx);exact kia_one PySem.W.kitx_bool I.kIn True.intro (hk _ (by simp)) (λz=>nomatch z) fin|int i=>cases et;rw[zM rd]at rx;obtain⟨t,q⟩:=(show ∃t,u=Value.int i t from rx);cases q;exact kia_one PySem.W.kitx_int I.kIn True.intro (hk _ (by simp)) (λz=>nomatch z) fin|str y=>cases et;rw[z9 rd]at rx;obtain⟨t,q⟩:=(show ∃t,u=Value.str y t from rx);cases q;exact kia_one PySem.W.kitx_str I.kIn True.intro (hk _ (by simp)) (λz=>nomatch z) fin
 |t ds =>
  cases et;obtain⟨a,xs,rfl,h1,_⟩:=zY rd;cases (show u=Value.ref a from rx);obtain⟨its,_,p,_⟩:=I.tuple h1;obtain⟨o,e1,e2,_⟩:=p;exact kia_one PySem.W.kitx_tuple I.kIn ⟨o,e1,e2⟩ (hk _ (by simp)) (λz=>nomatch z) fin
 |l ds =>
  cases et;obtain⟨a,xs,rfl,h1,_⟩:=zN rd;cases (show u=Value.ref a from rx);obtain⟨its,_,p,_⟩:=I.list h1;obtain⟨o,n,e1,e2,_⟩:=p;exact kia_one PySem.W.kitx_list I.kIn ⟨o,e1,e2⟩ (hk _ (by simp)) (λz=>nomatch z) fin
 |dic =>
  cases et;simp only[Rep]at rd;obtain⟨a,rfl,e⟩:=rd;cases (show u=Value.ref a from rx);obtain⟨_,_,vs,_,p⟩:=(show jK X.prog X.w H s.heap a (.dK [])from I.hok a _ e);obtain⟨o,es,ep,h1,h2,_⟩:=p;exact kia_one PySem.W.kitx_dict I.kIn ⟨o,h1,h2.1⟩ (hk _ (by simp)) (λz=>nomatch z) fin
 |fn x=>cases et|exn x=>cases et
def eIs(T:String)(m:ME):ME:=λE=>match m E with
 | .z=>.z| .exc x E1=>.exc x E1
 | .ok (r,E1)=>match tyD r.d with
  |some t=>.ok (.v (.bl (Ze t T)),E1)|none=>.z
def ok_is{T:String}{a:Expr}{m:ME}{x:Str}{p p1 pos:Pos}(hk:∀t∈["NoneType","bool","int","str","tuple","list","dict"],kitOne X.K (.type t) (.type T)=some (Ze t T))(hg:Gl X "isinstance")(hm:X.mg "isinstance"=none)
  (hgT:Gl X x) (hmT:X.mg x=none) (hvT:bootBuiltins x=some (.type T)) (ha:EOk X a m) (hv:bootBuiltins "isinstance"=some (.builtin "isinstance")) (hn:x≠"__name__":=by decide) (hd:(x==("__debug__":Str))=false:=by decide)
  (he:zL a=false:=by rfl) :
  EOk X (.Call (.Name "isinstance" p) [a,.Name x p1] [] pos) (eIs T m):=by
 refine zc (wg (zAK hk) hg hm hv (yK ha (yK (uk (v:=.ty T) hgT hmT hvT rfl hn hd) jg (zF rfl)) (zF he)) (by decide) (by decide) (zF he) (yy rfl)) λO H Q ⟨M,E,hl,fr,k⟩=>?_
 unfold eIs at k;refine zd (T0:=[]) hl fr ?_;cases ea:m E with
 |z=>rw[ea]at k;exact k|exc x E1=>rw[ea]at k;exact k
 |ok pr =>
  obtain⟨r,E1⟩:=pr;rw[ea]at k;intro v H' g;dsimp only at k;cases et:tyD r.d with
  |none=>rw[et]at k;exact k.elim
  |some t =>
   rw[et]at k;exact⟨v,r.d,t,rfl,g.rep.mono zK,et,k _ H' (g.flat (d:=.bl (Ze t T)) rfl)⟩
inductive Fl where
 |nx
 |ret (r:R)
 |bk
 |ct
 deriving Inhabited
abbrev MS:=zQ->Out (Fl×zQ)
def KS(X:Cx)(M:Addr->Prop)(O:St)(E:zQ)(H:Hp)(T0:Fz)(D:Ends):Out (Fl×zQ)->Prop
 | .z=>False| .ok (.nx,E')=>∀O' H',Got X.K X.mg M O E H T0 O' E' H' []->D.nx O' H'| .ok (.bk,E')=>∀O' H',Got X.K X.mg M O E H T0 O' E' H' []->D.bk O' H'| .ok (.ct,E')=>∀O' H',Got X.K X.mg M O E H T0 O' E' H' []->D.ct O' H'| .ok (.ret r,E')=>∀v O' H',Got X.K X.mg M O E H T0 O' E' H' [(some v,r.slot)]->D.rt v H'| .exc x E'=>∀O' H',Got X.K X.mg M O E H T0 O' E' H' []->XE X O' H' x
def tS(X:Cx)(m:MS):TS:=λD O H=>∃M E,E.length=O.length/\FR X.K X.mg M H (O.zip E)/\KS X M O E H [] D (m E)
abbrev SOk(X:Cx)(st:Stmt)(m:MS):Prop:=PS X st (tS X m)
abbrev uc(X:Cx)(st:List Stmt)(m:MS):Prop:=PSs X st (tS X m)
def WU{m:MS}{D:Ends}(hl:E.length=O.length)(h:FR X.K X.mg M H (T0++O.zip E))
  (k:KS X M O E H T0 D (m E)):tS X m D O H:=by
 refine⟨Mo M T0,E,hl,h.inner,?_⟩;cases e:m E with
 |z=>rw[e]at k;exact k
 |ok a =>
  obtain⟨fl,E'⟩:=a;rw[e]at k;cases fl with
  |nx=>exact λO' H' g=>k O' H' (g.outer h)|bk=>exact λO' H' g=>k O' H' (g.outer h)|ct=>exact λO' H' g=>k O' H' (g.outer h)|ret r=>exact λv O' H' g=>k v O' H' (g.outer h)
 |exc x E'=>rw[e]at k;exact λO' H' g=>k O' H' (g.outer h)
def sNil:MS:=λE=>.ok (.nx,E)
def ud(a b:MS):MS:=λE=>match a E with
 | .ok (.nx,E1)=>b E1|o=>o
def sk_nil:uc X [] sNil:=GO pss_nil λD O H ⟨M,E,hl,fr,k⟩=>k O H (Got.refl (T0:=[]) hl fr)
def sk_one{st:Stmt}{m:MS}(h:SOk X st m):uc X [st] m:=pss_one h
def seq_run{a b:MS}{D:Ends}(h:tS X (ud a b) D O H):tSeq (tS X a) (tS X b) D O H:=by
 obtain⟨M,E,hl,fr,k⟩:=h;unfold ud at k;refine WU (T0:=[]) hl fr ?_;cases ea:a E with
 |z=>rw[ea]at k;exact k|exc x E1=>rw[ea]at k;exact k
 |ok p =>
  obtain⟨fl,E1⟩:=p;rw[ea]at k;cases fl with
  |bk=>exact k|ct=>exact k|ret r=>exact k
  |nx =>
   intro O1 H1 g1;refine WU (T0:=[]) g1.len g1.fr ?_;dsimp only at k;cases eb:b E1 with
   |z=>rw[eb]at k;exact k|exc x E2=>rw[eb]at k;exact λO' H' g=>k O' H' (g1.trans' g)
   |ok p =>
    obtain⟨fl2,E2⟩:=p;rw[eb]at k;cases fl2 with
    |nx=>exact λO' H' g=>k O' H' (g1.trans' g)|bk=>exact λO' H' g=>k O' H' (g1.trans' g)|ct=>exact λO' H' g=>k O' H' (g1.trans' g)|ret r=>exact λv O' H' g=>k v O' H' (g1.trans' g)
def sk_cons{st:Stmt}{jf:List Stmt}{a b:MS}(h1:SOk X st a)(h2:uc X jf b):uc X (st::jf) (ud a b):=GO (Qo h1 h2) λD O H=>seq_run
def sIf(c:MT)(a b:MS):MS:=λE=>match c E with
 | .ok (true,E1)=>a E1| .ok (false,E1)=>b E1| .exc x E1=>.exc x E1| .z=>.z
def tS_go{m:MS}{D:Ends}{O1:St}{E1:zQ}{H1:Hp}(g1:Got X.K X.mg M O E H [] O1 E1 H1 [])
  (k:match m E1 with
   | .z=>False| .ok (.nx,E')=>∀O' H',Got X.K X.mg M O E H [] O' E' H' []->D.nx O' H'| .ok (.bk,E')=>∀O' H',Got X.K X.mg M O E H [] O' E' H' []->D.bk O' H'| .ok (.ct,E')=>∀O' H',Got X.K X.mg M O E H [] O' E' H' []->D.ct O' H'| .ok (.ret r,E')=>∀v O' H',Got X.K X.mg M O E H [] O' E' H' [(some v,r.slot)]->D.rt v H'
   | .exc x E'=>∀O' H',Got X.K X.mg M O E H [] O' E' H' []->XE X O' H' x):tS X m D O1 H1:=by
 refine WU (T0:=[]) g1.len g1.fr ?_;cases eb:m E1 with
 |z=>rw[eb]at k;exact k|exc x E2=>rw[eb]at k;exact λO' H' g=>k O' H' (g1.trans' g)
 |ok p =>
  obtain⟨fl2,E2⟩:=p;rw[eb]at k;cases fl2 with
  |nx=>exact λO' H' g=>k O' H' (g1.trans' g)|bk=>exact λO' H' g=>k O' H' (g1.trans' g)|ct=>exact λO' H' g=>k O' H' (g1.trans' g)|ret r=>exact λv O' H' g=>k v O' H' (g1.trans' g)
def sif_run{c:MT}{a b:MS}{D:Ends}(h:tS X (sIf c a b) D O H):tIfS (tMT X c) (tS X a) (tS X b) D O H:=by
 obtain⟨M,E,hl,fr,k⟩:=h;unfold sIf at k;refine wM (T0:=[]) hl fr ?_;cases ea:c E with
 |z=>rw[ea]at k;exact k|exc x E1=>rw[ea]at k;exact λH' g=>k O H' g
 |ok p =>
  obtain⟨t,E1⟩:=p;rw[ea]at k;intro H1 g1;cases t with
  |true=>exact iteT (tS_go g1 k)|false=>exact iteF (tS_go g1 k)
def sk_if{c:Expr}{a b:List Stmt}{mc:MT}{ma mb:MS}{pos:Pos}(hc:TOk X c mc)(ha:uc X a ma)(hb:uc X b mb):SOk X (.If c a b pos) (sIf mc ma mb):=jc (ps_if hc ha hb) λD O H=>sif_run
def JM(i:Nat)(r:R)(E:zQ):Out zQ:=match E[i]? with
 |none=>.z|some (.par _)=>.z|some _=>.ok (E.set i r.slot)
def sSet(i:Nat)(m:ME):MS:=λE=>match m E with
 | .z=>.z| .exc x E1=>.exc x E1
 | .ok (r,E1)=>match JM i r E1 with
  | .ok E2=>.ok (.nx,E2)|_=>.z
def JN{O1:St}{E1 E2:zQ}{H1:Hp}{i:Nat}{r:R}{v:V}(g:Got K mg M O E H T0 O1 E1 H1 [(some v,r.slot)])(e:JM i r E1=.ok E2):Got K mg M O E H T0 (O1.set i (some v)) E2 H1 []:=by
 unfold JM at e;cases e1:E1[i]? with
 |none=>rw[e1]at e;cases e
 |some sl =>
  rw[e1]at e;have hne:∀ds,sl≠.par ds:=λds q=>by subst q;cases e
  have e2:E2=E1.set i r.slot:=by
   cases sl with
   |par ds=>exact absurd rfl (hne ds)|_=>cases e;rfl
  subst e2;have hi:i<E1.length:=(List.getElem?_eq_some_iff.mp e1).1;have hl:=g.len;have hz:i<(O1.zip E1).length:=by rw[List.length_zip];omega
  have hT:T0++((O1.set i (some v)).zip (E1.set i r.slot))=(T0++O1.zip E1).set (T0.length+i) (some v,r.slot):=by
   rw[Zb,List.set_append_right _ _ (by omega)];congr 2;omega
  have hz2:T0.length+i<(T0++O1.zip E1).length:=by rw[length_append];omega
  refine⟨by simp[hl],?_,?_,?_⟩
  ·show FR K mg M H1 (T0++((O1.set i (some v)).zip (E1.set i r.slot)))
   rw[hT];exact FR.put g.fr hz2
  ·show Step M H _ H1 (T0++((O1.set i (some v)).zip (E1.set i r.slot)))
   rw[hT];exact Step.put g.st hz2
  ·refine g.pk.trans λj ds q=>?_
   have ne:i≠j:=λz=>by subst z;rw[e1]at q;exact hne ds (Option.some.inj q)
   exact⟨⟨ds,by rw[getElem?_set_ne ne];exact q⟩,by rw[getElem?_set_ne ne]⟩
def GV{i:Nat}{m:ME}{D:Ends}(h:tS X (sSet i m) D O H):tAsg (tM X m) (W1 i) D O H:=by
 obtain⟨M,E,hl,fr,k⟩:=h;unfold sSet at k;refine zd (T0:=[]) hl fr ?_;cases ea:m E with
 |z=>rw[ea]at k;exact k|exc x E1=>rw[ea]at k;exact λH' g=>k O H' g
 |ok p =>
  obtain⟨r,E1⟩:=p;rw[ea]at k;intro v H' g;dsimp only at k;cases ep:JM i r E1 with
  |z=>rw[ep]at k;exact k.elim|exc _ _=>rw[ep]at k;exact k.elim
  |ok E2 =>
   rw[ep]at k;exact k _ H' (JN g ep)
def zBW{i:Nat}{x:Str}{e:Expr}{m:ME}{pos pos':Pos}(hN:X.N.Nodup)(hi:X.N[i]?=some x)(hx:Loc X.env.scope x)(he:EOk X e m)(hs:swapsWith e (some (.Name x pos')) pos.line X.env=pure false:=by rfl)
  (hf:X.fn x=true\/X.env.scope.names.lookup x=some .local:=by first|exact .inl rfl|exact .inr rfl|assumption):SOk X (.Assign [.Name x pos'] e pos) (sSet i m) :=
 jc (ps_set hN hi hx he hs hf) λD O H=>GV
def sRet(m:ME):MS:=λE=>match m E with
 | .z=>.z| .exc x E1=>.exc x E1| .ok (r,E1)=>.ok (.ret r,E1)
def ret_run{m:ME}{D:Ends}(h:tS X (sRet m) D O H):tRet (tM X m) D O H:=by
 obtain⟨M,E,hl,fr,k⟩:=h;unfold sRet at k;refine zd (T0:=[]) hl fr ?_;cases ea:m E with
 |z=>rw[ea]at k;exact k|exc x E1=>rw[ea]at k;exact λH' g=>k O H' g|ok p=>rw[ea]at k;exact λv H' g=>k v O H' g
def sk_ret{e:Expr}{m:ME}{pos:Pos}(he:EOk X e m):SOk X (.Return (some e) pos) (sRet m):=jc (ps_ret he) λD O H=>ret_run
def sDrop(m:ME):MS:=λE=>match m E with
 | .z=>.z| .exc x E1=>.exc x E1| .ok (_,E1)=>.ok (.nx,E1)
def zAL{m:ME}{D:Ends}(h:tS X (sDrop m) D O H):tDrop (tM X m) D O H:=by
 obtain⟨M,E,hl,fr,k⟩:=h;unfold sDrop at k;refine zd (T0:=[]) hl fr ?_;cases ea:m E with
 |z=>rw[ea]at k;exact k|exc x E1=>rw[ea]at k;exact λH' g=>k O H' g|ok p=>rw[ea]at k;exact λv H' g=>k O H' g.dropAll
def sk_drop{e:Expr}{m:ME}{pos:Pos}(he:EOk X e m)(hs:swapsWith e none pos.line X.env=pure false:=by rfl):SOk X (.Expr e pos) (sDrop m):=jc (ul he hs) λD O H=>zAL
end
theorem y9{α β:Type}{f:α->Option β}{x y:α}(h:f y=f x):∀{l:List α} {i:Nat},l[i]?=some x->(l.set i y).filterMap f=l.filterMap f
 | [],_,e=>by simp at e
 |a::l,0,e=>by
  simp at e;subst e
  simp only[List.set_cons_zero,filterMap_cons,h]
 |a::l,i+1,e=>by
  simp at e
  simp only[List.set_cons_succ,filterMap_cons,y9 h e]
section
variable{X:Cx}{K:PySem.W.Frag}{mg:Str->Option Value}{O:St}{M:Addr->Prop}{E:zQ}{H:Hp}{T0 Z:Fz}
def Slot.put:Slot->List D->Slot
 | .own _,es=>.own es| .par _,es=>.par es|s,_=>s
def Zf{p:Addr}{s:Slot}{ds es:List D}(hs:s.list?=some ds):Wz (some (.ref p),s.put es)=Wz (some (.ref p),s)/\(s.put es).list?=some es:=by
 cases s<;>simp[Slot.list?]at hs<;>exact⟨rfl,rfl⟩
def FR.mut(h:FR K mg M H Z){i:Nat}{p:Addr}{s:Slot}{ds es:List D}{ys:List V}(hi:Z[i]?=some (some (.ref p),s))(hs:s.list?=some ds)(r:Reps K mg (Hm (Mo M Z) H) es ys) :
  FR K mg M (upd H p (.l ys)) (Z.set i (some (.ref p),s.put es))/\Step M H Z (upd H p (.l ys)) (Z.set i (some (.ref p),s.put es)):=by
 have eo:zu (Z.set i (some (.ref p),s.put es))=zu Z:=y9 (Zf hs).1 hi;have em:Mo M (Z.set i (some (.ref p),s.put es))=Mo M Z:=by unfold Mo;rw[eo]
 have hp:p∈zu Z:=yx (mem_of_getElem? hi) hs rfl;obtain⟨xs0,hH,hM⟩:=h.ownAt hp;have ehm:Hm (Mo M Z) (upd H p (.l ys))=Hm (Mo M Z) H:=by
  funext b
  unfold Hm;by_cases hb:Mo M Z b
  ·simp[hb]
  ·have:b≠p:=λe=>hb (by subst e;exact .inr hp)
   simp[hb,zr this]
 have mem:∀{q:Option V×Slot},q∈Z.set i (some (.ref p),s.put es)->q=(some (.ref p),s.put es)\/q∈Z:=λ{q} hq=>(List.mem_or_eq_of_mem_set hq).symm
 have hlt:i<Z.length:=(List.getElem?_eq_some_iff.mp hi).1;have nd2:(zu (Z.eraseIdx i)).Nodup/\p∉zu (Z.eraseIdx i):=by
  have pz:Z.Perm ((some (.ref p),s)::Z.eraseIdx i):=by
   have:=zh (some (V.ref p),s) Z i hlt;rw[Js hi]at this;exact this
  have nd:=(pz.filterMap Wz).nodup_iff.mp h.nd;have e:List.filterMap Wz ((some (V.ref p),s)::Z.eraseIdx i)=p::zu (Z.eraseIdx i):=by
   cases s<;>simp[Slot.list?]at hs<;>rfl
  rw[e]at nd;exact⟨(nodup_cons.mp nd).2,(nodup_cons.mp nd).1⟩
 have pz2:(Z.set i (some (.ref p),s.put es)).Perm ((some (.ref p),s.put es)::Z.eraseIdx i):=zh _ _ _ hlt;refine⟨⟨λo d q=>?_,λo s' ds' q e=>?_,by rw[eo];exact h.nd,λb q=>?_⟩,⟨by rw[em,ehm];exact JI.refl _,λb o m e=>?_⟩⟩
 ·rw[em,ehm]
  rcases mem q with q|q
  ·exfalso
   cases s<;>simp[Slot.list?]at hs<;>cases q
  ·exact h.val o d q
 ·rw[em,ehm]
  rcases mem_cons.mp (pz2.mem_iff.mp q)with q'|q'
  ·cases q'
   rw[(Zf (p:=p) hs).2]at e;cases e;exact⟨p,ys,rfl,yc,hM,r⟩
  ·have q'':(o,s')∈Z:=(List.eraseIdx_sublist Z i).subset q'
   obtain⟨a,xs,e1,e2,e3,rr⟩:=h.own o s' ds' q'' e;have ne:a≠p:=λz=>by
    subst z;exact nd2.2 (yx q' e e1)
   exact⟨a,xs,e1,by rw[zr ne];exact e2,e3,rr⟩
 ·obtain⟨o,e⟩:=h.mal b q
  by_cases z:b=p
  ·subst z;exact⟨_,yc⟩
  ·exact⟨o,by rw[zr z];exact e⟩
 ·have ne:b≠p:=λz=>hM (by subst z;exact m)
  rw[zr ne];exact e
theorem Got.mut{O1:St}{E1:zQ}{H1:Hp}{T:Fz}(g:Got K mg M O E H [] O1 E1 H1 T){i:Nat}{s:Slot}{ds es:List D}{ys:List V}(hi:E1[i]?=some s)(hs:s.list?=some ds)(r:Reps K mg (Hm (Mo M (O1.zip E1)) H1) es ys) :
  ∃p,O1[i]?=some (some (.ref p))/\Got K mg M O E H [] O1 (E1.set i (s.put es)) (upd H1 p (.l ys)) []:=by
 obtain⟨o,h1,h2⟩:=JK g.len hi;obtain⟨p,xs,rfl,_⟩:=g.frame.own o s ds (mem_of_getElem? h2) hs;refine⟨p,h1,?_⟩;obtain⟨f,st⟩:=FR.mut g.frame h2 hs r;have e:=z8 (E:=E1) (s.put es) h1;rw[<- e]at f st;refine⟨by simp[g.len],f,(g.st.weak (zC (sublist_append_right _ _))).trans st,g.pk.trans λj ds' q=>?_⟩;by_cases ej:i=j
 ·subst ej
  rw[hi]at q;cases q;have hlt:i<E1.length:=(List.getElem?_eq_some_iff.mp hi).1;exact⟨⟨es,by rw[getElem?_set_self hlt];rfl⟩,rfl⟩
 ·exact⟨⟨ds',by rw[getElem?_set_ne ej];exact q⟩,rfl⟩
def GW{i:Nat}{s:Slot}(hl:E.length=O.length)(f:FR K mg M H (O.zip E))(h:E[i]?=some s)(hs:s≠.e):∃v,O[i]?=some (some v):=by
 obtain⟨o,h1,h2⟩:=jh hl h;cases s with
 |e=>exact absurd rfl hs|v d=>obtain⟨v,rfl,_⟩:=f.val o d h2;exact⟨v,h1⟩|own ds=>obtain⟨a,_,rfl,_⟩:=f.own o _ ds h2 rfl;exact⟨_,h1⟩|par ds=>obtain⟨a,_,rfl,_⟩:=f.own o _ ds h2 rfl;exact⟨_,h1⟩
def jw:Option Slot->Bool
 |none=>true|some .e=>true|_=>false
def vC{o:Option Slot}(h:jw o=false):∃s,o=some s/\s≠.e:=by
 cases o with
 |none=>cases h
 |some s=>cases s<;>simp[jw]at h<;>exact⟨_,rfl,by intro q;cases q⟩
def ixS:Slot->Int->Option D
 | .own ds,i=>atI ds i| .par ds,i=>atI ds i| .v (.l ds),i=>atI ds i|_,_=>none
def eIxO(i:Nat)(m:ME):ME:=λE=>if jw E[i]?=true then .z else match m E with
 | .z=>.z| .exc x E1=>.exc x E1
 | .ok (.v (.int k),E1)=>match E1[i]? with
  |some s=>match ixS s k with
   |some d=>.ok (.v d,E1)|none=>.z
  |none=>.z
 |_=>.z
def ixO_run{i:Nat}{m:ME}{Q:VK}(h:tM X (eIxO i m) O H Q):tOp (rIxL X.K) (uJ i) (tM X m) O H Q:=by
 obtain⟨M,E,hl,fr,k⟩:=h;unfold eIxO at k;cases em:jw E[i]? with
 |true=>rw[em]at k;exact k.elim
 |false =>
  rw[em]at k;obtain⟨s,hs1,hs2⟩:=vC em;obtain⟨v,hv⟩:=GW hl fr hs1 hs2;refine⟨v,hv,?_⟩;refine zd (T0:=[]) hl fr ?_;simp only[Bool.false_eq_true,if_false]at k;cases ea:m E with
  |z=>rw[ea]at k;exact k|exc x E1=>rw[ea]at k;exact k
  |ok p =>
   obtain⟨r,E1⟩:=p;rw[ea]at k;cases r with
   |own ds=>exact k.elim
   |v d =>
    cases d with
    |int n =>
     intro y H' g;dsimp only at k;cases e1:E1[i]? with
     |none=>rw[e1]at k;exact k.elim
     |some s1 =>
      rw[e1]at k;dsimp only at k;cases e2:ixS s1 n with
      |none=>rw[e2]at k;exact k.elim
      |some d =>
       rw[e2]at k;have f:=g.frame;have fin:∀{w:V},Rep X.K X.mg (Hm (Mo M (O.zip E1)) H') d w->Q w H':=λ{w} rw'=>k w H' (g.more (T:=[(some w,.v d)]) (f.add rw') Step.refl.add)
       obtain⟨o,h1,h2⟩:=jh g.len e1;have ho:o=some v:=by rw[hv]at h1;exact(Option.some.inj h1).symm
       subst ho;have key:∀{ds:List D},s1.list?=some ds->atI ds n=some d->rIxL X.K v y H' Q:=λ{ds} hl1 ha=>by
        obtain⟨a,xs,ev,q1,_,q3⟩:=f.own _ s1 ds h2 hl1;cases ev;obtain⟨w,a1,a2⟩:=Jv q3 ha;exact⟨a,xs,n,w,rfl,zM g.rep,SqL.of q1,a1,fin a2⟩
       cases s1 with
       |e=>cases e2|own ds=>exact key rfl e2|par ds=>exact key rfl e2
       |v dd =>
        cases dd with
        |l ds =>
         obtain⟨v',ev,rr⟩:=f.val _ _ h2;cases ev;obtain⟨a,xs,rfl,q1,q2⟩:=zN rr;obtain⟨w,a1,a2⟩:=Jv q2 e2;exact⟨a,xs,n,w,rfl,zM g.rep,zK.seq q1,a1,fin a2⟩
        |_=>cases e2
    |_=>exact k.elim
def ok_ixO(i:Nat){x:Str}{b:Expr}{m:ME}{p pos:Pos}(hv:PE X (.Name x p) (uJ i))(hb:EOk X b m)(hs:ZX b):EOk X (.Subscript (.Name x p) b pos) (eIxO i m) :=
 zc (pe_ix GB hv hb hs) λO H Q=>ixO_run
def GX(i:Nat):ME:=λE=>match E[i]? with
 |some (.own ds)=>.ok (.v (.int ds.length),E)|some (.par ds)=>.ok (.v (.int ds.length),E)|some (.v (.l ds))=>.ok (.v (.int ds.length),E)|_=>.z
def zAM{i:Nat}{Q:VK}(h:tM X (GX i) O H Q):tCB (λxs H Q=>∃p ys,xs=[.ref p]/\(SqL X.K H p ys\/SqT X.K H p ys)/\Q (.int ys.length) H) (W2 (uJ i) tNil) O H Q:=by
 obtain⟨M,E,hl,f,k⟩:=h;unfold GX at k;cases e1:E[i]? with
 |none=>rw[e1]at k;exact k.elim
 |some s =>
  rw[e1]at k;obtain⟨o,h1,h2⟩:=jh hl e1;have key:∀{ds:List D},s.list?=some ds->(∀(v:V) (H':Hp),Got X.K X.mg M O E H [] O E H' [(some v,.v (.int ds.length))]->Q v H')->tCB (λxs H Q=>∃p ys,xs=[.ref p]/\(SqL X.K H p ys\/SqT X.K H p ys)/\Q (.int ys.length) H) (W2 (uJ i) tNil) O H Q:=λ{ds} hl1 kk=>by
   obtain⟨a,xs,ev,q1,_,q3⟩:=f.own _ s ds h2 hl1;subst ev;refine⟨.ref a,h1,a,xs,rfl,.inl (SqL.of q1),?_⟩;rw[q3.length];exact kk _ H ((Got.refl (T0:=[]) hl f).flat (d:=.int ds.length) rfl)
  cases s with
  |e=>exact k.elim|own ds=>exact key rfl k|par ds=>exact key rfl k
  |v d =>
   cases d with
   |l ds =>
    obtain⟨v',ev,rr⟩:=f.val _ _ h2;subst ev;obtain⟨a,xs,rfl,q1,q2⟩:=zN rr;refine⟨.ref a,h1,a,xs,rfl,.inl (zK.seq q1),?_⟩;rw[q2.length];exact k _ H ((Got.refl (T0:=[]) hl f).flat (d:=.int ds.length) rfl)
   |_=>exact k.elim
def ok_lenO(i:Nat){x:Str}{p p1 pos:Pos}(hv:PE X (.Name x p1) (uJ i))(hg:Gl X "len")(hm:X.mg "len"=none) :
  EOk X (.Call (.Name "len" p) [.Name x p1] [] pos) (GX i) :=
 zc (wg Jb hg hm PySem.boot_len (yK hv jg (zF rfl)) (by decide) (by decide) (zF rfl) (yy rfl)) λO H Q=>zAM
def YN(i:Nat)(mi mv:ME):MS:=λE=>if jw E[i]?=true then .z else match mv E with
 | .z=>.z| .exc x E1=>.exc x E1
 | .ok (r,E1)=>match mi E1 with
  | .z=>.z| .exc x E2=>.exc x E2
  | .ok (.v (.int k),E2)=>match E2[i]? with
   |none=>.z
   |some s=>match s.list? with
    |none=>.z
    |some ds=>match ixN ds.length k with
     |none=>.z|some j=>.ok (.nx,E2.set i (s.put (ds.set j r.d)))
  |_=>.z
def GY{i:Nat}{mi mv:ME}{D:Ends}(h:tS X (YN i mi mv) D O H):tAsg (tM X mv) (gSub (uJ i) (tM X mi) rSetL) D O H:=by
 obtain⟨M,E,hl,fr,k⟩:=h;unfold YN at k;cases em:jw E[i]? with
 |true=>rw[em]at k;exact k.elim
 |false =>
  rw[em]at k;obtain⟨s,hs1,hs2⟩:=vC em;obtain⟨v,hv⟩:=GW hl fr hs1 hs2;refine zd (T0:=[]) hl fr ?_;simp only[Bool.false_eq_true,if_false]at k;cases ea:mv E with
  |z=>rw[ea]at k;exact k|exc x E1=>rw[ea]at k;exact λH' g=>k O H' g
  |ok p =>
   obtain⟨r,E1⟩:=p;rw[ea]at k;intro y H1 g1;refine⟨v,hv,?_⟩;refine zd (T0:=[(some y,r.slot)]) g1.len g1.fr ?_;dsimp only at k;cases eb:mi E1 with
   |z=>rw[eb]at k;exact k|exc x E2=>rw[eb]at k;exact λH' g=>k O H' (g1.trans' g).dropAll
   |ok p =>
    obtain⟨r2,E2⟩:=p;rw[eb]at k;cases r2 with
    |own ds=>exact k.elim
    |v d =>
     cases d with
     |int n =>
      intro z H2 g2;have g:=g1.trans' g2;dsimp only at k;cases e1:E2[i]? with
      |none=>rw[e1]at k;exact k.elim
      |some s1 =>
       rw[e1]at k;dsimp only at k;cases e2:s1.list? with
       |none=>rw[e2]at k;exact k.elim
       |some ds =>
        rw[e2]at k;dsimp only at k;cases e3:ixN ds.length n with
        |none=>rw[e3]at k;exact k.elim
        |some j =>
         rw[e3]at k;have rp:=Got.reps (vs:=[z,y]) (rs:=[.v (.int n),r]) rfl g;simp only[List.map,Reps]at rp;obtain⟨z',_,q1,rz,y',_,q2,ry,_⟩:=rp;cases q1;cases q2;obtain⟨o,h1,h2⟩:=jh g.len e1;obtain⟨a,xs,ev,w1,_,w3⟩:=g.frame.own _ s1 ds h2 e2;subst ev;have ev:v=.ref a:=by rw[hv]at h1;exact Option.some.inj (Option.some.inj h1)
         subst ev;obtain⟨p,hp,g'⟩:=g.mut e1 e2 (w3.set j ry);have ep:p=a:=by rw[h1]at hp;cases hp;rfl
         subst ep;exact⟨p,xs,n,j,rfl,zM rz,w1,by rw[w3.length];exact e3,k O _ g'⟩
     |_=>exact k.elim
def zAN(i:Nat){x:Str}{b e:Expr}{mi mv:ME}{p p1 pos:Pos}(hv:PE X (.Name x p) (uJ i))(hb:EOk X b mi)(he:EOk X e mv)
  (ha:∀v,assign (.Subscript (.Name x p) b p1) X.env v=(do
   let ov <- holding [v] (eval (.Name x p) X.env)
   let iv <- holding [v,ov] (eval b X.env)
   standAt p1
   holding [v,ov,iv] (setItem ov iv v)
   release [v,ov,iv] []):=by intro _;rfl) (hs:swapsWithSole [.Subscript (.Name x p) b p1] e pos.line X.env=pure false:=by rfl):SOk X (.Assign [.Subscript (.Name x p) b p1] e pos) (YN i mi mv) :=
 jc (zBG he (pg_sub hv hb Qz ha) hs) λD O H=>GY
def sApp(i:Nat)(m:ME):MS:=λE=>match E[i]? with
 |none=>.z
 |some s0=>match s0.list? with
  |none=>.z
  |some _=>match m E with
   | .z=>.z| .exc x E1=>.exc x E1
   | .ok (r,E1)=>match E1[i]? with
    |none=>.z
    |some s=>match s.list? with
     |none=>.z|some ds=>if ds.length<cap then .ok (.nx,E1.set i (s.put (ds++[r.d])))else .z
def app_run{i:Nat}{m:ME}{D:Ends}(h:tS X (sApp i m) D O H):tDrop (tBM X.K "list" GD (uJ i) (W2 (tM X m) tNil)) D O H:=by
 obtain⟨M,E,hl,fr,k⟩:=h;unfold sApp at k;cases e0:E[i]? with
 |none=>rw[e0]at k;exact k.elim
 |some s0 =>
  rw[e0]at k;dsimp only at k;cases e00:s0.list? with
  |none=>rw[e00]at k;exact k.elim
  |some ds0 =>
   rw[e00]at k;obtain⟨o,h1,h2⟩:=jh hl e0;obtain⟨a,xs,ev,w1,_,w3⟩:=fr.own _ s0 ds0 h2 e00;subst ev;refine⟨.ref a,h1,.inl ⟨rfl,xs,SqL.of w1⟩,?_⟩;refine zd (T0:=[]) hl fr ?_;dsimp only at k;cases ea:m E with
   |z=>rw[ea]at k;exact k|exc x E1=>rw[ea]at k;exact λH' g=>k O H' g
   |ok p =>
    obtain⟨r,E1⟩:=p;rw[ea]at k;intro y H1 g;dsimp only at k;cases e1:E1[i]? with
    |none=>rw[e1]at k;exact k.elim
    |some s =>
     rw[e1]at k;dsimp only at k;cases e2:s.list? with
     |none=>rw[e2]at k;exact k.elim
     |some ds =>
      rw[e2]at k;dsimp only at k;by_cases hc:ds.length<cap
      ·rw[if_pos hc]at k
       obtain⟨o,h1',h2'⟩:=jh g.len e1;obtain⟨a',ys,ev,q1,_,q3⟩:=g.frame.own _ s ds h2' e2;subst ev;have ea':a'=a:=by rw[h1]at h1';cases h1';rfl
       subst ea';obtain⟨p,hp,g'⟩:=g.mut e1 e2 (q3.append (Reps.cons g.rep Reps.nil));have ep:p=a':=by rw[h1]at hp;cases hp;rfl
       subst ep;exact⟨p,ys,y,rfl,rfl,q1,by rw[q3.length];exact lt_of_lt_of_le hc (Jd (le_refl _)),k O _ g'⟩
      ·rw[if_neg hc]at k;exact k.elim
def sk_app(i:Nat){x:Str}{e:Expr}{m:ME}{p apos cpos pos:Pos}(hv:PE X (.Name x p) (uJ i))(he:EOk X e m)
  (hbase:attributeBase (.Name x p) "append" X.env (eval (.Name x p) X.env)=eval (.Name x p) X.env:=by rfl)
  (hfew:((backTo cpos (starEach (e::[]) X.env)).all (λx=>!x.1)&&(backToKw cpos (keywordEach [] X.env)).all (λx=>x.1.isSome)
   && decide ((e::([]:List Expr)).length+([]:List Keyword).length+(if([]:List Keyword).isEmpty then 0 else 1)<30))=true:=by rfl)
  (hline:(apos.endLine==cpos.line)=true:=by rfl) (hs:starEach (e::[]) X.env=(false,eval e X.env)::starEach [] X.env:=by rfl) (hplain:(backTo cpos (starEach [] X.env)).any (·.1)=false:=by rfl)
  (hsw:swapsWith (.Call (.Attribute (.Name x p) "append" apos) [e] [] cpos) none pos.line X.env=pure false:=by rfl):SOk X (.Expr (.Call (.Attribute (.Name x p) "append" apos) [e] [] cpos) pos) (sApp i m) :=
 jc (ul (GC PySem.F.plainAttrs_list PySem.F.slot_list_append PySem.F.type_list_append WN hv (yK he jg hs) hbase hfew hline hs hplain) hsw) λD O H=>app_run
end
section
variable{X:Cx}{K:PySem.W.Frag}{mg:Str->Option Value}{O:St}{M:Addr->Prop}{E:zQ}{H:Hp}{T0 Z:Fz}
abbrev MG:=D->zQ->Out zQ
def GOk(X:Cx)(g:TG)(tg:MG):Prop:=∀(M:Addr->Prop) (O:St) (E:zQ) (H:Hp) (T0:Fz) (x:V) (d:D) (E':zQ) (Q:St->Hp->Prop),E.length=O.length->FR X.K X.mg M H ((some x,.v d)::(T0++O.zip E))->tg d E=.ok E' ->
 (∀O',Got X.K X.mg M O E H T0 O' E' H []->Q O' H)->g x O H Q
def gN(i:Nat):MG:=λd E=>JM i (.v d) E
def go_name(i:Nat):GOk X (W1 i) (gN i):=λM O E H T0 x d E' Q hl f e k =>
 k _ (JN (O1:=O) (E1:=E) (H1:=H) (r:=.v d) (v:=x) ⟨hl,f,Step.refl.add,PKp.refl⟩ e)
def gNs:List Nat->List D->zQ->Out zQ
 | [],[],E=>.ok E
 |i::is,d::ds,E=>match JM i (.v d) E with
  | .ok E1=>gNs is ds E1|_=>.z
 |_,_,_=>.z
def gT(is:List Nat):MG:=λd E=>match d with
 | .t ds=>gNs is ds E|_=>.z
def wP:List Nat->TGs
 | []=>gNil|i::is=>gCons (W1 i) (wP is)
theorem YO:∀(is:List Nat) (ds:List D) (xs:List V) {M:Addr->Prop} {O0 O:St} {E0 E E':zQ} {H:Hp} {T0:Fz} {a:Addr} {ts:List D} {Q:St->Hp->Prop},
  Got X.K X.mg M O0 E0 H T0 O E H []->Reps X.K X.mg (Hm (Mo M (T0++O.zip E)) H) ds xs->gNs is ds E=.ok E'->(∀O',Got X.K X.mg M O0 E0 H T0 O' E' H []->Q O' H)->wP is xs O H Q
 | [],[],xs,M,O0,O,E0,E,E',H,T0,a,ts,Q,g,r,e,k=>by
  cases e;simp only[Reps]at r;exact⟨r,k O g⟩
 | [],d::ds,xs,M,O0,O,E0,E,E',H,T0,a,ts,Q,g,r,e,k=>by cases e|i::is,[],xs,M,O0,O,E0,E,E',H,T0,a,ts,Q,g,r,e,k=>by cases e
 |i::is,d::ds,xs,M,O0,O,E0,E,E',H,T0,a,ts,Q,g,r,e,k=>by
  simp only[Reps]at r;obtain⟨x,jf,rfl,rx,rr⟩:=r;simp only[gNs]at e;cases e1:JM i (.v d) E with
  |z=>rw[e1]at e;cases e|exc _ _=>rw[e1]at e;cases e
  |ok E1 =>
   rw[e1]at e;refine⟨x,jf,rfl,?_⟩;have g1:Got X.K X.mg M O0 E0 H T0 O E H [(some x,R.slot (.v d))]:=⟨g.len,g.fr.add rx,g.st.add,g.pk⟩;have g2:=JN g1 e1;refine YO is ds jf (a:=a) (ts:=ts) g2 (rr.mono ?_) e k;refine jF (wk λb hb=>?_);have st:=g2.fr
   -- the stored slot is a value: it zu nothing
   unfold JM at e1;cases e2:E[i]? with
   |none=>rw[e2]at e1;cases e1
   |some sl =>
    rw[e2]at e1;have e3:E1=E.set i (.v d):=by cases sl<;>cases e1<;>rfl
    subst e3;have hi:i<E.length:=(List.getElem?_eq_some_iff.mp e2).1;have hz:i<(O.zip E).length:=by rw[List.length_zip];have:=g.len;omega
    rw[Zb]at hb;rw[zT]at hb ⊢;rcases mem_append.mp hb with hb|hb
    ·exact mem_append_left _ hb
    ·refine mem_append_right _ ?_
     have:=zB (zh _ _ _ hz) b hb;rw[zS]at this;exact zC (List.eraseIdx_sublist _ _) b this
def go_tup{n:Nat}(is:List Nat)(hn:is.length=n):GOk X (gTup X.K n (wP is)) (gT is):=λM O E H T0 x d E' Q hl f e k=>by
 cases d with
 |t ds =>
  obtain⟨v,ev,r⟩:=f.val _ _ mem_cons_self;cases ev;obtain⟨a,xs,rfl,h1,h2⟩:=zY r;rw[YK]at h2;have hlen:ds.length=is.length:=by
   have:∀(is:List Nat) (ds:List D) (E E':zQ),gNs is ds E=.ok E'->ds.length=is.length:=by
    intro is
    induction is with
    |nil=>intro ds E E' h;cases ds with|nil=>rfl|cons d ds=>cases h
    |cons i is ih =>
     intro ds E E' h;cases ds with
     |nil=>cases h
     |cons d ds =>
      simp only[gNs]at h;cases e1:JM i (.v d) E with
      |ok E1=>rw[e1]at h;simp[ih ds E1 E' h]|z=>rw[e1]at h;cases h|exc _ _=>rw[e1]at h;cases h
   exact this is ds E E' e
  refine⟨a,xs,rfl,zw zK h1,by rw[h2.length,hlen,hn],?_⟩;exact YO is ds xs (a:=a) (ts:=[]) (Got.refl hl f.tail) h2 e k
 |_=>cases e
def vD(tg:MG)(body:MS):List D->zQ->Out (Fl×zQ)
 | [],E=>.ok (.nx,E)
 |d::ds,E=>match tg d E with
  | .ok E1=>match body E1 with
   | .ok (.nx,E2)=>vD tg body ds E2| .ok (.ct,E2)=>vD tg body ds E2| .ok (.bk,E2)=>.ok (.nx,E2)| .ok (.ret r,E2)=>.ok (.ret r,E2)| .exc x E2=>.exc x E2| .z=>.z
  |_=>.z
def Fin(X:Cx)(M:Addr->Prop)(O:St)(E:zQ)(H:Hp)(D:Ends)(o:Out (Fl×zQ)):Prop:=match o with
 | .z=>False| .ok (.nx,E')=>∀O' H',Got X.K X.mg M O E H [] O' E' H' []->D.nx O' H'| .ok (.bk,E')=>∀O' H',Got X.K X.mg M O E H [] O' E' H' []->D.bk O' H'| .ok (.ct,E')=>∀O' H',Got X.K X.mg M O E H [] O' E' H' []->D.ct O' H'| .ok (.ret r,E')=>∀v O' H',Got X.K X.mg M O E H [] O' E' H' [(some v,r.slot)]->D.rt v H'| .exc x E'=>∀O' H',Got X.K X.mg M O E H [] O' E' H' []->XE X O' H' x
def Got.dropT{K:PySem.W.Frag}{mg:Str->Option Value}{M:Addr->Prop}{O O1:St}{E E1:zQ}{H H1:Hp}{T T':Fz}(a:Got K mg M O E H [] O1 E1 H1 (T++T')):Got K mg M O E H [] O1 E1 H1 T where
 len:=a.len
 fr:=a.fr.sub (by rw[append_assoc];exact(sublist_append_right _ _).append_left _)
 st:=a.st.weak (zC (by rw[append_assoc];exact(sublist_append_right _ _).append_left _))
 pk:=a.pk
def ve{tg:MG}{body:MS}{g:TG}{D:Ends}{d:DV.D}{ds:List DV.D}{O1:St}{E1:zQ}{H1:Hp}{T:Fz}{x:V}{P:St->Hp->Prop}(hg:GOk X g tg)
  (g1:Got X.K X.mg M O E H [] O1 E1 H1 T) (rx:Rep X.K X.mg (Hm (Mo M (T++O1.zip E1)) H1) d x) (fin:Fin X M O E H D (vD tg body (d::ds) E1))
  (next:∀O2 E2 H2,Got X.K X.mg M O E H [] O2 E2 H2 T->Step M H1 (T++O1.zip E1) H2 (T++O2.zip E2)->Fin X M O E H D (vD tg body ds E2)->P O2 H2) :
  g x O1 H1 λO2 H2=>tS X body {D with nx:=P,ct:=P,bk:=D.nx} O2 H2:=by
 simp only[vD]at fin;cases e1:tg d E1 with
 |z=>rw[e1]at fin;exact fin.elim|exc _ _=>rw[e1]at fin;exact fin.elim
 |ok E2 =>
  rw[e1]at fin;dsimp only at fin;refine hg M O1 E1 H1 T x d E2 _ g1.len (g1.fr.add rx) e1 λO2 g2=>?_
  have g12:=g1.trans' g2;refine WU (T0:=T) g2.len g2.fr ?_;cases e2:body E2 with
  |z=>rw[e2]at fin;exact fin|exc y E3=>rw[e2]at fin;exact λO' H' g'=>fin O' H' (g12.trans' g').dropAll
  |ok p =>
   obtain⟨fl,E3⟩:=p;rw[e2]at fin;cases fl with
   |nx=>exact λO' H' g'=>next O' E3 H' (g12.trans' g') (g2.st.trans g'.st) fin|ct=>exact λO' H' g'=>next O' E3 H' (g12.trans' g') (g2.st.trans g'.st) fin|bk=>exact λO' H' g'=>fin O' H' (g12.trans' g').dropAll|ret r=>exact λv O' H' g'=>fin v O' H' (g12.trans' g').dropT
def sForL(m:ME)(tg:MG)(body:MS):MS:=λE=>match m E with
 | .z=>.z| .exc x E1=>.exc x E1
 | .ok (r,E1)=>match r.d with
  | .l ds=>vD tg body ds E1|_=>.z
def zBX{m:MS}{D:Ends}(h:tS X m D O H):∃M E,E.length=O.length/\FR X.K X.mg M H (O.zip E)/\Fin X M O E H D (m E):=h
def zAO{m:ME}{tg:MG}{g:TG}{body:MS}{D:Ends}(hg:GOk X g tg)(h:tS X (sForL m tg body) D O H):tFor (iList X.K (tM X m)) g (tS X body) D O H:=by
 obtain⟨M,E,hl,fr,k⟩:=zBX h;unfold sForL at k;refine zd (T0:=[]) hl fr ?_;cases ea:m E with
 |z=>rw[ea]at k;exact k|exc x E1=>rw[ea]at k;exact λH' g=>k O H' g
 |ok p =>
  obtain⟨r,E1⟩:=p;rw[ea]at k;intro v H1 g0;have g1:Got X.K X.mg M O E H [] O E1 H1 [(some v,.v r.d)]:=⟨g0.len,g0.fr.frz,g0.st.frz,g0.pk⟩;dsimp only at k;cases ed:r.d with
  |l ds =>
   rw[ed]at k g1;have rl:=g0.rep;rw[ed]at rl;obtain⟨a,xs,rfl,q1,q2⟩:=zN rl;refine⟨a,rfl,⟨xs,zK.seq q1⟩,?_⟩;have em:∀(O':St) (E':zQ),Mo M ([(some (V.ref a),Slot.v (.l ds))]++O'.zip E')=Mo M (O'.zip E'):=λO' E'=>YK _ _ _ _
   refine Qs (K:=X.K) (a:=a) (xs:=xs) (λi O1 H2=>∃E2,Got X.K X.mg M O E H [] O1 E2 H2 [(some (.ref a),.v (.l ds))]/\SqL X.K (Hm (Mo M (O1.zip E2)) H2) a xs/\Reps X.K X.mg (Hm (Mo M (O1.zip E2)) H2) ds xs/\Fin X M O E H D (vD tg body (ds.drop i) E2))
    ⟨E1,g1,q1,q2,k⟩ (λi O' H' _ ⟨E2,_,q,_⟩=>zK.seq q) ?_ ?_
   ·rintro i x O1 H2 hx ⟨E2,g2,s2,r2,fin⟩
    obtain⟨d,hd,rx⟩:=r2.get hx;have ed:ds.drop i=d::ds.drop (i+1):=by
     obtain⟨hi,rfl⟩:=List.getElem?_eq_some_iff.mp hd;exact List.drop_eq_getElem_cons hi
    rw[ed]at fin;refine ve hg g2 (by rw[em];exact rx) fin λO3 E3 H3 g3 st fin3=>?_
    have sm:=st.same;rw[em,em]at sm;exact⟨E3,g3,sm.seq s2,r2.mono sm,fin3⟩
   ·rintro O1 H2 ⟨E2,g2,s2,r2,fin⟩
    rw[r2.length,List.drop_length]at fin;exact fin O1 H2 g2.dropAll
  |_=>rw[ed]at k;exact k.elim
def zW(lo:Int):Nat->List D
 |0=>[]|n+1=>.int lo::zW (lo+1) n
theorem yA(lo:Int):∀n,(zW lo n).length=n
 |0=>rfl|n+1=>by simp[zW,yA (lo+1) n]
theorem jS:∀(n i:Nat) (lo:Int),i<n->(zW lo n).drop i=.int (lo+i)::(zW lo n).drop (i+1)
 |0,_,_,h=>by omega|n+1,0,lo,_=>by simp[zW]
 |n+1,i+1,lo,h=>by
  have:=jS n i (lo+1) (by omega);simp only[zW,List.drop_succ_cons];rw[this];congr 2;omega
def sForR1(m:MA)(tg:MG)(body:MS):MS:=λE=>match m E with
 | .z=>.z| .exc x E1=>.exc x E1
 | .ok ([r],E1)=>match r.d with
  | .int j=>if -(2^62)<=j/\j<2^62 then vD tg body (zW 0 j.toNat) E1 else .z|_=>.z
 |_=>.z
def vE{tg:MG}{g:TG}{body:MS}{D:Ends}(hg:GOk X g tg){lo:Int}{n:Nat}{E1:zQ}{H1:Hp}(g1:Got X.K X.mg M O E H [] O E1 H1 [])(fin:Fin X M O E H D (vD tg body (zW lo n) E1)) :
  ∃W:Nat->Nat->St->Hp->Prop,(∃m,W 0 m O H1)/\∀i m O H,W i m O H ->
   ((Itr lo n).stop i H/\D.nx O H)\/((Itr lo n).go i H/\∃N:St->Hp->Prop,(∀O' H',N O' H'->∃m',m'<m/\W (i+1) m' O' H')/\∀x H',(Itr lo n).yld i H x H'->g x O H' λO2 H2=>tS X body {D with nx:=N,ct:=N,bk:=D.nx} O2 H2):=by
 refine ut (λi O1 H2=>∃E2,Got X.K X.mg M O E H [] O1 E2 H2 []/\Fin X M O E H D (vD tg body ((zW lo n).drop i) E2)) ⟨E1,g1,fin⟩ ?_ ?_
 ·rintro i O1 H2 hi ⟨E2,g2,fin⟩
  rw[jS n i lo hi]at fin;exact ve hg g2 (by simp only[Rep]) fin λO3 E3 H3 g3 st fin3=>⟨E3,g3,fin3⟩
 ·rintro O1 H2 ⟨E2,g2,fin⟩
  rw[List.drop_of_length_le (by rw[yA];exact le_refl _)]at fin;exact fin O1 H2 g2
def GZ{m:MA}{tg:MG}{g:TG}{body:MS}{D:Ends}(hg:GOk X g tg)(h:tS X (sForR1 m tg body) D O H):tFor (iRng1 (tMA X m)) g (tS X body) D O H:=by
 obtain⟨M,E,hl,fr,k⟩:=zBX h;unfold sForR1 at k;refine YL (T0:=[]) hl fr ?_;cases ea:m E with
 |z=>rw[ea]at k;exact k|exc x E1=>rw[ea]at k;exact λH' g=>k O H' g
 |ok p =>
  obtain⟨rs,E1⟩:=p;rw[ea]at k
  match rs,k with
  | [r],k =>
   intro vs H1 hv g1;have rp:=Got.reps hv g1;dsimp only at k;cases ed:r.d with
   |int j =>
    rw[ed]at k;simp only[List.map,ed]at rp;obtain⟨v,rfl,h1⟩:=wq rp;dsimp only at k;by_cases hc:-(2^62)<=j/\j<2^62
    ·rw[if_pos hc]at k
     exact⟨j,by rw[zM h1],hc.1,hc.2,vE hg g1.dropAll k⟩
    ·rw[if_neg hc]at k;exact k.elim
   |_=>rw[ed]at k;exact k.elim
  | [],k=>exact k.elim|_::_::_,k=>exact k.elim
def sk_forL{tgt iter:Expr}{body:List Stmt}{m:ME}{g:TG}{tg:MG}{mb:MS}{pos:Pos}(hp:PassesOwn (model X.prog X.w) X.A X.env X.xe)(hc:X.calm=true)(hi:EOk X iter m)(hg:PG X tgt g)(ho:GOk X g tg)(hb:uc X body mb)
  (hs:∀x,foldedSetIterable iter X.env x=pure x:=by intro _;rfl):SOk X (.For tgt iter body [] pos) (sForL m tg mb):=jc (zBI hp hc (uq hi) hg hb hs) λD O H=>zAO ho
def zAP{tgt a:Expr}{body:List Stmt}{m:MA}{g:TG}{tg:MG}{mb:MS}{p cpos pos:Pos}(hp:PassesOwn (model X.prog X.w) X.A X.env X.xe)(hc:X.calm=true)(hgl:Gl X "range")(hm:X.mg "range"=none)(ha:AOk X [a] m)(hg:PG X tgt g)(ho:GOk X g tg)(hb:uc X body mb)
  (hst:zL a=false:=by rfl) (hs:∀x,foldedSetIterable (.Call (.Name "range" p) [a] [] cpos) X.env x=pure x:=by intro _;rfl):SOk X (.For tgt (.Call (.Name "range" p) [a] [] cpos) body [] pos) (sForR1 m tg mb) :=
 jc (zBI hp hc (WC hgl hm ha (star1 hst)) hg hb hs) λD O H=>GZ ho
end
section
variable{X:Cx}{K:PySem.W.Frag}{mg:Str->Option Value}{O:St}{M:Addr->Prop}{E:zQ}{H H':Hp}{T0 Z T:Fz}
def zAQ{o:Option V}{s s':Slot}{ds:List D}(h:s.list?=some ds)(h':s'.list?=some ds):Wz (o,s')=Wz (o,s):=by
 cases s<;>simp[Slot.list?]at h<;>cases s'<;>simp[Slot.list?]at h'<;>(cases o with|none=>rfl|some v=>cases v<;>rfl)
def Jw{o:Option V}{s s':Slot}{ds:List D}(h:s.list?=some ds)(h':s'.list?=some ds):zu ((o,s')::Z)=zu ((o,s)::Z):=by
 unfold zu;rw[filterMap_cons,filterMap_cons,zAQ h h']
def FR.lab{o:Option V}{s s':Slot}{ds:List D}(f:FR K mg M H ((o,s)::Z))(h:s.list?=some ds)(h':s'.list?=some ds):FR K mg M H ((o,s')::Z):=by
 have em:Mo M ((o,s')::Z)=Mo M ((o,s)::Z):=by unfold Mo;rw[Jw h h']
 refine⟨λo' d q=>?_,λo' t es q e=>?_,by rw[Jw h h'];exact f.nd,f.mal⟩
 ·rw[em]
  rcases mem_cons.mp q with q|q
  ·cases q;cases h'
  ·exact f.val o' d (mem_cons_of_mem _ q)
 ·rw[em]
  rcases mem_cons.mp q with q|q
  ·cases q
   rw[h']at e;cases e;exact f.own o s ds mem_cons_self h
  ·exact f.own o' t es (mem_cons_of_mem _ q) e
def WV{o:Option V}{s1 s2:Slot}{i:Nat}(hi:Z[i]?=some (o,s2)):((o,s1)::(T++Z)).Perm ((o,s2)::(T++Z.set i (o,s1))):=by
 have hlt:i<Z.length:=(List.getElem?_eq_some_iff.mp hi).1;have p1:Z.Perm ((o,s2)::Z.eraseIdx i):=by
  have:=zh (o,s2) Z i hlt;rw[Js hi]at this;exact this
 have p2:(Z.set i (o,s1)).Perm ((o,s1)::Z.eraseIdx i):=zh _ _ _ hlt;refine((p1.append_left T).cons _).trans ?_;refine List.Perm.trans ?_ ((p2.append_left T).cons _).symm;have a:(T++(o,s2)::Z.eraseIdx i).Perm ((o,s2)::(T++Z.eraseIdx i)):=perm_middle;have b:(T++(o,s1)::Z.eraseIdx i).Perm ((o,s1)::(T++Z.eraseIdx i)):=perm_middle;exact((a.cons _).trans (List.Perm.swap _ _ _)).trans (b.cons _).symm
inductive AR where
 |tmp (d:D)
 |ln (i:Nat)
 deriving Inhabited
def AR.slot:AR->Slot
 | .tmp d=>.v d| .ln _=>.e
def zi(vs:List V)(as:List AR):Fz:=(vs.map some).zip (as.map AR.slot)
def AV(O:St):List AR->List V->Prop
 | [],vs=>vs=[]| .tmp _::as,vs=>∃v r,vs=v::r/\AV O as r| .ln i::as,vs=>∃v r,vs=v::r/\O[i]?=some (some v)/\AV O as r
theorem AV.length:∀{as:List AR} {vs:List V},AV O as vs->vs.length=as.length
 | [],_,h=>by simp only[AV]at h;subst h;rfl| .tmp _::as,_,h=>by simp only[AV]at h;obtain⟨v,r,rfl,h⟩:=h;simp[AV.length h]| .ln i::as,_,h=>by simp only[AV]at h;obtain⟨v,r,rfl,_,h⟩:=h;simp[AV.length h]
def zH:List AR->zQ->Out (List Slot×zQ)
 | [],E=>.ok ([],E)
 | .tmp d::as,E=>match zH as E with
  | .ok (ss,E')=>.ok (.v d::ss,E')|_=>.z
 | .ln i::as,E=>match E[i]? with
  |none=>.z
  |some s=>match s.list? with
   |none=>.z
   |some ds=>match zH as (E.set i .e)with
    | .ok (ss,E')=>.ok (.par ds::ss,E')|_=>.z
def zI:List AR->List Slot->zQ->zQ->Out zQ
 | [],[],_,E=>.ok E| .tmp _::as,_::ss,E0,E=>zI as ss E0 E
 | .ln i::as,s'::ss,E0,E=>match E0[i]? with
  |none=>.z
  |some s=>match s.list?,s'.list?,E[i]? with
   |some _,some ds,some .e=>zI as ss E0 (E.set i (s.put ds))|_,_,_=>.z
 |_,_,_,_=>.z
theorem YQ:∀(as:List AR) {vs:List V} {E E':zQ} {ss:List Slot} {T:Fz},E.length=O.length->AV O as vs->zH as E=.ok (ss,E')->FR K mg M H (T++(zi vs as++O.zip E)) ->
  FR K mg M H (T++((vs.map some).zip ss++O.zip E'))/\(∀b,b∈zu (T++(zi vs as++O.zip E))↔b∈zu (T++((vs.map some).zip ss++O.zip E')))/\ss.length=as.length/\E'.length=O.length
 | [],vs,E,E',ss,T,hl,av,e,f=>by
  cases e;simp only[AV]at av;subst av;exact⟨f,λb=>Iff.rfl,rfl,hl⟩
 | .tmp d::as,vs,E,E',ss,T,hl,av,e,f=>by
  simp only[AV]at av;obtain⟨v,r,rfl,av⟩:=av;simp only[zH]at e;cases e1:zH as E with
  |z=>rw[e1]at e;cases e|exc _ _=>rw[e1]at e;cases e
  |ok p =>
   obtain⟨ss1,E1⟩:=p;rw[e1]at e;cases e;have f1:FR K mg M H ((T++[(some v,.v d)])++(zi r as++O.zip E)):=by
    rw[append_assoc];exact f
   obtain⟨g1,g2,g3,g4⟩:=YQ as hl av e1 f1;refine⟨by rw[append_assoc]at g1;exact g1,λb=>?_,by simp[g3],g4⟩;have:=g2 b;rw[append_assoc,append_assoc]at this;exact this
 | .ln i::as,vs,E,E',ss,T,hl,av,e,f=>by
  simp only[AV]at av;obtain⟨v,r,rfl,hv,av⟩:=av;simp only[zH]at e;cases e0:E[i]? with
  |none=>rw[e0]at e;cases e
  |some s =>
   rw[e0]at e;dsimp only at e;cases e2:s.list? with
   |none=>rw[e2]at e;cases e
   |some ds =>
    rw[e2]at e;dsimp only at e;cases e1:zH as (E.set i .e)with
    |z=>rw[e1]at e;cases e|exc _ _=>rw[e1]at e;cases e
    |ok p =>
     obtain⟨ss1,E1⟩:=p;rw[e1]at e;cases e;obtain⟨o,h1,h2⟩:=JK hl e0;have ho:o=some v:=by rw[hv]at h1;exact(Option.some.inj h1).symm
     subst ho;have ez:O.zip (E.set i .e)=(O.zip E).set i (some v,.e):=z8 .e hv;have pA:(T++(((some v,Slot.e)::zi r as)++O.zip E)).Perm ((some v,s)::(T++(zi r as++O.zip (E.set i .e)))):=by
      rw[ez];have a:(T++(((some v,Slot.e)::zi r as)++O.zip E)).Perm ((some v,Slot.e)::((T++zi r as)++O.zip E)):=by
       rw[append_assoc];exact perm_middle
      refine a.trans ((WV h2).trans ?_);rw[append_assoc]
     have f1:=(f.perm pA).lab e2 (s':=.par ds) rfl;have f2:FR K mg M H ((((some v,Slot.par ds))::T)++(zi r as++O.zip (E.set i .e))):=f1;obtain⟨g1,g2,g3,g4⟩:=YQ as (by simp[hl]) av e1 f2;have pB:(((some v,Slot.par ds)::T)++((r.map some).zip ss1++O.zip E')).Perm (T++(((some v,Slot.par ds)::(r.map some).zip ss1)++O.zip E')):=perm_middle.symm;refine⟨g1.perm pB,λb=>?_,by simp[g3],g4⟩;have x1:b∈zu (T++(((some v,Slot.e)::zi r as)++O.zip E))↔b∈zu ((some v,s)::(T++(zi r as++O.zip (E.set i .e)))):=(pA.filterMap Wz).mem_iff;have x2:zu ((some v,Slot.par ds)::(T++(zi r as++O.zip (E.set i .e))))=zu ((some v,s)::(T++(zi r as++O.zip (E.set i .e)))):=Jw e2 rfl;have x3:=g2 b;have x4:b∈zu (((some v,Slot.par ds)::T)++((r.map some).zip ss1++O.zip E'))↔b∈zu (T++(((some v,Slot.par ds)::(r.map some).zip ss1)++O.zip E')):=(pB.filterMap Wz).mem_iff;refine x1.trans ?_;rw[<- x2];exact x3.trans x4
theorem Zg:∀(as:List AR) {vs:List V} {E0 E E':zQ} {ss:List Slot} {T:Fz},E.length=O.length->AV O as vs->zI as ss E0 E=.ok E'->FR K mg M H (T++((vs.map some).zip ss++O.zip E)) ->
  FR K mg M H (T++O.zip E')/\(∀b,b∈zu (T++O.zip E')->b∈zu (T++((vs.map some).zip ss++O.zip E)))/\E'.length=O.length
 | [],vs,E0,E,E',ss,T,hl,av,e,f=>by
  cases ss with
  |cons _ _=>cases e
  |nil =>
   cases e;simp only[AV]at av;subst av;exact⟨f,λb q=>q,hl⟩
 | .tmp d::as,vs,E0,E,E',ss,T,hl,av,e,f=>by
  simp only[AV]at av;obtain⟨v,r,rfl,av⟩:=av;cases ss with
  |nil=>cases e
  |cons s ss =>
   simp only[zI]at e;have sub:(T++((r.map some).zip ss++O.zip E)).Sublist (T++(((some v,s)::(r.map some).zip ss)++O.zip E)):=(sublist_cons_self _ _).append_left _;obtain⟨g1,g2,g3⟩:=Zg as hl av e (f.sub sub);exact⟨g1,λb q=>zC sub b (g2 b q),g3⟩
 | .ln i::as,vs,E0,E,E',ss,T,hl,av,e,f=>by
  simp only[AV]at av;obtain⟨v,r,rfl,hv,av⟩:=av;cases ss with
  |nil=>cases e
  |cons s' ss =>
   simp only[zI]at e;cases e0:E0[i]? with
   |none=>rw[e0]at e;cases e
   |some s =>
    rw[e0]at e;dsimp only at e;cases e1:s.list? with
    |none=>rw[e1]at e;cases e
    |some ds0 =>
     cases e2:s'.list? with
     |none=>rw[e1,e2]at e;cases e
     |some ds =>
      cases e3:E[i]? with
      |none=>rw[e1,e2,e3]at e;cases e
      |some se =>
       rw[e1,e2,e3]at e;cases se with
       |e =>
        dsimp only at e;obtain⟨o,h1,h2⟩:=JK hl e3;have ho:o=some v:=by rw[hv]at h1;exact(Option.some.inj h1).symm
        subst ho;have ez:O.zip (E.set i (s.put ds))=(O.zip E).set i (some v,s.put ds):=z8 _ hv;have hp:(s.put ds).list?=some ds:=(Zf (p:=0) e1).2;have pA:(T++(((some v,s')::(r.map some).zip ss)++O.zip E)).Perm ((some v,s')::((T++(r.map some).zip ss)++O.zip E)):=by
         rw[append_assoc];exact perm_middle
        have f1:=(f.perm pA).lab e2 hp;have pB:((some v,s.put ds)::((T++(r.map some).zip ss)++O.zip E)).Perm ((some v,Slot.e)::((T++(r.map some).zip ss)++O.zip (E.set i (s.put ds)))):=by
         rw[ez];exact WV h2
        have f2:=(f1.perm pB).tail;rw[append_assoc]at f2;obtain⟨g1,g2,g3⟩:=Zg as (by simp[hl]) av e f2;refine⟨g1,λb q=>?_,g3⟩;have q1:=g2 b q;rw[<- append_assoc]at q1;have q2:b∈zu ((some v,Slot.e)::((T++(r.map some).zip ss)++O.zip (E.set i (s.put ds)))):=zC (sublist_cons_self _ _) b q1;have q3:=zB pB.symm b q2;rw[Jw e2 hp]at q3;exact zB pA.symm b q3
       |_=>cases e
def vF:List AR->List Nat
 | []=>[]| .tmp _::as=>vF as| .ln i::as=>i::vF as
theorem Zh:∀(as:List AR) {E E':zQ} {ss:List Slot},zH as E=.ok (ss,E')->∀(k:Nat),k∉vF as->E'[k]?=E[k]?
 | [],E,E',ss,e,k,h=>by cases e;rfl
 | .tmp d::as,E,E',ss,e,k,h=>by
  simp only[zH]at e;cases e1:zH as E with
  |z=>rw[e1]at e;cases e|exc _ _=>rw[e1]at e;cases e
  |ok p =>
   obtain⟨ss1,E1⟩:=p;rw[e1]at e;cases e;exact Zh as e1 k h
 | .ln i::as,E,E',ss,e,k,h=>by
  simp only[zH]at e;cases e0:E[i]? with
  |none=>rw[e0]at e;cases e
  |some s =>
   rw[e0]at e;dsimp only at e;cases e2:s.list? with
   |none=>rw[e2]at e;cases e
   |some ds =>
    rw[e2]at e;dsimp only at e;cases e1:zH as (E.set i .e)with
    |z=>rw[e1]at e;cases e|exc _ _=>rw[e1]at e;cases e
    |ok p =>
     obtain⟨ss1,E1⟩:=p;rw[e1]at e;cases e;simp only[vF,mem_cons,not_or]at h;rw[Zh as e1 k h.2,getElem?_set_ne (λq=>h.1 q.symm)]
theorem Jx:∀(as:List AR) {E0 E E':zQ} {ss:List Slot},zI as ss E0 E=.ok E'->∀(k:Nat),E'[k]?=E[k]?\/∃(s:Slot) (ds:List D),E0[k]?=some s/\E'[k]?=some (s.put ds)
 | [],E0,E,E',ss,e,k=>by
  cases ss with
  |cons _ _=>cases e|nil=>cases e;exact .inl rfl
 | .tmp d::as,E0,E,E',ss,e,k=>by
  cases ss with
  |nil=>cases e|cons s ss=>exact Jx as e k
 | .ln i::as,E0,E,E',ss,e,k=>by
  cases ss with
  |nil=>cases e
  |cons s' ss =>
   simp only[zI]at e;cases e0:E0[i]? with
   |none=>rw[e0]at e;cases e
   |some s =>
    rw[e0]at e;dsimp only at e;cases e1:s.list? with
    |none=>rw[e1]at e;cases e
    |some ds0 =>
     cases e2:s'.list? with
     |none=>rw[e1,e2]at e;cases e
     |some ds =>
      cases e3:E[i]? with
      |none=>rw[e1,e2,e3]at e;cases e
      |some se =>
       rw[e1,e2,e3]at e;cases se with
       |e =>
        dsimp only at e;rcases Jx as e k with q|q
        ·by_cases ek:i=k
         ·subst ek
          have hlt:i<E.length:=(List.getElem?_eq_some_iff.mp e3).1;rw[getElem?_set_self hlt]at q;exact .inr ⟨s,ds,e0,q⟩
         ·rw[getElem?_set_ne ek]at q
          exact .inl q
        ·exact .inr q
       |_=>cases e
theorem YR:∀(as:List AR) {E0 E E':zQ} {ss:List Slot},zI as ss E0 E=.ok E'->∀(k:Nat),k∈vF as->∃(s:Slot) (ds:List D),E0[k]?=some s/\E'[k]?=some (s.put ds)
 | [],E0,E,E',ss,e,k,h=>by cases h
 | .tmp d::as,E0,E,E',ss,e,k,h=>by
  cases ss with
  |nil=>cases e|cons s ss=>exact YR as e k h
 | .ln i::as,E0,E,E',ss,e,k,h=>by
  cases ss with
  |nil=>cases e
  |cons s' ss =>
   simp only[zI]at e;cases e0:E0[i]? with
   |none=>rw[e0]at e;cases e
   |some s =>
    rw[e0]at e;dsimp only at e;cases e1:s.list? with
    |none=>rw[e1]at e;cases e
    |some ds0 =>
     cases e2:s'.list? with
     |none=>rw[e1,e2]at e;cases e
     |some ds =>
      cases e3:E[i]? with
      |none=>rw[e1,e2,e3]at e;cases e
      |some se =>
       rw[e1,e2,e3]at e;cases se with
       |e =>
        dsimp only at e;by_cases ek:i=k
        ·subst ek
         rcases Jx as e i with q|q
         ·have hlt:i<E.length:=(List.getElem?_eq_some_iff.mp e3).1
          rw[getElem?_set_self hlt]at q;exact⟨s,ds,e0,q⟩
         ·exact q
        ·simp only[vF,mem_cons]at h
         rcases h with h|h
         ·exact absurd h.symm ek
         ·exact YR as e k h
       |_=>cases e
def Ga{as:List AR}{E1 E2 E3:zQ}{ss outs:List Slot}(h1:zH as E1=.ok (ss,E2))(h2:zI as outs E1 E2=.ok E3):PKp O E1 O E3:=λk ds e=>by
 refine⟨?_,rfl⟩;by_cases hk:k∈vF as
 ·obtain⟨s,es,q1,q2⟩:=YR as h2 k hk
  rw[e]at q1;cases q1;exact⟨es,q2⟩
 ·rcases Jx as h2 k with q|⟨s,es,q1,q2⟩
  ·rw[q,Zh as h1 k hk];exact⟨ds,e⟩
  ·rw[e]at q1;cases q1
   exact⟨es,q2⟩
abbrev MF:=List Slot->Out (R×List Slot)
def spM(K:PySem.W.Frag)(mg:Str->Option Value)(n:Nat)(F:MF):Sp:=λvs H Q XQ=>vs.length=n/\∃(M:Addr->Prop) (ss:List Slot),ss.length=vs.length/\FR K mg M H ((vs.map some).zip ss)/\match F ss with
 | .z=>False| .ok (r,outs)=>∀v H',outs.length=vs.length->FR K mg M H' ((some v,r.slot)::(vs.map some).zip outs)->Step M H ((vs.map some).zip ss) H' ((some v,r.slot)::(vs.map some).zip outs)->Q v H'| .exc x _=>∀C H',mg x.cls=some (.ref C)->FR K mg M H' []->Step M H ((vs.map some).zip ss) H' []->XQ (.ref C) none H'
inductive Arg where
 |ev (m:ME)
 |lend (i:Nat)
def zn:List Arg->zQ->Out (List AR×zQ)
 | [],E=>.ok ([],E)
 | .ev m::as,E=>match m E with
  | .z=>.z| .exc x E1=>.exc x E1
  | .ok (r,E1)=>match zn as E1 with
   | .ok (ars,E2)=>.ok (.tmp r.d::ars,E2)| .exc x E2=>.exc x E2| .z=>.z
 | .lend i::as,E=>if jw E[i]?=true then .z else match zn as E with
  | .ok (ars,E2)=>.ok (.ln i::ars,E2)| .exc x E2=>.exc x E2| .z=>.z
def tArgs(X:Cx)(as:List Arg):TA:=λO H Q=>∃M E,E.length=O.length/\FR X.K X.mg M H (O.zip E)/\match zn as E with
 | .z=>False| .ok (ars,E')=>∀vs H',AV O ars vs->Got X.K X.mg M O E H [] O E' H' (zi vs ars)->Q vs H'| .exc x E'=>∀H',Got X.K X.mg M O E H [] O E' H' []->XE X O H' x
abbrev zBY(X:Cx)(es:List Expr)(as:List Arg):Prop:=PA X es (tArgs X as)
def YS{as:List Arg}{Q:List V->Hp->Prop}(hl:E.length=O.length)(h:FR X.K X.mg M H (T0++O.zip E))
  (k:match zn as E with | .z=>False | .ok (ars,E')=>∀vs H',AV O ars vs->Got X.K X.mg M O E H T0 O E' H' (zi vs ars)->Q vs H' | .exc x E'=>∀H',Got X.K X.mg M O E H T0 O E' H' []->XE X O H' x):tArgs X as O H Q:=by
 refine⟨Mo M T0,E,hl,h.inner,?_⟩;cases e:zn as E with
 |z=>rw[e]at k;exact k|ok a=>rw[e]at k;exact λvs H' av g=>k vs H' av (g.outer h)|exc x E'=>rw[e]at k;exact λH' g=>k H' (g.outer h)
def ga_nil:zBY X [] []:=WQ jg λO H Q ⟨M,E,hl,fr,k⟩=>k [] H (by simp only[AV]) (Got.refl (T0:=[]) hl fr)
def ga_ev{e:Expr}{es:List Expr}{m:ME}{as:List Arg}(he:EOk X e m)(hr:zBY X es as)(hs:zL e=false:=by rfl):zBY X (e::es) (.ev m::as):=WQ (yK he hr (zF hs)) λO H Q ⟨M,E,hl,fr,k⟩=>by
 simp only[zn]at k;refine zd (T0:=[]) hl fr ?_;cases ea:m E with
 |z=>rw[ea]at k;exact k|exc x E1=>rw[ea]at k;exact k
 |ok p =>
  obtain⟨r1,E1⟩:=p;rw[ea]at k;intro x H1 g0;have g1:Got X.K X.mg M O E H [] O E1 H1 [(some x,.v r1.d)]:=⟨g0.len,g0.fr.frz,g0.st.frz,g0.pk⟩;refine YS (T0:=[(some x,.v r1.d)]) g1.len g1.fr ?_;dsimp only at k;cases eb:zn as E1 with
  |z=>rw[eb]at k;exact k|exc x E2=>rw[eb]at k;exact λH' g=>k H' (g1.trans' g).dropAll
  |ok p =>
   obtain⟨ars,E2⟩:=p;rw[eb]at k;intro vs H2 av g2;refine k (x::vs) H2 (by simp only[AV];exact⟨x,vs,rfl,av⟩) ?_;exact(g1.trans' g2).perm (perm_append_comm)
def ga_lend{x:Str}{p:Pos}{es:List Expr}{i:Nat}{as:List Arg}(hv:PE X (.Name x p) (uJ i))(hr:zBY X es as)  : zBY X (.Name x p::es) (.lend i::as):=WQ (yK hv hr (zF rfl)) λO H Q ⟨M,E,hl,fr,k⟩=>by
 simp only[zn]at k;cases em:jw E[i]? with
 |true=>rw[em]at k;exact k.elim
 |false =>
  rw[em]at k;simp only[Bool.false_eq_true,if_false]at k;obtain⟨s,hs1,hs2⟩:=vC em;obtain⟨v,hv⟩:=GW hl fr hs1 hs2;refine⟨v,hv,?_⟩;refine YS (T0:=[]) hl fr ?_;cases eb:zn as E with
  |z=>rw[eb]at k;exact k|exc x E2=>rw[eb]at k;exact k
  |ok p =>
   obtain⟨ars,E2⟩:=p;rw[eb]at k;intro vs H2 av g2;refine k (v::vs) H2 (by simp only[AV];exact⟨v,vs,rfl,hv,av⟩) ?_;have em2:Mo M ((some v,Slot.e)::(zi vs ars++([]++O.zip E2)))=Mo M (zi vs ars++([]++O.zip E2)):=Mo_emp _ _ _;refine⟨g2.len,⟨λo d q=>?_,λo t ds q e=>?_,?_,g2.fr.mal⟩,⟨?_,g2.st.keep⟩,g2.pk⟩
   ·show ∃v',_/\Rep X.K X.mg (Hm (Mo M ((some v,Slot.e)::(zi vs ars++([]++O.zip E2)))) H2) d v'
    rw[em2];rcases mem_cons.mp q with q|q
    ·cases q
    ·exact g2.fr.val o d q
   ·show ∃a xs,_/\_/\_/\Reps X.K X.mg (Hm (Mo M ((some v,Slot.e)::(zi vs ars++([]++O.zip E2)))) H2) ds xs
    rw[em2];rcases mem_cons.mp q with q|q
    ·cases q;cases e
    ·exact g2.fr.own o t ds q e
   ·show(zu ((some v,Slot.e)::(zi vs ars++([]++O.zip E2)))).Nodup
    rw[yM];exact g2.fr.nd
   ·show JI _ (Hm (Mo M ((some v,Slot.e)::(zi vs ars++([]++O.zip E2)))) H2)
    rw[em2];exact g2.st.same
def YT:List AR->Bool
 | []=>true| .tmp _::as=>YT as| .ln _::_=>false
theorem ZI:∀{as:List AR} {E E':zQ} {ss:List Slot},YT as=true->zH as E=.ok (ss,E')->E'=E
 | [],E,E',ss,_,e=>by cases e;rfl
 | .tmp d::as,E,E',ss,h,e=>by
  simp only[zH]at e;cases q:zH as E with
  |z=>rw[q]at e;cases e|exc _ _=>rw[q]at e;cases e|ok p=>obtain⟨s1,E1⟩:=p;rw[q]at e;cases e;exact ZI (as:=as) h q
 | .ln i::as,E,E',ss,h,e=>by cases h
def jd(F:MF)(as:List Arg):ME:=λE=>match zn as E with
 | .z=>.z| .exc x E1=>.exc x E1
 | .ok (ars,E1)=>match zH ars E1 with
  | .ok (ss,E2)=>match F ss with
   | .ok (r,outs)=>match zI ars outs E1 E2 with
    | .ok E3=>.ok (r,E3)|_=>.z
   | .exc x _=>if YT ars=true then .exc ⟨x.cls,false⟩ E1 else .z| .z=>.z
  |_=>.z
def zAR{F:MF}{n:Nat}{ars:List AR}{E1 E2 E3:zQ}{ss outs:List Slot}{r:R}{vs:List V}{H1:Hp}{Q:VK}{XQ:XK}(hn:ars.length=n)(e1:zH ars E1=.ok (ss,E2))(e2:F ss=.ok (r,outs))(e3:zI ars outs E1 E2=.ok E3)
  (av:AV O ars vs) (g:Got K mg M O E H [] O E1 H1 (zi vs ars)) (k:∀v H',Got K mg M O E H [] O E3 H' [(some v,r.slot)]->Q v H'):spM K mg n F vs H1 Q XQ:=by
 obtain⟨f1,o1,l1,l2⟩:=YQ (T:=[]) ars g.len av e1 g.fr;have f1':FR K mg M H1 (O.zip E2++(vs.map some).zip ss):=FR.perm (T:=O.zip E2++(vs.map some).zip ss) (Z:=(vs.map some).zip ss++O.zip E2) f1 perm_append_comm;have hlen:=av.length;refine⟨hlen.trans hn,Mo M (O.zip E2),ss,l1.trans hlen.symm,f1'.inner,?_⟩;rw[e2];intro v H' ol f2 s2;have f3:=FR.outer f1' f2 s2;have s3:=Step.outer s2;have p:(O.zip E2++((some v,r.slot)::(vs.map some).zip outs)).Perm ([(some v,r.slot)]++((vs.map some).zip outs++O.zip E2)):=by
  refine perm_append_comm.trans ?_;exact List.Perm.refl _
 obtain⟨f4,o4,l4⟩:=Zg ars l2 av e3 (f3.perm p);refine k v H' ⟨l4,f4,?_,g.pk.trans (Ga e1 e3)⟩;have st1:Step M H (O.zip E) H1 (O.zip E2++(vs.map some).zip ss):=g.st.weak λb hb=>(o1 b).mpr (zB (T:=O.zip E2++(vs.map some).zip ss) (Z:=(vs.map some).zip ss++O.zip E2) perm_append_comm b hb)
 have st2:=st1.trans s3;exact st2.weak λb hb=>zB p.symm b (o4 b hb)
def zAS{F:MF}{n:Nat}{ars:List AR}{E1 E2:zQ}{ss outs:List Slot}{x:Exn}{vs:List V}{H1:Hp}{Q:VK}{XQ:XK}(hn:ars.length=n)(hl:YT ars=true)(e1:zH ars E1=.ok (ss,E2))(e2:F ss=.exc x outs)
  (av:AV O ars vs) (g:Got K mg M O E H [] O E1 H1 (zi vs ars)) (k:∀C H',mg x.cls=some (.ref C)->Got K mg M O E H [] O E1 H' []->XQ (.ref C) none H'):spM K mg n F vs H1 Q XQ:=by
 obtain⟨f1,o1,l1,l2⟩:=YQ (T:=[]) ars g.len av e1 g.fr;have f1':FR K mg M H1 (O.zip E2++(vs.map some).zip ss):=FR.perm (T:=O.zip E2++(vs.map some).zip ss) (Z:=(vs.map some).zip ss++O.zip E2) f1 perm_append_comm;have hlen:=av.length;refine⟨hlen.trans hn,Mo M (O.zip E2),ss,l1.trans hlen.symm,f1'.inner,?_⟩;rw[e2];intro C H' hm f2 s2;have f3:=FR.outer f1' f2 s2;have s3:=Step.outer s2;rw[append_nil]at f3 s3;have st1:Step M H (O.zip E) H1 (O.zip E2++(vs.map some).zip ss):=g.st.weak λb hb=>(o1 b).mpr (zB (T:=O.zip E2++(vs.map some).zip ss) (Z:=(vs.map some).zip ss++O.zip E2) perm_append_comm b hb)
 obtain rfl:=ZI hl e1;exact k C H' hm ⟨g.len,f3,st1.trans s3,g.pk⟩
theorem ym:∀(as:List Arg) {E E':zQ} {ars:List AR},zn as E=.ok (ars,E')->ars.length=as.length
 | [],E,E',ars,e=>by cases e;rfl
 | .ev m::as,E,E',ars,e=>by
  simp only[zn]at e;cases ea:m E with
  |z=>rw[ea]at e;cases e|exc _ _=>rw[ea]at e;cases e
  |ok p =>
   obtain⟨r,E1⟩:=p;rw[ea]at e;dsimp only at e;cases eb:zn as E1 with
   |z=>rw[eb]at e;cases e|exc _ _=>rw[eb]at e;cases e|ok p=>obtain⟨a,b⟩:=p;rw[eb]at e;cases e;simp[ym as eb]
 | .lend i::as,E,E',ars,e=>by
  simp only[zn]at e;split at e
  ·cases e
  ·cases eb:zn as E with
   |z=>rw[eb]at e;cases e|exc _ _=>rw[eb]at e;cases e|ok p=>obtain⟨a,b⟩:=p;rw[eb]at e;cases e;simp[ym as eb]
def zAT{F:MF}{n:Nat}{as:List Arg}{Q:VK}(hn:as.length=n)(h:tM X (jd F as) O H Q):tArgs X as O H λvs H1=>spM X.K X.mg n F vs H1 Q (EX X O):=by
 obtain⟨M,E,hl,fr,k⟩:=h;unfold jd at k;refine YS (T0:=[]) hl fr ?_;cases ea:zn as E with
 |z=>rw[ea]at k;exact k|exc x E1=>rw[ea]at k;exact k
 |ok p =>
  obtain⟨ars,E1⟩:=p;rw[ea]at k;intro vs H1 av g;dsimp only at k;cases e1:zH ars E1 with
  |z=>rw[e1]at k;exact k.elim|exc _ _=>rw[e1]at k;exact k.elim
  |ok p =>
   obtain⟨ss,E2⟩:=p;rw[e1]at k;dsimp only at k;cases e2:F ss with
   |z=>rw[e2]at k;exact k.elim
   |exc x o =>
    rw[e2]at k;dsimp only at k;cases hl:YT ars with
    |false=>rw[hl]at k;exact k.elim
    |true =>
     rw[hl]at k;exact zAS ((ym as ea).trans hn) hl e1 e2 av g λC H' hm g'=>⟨⟨x.cls,false⟩,C,rfl,hm,rfl,k H' g'⟩
   |ok p =>
    obtain⟨r,outs⟩:=p;rw[e2]at k;dsimp only at k;cases e3:zI ars outs E1 E2 with
    |z=>rw[e3]at k;exact k.elim|exc _ _=>rw[e3]at k;exact k.elim
    |ok E3 =>
     rw[e3]at k;exact zAR ((ym as ea).trans hn) e1 e2 e3 av g k
inductive Mask:Fz->Fz->Prop
 |nil (Z:Fz):Mask Z []
 |keep {z:Option V×Slot} {Z W:Fz}:Mask Z W->Mask (z::Z) (z::W)
 |skip {z:Option V×Slot} {Z W:Fz}:Mask Z W->Mask (z::Z) W
 |extra {o:Option V} {Z W:Fz}:Mask Z W->Mask Z ((o,.e)::W)
def Mask.emq{z:Option V×Slot}{o:Option V}{Z W:Fz}(h:Mask Z W):Mask (z::Z) ((o,.e)::W):=.skip (.extra h)
theorem Mask.sub:∀{Z W:Fz},Mask Z W->(zu W).Sublist (zu Z)
 |_,_,.nil Z=>by simp[zu]
 |_,_,.keep (z:=z) (Z:=Z) (W:=W) h=>by
  have e:∀W:Fz,zu (z::W)=zu [z]++zu W:=λW=>zT [z] W
  rw[e Z,e W];exact h.sub.append_left _
 |_,_,.skip (z:=z) (Z:=Z) (W:=W) h=>by
  have e:∀W:Fz,zu (z::W)=zu [z]++zu W:=λW=>zT [z] W
  rw[e Z];exact h.sub.trans (sublist_append_right _ _)
 |_,_,.extra (Z:=Z) (W:=W) h=>by
  rw[yM];exact h.sub
theorem Mask.mem:∀{Z W:Fz},Mask Z W->∀o s,s≠Slot.e->(o,s)∈W->(o,s)∈Z
 |_,_,.nil Z,o,s,hs,h=>by cases h
 |_,_,.keep h,o,s,hs,q=>by
  rcases mem_cons.mp q with q|q
  ·subst q;exact mem_cons_self
  ·exact mem_cons_of_mem _ (h.mem o s hs q)
 |_,_,.skip h,o,s,hs,q=>mem_cons_of_mem _ (h.mem o s hs q)
 |_,_,.extra h,o,s,hs,q=>by
  rcases mem_cons.mp q with q|q
  ·cases q;exact absurd rfl hs
  ·exact h.mem o s hs q
def FR.mask{Z W:Fz}(f:FR K mg M H Z)(h:Mask Z W):FR K mg M H W where
 val:=λo d q=>by
  obtain⟨v,e,r⟩:=f.val o d (h.mem o _ (by intro z;cases z) q);exact⟨v,e,r.mono (jF (wk λb hb=>h.sub.subset hb))⟩
 own:=λo s ds q e=>by
  obtain⟨a,xs,e1,e2,e3,r⟩:=f.own o s ds (h.mem o s (by intro z;subst z;cases e) q) e;exact⟨a,xs,e1,e2,e3,r.mono (jF (wk λb hb=>h.sub.subset hb))⟩
 nd:=f.nd.sublist h.sub
 mal:=f.mal
def zt:List Slot->zQ->List Slot
 | [],_=>[]| .par _::ss,s::E=>s::zt ss E|_::ss,_::E=>.e::zt ss E|_::ss,[]=>.e::zt ss []
def fnM(N:Nat)(body:MS):MF:=λss=>match body (ss++replicate (N-ss.length) .e)with
 | .ok (.ret r,E')=>.ok (r,zt ss E')| .ok (.nx,E')=>.ok (.v .non,zt ss E')| .exc x E'=>.exc x (zt ss E')|_=>.z
theorem zf:∀(ss:List Slot) (E:zQ),(zt ss E).length=ss.length
 | [],_=>rfl| .par _::ss,s::E=>by simp[zt,zf ss E]| .e::ss,s::E=>by simp[zt,zf ss E]| .v _::ss,s::E=>by simp[zt,zf ss E]| .own _::ss,s::E=>by simp[zt,zf ss E]| .par _::ss,[]=>by simp[zt,zf ss []]| .e::ss,[]=>by simp[zt,zf ss []]| .v _::ss,[]=>by simp[zt,zf ss []]| .own _::ss,[]=>by simp[zt,zf ss []]
theorem Jy:∀(ss:List Slot) (vs:List (Option V)) (O:St) (E:zQ),E.length=O.length->vs.length=ss.length->(∀(i:Nat) ds,ss[i]?=some (.par ds)->O[i]?=vs[i]?)->Mask (O.zip E) (vs.zip (zt ss E))
 | [],vs,O,E,_,_,_=>by
  simp only[zt,List.zip_nil_right];exact .nil _
 |s::ss,[],O,E,_,h,_=>by simp at h|s::ss,v::vs,[],y::E,h,_,_=>by simp at h|s::ss,v::vs,x::O,[],h,_,_=>by simp at h
 |s::ss,v::vs,[],[],h1,h2,h4=>by
  have ih:=Jy ss vs [] [] rfl (by simpa using h2) λi ds e=>by
   have:=h4 (i+1) ds (by simpa using e);simpa using this
  cases s<;>exact .extra ih
 |s::ss,v::vs,x::O,y::E,h1,h2,h4=>by
  have ih:=Jy ss vs O E (by simpa using h1) (by simpa using h2) λi ds e=>by
   have:=h4 (i+1) ds (by simpa using e);simpa using this
  cases s with
  |par ds =>
   have e:=h4 0 ds rfl;simp at e;subst e;simp only[zt,zip_cons_cons];exact .keep ih
  |e=>simp only[zt,zip_cons_cons];exact .emq ih|v d=>simp only[zt,zip_cons_cons];exact .emq ih|own ds=>simp only[zt,zip_cons_cons];exact .emq ih
theorem vG:∀n:Nat,(replicate n (none:Option V)).zip (replicate n Slot.e)=replicate n (none,Slot.e)
 |0=>rfl|n+1=>by simp[replicate_succ,vG n]
def Zi(n:Nat):zu (replicate n ((none:Option V),Slot.e))=[]:=by
 induction n with
 |zero=>rfl|succ n ih=>rw[replicate_succ,yM,ih]
def FR.emps(f:FR K mg M H Z)(n:Nat):FR K mg M H (Z++replicate n (none,.e)):=by
 have eo:zu (Z++replicate n (none,Slot.e))=zu Z:=by rw[zT,Zi,append_nil]
 have em:Mo M (Z++replicate n (none,Slot.e))=Mo M Z:=by unfold Mo;rw[eo]
 refine⟨λo d q=>?_,λo s ds q e=>?_,by rw[eo];exact f.nd,f.mal⟩
 ·rw[em]
  rcases mem_append.mp q with q|q
  ·exact f.val o d q
  ·have:=List.eq_of_mem_replicate q;cases this
 ·rw[em]
  rcases mem_append.mp q with q|q
  ·exact f.own o s ds q e
  ·have:=List.eq_of_mem_replicate q;cases this;cases e
def body_ok{N:List Str}{n:Nat}{body:MS}{vs:List V}{Q:VK}{XQ:XK}(hx:∀x O' H',(∀C,X.mg x.cls=some (.ref C)->XQ (.ref C) none H')->XE X O' H' x)(h:spM X.K X.mg n (fnM N.length body) vs H Q XQ):tS X body {nx:=λ_ H'=>Q .non H',rt:=Q} (L2.jE N vs) H:=by
 obtain⟨hv,M,ss,hl,f,k⟩:=h;have e0:(L2.jE N vs).zip (ss++replicate (N.length-ss.length) Slot.e)=(vs.map some).zip ss++replicate (N.length-ss.length) (none,.e):=by
  unfold L2.jE;rw[List.zip_append (by simp[hl]),hl,vG]
 have hE:(ss++replicate (N.length-ss.length) Slot.e).length=(L2.jE N vs).length:=by
  unfold L2.jE;simp[hl]
 have f0:FR X.K X.mg M H ((L2.jE N vs).zip (ss++replicate (N.length-ss.length) Slot.e)):=by rw[e0];exact f.emps _
 have eo:∀b,b∈zu ((L2.jE N vs).zip (ss++replicate (N.length-ss.length) Slot.e))->b∈zu ((vs.map some).zip ss):=λb hb=>by
  rw[e0,zT,Zi,append_nil]at hb;exact hb
 refine⟨M,ss++replicate (N.length-ss.length) Slot.e,hE,f0,?_⟩;unfold fnM at k;have fin:∀{O':St} {E':zQ} {H':Hp} {v:V} {r:R},Got X.K X.mg M (L2.jE N vs) (ss++replicate (N.length-ss.length) Slot.e) H [] O' E' H' [(some v,r.slot)] ->
   (∀v H',(zt ss E').length=vs.length->FR X.K X.mg M H' ((some v,r.slot)::(vs.map some).zip (zt ss E'))->Step M H ((vs.map some).zip ss) H' ((some v,r.slot)::(vs.map some).zip (zt ss E'))->Q v H')->Q v H':=λ{O' E' H' v r} g kk=>by
  have mk:Mask (O'.zip E') ((vs.map some).zip (zt ss E')):=Jy ss _ O' E' g.len (by simp[hl]) λi ds e=>by
   have hi:i<ss.length:=(List.getElem?_eq_some_iff.mp e).1;have e1:(ss++replicate (N.length-ss.length) Slot.e)[i]?=some (.par ds):=by rw[List.getElem?_append_left hi];exact e
   have:=(g.pk i ds e1).2;rw[this];unfold L2.jE;rw[List.getElem?_append_left (by simp;omega)]
  refine kk v H' (by rw[zf,hl]) (g.fr.mask (.keep mk)) ?_;exact(g.st.weak λb hb=>(Mask.keep mk).sub.subset hb).left eo
 cases eb:body (ss++replicate (N.length-ss.length) Slot.e)with
 |z=>rw[eb]at k;exact k
 |exc x E' =>
  rw[eb]at k;intro O' H' g;refine hx x O' H' λC hm=>k C H' hm (g.fr.sub (List.nil_sublist _)) ?_
  exact(g.st.weak λb hb=>by cases hb).left eo
 |ok p =>
  obtain⟨fl,E'⟩:=p;rw[eb]at k;cases fl with
  |bk=>exact k.elim|ct=>exact k.elim|ret r=>exact λv O' H' g=>fin g k|nx=>exact λO' H' g=>fin (r:=.v .non) (g.flat (d:=.non) rfl) k
end
section
variable{P:Program}{w:World}{K:PySem.W.Frag}{mg:Str->Option Value}{base:Heap}
def fn_ok{c:Bool}{x qual:Str}{st:Stmt}{f:Addr}{fd:FuncData}{N ps:List Str}{k:Nat}{body:MS}(F:Fun K x qual st f fd)(S:FnScope N ps (zV st))
  (hb:∀(cdv:Value) (A:Around) (outer:List Env) (s:Shared) (H:Hp) (E:XK),(c=true->A.handled=none)->RoomN k (A.deeper (PyProof.Rows.envOfC qual (zV st) s.heap.objs.size f cdv)) ->
   uc (cxN c P w K mg base N qual (zV st) f cdv A outer s H E) (yZ st) body):FnOkN c P w K mg base (k+1) f fd ps (spM K mg ps.length (fnM N.length body)):=by
 obtain⟨oc,od,kV,doc,pm,an,cdv,ct,osl,rfl,lk,hcd⟩:=F.ex;exact fn_ofN lk hcd S (λvs H Q E h=>h.1) λA outer s H vs Q E hd hr h=>⟨_,hb cdv A outer s H E hd hr,body_ok (X:=cxN c P w K mg base N qual (zV st) f cdv A outer s H E) (λx O' H' hE=>Q4 hE) h⟩
end
section
variable{X:Cx}{k:Nat}{f:Addr}{fd:FuncData}{ps:List Str}{F:MF}{x:Str}{p pos:Pos}{e:Expr}{es:List Expr}{as:List Arg}
def ok_call{c:Bool}(G:FnOkN c X.prog X.w X.K X.mg X.base k f fd ps (spM X.K X.mg ps.length F))(hd:c=true->X.A.handled=none)(hr:RoomN k X.A)(hg:Gl X x)(hm:X.mg x=some (.ref f))(hk:keepIn X.K (.ref f)=true)(hb:YG X.K fd ps [])(ha:zBY X (e::es) as)(hn:as.length=ps.length:=by rfl)
  (hdb:(x==("__debug__":Str))=false:=by decide) (he:zL e=false:=by rfl) (hpl:yg es=true:=by rfl):EOk X (.Call (.Name x p) (e::es) [] pos) (jd F as) :=
 zc (Q3 G hd hr hg hm hk hb ha hdb (zF he) (yy hpl)) λO H Q=>zAT hn
end
section
variable{X:Cx}{O:St}{H:Hp}
def ok_dic{pos:Pos}(h:PE X (.Dict [] [] pos) (λ_ H Q=>∀p,H p=none->Q (.ref p) (upd H p (.dK [])))):EOk X (.Dict [] [] pos) (eC .dic):=zc h λO H Q ⟨M,E,hl,fr,k⟩=>λp hp=>by
 refine k _ _ ((Got.refl (T0:=[]) hl fr).more (T:=[(some (.ref p),.v .dic)]) ((fr.grow hp).add ?_) (Step.newVal hp));simp only[Rep];exact⟨p,rfl,zJ.mpr ⟨wm fr hp,yc⟩⟩
end
end DV
namespace L2
open PySem PySem.Spec PyProof.Rows
def Inv.big{X:Cx}{pins:List (Addr×Obj)}{O:St}{H:Hp}{s:Shared}(I:Inv X pins O H s):sysModules<s.heap.objs.size:=by
 have h:mainGlobals<s.heap.objs.size:=(I.mod.glob.keeps I.bk).lt;exact Nat.lt_trans (by decide) h
def pe_dicK{X:Cx}{pos:Pos}:PE X (.Dict [] [] pos) (λ_ H Q=>∀p,H p=none->Q (.ref p) (upd H p (.dK []))):=λpins s O H Q I h =>
 wpAny_Dict_empty ⟨.ref s.heap.objs.size,_,I.laid (a:=s.heap.objs.size) (o:=.dK []) (t':=s.toks) (λ_ _ q=>get?_push_of_some _ q) (le_refl _)
  ⟨zero_le _,beq_eq_false_iff_ne.mpr (Ne.symm (ne_of_lt I.big)),[],.nil,Heap.DictOf.new s.heap⟩,rfl,h _ (I.hok.fresh (le_refl _))⟩
def cxB(X:Cx)(N:List Str)(scope:Scope)(cl:List (Str×Addr))(C:Addr)(ex:List Addr)(s:Shared)(H:Hp):Cx :=
 {X with N:=N,s₀:=s,H₀:=H,env:=compEnvC scope cl C X.env,outer:=X.stack,ex:=ex,fn:=λy=>scope.names.lookup y==some NameKind.cell,pn:=[]}
def wQ{prog:Program}{w:World}{A:Around}{R:Result->Shared->Prop}{s:Shared}{elt target iter:Expr}{ifs:List Expr}{scope:Scope}{pos:Pos}{it acc:Value}{env:Env}(I:Nat->Shared->Prop)
  (turn:∀n s,I n s->wpAny (model prog w) A (pyNext it) (λr s₁=>match r with
   |none=>R (.ok .next) s₁
   |some v=>wpAny (model prog w) A (letOwnedTupleGo target it v) (λ_ s₁=>wpAny (model prog w) A (assign target env v) (λ_ s₂ =>
     wpAny (model prog w) A (forIn ifs true λc r=>if r=true then do let ok <- isTrue c env (eval c env);pure (ForInStep.yield ok)else pure (ForInStep.yield r)) (λok s₃ =>
      if ok=true then wpAny (model prog w) A (eval elt env) (λx s₄ =>
       wpAny (model prog w) A (call (.builtin "list.append") [acc,x]) (λ_ s₅=>∃m,m<n/\I m s₅) (notedBy (model prog w) A env λe s'=>R (.error e) s') s₄) (notedBy (model prog w) A env λe s'=>R (.error e) s') s₃
      else ∃m,m<n/\I m s₃) (notedBy (model prog w) A env λe s'=>R (.error e) s') s₂) (notedBy (model prog w) A env λe s'=>R (.error e) s') s₁) (notedBy (model prog w) A env λe s'=>R (.error e) s') s₁) (notedBy (model prog w) A env λe s'=>R (.error e) s') s)
  (n:Nat) (h:I n s) :
  codeAny (model prog w) A (.compLoop (.ListComp elt [⟨target,iter,ifs,0⟩] scope pos) 0 it acc env) R s:=by
 refine codeAny_loop rfl I (λn s hI=>?_) n h;show wpAny _ A ((compTurn (.ListComp elt [⟨target,iter,ifs,0⟩] scope pos) 0 it acc env).onRaise (λx=>do noteFrame x env;theTreesLotGoes x)) _ _ s;refine wpAny_noted ?_;rw[compTurn_list];refine wpAny_bind (wpAny_standAt (wpAny_bind (wpAny_mono (turn n s hI) (λr s₁ h₁=>?_) λ_ _ h'=>h')));cases r with
 |none=>exact wpAny_pure h₁
 |some v =>
  refine wpAny_bind (wpAny_mono h₁ (λ_ s₁' h₁'=>?_) λ_ _ h'=>h');refine wpAny_bind (wpAny_mono h₁' (λ_ s₂ h₂=>wpAny_bind (wpAny_mono h₂ (λok s₃ h₃=>?_) λ_ _ h'=>h')) λ_ _ h'=>h');cases ok with
  |false=>exact wpAny_pure ⟨rfl,h₃⟩
  |true =>
   exact wpAny_bind (wpAny_bind (wpAny_mono h₃ (λx s₄ h₄=>wpAny_bind (wpAny_mono h₄ (λ_ s₅ h₅=>wpAny_pure (wpAny_pure ⟨rfl,h₅⟩)) λ_ _ h'=>h')) λ_ _ h'=>h'))
def zBZ(X:Cx)(ifs:List Expr)(t:TT):Prop:=∀(pins:List (Addr×Obj)) (s:Shared) (O:St) (H:Hp) (Q:Bool->Hp->Prop),Inv X pins O H s->t O H Q ->
 wpAny (model X.prog X.w) X.A (forIn ifs true λc r=>if r=true then do let ok <- isTrue c X.env (eval c X.env);pure (ForInStep.yield ok)else pure (ForInStep.yield r)) (TP X pins O Q) X.xe s
def pif_nil{X:Cx}:zBZ X [] (λO H Q=>Q true H):=λpins s O H Q I h=>wpAny_tests_nil ⟨H,I,h⟩
def pif_one{X:Cx}{c:Expr}{t:TT}(h:PT X c t):zBZ X [c] t:=λpins s O H Q I q=>wpAny_tests_one (h pins s O H Q I q)
def yC(nl:Nat)(caps:List Nat)(O:St):St:=replicate nl none++caps.map λj=>(O[j]?).getD none
def zAU(nl:Nat)(caps:List Nat)(wi:TI)(g:TG)(tt:TT)(te:TE):TE:=λO H Q=>wi O H λJ H1=>∀D,H1 D=none->∃W:Nat->Nat->St->Hp->Prop,(∃m,W 0 m (yC nl caps O) (upd H1 D (.l [])))/\∀i m O' H',W i m O' H' ->
 (J.stop i H'/\Q (.ref D) H')\/(J.go i H'/\∃Nx:St->Hp->Prop,(∀O'' H'',Nx O'' H''->∃m',m'<m/\W (i+1) m' O'' H'')/\∀x H'',J.yld i H' x H''->g x O' H'' λO2 H2 =>
  tt O2 H2 λb H3=>if b=true then te O2 H3 λy H4=>∃ys,H4 D=some (.l ys)/\ys.length<sizeLine/\Nx O2 (upd H4 D (.l (ys++[y])))else Nx O2 H3)
theorem j7{env:Env}:∀{names:List (Str×NameKind)} {x:Str} {k:NameKind},(names.map λ(n,k)=>if(k==NameKind.free&&env.scope.kind==.function&&env.kindOf n==some .cell)then(n,NameKind.cell)else(n,k)).lookup x=some k ->
  ∃k0,names.lookup x=some k0/\(k=k0\/(k0=.free/\k=.cell))
 | [],_,_,h=>by simp at h
 | (n,k1)::r,x,k,h=>by
  have ih:=@j7 env r x k;rw[map_cons]at h;by_cases hc:(k1==NameKind.free&&env.scope.kind==.function&&env.kindOf n==some .cell)=true
  ·simp only[hc,if_true]at h
   cases hx:x==n with
   |true =>
    simp only[lookup_cons,hx]at h ⊢;cases h;refine⟨k1,rfl,.inr ⟨?_,rfl⟩⟩;simp only[Bool.and_eq_true,beq_iff_eq]at hc;exact hc.1.1
   |false=>simp only[lookup_cons,hx]at h ⊢;exact ih h
  ·have hc':(k1==NameKind.free&&env.scope.kind==.function&&env.kindOf n==some .cell)=false:=by simpa using hc
   simp only[hc',Bool.false_eq_true,if_false]at h;cases hx:x==n with
   |true=>simp only[lookup_cons,hx]at h ⊢;cases h;exact⟨k1,rfl,.inl rfl⟩|false=>simp only[lookup_cons,hx]at h ⊢;exact ih h
theorem Je{env:Env}:∀{names:List (Str×NameKind)} {x:Str},names.lookup x=some .free->env.scope.kind=.function->env.kindOf x=some .cell ->
  (names.map λ(n,k)=>if(k==NameKind.free&&env.scope.kind==.function&&env.kindOf n==some .cell)then(n,NameKind.cell)else(n,k)).lookup x=some .cell
 | [],_,h,_,_=>by simp at h
 | (n,k1)::r,x,h,hk,hc=>by
  have ih:=@Je env r x;rw[map_cons];cases hx:x==n with
  |true =>
   have:x=n:=by simpa using hx
   subst this;simp only[lookup_cons,hx]at h;cases h;have:(NameKind.free==NameKind.free&&env.scope.kind==.function&&env.kindOf x==some .cell)=true:=by simp[hk,hc]
   simp only[this,if_true,lookup_cons,hx]
  |false =>
   simp only[lookup_cons,hx]at h;by_cases hcc:(k1==NameKind.free&&env.scope.kind==.function&&env.kindOf n==some .cell)=true
   ·simp only[hcc,if_true,lookup_cons,hx];exact ih h hk hc
   ·have hcc':(k1==NameKind.free&&env.scope.kind==.function&&env.kindOf n==some .cell)=false:=by simpa using hcc
    simp only[hcc',Bool.false_eq_true,if_false,lookup_cons,hx];exact ih h hk hc
def ue(env:Env):List (Str×NameKind)->List (Str×Addr)->List (Str×Addr)
 | [],cs=>cs| (n,k)::r,cs=>if k==.free then ue env r ((n,(env.cells.lookup n).getD 0)::cs)else ue env r cs
theorem JO{env:Env}:∀(names:List (Str×NameKind)) (cs:List (Str×Addr)),(∀y∈names,y.2=.free->∃c,env.cells.lookup y.1=some c) ->
  (forIn names cs (λx r=>if(x.snd==NameKind.free)=true then do
    let c <- cellOf env x.fst
    pure (ForInStep.yield ((x.fst,c)::r))
   else pure (ForInStep.yield r)):Sem (List (Str×Addr)))=pure (ue env names cs)
 | [],cs,_=>by rfl
 | (n,k)::r,cs,h=>by
  rw[forIn_cons];dsimp only;by_cases hk:(k==NameKind.free)=true
  ·obtain⟨c,hc⟩:=h (n,k) mem_cons_self (by simpa using hk)
   have ec:cellOf env n=pure c:=by unfold cellOf;rw[hc]
   rw[if_pos hk,ec];show(forIn r ((n,c)::cs) _:Sem (List (Str×Addr)))=_;rw[JO r _ λy hy=>h y (mem_cons_of_mem _ hy)]
   conv=>rhs;unfold ue
   rw[if_pos hk,hc];rfl
  ·rw[if_neg hk]
   show(forIn r cs _:Sem (List (Str×Addr)))=_
   rw[JO r _ λy hy=>h y (mem_cons_of_mem _ hy)]
   conv=>rhs;unfold ue
   rw[if_neg hk]
theorem jT{env:Env}:∀(names:List (Str×NameKind)) (cs:List (Str×Addr)) (x:Str),(∀y∈names,y.2=.free->∃c,env.cells.lookup y.1=some c)->(∀c,cs.lookup x=some c->env.cells.lookup x=some c) ->
  (∀c,(ue env names cs).lookup x=some c->env.cells.lookup x=some c)/\(((∃c,cs.lookup x=some c)\/∃y∈names,y.1=x/\y.2=.free)->∃c,(ue env names cs).lookup x=some c)
 | [],cs,x,_,hcs=>⟨hcs,λh=>h.elim id λ⟨y,hy,_⟩=>by cases hy⟩
 | (n,k)::r,cs,x,h,hcs=>by
  unfold ue;by_cases hk:(k==NameKind.free)=true
  ·rw[if_pos hk]
   obtain⟨c,hc⟩:=h (n,k) mem_cons_self (by simpa using hk);have ih:=jT r ((n,(env.cells.lookup n).getD 0)::cs) x (λy hy=>h y (mem_cons_of_mem _ hy)) (λc' e=>by
    rw[lookup_cons]at e;cases hx:x==n with
    |true =>
     have:x=n:=by simpa using hx
     subst this;rw[hx]at e;simp only[hc,Option.getD_some]at e;rw[hc];exact e
    |false=>rw[hx]at e;exact hcs c' e)
   refine⟨ih.1,λq=>ih.2 ?_⟩;rcases q with⟨c',q⟩|⟨y,hy,q1,q2⟩
   ·left
    rw[lookup_cons];cases hx:x==n with
    |true=>exact⟨_,rfl⟩|false=>exact⟨c',q⟩
   ·rcases mem_cons.mp hy with hy|hy
    ·subst hy
     left
     have q1:n=x:=q1;subst q1;exact⟨(env.cells.lookup n).getD 0,by rw[lookup_cons,beq_self_eq_true]⟩
    ·right;exact⟨y,hy,q1,q2⟩
  ·rw[if_neg hk]
   have ih:=jT r cs x (λy hy=>h y (mem_cons_of_mem _ hy)) hcs;refine⟨ih.1,λq=>ih.2 ?_⟩;rcases q with q|⟨y,hy,q1,q2⟩
   ·exact .inl q
   ·rcases mem_cons.mp hy with hy|hy
    ·subst hy
     exact absurd (by simpa using q2) hk
    ·exact .inr ⟨y,hy,q1,q2⟩
theorem YU:∀(names:List (Str×NameKind)) (h:Heap) (acc:List (Str×Addr)) (x:Str) (c:Addr),(cellsFrom h.objs.size names acc).lookup x=some c ->
  acc.lookup x=some c\/((x,NameKind.cell)∈names/\h.objs.size<=c/\(pushCells h names).IsCell c none)
 | [],h,acc,x,c,e=>.inl e
 | (n,k)::r,h,acc,x,c,e=>by
  unfold cellsFrom at e;unfold pushCells;split at e
  ·rename_i hk
   rw[if_pos hk];have sz:(h.push {cls:=.type "cell",data:=.cell none}).objs.size=h.objs.size+1:=size_push ..;rw[<- sz]at e;rcases YU r (h.push {cls:=.type "cell",data:=.cell none}) _ x c e with q|⟨q1,q2,q3⟩
   ·rw[lookup_cons]at q
    cases hx:x==n with
    |true =>
     rw[hx]at q;cases q;have hx':x=n:=by simpa using hx
     have hk':k=.cell:=by simpa using hk
     subst hx';subst hk';exact .inr ⟨mem_cons_self,le_refl _,⟨_,pushCells_keeps _ _ _ _ (get?_push_size _ rfl),rfl⟩⟩
    |false=>rw[hx]at q;exact .inl q
   ·exact .inr ⟨mem_cons_of_mem _ q1,by rw[sz]at q2;omega,q3⟩
  ·rename_i hk
   rw[if_neg hk];rcases YU r h acc x c e with q|⟨q1,q2,q3⟩
   ·exact .inl q
   ·exact .inr ⟨mem_cons_of_mem _ q1,q2,q3⟩
theorem Zj:∀(names:List (Str×NameKind)) (n:Nat) (acc:List (Str×Addr)) (x:Str),(x,NameKind.cell)∉names->(cellsFrom n names acc).lookup x=acc.lookup x
 | [],n,acc,x,_=>rfl
 | (y,k)::r,n,acc,x,h=>by
  simp only[mem_cons,not_or]at h;unfold cellsFrom;split
  ·rename_i hk
   rw[Zj r _ _ x h.2,lookup_cons];cases hx:x==y with
   |true =>
    have hx':x=y:=by simpa using hx
    have hk':k=.cell:=by simpa using hk
    subst hx';subst hk';exact absurd rfl h.1
   |false=>rfl
  ·exact Zj r _ _ x h.2
theorem Gb:∀(names:List (Str×NameKind)) (n:Nat) (acc:List (Str×Addr)) (x:Str) (c:Addr),(x,NameKind.cell)∈names->(cellsFrom n names acc).lookup x=some c->n<=c
 | [],_,_,_,_,h,_=>by cases h
 | (y,k)::r,n,acc,x,c,h,e=>by
  unfold cellsFrom at e;by_cases hr:(x,NameKind.cell)∈r
  ·split at e
   ·exact Nat.le_of_succ_le (Gb r _ _ x c hr e)
   ·exact Gb r _ _ x c hr e
  ·rcases mem_cons.mp h with q|q
   ·cases q
    rw[if_pos (by rfl),Zj r _ _ _ hr,lookup_cons,beq_self_eq_true]at e;cases e;exact le_refl _
   ·exact absurd q hr
theorem Gc:∀(names:List (Str×NameKind)) (n:Nat) (acc:List (Str×Addr)),(∀x y c,acc.lookup x=some c->acc.lookup y=some c->x=y)->(∀x c,acc.lookup x=some c->c<n) ->
  ∀x y c,(cellsFrom n names acc).lookup x=some c->(cellsFrom n names acc).lookup y=some c->x=y
 | [],n,acc,hi,_,x,y,c,e1,e2=>hi x y c e1 e2
 | (z,k)::r,n,acc,hi,hb,x,y,c,e1,e2=>by
  unfold cellsFrom at e1 e2;split at e1
  ·refine Gc r (n+1) ((z,n)::acc) (λx y c e1 e2=>?_) (λx c e=>?_) x y c e1 (by rename_i hk;rwa [if_pos hk]at e2)
   ·rw[lookup_cons]at e1 e2
    cases hx:x==z with
    |true =>
     rw[hx]at e1;cases e1;have hx':x=z:=by simpa using hx
     cases hy:y==z with
     |true =>
      have hy':y=z:=by simpa using hy
      rw[hx',hy']
     |false=>rw[hy]at e2;exact absurd (hb y _ e2) (lt_irrefl _)
    |false =>
     rw[hx]at e1;cases hy:y==z with
     |true=>rw[hy]at e2;cases e2;exact absurd (hb x _ e1) (lt_irrefl _)|false=>rw[hy]at e2;exact hi x y c e1 e2
   ·rw[lookup_cons]at e
    cases hx:x==z with
    |true=>rw[hx]at e;cases e;exact Nat.lt_succ_self _|false=>rw[hx]at e;exact Nat.lt_succ_of_lt (hb x c e)
  ·exact Gc r n acc hi hb x y c e1 (by rename_i hk;rwa [if_neg hk]at e2)
def Jo{M:Model}{A:Around}{E:Value->Shared->Prop}{s:Shared}{scope:Scope}{globals:Addr}{cl:List (Str×Addr)}{qual:Str}{env:Env}{Q:Env->Shared->Prop}
  (hQ:Q (newEnv scope s.heap.objs.size globals (cellsFrom (s.heap.objs.size+1) scope.names cl) qual none .none (some env) builtinsNs) {s with heap:=pushCells (s.heap.push {cls:=.type "dict",data:=.dict #[]}) scope.names}) :
  wpAny M A (newFunctionEnv scope globals cl [] qual none .none (some env)) Q E s:=by
 simp only[newFunctionEnv,Option.isSome_some,if_true];refine wpAny_bind (wpAny_alloc ?_);refine wpAny_bind (wpAny_layCells _ (λname kind cells=>by cases hkc:kind==NameKind.cell<;>simp[hkc]) _ _ _ _ ?_);rw[show({s with heap:=s.heap.push {cls:=.type "dict",data:=.dict #[]}}:Shared).heap.objs.size=s.heap.objs.size+1 from size_push ..]
 rw[List.forIn_nil];exact wpAny_bind (wpAny_pure (wpAny_pure hQ))
section
variable{X:Cx}{elt target iter:Expr}{ifs:List Expr}{scope:Scope}{pos:Pos}{nl:Nat}{caps:List Nat}{N':List Str}
def WW{wi:TI}{g:TG}{tt:TT}{te:TE}{use:Option (Value->Sem Unit)}{QQ:Value->Shared->Prop}{pins:List (Addr×Obj)}{s:Shared}{O:St}{H:Hp}{Q:VK}{p0:Pos}(hx:∀e s,¬X.xe e s)(hc:X.calm=true)(hkind:scope.kind=.function)(hnames:∀y∈scope.names,y.2=.local->scope.names.lookup y.1=some .local)(hcell:∀y∈scope.names,y.2=.cell->scope.names.lookup y.1=some .cell)
  (hfree:(scope.names.all λy=>y.2 != .free||X.env.kindOf y.1==some .cell)=true)
  (hlen:N'.length=nl+caps.length) (hcap:∀(i j:Nat),caps[i]?=some j->∃x,N'[nl+i]?=some x/\X.N[j]?=some x/\scope.names.lookup x=some .free)
  (hi:PI X target iter wi) (hg:∀cl C ex s H,PG (cxB X N' scope cl C ex s H) target g) (ht:∀cl C ex s H,zBZ (cxB X N' scope cl C ex s H) ifs tt) (he:∀cl C ex s H,PE (cxB X N' scope cl C ex s H) elt te)
  (hs:∀x,foldedSetIterable iter X.env x=pure x) (I:Inv X pins O H s) (h:zAU nl caps wi g tt te O H Q)
  (hfin:∀(D C:Addr) (H5:Hp) (s6:Shared) (m6:Str->Option Value),Inv X pins O H5 s6->zBH X pins H5 C->s6.heap.Ns C m6->Q (.ref D) H5->compPost (model X.prog X.w) X.A X.xe use QQ (.ref D) C (.ok .next) s6) :
  wpAny (model X.prog X.w) X.A (comprehension (.ListComp elt [⟨target,iter,ifs,0⟩] scope pos) scope X.env p0 (newList []) false (eval iter X.env) use) QQ X.xe s:=by
 have hfr:∀y∈scope.names,y.2=.free->X.env.kindOf y.1=some .cell:=λy hy e=>by
  have:=all_eq_true.mp hfree y hy;rw[e]at this;simpa using this
 have hcl:∀y∈scope.names,y.2=.free->∃c,X.env.cells.lookup y.1=some c:=λy hy e=>I.ok.has y.1 (.inl (hfr y hy e))
 have hclos:closureFor scope X.env=pure (ue X.env scope.names []):=by
  simp only[closureFor];rw[JO scope.names [] hcl];rfl
 have cl1:∀x c,(ue X.env scope.names []).lookup x=some c->X.env.cells.lookup x=some c:=λx c e=>(jT scope.names [] x hcl (λ_ z=>by cases z)).1 c e
 have cl2:∀x,(∃y∈scope.names,y.1=x/\y.2=.free)->∃c,(ue X.env scope.names []).lookup x=some c:=λx q=>(jT scope.names [] x hcl (λ_ z=>by cases z)).2 (.inr q)
 generalize ue X.env scope.names []=cl at hclos cl1 cl2;refine wpAny_comprehension_free (use:=use) rfl hs hclos hkind hnames (thn (hi pins s O H _ I h) λxv s1 h1=>thn h1 λitv s2 h2=>?_);obtain⟨it,fp,tn,J,H2,e,I2,T,st2,f2,turn⟩:=h2;subst e;refine wpAny_newObj_type (Jo ?_) (by show(#[]:Array Value).size<=sizeLine;simp);dsimp only;generalize hH3:s2.heap.push {cls:=.type "list",dict:=none,data:=.seq ([]:List Value).toArray}=h3;have hC:h3.objs.size=s2.heap.objs.size+1:=by rw[<- hH3,size_push]
 have hD:H2 s2.heap.objs.size=none:=I2.hok.fresh (le_refl _);obtain⟨W,⟨m0,w0⟩,step⟩:=turn s2.heap.objs.size hD
 -- the state at the block's entry
 have I3:Inv X pins O (upd H2 s2.heap.objs.size (.l [])) {s2 with heap:=h3}:=by
  rw[<- hH3];exact I2.laid (t':=s2.toks) (λb o q=>get?_push_of_some _ q) (le_refl _) ⟨zero_le _,[],0,.nil,get?_push_size _ rfl⟩
 have hcfr:∀x,scope.names.lookup x=some .free->(x,NameKind.cell)∉scope.names:=λx e z=>by
  have:=hcell _ z rfl;rw[e]at this;cases this
 have szp:(h3.push {cls:=.type "dict",data:=.dict #[]}).objs.size=h3.objs.size+1:=size_push ..;have cw:∀x c,(cellsFrom (h3.objs.size+1) scope.names cl).lookup x=some c->cl.lookup x=some c\/((x,NameKind.cell)∈scope.names/\h3.objs.size+1<=c/\(pushCells (h3.push {cls:=.type "dict",data:=.dict #[]}) scope.names).IsCell c none):=λx c e=>by
  rw[<- szp]at e ⊢;exact YU _ _ _ x c e
 have cfr:∀x,scope.names.lookup x=some .free->(cellsFrom (h3.objs.size+1) scope.names cl).lookup x=cl.lookup x:=λx e=>Zj _ _ _ x (hcfr x e)
 have chas:∀x,scope.names.lookup x=some .cell->∃c,(cellsFrom (h3.objs.size+1) scope.names cl).lookup x=some c:=λx e=>by
  have:=cellsFrom_some scope.names (h3.objs.size+1) cl (x:=x) (.inl e);exact Option.isSome_iff_exists.mp this
 have clt:∀x c,cl.lookup x=some c->c<h3.objs.size:=λx c e=>by
  obtain⟨v,q⟩:=I3.cell x c (cl1 x c e);exact q.lt
 have cinj:=Gc scope.names (h3.objs.size+1) cl (λx y c e1 e2=>I.ok.inj x y c (cl1 x c e1) (cl1 y c e2)) λx c e=>Nat.lt_succ_of_lt (clt x c e)
 have hns₁:(pushCells (h3.push {cls:=.type "dict",data:=.dict #[]}) scope.names).Ns h3.objs.size λ_=>none:=(Heap.Ns.new h3 (.type "dict")).keeps (pushCells_keeps _ _)
 have old:∀b o,h3.get? b=some o->(pushCells (h3.push {cls:=.type "dict",data:=.dict #[]}) scope.names).get? b=some o:=λb o e=>pushCells_keeps _ _ b o (get?_push_of_some _ e)
 generalize hh1:pushCells (h3.push {cls:=.type "dict",data:=.dict #[]}) scope.names=h₁ at hns₁ old cw ⊢;generalize hcs:cellsFrom (h3.objs.size+1) scope.names cl=cs at cw cfr chas cinj ⊢;have fpD:∀b∈fp,b≠s2.heap.objs.size:=λb hb z=>by
  obtain⟨o,e,_⟩:=T.obj 0 s2.heap st2 b hb;subst z;exact absurd (lt_size e) (lt_irrefl _)
 have fp3:∀b∈fp,upd H2 s2.heap.objs.size (.l []) b=none:=λb hb=>by rw[zr (fpD b hb)];exact(f2 b hb).1
 have fpC:∀b∈fp,b≠h3.objs.size:=λb hb z=>by
  obtain⟨o,e,_⟩:=T.obj 0 s2.heap st2 b hb;have q:b<s2.heap.objs.size:=lt_size e;rw[z,hC]at q;exact absurd q (not_lt.mpr (le_succ _))
 have hCn:upd H2 s2.heap.objs.size (.l []) h3.objs.size=none:=I3.hok.fresh (le_refl _);have fpok:∀b∈fp,(b∈X.ex\/X.s₀.heap.objs.size<=b)/\b≠X.env.locals/\(∀x c,X.env.cells.lookup x=some c->c≠b)/\∀p∈X.pn++pins,p.1≠b:=λb hb=>by
  obtain⟨_,q2,_,q4,q5,q6⟩:=f2 b hb;exact⟨q4,q2,q5,q6⟩
 have fpH:∀b∈fp,b<h3.objs.size:=λb hb=>by
  obtain⟨o,e,_⟩:=T.obj 0 s2.heap st2 b hb;have q:b<s2.heap.objs.size:=lt_size e;rw[hC];exact Nat.lt_succ_of_lt q
 have fpcs:∀b∈fp,∀x c,cs.lookup x=some c->c≠b:=λb hb x c e=>by
  rcases cw x c e with q|⟨_,q,_⟩
  ·exact(fpok b hb).2.2.1 x c (cl1 x c q)
  ·intro z;subst z
   exact absurd (lt_of_lt_of_le (fpH _ hb) (Nat.le_of_succ_le q)) (lt_irrefl _)
 let Y:Cx:=cxB X N' scope cs h3.objs.size fp {s2 with heap:=h3} (upd H2 s2.heap.objs.size (.l []))
 have kindY:∀x k,Y.env.kindOf x=some k->∃k0,scope.names.lookup x=some k0/\(k=k0\/(k0=.free/\k=.cell)):=λx k e=>j7 e
 have okY:Y.Ok:={
  mod:=I.ok.mod
  kind:=hkind
  glob:=I.ok.glob
  blt:=I.ok.blt
  above:=le_refl _
  inj:=cinj
  has:=λx q=>by
   have:scope.names.lookup x=some .cell\/scope.names.lookup x=some .free:=by
    rcases q with q|q
    ·obtain⟨k0,e,z⟩:=kindY x _ q
     rcases z with z|z
     ·subst z;exact .inl e
     ·rw[z.1]at e;exact .inr e
    ·obtain⟨k0,e,z⟩:=kindY x _ q
     rcases z with z|z
     ·subst z;exact .inr e
     ·rw[z.1]at e;exact .inr e
   rcases this with q|q
   ·exact chas x q
   ·obtain⟨c,e⟩:=cl2 x ⟨(x,.free),PySem.mem_of_lookup q,rfl,rfl⟩
    exact⟨c,by show cs.lookup x=_;rw[cfr x q];exact e⟩
  cab:=λx c z e=>by
   have z:scope.names.lookup x=some .cell:=by
    have z:(scope.names.lookup x==some NameKind.cell)=true:=z;simpa using z
   have e:cs.lookup x=some c:=e;rw[<- hcs]at e;exact le_trans (le_succ _) (Gb _ _ _ x c (PySem.mem_of_lookup z) e)
  hd:=I.ok.hd
  frames:=I.ok.frames
  stk:=.inl rfl
  exf:=λb hb=>⟨fpC b hb,fpcs b hb⟩
  bs:=λb o e=>I3.bs b o e
  bsz:=le_trans I.ok.bsz I3.sz
  noex:=λb o e hb=>by
   obtain⟨q,_⟩:=fpok b hb;rcases q with q|q
   ·exact I.ok.noex b o e q
   ·exact absurd (lt_of_lt_of_le (lt_size e) I.ok.bsz) (not_lt.mpr q)
  exfs:=λb hb z=>by
   have:=I2.stkSub b z;rcases mem_cons.mp this with q|q
   ·exact(fpok b hb).2.1 q
   ·exact(f2 b hb).2.2.1 q
  funs:=I3.stack
  frf:=I3.stkFree}
 have keep1:∀b o,h3.get? b=some o->h₁.get? b=some o:=old;have lenY:(yC nl caps O).length=N'.length:=by unfold yC;simp[hlen]
 have IY:Inv Y [] (yC nl caps O) (upd H2 s2.heap.objs.size (.l [])) {s2 with heap:=h₁}:={
  ok:=okY
  os:=rfl
  bare:=I3.bare
  base:=Un.kept keep1
  loc:=by
   refine⟨_,hns₁,λi x v e1 e2 e3=>?_⟩;have e1:N'[i]?=some x:=e1;have hi:nl<=i:=by
    by_cases z:nl<=i
    ·exact z
    ·unfold yC at e2
     rw[List.getElem?_append_left (by simp;omega),List.getElem?_replicate]at e2;split at e2<;>cases e2
   unfold yC at e2;rw[List.getElem?_append_right (by simpa using hi),List.length_replicate,List.getElem?_map]at e2;cases ej:caps[i-nl]? with
   |none=>rw[ej]at e2;cases e2
   |some j =>
    rw[ej]at e2;simp only[Option.map_some,Option.some.injEq]at e2;obtain⟨x',c1,c2,c3⟩:=hcap (i-nl) j ej;have ex:x'=x:=by
     rw[show nl+(i-nl)=i by omega,e1]at c1;exact(Option.some.inj c1).symm
    subst ex;have e4:O[j]?=some (some v):=by
     cases z:O[j]? with
     |none=>rw[z]at e2;cases e2|some o=>rw[z]at e2;simp at e2;rw[e2]
    have kx:X.env.kindOf x'=some .cell:=hfr (x',.free) (PySem.mem_of_lookup c3) rfl;obtain⟨mm,_,lk⟩:=I3.loc;obtain⟨u,ru,lu⟩:=lk j x' v c2 e4 (.inr (.inl kx));refine⟨u,ru,?_⟩;rcases lu with⟨z,_⟩|⟨_,c,d1,d2⟩
    ·rw[kx]at z;cases z
    ·obtain⟨c',d3⟩:=cl2 x' ⟨(x',.free),PySem.mem_of_lookup c3,rfl,rfl⟩
     have:c'=c:=by have:=cl1 x' c' d3;rw[d1]at this;exact(Option.some.inj this).symm
     subst this;exact .inr ⟨.inl (Je c3 I.ok.kind kx),c',by show cs.lookup _=_;rw[cfr x' c3];exact d3,d2.keeps old⟩
  cell:=λx c e=>by
   rcases cw x c e with e|⟨_,_,q⟩
   ·obtain⟨v,q⟩:=I3.cell x c (cl1 x c e)
    exact⟨v,q.keeps old⟩
   ·exact⟨_,q⟩
  free:=hCn
  freeC:=λx c e=>by
   rcases cw x c e with e|⟨_,q,_⟩
   ·exact I3.freeC x c (cl1 x c e)
   ·exact I3.hok.fresh (le_trans (le_succ _) q)
  pin:=λp hp=>absurd (show p∈([]:List (Addr×Obj))from hp) (by simp)
  hok:=I3.hok.kept old
  len:=lenY}
 have st1:tn 0 h₁:=T.keep 0 s2.heap h₁ st2 λb hb o e=>old b o (by rw[<- hH3];exact get?_push_of_some _ e)
 have fpY:∀{H':Hp},(∀b∈fp,H' b=none)->∀b∈fp,zBH Y [] H' b:=λhn b hb =>
  ⟨hn b hb,fpC b hb,okY.exfs b hb,.inl hb,fpcs b hb,λp hp=>absurd (show p∈([]:List (Addr×Obj))from hp) (by simp)⟩
 have hA:Y.A=X.A:=rfl;have noE:∀{E':Value->Shared->Prop} {e:Value} {s:Shared},X.xe e s->E' e s:=λq=>absurd q (hx _ _)
 have fin:∀s₄:Shared,s₄={s2 with heap:=h₁} ->
   codeAny (model X.prog X.w) X.A (.compLoop (.ListComp elt [⟨target,iter,ifs,0⟩] scope pos) 0 (.ref it) (.ref s2.heap.objs.size) Y.env)
    (compPost (model X.prog X.w) X.A X.xe use QQ (.ref s2.heap.objs.size) h3.objs.size) s₄:=by
  rintro s₄ rfl
  refine wQ (λn s'=>∃i O' H',Inv Y [] O' H' s'/\tn i s'.heap/\(∀b∈fp,H' b=none)/\W i n O' H') ?_ m0 ⟨0,yC nl caps O,_,IY,st1,fp3,w0⟩
  rintro n s5 ⟨i,O5,H5,I5,st5,fr5,w5⟩
  rcases step i n O5 H5 w5 with⟨stop,q⟩|⟨go,Nx,hN,turn⟩
  ·refine wpAny_mono (T.done Y rfl rfl rfl hc i [] s5 O5 H5 (λ_ _=>False) I5 (fpY fr5) st5 stop) (λr s6 ⟨hr,I6⟩=>?_) (λ_ _ z=>z.elim)
   subst hr;obtain⟨m6,n6,_⟩:=I6.loc;have u:Un (frs X.stack) fp (upd H2 s2.heap.objs.size (.l [])) H5 h3 s6.heap:=I6.base;have I7:Inv X pins O H5 s6:=I3.call' (s':=s6) (ch:=fp) I6.os u I6.hok I6.bare fpok;exact hfin _ _ H5 s6 m6 I7 (I3.fpOk (le_refl _) I6.free) n6 q
  ·refine wpAny_mono (T.item Y rfl rfl rfl hc i [] s5 O5 H5 (λ_ _=>False) I5 (fpY fr5) st5 go) (λr s6 ⟨u,hr,h6⟩=>?_) (λ_ _ z=>z.elim)
   subst hr;refine wpAny_mono h6 (λ_ s7 ⟨x,H7,I7,r7,y7,st7,fr7⟩=>?_) (λ_ _ z=>z.elim);have I7':=I7.pinned (fpY fr7) (T.obj _ _ st7);refine wpAny_mono (hg _ _ _ _ _ _ s7 O5 H7 x u _ I7' r7 (turn x H7 y7)) (λ_ s8 ⟨O8,H8,I8,q8⟩=>?_) (λ_ _ z=>noE z);refine wpAny_mono (ht _ _ _ _ _ _ s8 O8 H8 _ I8 q8) (λb s9 ⟨H9,I9,q9⟩=>?_) (λ_ _ z=>noE z);have again:∀{O7:St} {H':Hp} {s':Shared},Inv Y ([]++WD fp s7.heap) O7 H' s'->Nx O7 H'->∃m,m<n/\∃i O' H',Inv Y [] O' H' s'/\tn i s'.heap/\(∀b∈fp,H' b=none)/\W i m O' H':=λ{O7 H' s'} I' n7=>by
    obtain⟨m',hm,w7⟩:=hN O7 H' n7;refine⟨m',hm,i+1,O7,H',I'.unpinned,T.keep _ _ _ st7 λb hb o e=>(I'.pin (b,o) (mem_append_right _ (mem_append_right _ (jq hb e)))).1,λb hb=>?_,w7⟩;obtain⟨o,e,d⟩:=T.obj _ _ st7 b hb;exact(I'.pin (b,o) (mem_append_right _ (mem_append_right _ (jq hb e)))).2.1
   cases b with
   |false =>
    rw[if_neg Bool.false_ne_true]at q9 ⊢;exact again I9 q9
   |true =>
    rw[if_pos rfl]at q9 ⊢;refine wpAny_mono (he _ _ _ _ _ _ s9 O8 H9 _ I9 q9) (λy s10 ⟨vy,H10,I10,r10,ys,hy,hz,n10⟩=>?_) (λ_ _ z=>noE z);have ap:=WN (X:=Y) _ s10 O8 H10 (.ref s2.heap.objs.size) [vy] (.ref s2.heap.objs.size) [y] (λv H'=>Nx O8 H') I10 rfl (.cons r10 .nil) ⟨_,ys,vy,rfl,rfl,hy,hz,n10⟩;refine wpAny_mono ap (λ_ s11 ⟨v11,H11,I11,_,n11⟩=>?_) (λ_ _ z=>noE z);exact again I11 n11
 exact codeAny_compStart_list (fin _ rfl) (T.self X.A 0 _ _ _ st1 (fin _ rfl))
def pe_comp{wi:TI}{g:TG}{tt:TT}{te:TE}(hx:∀e s,¬X.xe e s)(hc:X.calm=true)(hkind:scope.kind=.function)(hnames:∀y∈scope.names,y.2=.local->scope.names.lookup y.1=some .local)(hcell:∀y∈scope.names,y.2=.cell->scope.names.lookup y.1=some .cell)
  (hfree:(scope.names.all λy=>y.2 != .free||X.env.kindOf y.1==some .cell)=true)
  (hlen:N'.length=nl+caps.length) (hcap:∀(i j:Nat),caps[i]?=some j->∃x,N'[nl+i]?=some x/\X.N[j]?=some x/\scope.names.lookup x=some .free)
  (hi:PI X target iter wi) (hg:∀cl C ex s H,PG (cxB X N' scope cl C ex s H) target g) (ht:∀cl C ex s H,zBZ (cxB X N' scope cl C ex s H) ifs tt) (he:∀cl C ex s H,PE (cxB X N' scope cl C ex s H) elt te)
  (hs:∀x,foldedSetIterable iter X.env x=pure x:=by intro _;rfl):PE X (.ListComp elt [⟨target,iter,ifs,0⟩] scope pos) (zAU nl caps wi g tt te):=by
 intro pins s O H Q I h;rw[eval_ListComp];refine WW (use:=none) hx hc hkind hnames hcell hfree hlen hcap hi hg ht he hs I h λD C H5 s6 m6 I7 f n6 q=>?_
 refine⟨m6,n6,λh' hs'=>?_⟩;obtain⟨f1,f2,f3,f4,f5,f6⟩:=f;exact⟨.ref D,H5,I7.turned (it:=C) (t':=s6.toks) (λb o hb e=>hs'.extBut b o hb e) f1 (λz=>f2 z) f4 f5 f6,rfl,q⟩
def ps_setC{i:Nat}{y:Str}{py spos:Pos}{wi:TI}{g:TG}{tt:TT}{te:TE}(hN:X.N.Nodup)(hi':X.N[i]?=some y)(hy:Loc X.env.scope y)(hf:X.fn y=true\/X.env.scope.names.lookup y=some .local)(hx:∀e s,¬X.xe e s)(hc:X.calm=true)(hkind:scope.kind=.function)(hnames:∀y∈scope.names,y.2=.local->scope.names.lookup y.1=some .local)(hcell:∀y∈scope.names,y.2=.cell->scope.names.lookup y.1=some .cell)
  (hfree:(scope.names.all λy=>y.2 != .free||X.env.kindOf y.1==some .cell)=true)
  (hlen:N'.length=nl+caps.length) (hcap:∀(i j:Nat),caps[i]?=some j->∃x,N'[nl+i]?=some x/\X.N[j]?=some x/\scope.names.lookup x=some .free)
  (hi:PI X target iter wi) (hg:∀cl C ex s H,PG (cxB X N' scope cl C ex s H) target g) (ht:∀cl C ex s H,zBZ (cxB X N' scope cl C ex s H) ifs tt) (he:∀cl C ex s H,PE (cxB X N' scope cl C ex s H) elt te)
  (hs:∀x,foldedSetIterable iter X.env x=pure x) (hsw:swapsWith (.ListComp elt [⟨target,iter,ifs,0⟩] scope pos) (some (.Name y py)) spos.line X.env=pure true) :
  PS X (.Assign [.Name y py] (.ListComp elt [⟨target,iter,ifs,0⟩] scope pos) spos) (tAsg (zAU nl caps wi g tt te) (W1 i)):=by
 intro pins s O H D I h;rw[exec_Assign_Name_used _ _ _ _ hsw];refine wpAny_bind (wpAny_standAt (wpAny_bind ?_));show wpAny _ X.A (do let _ <- comprehension (.ListComp elt [⟨target,iter,ifs,0⟩] scope pos) scope X.env _ (newList []) false (eval iter X.env) (some (assign (.Name y py) X.env))) _ _ s;refine wpAny_bind (wpAny_mono (WW (use:=some (assign (.Name y py) X.env)) (QQ:=λ_ s'=>SP X pins D .next s') hx hc hkind hnames hcell hfree hlen hcap hi hg ht he hs I h λDa C H5 s6 m6 I7 f n6 q=>?_) (λ_ s' hq=>wpAny_pure (wpAny_pure hq)) λ_ _ e=>e);obtain⟨f1,f2,f3,f4,f5,f6⟩:=f;show wpAny _ X.A (assign (.Name y py) X.env (.ref Da)) _ _ s6;refine wpAny_assign_Name (WA I7 hN hi' hy (v:=.ref Da) rfl (λs7 I8 ⟨a,sb,ha⟩=>?_) hf);have hne:C≠a:=by
  rcases ha with ha|ha
  ·rw[ha];exact f2
  ·exact λz=>f5 y a ha z.symm
 refine⟨m6,n6.sameBut sb hne,λh' hs'=>?_⟩;exact⟨_,H5,I8.turned (it:=C) (t':=s7.toks) (λb o hb e=>hs'.extBut b o hb e) f1 (λz=>f2 z) f4 f5 f6,q⟩
end
end L2
namespace DV
open PySem L2
section
variable{X:Cx}{K:PySem.W.Frag}{mg:Str->Option Value}{O:St}{M:Addr->Prop}{E:zQ}{H:Hp}{T0 Z T:Fz}
structure ItOk(K:PySem.W.Frag)(mg:Str->Option Value)(J:It)(ds:List D)(Iv:Hp->Prop):Prop where
 mono:∀H H',JI H H'->Iv H->Iv H'
 go:∀i Hh H,JI Hh H->Iv Hh->i<ds.length->J.go i H
 yld:∀i Hh H x H',JI Hh H->Iv Hh->i<ds.length->J.yld i H x H'->∃d,ds[i]?=some d/\((H'=H/\Rep K mg Hh d x)\/∃q xs es,H q=none/\H'=upd H q (.t xs)/\x=.ref q/\d=.t es/\Reps K mg Hh es xs)
 stop:∀i Hh H,JI Hh H->Iv Hh->ds.length<=i->J.stop i H
abbrev MI:=zQ->Out (List D×zQ)
def tMI(X:Cx)(m:MI):TI:=λO H R=>∃M E,E.length=O.length/\FR X.K X.mg M H (O.zip E)/\match m E with
 | .z=>False| .ok (ds,E')=>∀J Iv H',ItOk X.K X.mg J ds Iv->Iv (Hm (Mo M (O.zip E')) H')->Got X.K X.mg M O E H [] O E' H' []->R J H'| .exc x E'=>∀H',Got X.K X.mg M O E H [] O E' H' []->XE X O H' x
abbrev IOk(X:Cx)(tg e:Expr)(m:MI):Prop:=PI X tg e (tMI X m)
def Gd{tg e:Expr}{t t':TI}(h:PI X tg e t)(i:∀O H R,t' O H R->t O H R):PI X tg e t':=λpins s O H R I q=>h pins s O H R I (i O H R q)
def iL(m:ME):MI:=λE=>match m E with
 | .z=>.z| .exc x E1=>.exc x E1
 | .ok (r,E1)=>match r.d with
  | .l ds=>.ok (ds,E1)|_=>.z
def iT(m:ME):MI:=λE=>match m E with
 | .z=>.z| .exc x E1=>.exc x E1
 | .ok (r,E1)=>match r.d with
  | .t ds=>.ok (ds,E1)|_=>.z
def it_list{a:Addr}{xs:List V}{ds:List D}:ItOk K mg (Itl K a) ds (λH=>SqL K H a xs/\Reps K mg H ds xs) where
 mono:=λH H' s h=>⟨s.seq h.1,h.2.mono s⟩
 go:=λi Hh H s h hi=>⟨xs,xs[i]'(by rw[h.2.length];exact hi),s.seq h.1,by simp⟩
 yld:=λi Hh H x H' s h hi y=>by
  obtain⟨e,y⟩:=y;obtain⟨d,h1,h2⟩:=h.2.get (y xs (s.seq h.1));exact⟨d,h1,.inl ⟨e,h2⟩⟩
 stop:=λi Hh H s h hi=>⟨xs,s.seq h.1,by rw[h.2.length];exact hi⟩
def it_tup{a:Addr}{xs:List V}{ds:List D}:ItOk K mg (Itt K a) ds (λH=>SqT K H a xs/\Reps K mg H ds xs) where
 mono:=λH H' s h=>⟨zw s h.1,h.2.mono s⟩
 go:=λi Hh H s h hi=>⟨xs,xs[i]'(by rw[h.2.length];exact hi),zw s h.1,by simp⟩
 yld:=λi Hh H x H' s h hi y=>by
  obtain⟨e,y⟩:=y;obtain⟨d,h1,h2⟩:=h.2.get (y xs (zw s h.1));exact⟨d,h1,.inl ⟨e,h2⟩⟩
 stop:=λi Hh H s h hi=>⟨xs,zw s h.1,by rw[h.2.length];exact hi⟩
def WX:∀(n i:Nat) (lo:Int),i<n->(zW lo n)[i]?=some (.int (lo+i)):=λn i lo h=>by
 have:=jS n i lo h;have e:((zW lo n).drop i)[0]?=some (.int (lo+i)):=by rw[this];rfl
 rw[List.getElem?_drop]at e;simpa using e
def it_rng{lo:Int}{n:Nat}:ItOk K mg (Itr lo n) (zW lo n) (λ_=>True) where
 mono:=λ_ _ _ h=>h
 go:=λi Hh H s h hi=>by rw[yA]at hi;exact hi
 yld:=λi Hh H x H' s h hi y=>by
  obtain⟨e,y⟩:=y;rw[yA]at hi;exact⟨_,WX n i lo hi,.inl ⟨e,by rw[y];simp only[Rep]⟩⟩
 stop:=λi Hh H s h hi=>by rw[yA]at hi;exact hi
def io_list{tg e:Expr}{m:ME}(h:EOk X e m):IOk X tg e (iL m):=Gd (uq h) λO H R ⟨M,E,hl,fr,k⟩=>by
 unfold iL at k;refine zd (T0:=[]) hl fr ?_;cases ea:m E with
 |z=>rw[ea]at k;exact k|exc x E1=>rw[ea]at k;exact k
 |ok p =>
  obtain⟨r,E1⟩:=p;rw[ea]at k;intro v H1 g;dsimp only at k;cases ed:r.d with
  |l ds =>
   rw[ed]at k;have rl:=g.rep;rw[ed]at rl;obtain⟨a,xs,rfl,q1,q2⟩:=zN rl;exact⟨a,rfl,⟨xs,zK.seq q1⟩,k _ _ H1 it_list ⟨q1,q2⟩ g.dropAll⟩
  |_=>rw[ed]at k;exact k.elim
def io_tup{tg e:Expr}{m:ME}(h:EOk X e m):IOk X tg e (iT m):=Gd (pi_tup h) λO H R ⟨M,E,hl,fr,k⟩=>by
 unfold iT at k;refine zd (T0:=[]) hl fr ?_;cases ea:m E with
 |z=>rw[ea]at k;exact k|exc x E1=>rw[ea]at k;exact k
 |ok p =>
  obtain⟨r,E1⟩:=p;rw[ea]at k;intro v H1 g;dsimp only at k;cases ed:r.d with
  |t ds =>
   rw[ed]at k;have rl:=g.rep;rw[ed]at rl;obtain⟨a,xs,rfl,q1,q2⟩:=zY rl;exact⟨a,rfl,⟨xs,zw zK q1⟩,k _ _ H1 it_tup ⟨q1,q2⟩ g.dropAll⟩
  |_=>rw[ed]at k;exact k.elim
def iR1(m:MA):MI:=λE=>match m E with
 | .z=>.z| .exc x E1=>.exc x E1
 | .ok ([r],E1)=>match r.d with
  | .int j=>if -(2^62)<=j/\j<2^62 then .ok (zW 0 j.toNat,E1)else .z|_=>.z
 |_=>.z
def io_r1{tg a:Expr}{m:MA}{p cpos:Pos}(hgl:Gl X "range")(hm:X.mg "range"=none)(ha:AOk X [a] m)(hst:zL a=false:=by rfl):IOk X tg (.Call (.Name "range" p) [a] [] cpos) (iR1 m):=Gd (WC hgl hm ha (star1 hst)) λO H R ⟨M,E,hl,fr,k⟩=>by
 unfold iR1 at k;refine YL (T0:=[]) hl fr ?_;cases ea:m E with
 |z=>rw[ea]at k;exact k|exc x E1=>rw[ea]at k;exact k
 |ok p =>
  obtain⟨rs,E1⟩:=p;rw[ea]at k
  match rs,k with
  | [r],k =>
   intro vs H1 hv g1;have rp:=Got.reps hv g1;dsimp only at k;cases ed:r.d with
   |int j =>
    rw[ed]at k;simp only[List.map,ed]at rp;obtain⟨v,rfl,h1⟩:=wq rp;dsimp only at k;by_cases hc:-(2^62)<=j/\j<2^62
    ·rw[if_pos hc]at k
     exact⟨j,by rw[zM h1],hc.1,hc.2,k _ _ H1 it_rng trivial g1.dropAll⟩
    ·rw[if_neg hc]at k;exact k.elim
   |_=>rw[ed]at k;exact k.elim
  | [],k=>exact k.elim|_::_::_,k=>exact k.elim
def wu(tg:MG)(tt:MT)(el:ME):List D->zQ->List D->Out (List D×zQ)
 | [],E,acc=>.ok (acc,E)
 |d::ds,E,acc=>match tg d E with
  | .ok E1=>match tt E1 with
   | .ok (true,E2)=>match el E2 with
    | .ok (r,E3)=>if acc.length<cap then wu tg tt el ds E3 (acc++[r.d])else .z|_=>.z
   | .ok (false,E2)=>wu tg tt el ds E2 acc|_=>.z
  |_=>.z
def wv(E:zQ):List Nat->Out (List AR)
 | []=>.ok []
 |j::js=>match E[j]? with
  |some (.v d)=>match wv E js with
   | .ok as=>.ok (.tmp d::as)|_=>.z
  |some s=>match s.list? with
   |some _=>match wv E js with
    | .ok as=>.ok (.ln j::as)|_=>.z
   |none=>.z
  |none=>.z
def Yz(nl:Nat)(caps:List Nat)(mi:MI)(tg:MG)(tt:MT)(el:ME):ME:=λE=>match mi E with
 | .z=>.z| .exc x E1=>.exc x E1
 | .ok (ds,E1)=>match wv E1 caps with
  | .ok ars=>match zH ars E1 with
   | .ok (ss,E2)=>match wu tg tt el ds (replicate nl .e++ss) []with
    | .ok (res,Eb)=>match zI ars ((zt (replicate nl .e++ss) Eb).drop nl) E1 E2 with
     | .ok E3=>.ok (.own res,E3)|_=>.z
    |_=>.z
   |_=>.z
  |_=>.z
def zAV:MT:=λE=>.ok (true,E)
abbrev IfOk(X:Cx)(ifs:List Expr)(m:MT):Prop:=zBZ X ifs (tMT X m)
def Zk{ifs:List Expr}{t t':TT}(h:zBZ X ifs t)(i:∀O H Q,t' O H Q->t O H Q):zBZ X ifs t':=λpins s O H Q I q=>h pins s O H Q I (i O H Q q)
def Ge:IfOk X [] zAV:=Zk pif_nil λO H Q ⟨M,E,hl,fr,k⟩=>k H (Got.refl (T0:=[]) hl fr)
def Gf{c:Expr}{m:MT}(h:TOk X c m):IfOk X [c] m:=pif_one h
theorem Gg:∀(js:List Nat) {as:List AR} {T:Fz},E.length=O.length->wv E js=.ok as->FR K mg M H (T++O.zip E) ->
  ∃vs,AV O as vs/\vs.map some=js.map (λj=>(O[j]?).getD none)/\FR K mg M H (T++(zi vs as++O.zip E))/\∀b,b∈zu (T++(zi vs as++O.zip E))->b∈zu (T++O.zip E)
 | [],as,T,hl,e,f=>by
  cases e;exact⟨[],by simp only[AV],rfl,f,λb q=>q⟩
 |j::js,as,T,hl,e,f=>by
  simp only[wv]at e;cases ej:E[j]? with
  |none=>rw[ej]at e;cases e
  |some s =>
   rw[ej]at e;obtain⟨o,h1,h2⟩:=jh hl ej;have lnk:∀{ds:List D},s.list?=some ds->(match wv E js with | .ok as=>Out.ok (AR.ln j::as)|_=>.z)=.ok as->∃vs,AV O as vs/\vs.map some=(j::js).map (λj=>(O[j]?).getD none)/\FR K mg M H (T++(zi vs as++O.zip E))/\∀b,b∈zu (T++(zi vs as++O.zip E))->b∈zu (T++O.zip E):=λ{ds} hs e=>by
    cases ec:wv E js with
    |z=>rw[ec]at e;cases e|exc _ _=>rw[ec]at e;cases e
    |ok as1 =>
     rw[ec]at e;cases e;obtain⟨a,xs,ev,_⟩:=f.own o s ds (mem_append_right _ h2) hs;subst ev;obtain⟨vs,q1,q2,q3,q4⟩:=Gg js hl ec f;have p:(T++(((some (V.ref a),Slot.e)::zi vs as1)++O.zip E)).Perm ((some (V.ref a),Slot.e)::(T++(zi vs as1++O.zip E))):=perm_middle;have fe:FR K mg M H ((some (V.ref a),Slot.e)::(T++(zi vs as1++O.zip E))):=q3.mask (.extra (by
      have:∀W:Fz,Mask W W:=by
       intro W
       induction W with
       |nil=>exact .nil _|cons x W ih=>exact .keep ih
      exact this _))
     refine⟨.ref a::vs,by simp only[AV];exact⟨_,vs,rfl,h1,q1⟩,by simp[h1,q2],fe.perm p.symm,λb hb=>?_⟩;have:=zB p b hb;rw[yM]at this;exact q4 b this
   cases s with
   |e=>cases e|own ds=>exact lnk rfl e|par ds=>exact lnk rfl e
   |v d =>
    dsimp only at e;cases ec:wv E js with
    |z=>rw[ec]at e;cases e|exc _ _=>rw[ec]at e;cases e
    |ok as1 =>
     rw[ec]at e;cases e;obtain⟨v,ev,r⟩:=f.val o d (mem_append_right _ h2);subst ev;obtain⟨vs,q1,q2,q3,q4⟩:=Gg js hl ec f;obtain⟨v',ev',r'⟩:=q3.val (some v) d (mem_append_right _ (mem_append_right _ h2));cases ev';have p:(T++(((some v,Slot.v d)::zi vs as1)++O.zip E)).Perm ((some v,Slot.v d)::(T++(zi vs as1++O.zip E))):=perm_middle;refine⟨v::vs,by simp only[AV];exact⟨v,vs,rfl,q1⟩,by simp[h1,q2],(q3.add r').perm p.symm,λb hb=>?_⟩;have:=zB p b hb;rw[zS]at this;exact q4 b this
def Gh(n:Nat)(Z:Fz):zu (replicate n ((none:Option V),Slot.e)++Z)=zu Z:=by rw[zT,Zi,nil_append]
def FR.emps0(f:FR K mg M H Z)(n:Nat):FR K mg M H (replicate n (none,.e)++Z):=(f.emps n).perm perm_append_comm
end
def tN(K:PySem.W.Frag)(mg:Str->Option Value)(m:ME):TE:=λO H Q=>∃M E,E.length=O.length/\FR K mg M H (O.zip E)/\match m E with
 | .ok (r,E')=>∀v H',Got K mg M O E H [] O E' H' [(some v,r.slot)]->Q v H'|_=>False
def tNT(K:PySem.W.Frag)(mg:Str->Option Value)(m:MT):TT:=λO H Q=>∃M E,E.length=O.length/\FR K mg M H (O.zip E)/\match m E with
 | .ok (b,E')=>∀H',Got K mg M O E H [] O E' H' []->Q b H'|_=>False
section
variable{X:Cx}{K:PySem.W.Frag}{mg:Str->Option Value}{O:St}{M:Addr->Prop}{E:zQ}{H:Hp}{T0 Z T:Fz}
def tN_M{m:ME}{Q:VK}(h:tN X.K X.mg m O H Q):tM X m O H Q:=by
 obtain⟨M,E,hl,fr,k⟩:=h;refine⟨M,E,hl,fr,?_⟩;cases e:m E with
 |z=>rw[e]at k;exact k|exc x E1=>rw[e]at k;exact k.elim|ok p=>rw[e]at k;exact k
def tNT_M{m:MT}{Q:Bool->Hp->Prop}(h:tNT X.K X.mg m O H Q):tMT X m O H Q:=by
 obtain⟨M,E,hl,fr,k⟩:=h;refine⟨M,E,hl,fr,?_⟩;cases e:m E with
 |z=>rw[e]at k;exact k|exc x E1=>rw[e]at k;exact k.elim|ok p=>rw[e]at k;exact k
def tN_run{m:ME}{r:R}{E':zQ}{Q:VK}(hl:E.length=O.length)(h:FR K mg M H (T0++O.zip E))(e:m E=.ok (r,E'))(k:∀v H',Got K mg M O E H T0 O E' H' [(some v,r.slot)]->Q v H'):tN K mg m O H Q:=by
 refine⟨Mo M T0,E,hl,h.inner,?_⟩;rw[e];exact λv H' g=>k v H' (g.outer h)
def tNT_run{m:MT}{b:Bool}{E':zQ}{Q:Bool->Hp->Prop}(hl:E.length=O.length)(h:FR K mg M H (T0++O.zip E))(e:m E=.ok (b,E'))(k:∀H',Got K mg M O E H T0 O E' H' []->Q b H'):tNT K mg m O H Q:=by
 refine⟨Mo M T0,E,hl,h.inner,?_⟩;rw[e];exact λH' g=>k H' (g.outer h)
def Gi{ars:List AR}{E1 E2 E3:zQ}{ss outs:List Slot}{r:R}{vs:List V}{v:V}{H1 H':Hp}(e1:zH ars E1=.ok (ss,E2))(e3:zI ars outs E1 E2=.ok E3)
  (av:AV O ars vs) (f1':FR K mg M H1 (O.zip E2++(vs.map some).zip ss)) (st1:Step M H (O.zip E) H1 (O.zip E2++(vs.map some).zip ss)) (l2:E2.length=O.length) (pk:PKp O E O E1)
  (f2:FR K mg (Mo M (O.zip E2)) H' ((some v,r.slot)::(vs.map some).zip outs)) (s2:Step (Mo M (O.zip E2)) H1 ((vs.map some).zip ss) H' ((some v,r.slot)::(vs.map some).zip outs)):Got K mg M O E H [] O E3 H' [(some v,r.slot)]:=by
 have f3:=FR.outer f1' f2 s2;have s3:=Step.outer s2;have p:(O.zip E2++((some v,r.slot)::(vs.map some).zip outs)).Perm ([(some v,r.slot)]++((vs.map some).zip outs++O.zip E2)):=by
  refine perm_append_comm.trans ?_;exact List.Perm.refl _
 obtain⟨f4,o4,l4⟩:=Zg ars l2 av e3 (f3.perm p);refine⟨l4,f4,?_,pk.trans (Ga e1 e3)⟩;have st2:=st1.trans s3;exact st2.weak λb hb=>zB p.symm b (o4 b hb)
theorem ww:∀(n:Nat) {Z W:Fz},Mask Z W->Mask Z (W.drop n)
 |0,_,_,h=>h|n+1,_,_,.nil Z=>by simp only[List.drop_nil];exact .nil _|n+1,_,_,.keep h=>.skip (ww n h)|n+1,_,_,.skip h=>.skip (ww (n+1) h)|n+1,_,_,.extra h=>ww n h
theorem WY{α β:Type}:∀(n:Nat) (l:List α) (m:List β),(l.zip m).drop n=(l.drop n).zip (m.drop n)
 |0,_,_=>rfl|n+1,[],_=>by simp|n+1,_::_,[]=>by simp|n+1,_::l,_::m=>by simp[WY n l m]
def yld_got{J:It}{ds:List D}{Iv:Hp->Prop}{O0 O':St}{E0 E':zQ}{H1 H' H'':Hp}{Da:Addr}{acc:List D}{i:Nat}{x:V}(it:ItOk K mg J ds Iv)(hlt:i<ds.length)(gb:Got K mg M O0 E0 H1 [] O' E' H' [(some (.ref Da),.own acc)])(ivb:Iv (Hm (Mo M ((some (.ref Da),Slot.own acc)::O'.zip E')) H'))(y:J.yld i H' x H'') :
  ∃d,ds[i]?=some d/\Got K mg M O0 E0 H1 [] O' E' H'' [(some (.ref Da),.own acc)]/\Iv (Hm (Mo M ((some (.ref Da),Slot.own acc)::O'.zip E')) H'')/\Rep K mg (Hm (Mo M ((some (.ref Da),Slot.own acc)::O'.zip E')) H'') d x:=by
 obtain⟨d,hd,h⟩:=it.yld i _ _ x _ zK ivb hlt y;rcases h with⟨rfl,rx⟩|⟨q,xs,es,hq,rfl,rfl,rfl,rs⟩
 ·exact⟨d,hd,gb,ivb,rx⟩
 ·have f:FR K mg M H' ((some (.ref Da),Slot.own acc)::O'.zip E'):=gb.fr
  have f1:=f.newTup hq rs;have s1:Step M H' ((some (.ref Da),Slot.own acc)::O'.zip E') (upd H' q (.t xs)) ((some (.ref q),.v (.t es))::((some (.ref Da),Slot.own acc)::O'.zip E')):=Step.newVal hq;obtain⟨v,ev,rv⟩:=f1.val _ _ mem_cons_self;cases ev;have sm:=s1.same;rw[YK]at rv sm;have s2:Step M H' ((some (.ref Da),Slot.own acc)::O'.zip E') (upd H' q (.t xs)) ((some (.ref Da),Slot.own acc)::O'.zip E'):=⟨sm,s1.keep⟩;exact⟨_,hd,⟨gb.len,f1.tail,gb.st.trans s2,gb.pk⟩,it.mono _ _ sm ivb,rv⟩
def vf{nl:Nat}{caps:List Nat}{mi:MI}{tg:MG}{tt:MT}{el:ME}{g:TG}{Q:VK}(ho:GOk X g tg)(h:tM X (Yz nl caps mi tg tt el) O H Q):zAU nl caps (tMI X mi) g (tNT X.K X.mg tt) (tN X.K X.mg el) O H Q:=by
 obtain⟨M,E,hl,fr,k⟩:=h;unfold Yz at k;refine⟨M,E,hl,fr,?_⟩;cases ei:mi E with
 |z=>rw[ei]at k;exact k|exc x E1=>rw[ei]at k;exact k
 |ok p =>
  obtain⟨ds,E1⟩:=p;rw[ei]at k;intro J Iv H1 it iv g1 D hD;dsimp only at k;cases ec:wv E1 caps with
  |z=>rw[ec]at k;exact k.elim|exc _ _=>rw[ec]at k;exact k.elim
  |ok ars =>
   rw[ec]at k;dsimp only at k;cases el1:zH ars E1 with
   |z=>rw[el1]at k;exact k.elim|exc _ _=>rw[el1]at k;exact k.elim
   |ok p =>
    obtain⟨ss,E2⟩:=p;rw[el1]at k;dsimp only at k;cases em:wu tg tt el ds (replicate nl .e++ss) []with
    |z=>rw[em]at k;exact k.elim|exc _ _=>rw[em]at k;exact k.elim
    |ok p =>
     obtain⟨res,Eb⟩:=p;rw[em]at k;dsimp only at k;cases eb:zI ars ((zt (replicate nl .e++ss) Eb).drop nl) E1 E2 with
     |z=>rw[eb]at k;exact k.elim|exc _ _=>rw[eb]at k;exact k.elim
     |ok E3 =>
      rw[eb]at k;obtain⟨vs,av,evs,f1,o1⟩:=Gg (T:=[]) caps g1.len ec g1.fr;obtain⟨f2,o2,l2,l3⟩:=YQ (T:=[]) ars g1.len av el1 f1;have hv:=av.length;have f2':FR X.K X.mg M H1 (O.zip E2++(vs.map some).zip ss):=FR.perm (T:=O.zip E2++(vs.map some).zip ss) (Z:=(vs.map some).zip ss++O.zip E2) f2 perm_append_comm;have osub:∀b,b∈zu (O.zip E2++(vs.map some).zip ss)->b∈zu (O.zip E1):=λb hb =>
       o1 b ((o2 b).mpr (zB (T:=O.zip E2++(vs.map some).zip ss) (Z:=(vs.map some).zip ss++O.zip E2) perm_append_comm b hb))
      have st1:Step M H (O.zip E) H1 (O.zip E2++(vs.map some).zip ss):=g1.st.weak osub;have eO:yC nl caps O=replicate nl none++vs.map some:=by unfold L2.yC;rw[evs]
      rw[eO];have ez:(replicate nl (none:Option V)++vs.map some).zip (replicate nl Slot.e++ss)=replicate nl (none,.e)++(vs.map some).zip ss:=by
       rw[List.zip_append (by simp),vG]
      have f4:FR X.K X.mg (Mo M (O.zip E2)) H1 ((replicate nl (none:Option V)++vs.map some).zip (replicate nl Slot.e++ss)):=by
       rw[ez];exact(FR.inner f2').emps0 nl
      have oo:zu ((replicate nl (none:Option V)++vs.map some).zip (replicate nl Slot.e++ss))=zu ((vs.map some).zip ss):=by rw[ez,Gh]
      generalize hO0:replicate nl (none:Option V)++vs.map some=O0 at f4 oo ⊢;generalize hE0:replicate nl Slot.e++ss=E0 at f4 oo em eb ⊢;have hl0:E0.length=O0.length:=by rw[<- hO0,<- hE0];simp[l2,hv]
      have f5:=f4.newOwn (ds:=[]) (xs:=[]) hD Reps.nil;have s5:=Step.newOwn (ds:=[]) (xs:=[]) f4 hD;have iv5:Iv (Hm (Mo (Mo M (O.zip E2)) ((some (.ref D),Slot.own [])::O0.zip E0)) (upd H1 D (.l []))):=by
       refine it.mono _ _ s5.same (it.mono _ _ (jF λb hb=>?_) iv);rcases hb with hb|hb
       ·rcases hb with hb|hb
        ·exact .inl hb
        ·exact .inr (osub b (by rw[zT];exact mem_append_left _ hb))
       ·rw[oo]at hb
        exact .inr (osub b (by rw[zT];exact mem_append_right _ hb))
      refine⟨λi m O' H'=>m=ds.length-i/\i<=ds.length/\∃E' acc,Got X.K X.mg (Mo M (O.zip E2)) O0 E0 H1 [] O' E' H' [(some (.ref D),.own acc)]/\Iv (Hm (Mo (Mo M (O.zip E2)) ((some (.ref D),Slot.own acc)::O'.zip E')) H')/\wu tg tt el (ds.drop i) E' acc=.ok (res,Eb),
       ⟨ds.length,by simp,zero_le _,E0,[],⟨hl0,f5,s5,PKp.refl⟩,iv5,em⟩,?_⟩
      rintro i m O' H' ⟨rfl,hi,E',acc,gb,ivb,cm⟩
      by_cases hlt:i<ds.length
      ·refine .inr ⟨it.go i _ H' zK ivb hlt,λO'' H''=>(i+1<=ds.length/\∃E' acc,Got X.K X.mg (Mo M (O.zip E2)) O0 E0 H1 [] O'' E' H'' [(some (.ref D),.own acc)]/\Iv (Hm (Mo (Mo M (O.zip E2)) ((some (.ref D),Slot.own acc)::O''.zip E')) H'')/\wu tg tt el (ds.drop (i+1)) E' acc=.ok (res,Eb)),
        λO'' H'' q=>⟨ds.length-(i+1),by omega,rfl,q⟩,λx H'' y=>?_⟩
       obtain⟨d,hd,gb,ivb,rx⟩:=yld_got it hlt gb ivb y;have ed:ds.drop i=d::ds.drop (i+1):=by
        obtain⟨hi',rfl⟩:=List.getElem?_eq_some_iff.mp hd;exact List.drop_eq_getElem_cons hi'
       rw[ed]at cm;simp only[wu]at cm;cases e1:tg d E' with
       |z=>rw[e1]at cm;cases cm|exc _ _=>rw[e1]at cm;cases cm
       |ok Ea =>
        rw[e1]at cm;dsimp only at cm;refine ho _ O' E' _ [(some (.ref D),.own acc)] x d Ea _ gb.len (gb.fr.add rx) e1 λO2 ga=>?_
        have g2:=gb.trans' ga;cases e2:tt Ea with
        |z=>rw[e2]at cm;cases cm|exc _ _=>rw[e2]at cm;cases cm
        |ok p =>
         obtain⟨b,Eb2⟩:=p;rw[e2]at cm;refine tNT_run ga.len ga.fr e2 λH3 gt=>?_
         have g3:=g2.trans' gt;have iv3:=it.mono _ _ (ga.st.same.trans gt.st.same) ivb;cases b with
         |false =>
          refine iteF ⟨hlt,Eb2,acc,g3,iv3,cm⟩
         |true =>
          refine iteT ?_;dsimp only at cm;cases e3:el Eb2 with
          |z=>rw[e3]at cm;cases cm|exc _ _=>rw[e3]at cm;cases cm
          |ok p =>
           obtain⟨r,Ec⟩:=p;rw[e3]at cm;dsimp only at cm;by_cases hcap:acc.length<cap
           ·rw[if_pos hcap]at cm
            refine tN_run g3.len g3.fr e3 λyv H4 ge=>?_
            have g4:=g3.trans' ge;have fz:FR X.K X.mg (Mo M (O.zip E2)) H4 ((some yv,.v r.d)::((some (.ref D),Slot.own acc)::O2.zip Ec)):=g4.fr.frz;obtain⟨yv',ey,ry⟩:=fz.val _ _ mem_cons_self;cases ey;rw[YK]at ry;have fo:=fz.tail;obtain⟨a,ys,ea,ha,_,rys⟩:=fo.own _ _ acc mem_cons_self rfl;cases ea;refine⟨ys,ha,by rw[rys.length];exact lt_of_lt_of_le hcap (Jd (le_refl _)),hlt,Ec,acc++[r.d],?_⟩;obtain⟨fm,sm⟩:=FR.mut (i:=0) (s:=.own acc) fo rfl rfl (rys.append (Reps.cons ry Reps.nil));have fm':FR X.K X.mg (Mo M (O.zip E2)) (upd H4 D (.l (ys++[yv]))) ((some (.ref D),Slot.own (acc++[r.d]))::O2.zip Ec):=fm;have sm':Step (Mo M (O.zip E2)) H4 ((some (.ref D),Slot.own acc)::O2.zip Ec) (upd H4 D (.l (ys++[yv]))) ((some (.ref D),Slot.own (acc++[r.d]))::O2.zip Ec):=sm;have sz:Step (Mo M (O.zip E2)) H3 ((some (.ref D),Slot.own acc)::O2.zip Eb2) H4 ((some (.ref D),Slot.own acc)::O2.zip Ec):=ge.st.weak (zC (sublist_cons_self _ _));have sz0:Step (Mo M (O.zip E2)) H1 (O0.zip E0) H4 ((some (.ref D),Slot.own acc)::O2.zip Ec):=g4.st.weak (zC (sublist_cons_self _ _));exact⟨⟨g4.len,fm',sz0.trans sm',g4.pk⟩,it.mono _ _ (sz.same.trans sm'.same) iv3,cm⟩
           ·rw[if_neg hcap]at cm;cases cm
      ·have ei2:i=ds.length:=by omega
       subst ei2;rw[List.drop_length]at cm;simp only[wu]at cm;cases cm;refine .inl ⟨it.stop _ _ H' zK ivb (le_refl _),k _ H' ?_⟩;have mk0:Mask (O'.zip Eb) (O0.zip (zt E0 Eb)):=Jy E0 O0 O' Eb gb.len (hl0.symm) λj ds' e=>(gb.pk j ds' e).2
       have mk:Mask (O'.zip Eb) ((vs.map some).zip ((zt E0 Eb).drop nl)):=by
        have:=ww nl mk0;have e:(O0.zip (zt E0 Eb)).drop nl=(vs.map some).zip ((zt E0 Eb).drop nl):=by
         rw[WY,<- hO0];congr 1;rw[List.drop_left' (by simp)]
        rw[e]at this;exact this
       refine Gi (r:=.own res) el1 eb av f2' st1 l3 g1.pk (gb.fr.mask (.keep mk)) ?_;refine(gb.st.weak λb hb=>(Mask.keep mk).sub.subset hb).left λb hb=>?_
       show b∈zu _
       rw[nil_append,oo]at hb;exact hb
end
section
variable{X:Cx}{elt target iter:Expr}{ifs:List Expr}{scope:Scope}{pos:Pos}
def ok_comp{mi:MI}{tg:MG}{tt:MT}{el:ME}{g:TG}(nl:Nat)(caps:List Nat)(N':List Str)(hx:∀e s,¬X.xe e s)(hc:X.calm=true)(hkind:scope.kind=.function)(hnames:∀y∈scope.names,y.2=.local->scope.names.lookup y.1=some .local)(hcell:∀y∈scope.names,y.2=.cell->scope.names.lookup y.1=some .cell)
  (hfree:(scope.names.all λy=>y.2 != .free||X.env.kindOf y.1==some .cell)=true)
  (hlen:N'.length=nl+caps.length) (hcap:∀(i j:Nat),caps[i]?=some j->∃x,N'[nl+i]?=some x/\X.N[j]?=some x/\scope.names.lookup x=some .free)
  (hi:IOk X target iter mi) (hg:∀cl C ex s H,PG (cxB X N' scope cl C ex s H) target g) (ho:GOk X g tg) (ht:∀cl C ex s H,IfOk (cxB X N' scope cl C ex s H) ifs tt) (he:∀cl C ex s H,EOk (cxB X N' scope cl C ex s H) elt el)
  (hs:∀x,foldedSetIterable iter X.env x=pure x:=by intro _;rfl):EOk X (.ListComp elt [⟨target,iter,ifs,0⟩] scope pos) (Yz nl caps mi tg tt el) :=
 zc (pe_comp (te:=tN X.K X.mg el) (tt:=tNT X.K X.mg tt) hx hc hkind hnames hcell hfree hlen hcap hi hg (λcl C ex s H=>Zk (ht cl C ex s H) λO H Q q=>tNT_M (X:=cxB X N' scope cl C ex s _) q) (λcl C ex s H=>zc (he cl C ex s H) λO H Q q=>tN_M (X:=cxB X N' scope cl C ex s _) q) hs) λO H Q=>vf ho
def sk_comp{mi:MI}{tg:MG}{tt:MT}{el:ME}{g:TG}{i:Nat}{y:Str}{py spos:Pos}(nl:Nat)(caps:List Nat)(N':List Str)(hN:X.N.Nodup)(hi':X.N[i]?=some y)(hy:Loc X.env.scope y)(hf:X.fn y=true\/X.env.scope.names.lookup y=some .local)(hx:∀e s,¬X.xe e s)(hc:X.calm=true)(hkind:scope.kind=.function)(hnames:∀y∈scope.names,y.2=.local->scope.names.lookup y.1=some .local)(hcell:∀y∈scope.names,y.2=.cell->scope.names.lookup y.1=some .cell)
  (hfree:(scope.names.all λy=>y.2 != .free||X.env.kindOf y.1==some .cell)=true)
  (hlen:N'.length=nl+caps.length) (hcap:∀(i j:Nat),caps[i]?=some j->∃x,N'[nl+i]?=some x/\X.N[j]?=some x/\scope.names.lookup x=some .free)
  (hi:IOk X target iter mi) (hg:∀cl C ex s H,PG (cxB X N' scope cl C ex s H) target g) (ho:GOk X g tg) (ht:∀cl C ex s H,IfOk (cxB X N' scope cl C ex s H) ifs tt) (he:∀cl C ex s H,EOk (cxB X N' scope cl C ex s H) elt el)
  (hs:∀x,foldedSetIterable iter X.env x=pure x) (hsw:swapsWith (.ListComp elt [⟨target,iter,ifs,0⟩] scope pos) (some (.Name y py)) spos.line X.env=pure true) :
  SOk X (.Assign [.Name y py] (.ListComp elt [⟨target,iter,ifs,0⟩] scope pos) spos) (sSet i (Yz nl caps mi tg tt el)) :=
 jc (ps_setC (te:=tN X.K X.mg el) (tt:=tNT X.K X.mg tt) hN hi' hy hf hx hc hkind hnames hcell hfree hlen hcap hi hg (λcl C ex s H=>Zk (ht cl C ex s H) λO H Q q=>tNT_M (X:=cxB X N' scope cl C ex s _) q) (λcl C ex s H=>zc (he cl C ex s H) λO H Q q=>tN_M (X:=cxB X N' scope cl C ex s _) q) hs hsw) λD O H h=>vf ho (GV h)
end
def mem7{P:String->Prop}(h1:P "NoneType")(h2:P "bool")(h3:P "int")(h4:P "str")(h5:P "tuple")(h6:P "list")(h7:P "dict"):∀t∈["NoneType","bool","int","str","tuple","list","dict"],P t:=by
 intro t ht;simp only[mem_cons,mem_nil_iff,or_false]at ht;rcases ht with rfl|rfl|rfl|rfl|rfl|rfl|rfl<;>assumption
abbrev Kit(K:PySem.W.Frag)(T:String):Prop:=∀t∈["NoneType","bool","int","str","tuple","list","dict"],kitOne K (.type t) (.type T)=some (Ze t T)
def kit_int(K:PySem.W.Frag):Kit K "int":=mem7 rfl rfl rfl rfl rfl rfl rfl
def zAW(K:PySem.W.Frag):Kit K "bool":=mem7 rfl rfl rfl rfl rfl rfl rfl
def Gj(K:PySem.W.Frag):Kit K "tuple":=mem7 rfl rfl rfl rfl rfl rfl rfl
def zAX(K:PySem.W.Frag):Kit K "list":=mem7 rfl rfl rfl rfl rfl rfl rfl
def kit_str(K:PySem.W.Frag):Kit K "str":=mem7 rfl rfl rfl rfl rfl rfl rfl
def zAY(K:PySem.W.Frag):Kit K "dict":=mem7 rfl rfl rfl rfl rfl rfl rfl
def jU:bootBuiltins "isinstance"=some (.builtin "isinstance"):=by decide +kernel
def zBa:bootBuiltins "len"=some (.builtin "len"):=by decide +kernel
def bt_max:bootBuiltins "max"=some (.builtin "max"):=by decide +kernel
def bt_all:bootBuiltins "all"=some (.builtin "all"):=by decide +kernel
def Gm:bootBuiltins "int"=some (.type "int"):=by decide +kernel
def bt_bool:bootBuiltins "bool"=some (.type "bool"):=by decide +kernel
def vg:bootBuiltins "tuple"=some (.type "tuple"):=by decide +kernel
def Gn:bootBuiltins "list"=some (.type "list"):=by decide +kernel
def zBb:bootBuiltins "str"=some (.type "str"):=by decide +kernel
def bt_dict:bootBuiltins "dict"=some (.type "dict"):=by decide +kernel
section
variable{X:Cx}{K:PySem.W.Frag}{mg:Str->Option Value}{O:St}{H:Hp}
def eNeg(a:ME):ME:=λE=>match a E with
 | .ok (.v (.int i),E1)=>.ok (.v (.int (-i)),E1)| .exc x E1=>.exc x E1|_=>.z
def ok_neg{a:Expr}{m:ME}{pos:Pos}(h:EOk X a m):EOk X (.UnaryOp .USub a pos) (eNeg m):=zc (pe_un un_neg h) λO H Q ⟨M,E,hl,fr,k⟩=>by
 unfold eNeg at k;refine zd (T0:=[]) hl fr ?_;cases ea:m E with
 |z=>rw[ea]at k;exact k|exc x E1=>rw[ea]at k;exact k
 |ok p =>
  obtain⟨r,E1⟩:=p;rw[ea]at k;cases r with
  |own ds=>exact k.elim
  |v d =>
   cases d with
   |int i =>
    intro v H' g;exact⟨i,zM g.rep,k _ H' (g.flat (d:=.int (-i)) rfl)⟩
   |_=>exact k.elim
def wx(p p':Int->Int->Bool)(a b c:ME):ME:=λE=>match a E with
 | .z=>.z| .exc x E1=>.exc x E1
 | .ok (.v (.int i),E1)=>match b E1 with
  | .z=>.z| .exc x E2=>.exc x E2
  | .ok (.v (.int j),E2)=>if p i j=true then match c E2 with
    | .z=>.z| .exc x E3=>.exc x E3| .ok (.v (.int k),E3)=>.ok (.v (.bl (p' j k)),E3)|_=>.z
   else .ok (.v (.bl false),E2)
  |_=>.z
 |_=>.z
def WZ{p p':Int->Int->Bool}{a b c:ME}{Q:VK}(h:tM X (wx p p' a b c) O H Q):ux (rI0 λi j=>.bl (p i j)) (rI0 λi j=>.bl (p' i j)) (tM X a) (tM X b) (tM X c) O H Q:=by
 obtain⟨M,E,hl,fr,k⟩:=h;unfold wx at k;refine zd (T0:=[]) hl fr ?_;cases ea:a E with
 |z=>rw[ea]at k;exact k|exc x E1=>rw[ea]at k;exact k
 |ok q =>
  obtain⟨r,E1⟩:=q;rw[ea]at k;cases r with
  |own ds=>exact k.elim
  |v d =>
   cases d with
   |int i =>
    intro x H1 g1;have g1':=g1.dropAll;refine zd (T0:=[]) g1'.len g1'.fr ?_;dsimp only at k;cases eb:b E1 with
    |z=>rw[eb]at k;exact k|exc x E2=>rw[eb]at k;exact λH' g=>k H' (g1'.trans' g)
    |ok q =>
     obtain⟨r2,E2⟩:=q;rw[eb]at k;cases r2 with
     |own ds=>exact k.elim
     |v d2 =>
      cases d2 with
      |int j =>
       intro y H2 g2;have g12:=(g1'.trans' g2).dropAll;refine⟨i,j,zM g1.rep,zM g2.rep,p i j,rfl,?_⟩;dsimp only at k;cases ep:p i j with
       |false =>
        rw[ep]at k;exact iteF (k _ H2 (g12.flat (d:=.bl false) rfl))
       |true =>
        rw[ep]at k;simp only[if_true]at k;refine iteT (zd (T0:=[]) g12.len g12.fr ?_);cases ec:c E2 with
        |z=>rw[ec]at k;exact k|exc x E3=>rw[ec]at k;exact λH' g=>k H' (g12.trans' g)
        |ok q =>
         obtain⟨r3,E3⟩:=q;rw[ec]at k;cases r3 with
         |own ds=>exact k.elim
         |v d3 =>
          cases d3 with
          |int n =>
           intro w H3 g3;exact⟨j,n,zM g2.rep,zM g3.rep,k _ H3 ((g12.trans' g3).flat (d:=.bl (p' j n)) rfl)⟩
          |_=>exact k.elim
      |_=>exact k.elim
   |_=>exact k.elim
def zAZ{op op':CmpOp}{p p':Int->Int->Bool}{a b c:Expr}{ma mb mc:ME}{pos:Pos}(ho:OpR X (compareOp op) (rI0 λi j=>.bl (p i j)))(ho':OpR X (compareOp op') (rI0 λi j=>.bl (p' i j)))(ha:EOk X a ma)(hb:EOk X b mb)(hc:EOk X c mc)
  (hm:lastMarks [op,op'] [b,c]=false:=by with_unfolding_all rfl):EOk X (.Compare a [op,op'] [b,c] pos) (wx p p' ma mb mc):=zc (Qt ho ho' ha hb hc hm) λO H Q=>WZ
def Go{op op':CmpOp}{p p':Int->Int->Bool}{a b c:Expr}{ma mb mc:ME}{pos:Pos}(ho:OpR X (compareOp op) (rI0 λi j=>.bl (p i j)))(ho':OpR X (compareOp op') (rI0 λi j=>.bl (p' i j)))(ha:EOk X a ma)(hb:EOk X b mb)(hc:EOk X c mc)
  (hm:lastMarks [op,op'] [b,c]=false:=by with_unfolding_all rfl):TOk X (.Compare a [op,op'] [b,c] pos) (tT (wx p p' ma mb mc)):=WP (Qu ho ho' ha hb hc hm) λO H Q q=>WZ (GQ q)
abbrev ltB:Int->Int->Bool:=λi j=>decide (i<j)
abbrev leB:Int->Int->Bool:=λi j=>decide (i<=j)
abbrev gtB:Int->Int->Bool:=λi j=>decide (j<i)
abbrev geB:Int->Int->Bool:=λi j=>decide (j<=i)
def Gp(X:Cx)(scope:Scope):List Nat->List Str->Prop
 | [],[]=>True|j::js,x::xs=>X.N[j]?=some x/\scope.names.lookup x=some .free/\Gp X scope js xs|_,_=>False
theorem Gq{scope:Scope}{loc:List Str}:∀{caps:List Nat} {capn:List Str},Gp X scope caps capn->capn.length=caps.length/\∀(i j:Nat),caps[i]?=some j->∃x,capn[i]?=some x/\X.N[j]?=some x/\scope.names.lookup x=some .free
 | [],[],h=>⟨rfl,λi j e=>by simp at e⟩| [],_::_,h=>h.elim|_::_,[],h=>h.elim
 |j::js,x::xs,h=>by
  obtain⟨h1,h2,h3⟩:=h;obtain⟨i1,i2⟩:=Gq (loc:=loc) h3;refine⟨by simp[i1],λi k e=>?_⟩;cases i with
  |zero=>simp at e;subst e;exact⟨x,rfl,h1,h2⟩|succ i=>simp at e;obtain⟨y,q⟩:=i2 i k e;exact⟨y,by simpa using q⟩
def ok_lc{elt target iter:Expr}{ifs:List Expr}{scope:Scope}{pos:Pos}{mi:MI}{tg:MG}{tt:MT}{el:ME}{g:TG}{nl:Nat}{caps:List Nat}(loc capn:List Str)(hnl:loc.length=nl)(hx:∀e s,¬X.xe e s)(hc:X.calm=true)(hkind:scope.kind=.function)(hnames:∀y∈scope.names,y.2=.local->scope.names.lookup y.1=some .local)(hcell:∀y∈scope.names,y.2=.cell->scope.names.lookup y.1=some .cell)
  (hfree:(scope.names.all λy=>y.2 != .free||X.env.kindOf y.1==some .cell)=true) (hcap:Gp X scope caps capn)
  (hi:IOk X target iter mi) (hg:∀cl C ex s H,PG (cxB X (loc++capn) scope cl C ex s H) target g) (ho:GOk X g tg) (ht:∀cl C ex s H,IfOk (cxB X (loc++capn) scope cl C ex s H) ifs tt) (he:∀cl C ex s H,EOk (cxB X (loc++capn) scope cl C ex s H) elt el)
  (hs:∀x,foldedSetIterable iter X.env x=pure x:=by intro _;rfl):EOk X (.ListComp elt [⟨target,iter,ifs,0⟩] scope pos) (Yz nl caps mi tg tt el):=by
 obtain⟨c1,c2⟩:=Gq (loc:=loc) hcap;refine ok_comp nl caps (loc++capn) hx hc hkind hnames hcell hfree (by simp[hnl,c1]) (λi j e=>?_) hi hg ho ht he hs;obtain⟨x,q1,q2,q3⟩:=c2 i j e;refine⟨x,?_,q2,q3⟩;rw[List.getElem?_append_right (by omega),hnl,Nat.add_sub_cancel_left];exact q1
def sk_lc{elt target iter:Expr}{ifs:List Expr}{scope:Scope}{pos:Pos}{mi:MI}{tg:MG}{tt:MT}{el:ME}{g:TG}{nl:Nat}{caps:List Nat}{i:Nat}{y:Str}{py spos:Pos}(loc capn:List Str)(hN:X.N.Nodup)(hi':X.N[i]?=some y)(hy:Loc X.env.scope y)(hf:X.fn y=true\/X.env.scope.names.lookup y=some .local)(hnl:loc.length=nl)(hx:∀e s,¬X.xe e s)(hc:X.calm=true)(hkind:scope.kind=.function)(hnames:∀y∈scope.names,y.2=.local->scope.names.lookup y.1=some .local)(hcell:∀y∈scope.names,y.2=.cell->scope.names.lookup y.1=some .cell)
  (hfree:(scope.names.all λy=>y.2 != .free||X.env.kindOf y.1==some .cell)=true) (hcap:Gp X scope caps capn)
  (hi:IOk X target iter mi) (hg:∀cl C ex s H,PG (cxB X (loc++capn) scope cl C ex s H) target g) (ho:GOk X g tg) (ht:∀cl C ex s H,IfOk (cxB X (loc++capn) scope cl C ex s H) ifs tt) (he:∀cl C ex s H,EOk (cxB X (loc++capn) scope cl C ex s H) elt el)
  (hs:∀x,foldedSetIterable iter X.env x=pure x) (hsw:swapsWith (.ListComp elt [⟨target,iter,ifs,0⟩] scope pos) (some (.Name y py)) spos.line X.env=pure true) :
  SOk X (.Assign [.Name y py] (.ListComp elt [⟨target,iter,ifs,0⟩] scope pos) spos) (sSet i (Yz nl caps mi tg tt el)):=by
 obtain⟨c1,c2⟩:=Gq (loc:=loc) hcap;refine sk_comp nl caps (loc++capn) hN hi' hy hf hx hc hkind hnames hcell hfree (by simp[hnl,c1]) (λi j e=>?_) hi hg ho ht he hs hsw;obtain⟨x,q1,q2,q3⟩:=c2 i j e;refine⟨x,?_,q2,q3⟩;rw[List.getElem?_append_right (by omega),hnl,Nat.add_sub_cancel_left];exact q1
end
section
variable(P:Program)(w:World)(K:PySem.W.Frag)(mg:Str->Option Value)(base:Heap)
def j8(x:Str)(st:Stmt)(ps:List Str):Prop:=∃(a:Addr) (fd:FuncData),mg x=some (.ref a)/\Fun K x x st a fd/\YG K fd ps []
def FOk(c:Bool)(x:Str)(k:Nat)(ps:List Str)(F:MF):Prop:=∃(a:Addr) (fd:FuncData),mg x=some (.ref a)/\keepIn K (.ref a)=true/\YG K fd ps []/\FnOkN c P w K mg base k a fd ps (spM K mg ps.length F)
end
mutual
def deq:D->D->Bool
 | .t a,d=>match d with
  | .t b=>deqs a b|_=>false
 | .l a,d=>match d with
  | .l b=>deqs a b|_=>false
 |a,d=>match d with
  | .t _=>false| .l _=>false|b=>eqV (flV a) (flV b)
def deqs:List D->List D->Bool
 | [],[]=>true|a::as,b::bs=>deq a b&&deqs as bs| [],_::_=>false|_::_,[]=>false
end
def eqb:Nat->D->Bool
 |_,.non=>true|_,.bl _=>true|_,.int _=>true|_,.str _=>true|n+1,.t ds=>ds.all (eqb n)|n+1,.l ds=>ds.all (eqb n)|_,_=>false
theorem jV:∀(a b:List D),deqs a b=((List.range (min a.length b.length)).all (λj=>deq (a.getD j .non) (b.getD j .non))&&a.length==b.length)
 | [],[]=>by simp[deqs]| [],_::_=>by simp[deqs]|_::_,[]=>by simp[deqs]
 |a::as,b::bs=>by
  simp only[deqs,jV as bs,length_cons];have e:min (as.length+1) (bs.length+1)=min as.length bs.length+1:=by omega
  rw[e,List.range_succ_eq_map,all_cons,List.all_map];simp[Function.comp_def,Bool.and_assoc]
section
variable{X:Cx}{pins:List (Addr×Obj)}{O:St}{H:Hp}{s:Shared}
def jA{d:D}(h:eqb 0 d=true):flat d=true:=by cases d<;>first|rfl|(simp[eqb]at h)
def vh{v:V}(h:ZZ v=true):eqV v v=true:=by cases v<;>simp[ZZ]at h<;>simp[eqV]
def jt{a b:D}(ha:flat a=true)(hb:flat b=true):deq a b=eqV (flV a) (flV b):=by
 cases a<;>cases b<;>first|(simp[flat]at ha;done)|(simp[flat]at hb;done)|simp[deq]
def ze{n:Nat}{d:D}(h:eqb n d=true):flat d=true\/(∃m ds,n=m+1/\d=.t ds/\∀e∈ds,eqb m e=true)\/(∃m ds,n=m+1/\d=.l ds/\∀e∈ds,eqb m e=true):=by
 cases d with
 |t ds =>
  cases n with
  |zero=>simp[eqb]at h|succ m=>exact .inr (.inl ⟨m,ds,rfl,rfl,by simpa[eqb]using h⟩)
 |l ds =>
  cases n with
  |zero=>simp[eqb]at h|succ m=>exact .inr (.inr ⟨m,ds,rfl,rfl,by simpa[eqb]using h⟩)
 |fn x=>cases n<;>simp[eqb]at h
 |dic=>cases n<;>simp[eqb]at h
 |exn x=>cases n<;>simp[eqb]at h
 |_=>exact .inl rfl
def vi(I:Inv X pins O H s):∀(n:Nat) (d e:D) (x:V),eqb n d=true->eqb n e=true->Rep X.K X.mg H d x->Rep X.K X.mg H e x->deq d e=true:=by
 intro n
 induction n with
 |zero =>
  intro d e x hd he rd re;have fd:=jA hd;have fe:=jA he;rw[jt fd fe,<- zR fd rd,<- zR fe re];exact vh (by rw[zR fd rd];exact yH fd)
 |succ n ih =>
  intro d e x hd he rd re;have seq:∀(ds es:List D) (xs:List V),(∀e∈ds,eqb n e=true)->(∀e∈es,eqb n e=true)->Reps X.K X.mg H ds xs->Reps X.K X.mg H es xs->deqs ds es=true:=by
   intro ds
   induction ds with
   |nil =>
    intro es xs _ _ r1 r2;simp only[Reps]at r1;subst r1;cases es with
    |nil=>rfl|cons e es=>simp only[Reps]at r2;obtain⟨v,r,q,_⟩:=r2;cases q
   |cons d ds ihd =>
    intro es xs h1 h2 r1 r2;simp only[Reps]at r1;obtain⟨v,r,rfl,a1,a2⟩:=r1;cases es with
    |nil=>simp only[Reps]at r2;cases r2
    |cons e es =>
     simp only[Reps]at r2;obtain⟨v',r',q,b1,b2⟩:=r2;cases q;simp only[deqs,Bool.and_eq_true];exact⟨ih d e v (h1 d mem_cons_self) (h2 e mem_cons_self) a1 b1,ihd es r (λz hz=>h1 z (mem_cons_of_mem _ hz)) (λz hz=>h2 z (mem_cons_of_mem _ hz)) a2 b2⟩
  have isRef:∀{d:D} {a:Addr},flat d=true->Rep X.K X.mg H d (.ref a)->False:=λ{d a} fd r=>by
   have:=zR fd r;cases d<;>simp[flat]at fd<;>cases this
  have kinds:∀{a:Addr} {xs ys:List V},SqT X.K H a xs->SqL X.K H a ys->False:=λ{a xs ys} h1 h2=>by
   obtain⟨i1,_,⟨o,e1,c1,_⟩,_⟩:=I.tuple h1;obtain⟨i2,_,⟨o2,n2,e2,c2,_⟩,_⟩:=I.list h2;rw[e1]at e2;cases e2;rw[c1]at c2;simp at c2
  rcases ze hd with fd|⟨m,ds,em,rfl,hds⟩|⟨m,ds,em,rfl,hds⟩
  ·rcases ze he with fe|⟨m,es,em,rfl,hes⟩|⟨m,es,em,rfl,hes⟩
   ·rw[jt fd fe,<- zR fd rd,<- zR fe re]
    exact vh (by rw[zR fd rd];exact yH fd)
   ·obtain⟨a,xs,rfl,_,_⟩:=zY re
    exact(isRef fd rd).elim
   ·obtain⟨a,xs,rfl,_,_⟩:=zN re
    exact(isRef fd rd).elim
  ·cases em
   obtain⟨a,xs,rfl,q1,q2⟩:=zY rd;rcases ze he with fe|⟨m,es,em,rfl,hes⟩|⟨m,es,em,rfl,hes⟩
   ·exact(isRef fe re).elim
   ·cases em
    obtain⟨b,ys,e,p1,p2⟩:=zY re;cases e;have:=I.tuple_inj q1 p1;subst this;simp only[deq];exact seq ds es xs hds hes q2 p2
   ·obtain⟨b,ys,e,p1,p2⟩:=zN re
    cases e;exact(kinds q1 p1).elim
  ·cases em
   obtain⟨a,xs,rfl,q1,q2⟩:=zN rd;rcases ze he with fe|⟨m,es,em,rfl,hes⟩|⟨m,es,em,rfl,hes⟩
   ·exact(isRef fe re).elim
   ·obtain⟨b,ys,e,p1,p2⟩:=zY re
    cases e;exact(kinds p1 q1).elim
   ·cases em
    obtain⟨b,ys,e,p1,p2⟩:=zN re;cases e;have:=I.list_inj q1 p1;subst this;simp only[deq];exact seq ds es xs hds hes q2 p2
def JP{ds:List D}{xs:List V}{us:List Value}(r:Reps X.K X.mg H ds xs)(v:zg xs us){j:Nat}(h:j<us.length):j<ds.length/\∃x,Rep X.K X.mg H (ds.getD j .non) x/\zy x us[j]:=by
 have l1:=r.length;have l2:=v.length;have hd:j<ds.length:=by omega
 refine⟨hd,?_⟩;obtain⟨x,q1,q2⟩:=r.get' (i:=j) (d:=ds[j]) (by simp[hd]);obtain⟨u,e1,e2⟩:=v.get q1;have:us[j]=u:=by
  have:=List.getElem?_eq_some_iff.mp e1;exact this.2
 refine⟨x,?_,by rw[this];exact e2⟩;rw[getD_eq_getElem?_getD,getElem?_eq_getElem hd];exact q2
def eqAt_ft{A:Around}{d:D}{x:V}{u:Value}{b:Addr}{its:Array Value}(hd:flat d=true)(rx:zy x u)(ex:x=flV d)(hb:s.heap.IsTuple b its)(hu:A.units<cLine):SeqAt.EqAt A s u (.ref b) false:=by
 subst ex;cases d with
 |non=>cases rx;exact SeqAt.EqAt.none_tuple hb hu|bl c=>cases rx;exact SeqAt.EqAt.bool_tuple c hb hu|int i=>obtain⟨t,rfl⟩:=rx;exact SeqAt.EqAt.int_tuple i t hb hu|str z=>obtain⟨t,rfl⟩:=rx;exact SeqAt.EqAt.str_tuple z t hb hu|_=>simp[flat]at hd
def eqAt_fl{A:Around}{d:D}{x:V}{u:Value}{b:Addr}{its:Array Value}(hd:flat d=true)(rx:zy x u)(ex:x=flV d)(hb:s.heap.IsList b its)(hu:A.units<cLine):SeqAt.EqAt A s u (.ref b) false:=by
 subst ex;cases d with
 |non=>cases rx;exact SeqAt.EqAt.none_list hb hu|bl c=>cases rx;exact SeqAt.EqAt.bool_list c hb hu|int i=>obtain⟨t,rfl⟩:=rx;exact SeqAt.EqAt.int_list i t hb hu|str z=>obtain⟨t,rfl⟩:=rx;exact SeqAt.EqAt.str_list z t hb hu|_=>simp[flat]at hd
def eqAt_tf{A:Around}{d:D}{x:V}{u:Value}{b:Addr}{its:Array Value}(hd:flat d=true)(rx:zy x u)(ex:x=flV d)(hb:s.heap.IsTuple b its)(hu:A.units<cLine):SeqAt.EqAt A s (.ref b) u false:=by
 subst ex;cases d with
 |non=>cases rx;exact SeqAt.EqAt.tuple_none hb hu|bl c=>cases rx;exact SeqAt.EqAt.tuple_bool c hb hu|int i=>obtain⟨t,rfl⟩:=rx;exact SeqAt.EqAt.tuple_int i t hb hu|str z=>obtain⟨t,rfl⟩:=rx;exact SeqAt.EqAt.tuple_str z t hb hu|_=>simp[flat]at hd
def eqAt_lf{A:Around}{d:D}{x:V}{u:Value}{b:Addr}{its:Array Value}(hd:flat d=true)(rx:zy x u)(ex:x=flV d)(hb:s.heap.IsList b its)(hu:A.units<cLine):SeqAt.EqAt A s (.ref b) u false:=by
 subst ex;cases d with
 |non=>cases rx;exact SeqAt.EqAt.list_none hb hu|bl c=>cases rx;exact SeqAt.EqAt.list_bool c hb hu|int i=>obtain⟨t,rfl⟩:=rx;exact SeqAt.EqAt.list_int i t hb hu|str z=>obtain⟨t,rfl⟩:=rx;exact SeqAt.EqAt.list_str z t hb hu|_=>simp[flat]at hd
def Gr{d:D}{ds:List D}(h:flat d=true):deq d (.t ds)=false:=by cases d<;>simp[flat]at h<;>simp[deq]
def Gs{d:D}{ds:List D}(h:flat d=true):deq d (.l ds)=false:=by cases d<;>simp[flat]at h<;>simp[deq]
def Gu{d:D}{ds:List D}(h:flat d=true):deq (.t ds) d=false:=by cases d<;>simp[flat]at h<;>simp[deq]
def Gv{d:D}{ds:List D}(h:flat d=true):deq (.l ds) d=false:=by cases d<;>simp[flat]at h<;>simp[deq]
def eqAtD(I:Inv X pins O H s):∀(n:Nat) (A:Around) (d e:D) (x y:V) (u v:Value),eqb n d=true->eqb n e=true->Rep X.K X.mg H d x->Rep X.K X.mg H e y->zy x u->zy y v->A.units+n<cLine->SeqAt.EqAt A s u v (deq d e):=by
 intro n
 induction n with
 |zero =>
  intro A d e x y u v hd he rd re rx ry hu;have fd:=jA hd;have fe:=jA he;rw[jt fd fe,<- zR fd rd,<- zR fe re];exact zBK rx ry (by rw[zR fd rd];exact yH fd) (by rw[zR fe re];exact yH fe)
 |succ n ih =>
  intro A d e x y u v hd he rd re rx ry hu;have hu0:A.units<cLine:=by omega
  have item:∀{ds es:List D} {xs ys:List V} {us vs:List Value},(∀e∈ds,eqb n e=true)->(∀e∈es,eqb n e=true)->Reps X.K X.mg H ds xs->Reps X.K X.mg H es ys->zg xs us->zg ys vs ->
    ∀j (h1:j<us.toArray.size) (h2:j<vs.toArray.size),SeqAt.EqAt A.in1 s us.toArray[j] vs.toArray[j] (deq (ds.getD j .non) (es.getD j .non)):=by
   intro ds es xs ys us vs k1 k2 r1 r2 v1 v2 j h1 h2;have h1':j<us.length:=by simpa using h1
   have h2':j<vs.length:=by simpa using h2
   obtain⟨l1,x1,a1,b1⟩:=JP r1 v1 h1';obtain⟨l2,x2,a2,b2⟩:=JP r2 v2 h2';rw[getElem_toArray,getElem_toArray];have m1:ds.getD j .non∈ds:=by rw[getD_eq_getElem?_getD,getElem?_eq_getElem l1];exact getElem_mem l1
   have m2:es.getD j .non∈es:=by rw[getD_eq_getElem?_getD,getElem?_eq_getElem l2];exact getElem_mem l2
   exact ih A.in1 _ _ x1 x2 _ _ (k1 _ m1) (k2 _ m2) a1 a2 b1 b2 (by show A.units+1+n<cLine;omega)
  rcases ze hd with fd|⟨m,ds,em,rfl,hds⟩|⟨m,ds,em,rfl,hds⟩
  ·have ex:=zR fd rd
   rcases ze he with fe|⟨m,es,em,rfl,hes⟩|⟨m,es,em,rfl,hes⟩
   ·rw[jt fd fe,<- zR fd rd,<- zR fe re]
    exact zBK rx ry (by rw[zR fd rd];exact yH fd) (by rw[zR fe re];exact yH fe)
   ·obtain⟨b,ys,rfl,p1,p2⟩:=zY re
    cases ry;obtain⟨its,_,pl,_⟩:=I.tuple p1;rw[Gr fd];exact eqAt_ft fd rx ex pl hu0
   ·obtain⟨b,ys,rfl,p1,p2⟩:=zN re
    cases ry;obtain⟨its,_,pl,_⟩:=I.list p1;rw[Gs fd];exact eqAt_fl fd rx ex pl.isList hu0
  ·cases em
   obtain⟨a,xs,rfl,q1,q2⟩:=zY rd;cases rx;obtain⟨us,v1,pl1,_⟩:=I.tuple q1;rcases ze he with fe|⟨m,es,em,rfl,hes⟩|⟨m,es,em,rfl,hes⟩
   ·rw[Gu fe];exact eqAt_tf fe ry (zR fe re) pl1 hu0
   ·cases em
    obtain⟨b,ys,rfl,p1,p2⟩:=zY re;cases ry;obtain⟨vs,v2,pl2,_⟩:=I.tuple p1;by_cases hab:a=b
    ·subst hab
     rw[vi I (n+1) _ _ _ hd he rd re];exact SeqAt.EqAt.same _
    ·have q:=SeqAt.EqAt.of_refs hab (SeqAt.RcAt.tuples pl1 pl2 hu0 (item hds hes q2 p2 v1 v2))
     simp only[deq];rw[jV];have l1:us.toArray.size=ds.length:=by rw[size_toArray,<- v1.length,q2.length]
     have l2:vs.toArray.size=es.length:=by rw[size_toArray,<- v2.length,p2.length]
     rw[l1,l2]at q;exact q
   ·obtain⟨b,ys,rfl,p1,p2⟩:=zN re
    cases ry;obtain⟨vs,v2,pl2,_⟩:=I.list p1;simp only[deq];exact SeqAt.EqAt.tuple_list pl1 pl2.isList hu0
  ·cases em
   obtain⟨a,xs,rfl,q1,q2⟩:=zN rd;cases rx;obtain⟨us,v1,pl1,_⟩:=I.list q1;rcases ze he with fe|⟨m,es,em,rfl,hes⟩|⟨m,es,em,rfl,hes⟩
   ·rw[Gv fe];exact eqAt_lf fe ry (zR fe re) pl1.isList hu0
   ·obtain⟨b,ys,rfl,p1,p2⟩:=zY re
    cases ry;obtain⟨vs,v2,pl2,_⟩:=I.tuple p1;simp only[deq];exact SeqAt.EqAt.list_tuple pl1.isList pl2 hu0
   ·cases em
    obtain⟨b,ys,rfl,p1,p2⟩:=zN re;cases ry;obtain⟨vs,v2,pl2,_⟩:=I.list p1;have l1:us.toArray.size=ds.length:=by rw[size_toArray,<- v1.length,q2.length]
    have l2:vs.toArray.size=es.length:=by rw[size_toArray,<- v2.length,p2.length]
    by_cases hab:a=b
    ·subst hab
     rw[vi I (n+1) _ _ _ hd he rd re];exact SeqAt.EqAt.same _
    ·simp only[deq]
     rw[jV];by_cases hl:ds.length=es.length
     ·have q:=SeqAt.EqAt.of_refs hab (SeqAt.RcAt.lists pl1.isList pl2.isList (by rw[l1,l2,hl]) hu0 (item hds hes q2 p2 v1 v2))
      rw[l1]at q;rw[hl]at q ⊢;simpa using q
     ·have q:=SeqAt.EqAt.of_refs hab (SeqAt.RcAt.lists_lengths (A:=A) pl1.isList pl2.isList (by rw[l1,l2];simpa using hl) hu0)
      have e:(ds.length==es.length)=false:=by simpa using hl
      rw[e,Bool.and_false];exact q
def rcAt_V{A:Around}{y x:V}{u v:Value}(ry:zy y u)(rx:zy x v)(fy:ZZ y=true)(fx:ZZ x=true):SeqAt.RcAt A s u v (eqV y x):=by
 cases y with
 |non =>
  cases ry;cases x with
  |non=>cases rx;exact SeqAt.RcAt.none_none|bl b=>cases rx;exact SeqAt.RcAt.none_bool  b|int b=>obtain⟨t2,rfl⟩:=rx;exact SeqAt.RcAt.none_int  b t2|str b=>obtain⟨t2,rfl⟩:=rx;exact SeqAt.RcAt.none_str  b t2|_=>exact absurd (show false=true from fx) Bool.false_ne_true
 |bl a =>
  cases ry;cases x with
  |non=>cases rx;exact SeqAt.RcAt.bool_none a|bl b=>cases rx;exact SeqAt.RcAt.bool_bool a b|int b=>obtain⟨t2,rfl⟩:=rx;exact SeqAt.RcAt.bool_int a b t2|str b=>obtain⟨t2,rfl⟩:=rx;exact SeqAt.RcAt.bool_str a b t2|_=>exact absurd (show false=true from fx) Bool.false_ne_true
 |int a =>
  obtain⟨t,rfl⟩:=ry;cases x with
  |non=>cases rx;exact SeqAt.RcAt.int_none a t|bl b=>cases rx;exact SeqAt.RcAt.int_bool a t b|int b=>obtain⟨t2,rfl⟩:=rx;exact SeqAt.RcAt.int_int a t b t2|str b=>obtain⟨t2,rfl⟩:=rx;exact SeqAt.RcAt.int_str a t b t2|_=>exact absurd (show false=true from fx) Bool.false_ne_true
 |str a =>
  obtain⟨t,rfl⟩:=ry;cases x with
  |non=>cases rx;exact SeqAt.RcAt.str_none a t|bl b=>cases rx;exact SeqAt.RcAt.str_bool a t b|int b=>obtain⟨t2,rfl⟩:=rx;exact SeqAt.RcAt.str_int a t b t2|str b=>obtain⟨t2,rfl⟩:=rx;exact SeqAt.RcAt.str_str a t b t2|_=>exact absurd (show false=true from fx) Bool.false_ne_true
 |_=>exact absurd (show false=true from fy) Bool.false_ne_true
def rcNe_V{A:Around}{y x:V}{u v:Value}(ry:zy y u)(rx:zy x v)(fy:ZZ y=true)(fx:ZZ x=true):SeqAt.RcNeAt A s u v (!eqV y x):=by
 cases y with
 |non =>
  cases ry;cases x with
  |non=>cases rx;exact SeqAt.RcNeAt.none_none|bl b=>cases rx;exact SeqAt.RcNeAt.none_bool  b|int b=>obtain⟨t2,rfl⟩:=rx;exact SeqAt.RcNeAt.none_int  b t2|str b=>obtain⟨t2,rfl⟩:=rx;exact SeqAt.RcNeAt.none_str  b t2|_=>exact absurd (show false=true from fx) Bool.false_ne_true
 |bl a =>
  cases ry;cases x with
  |non=>cases rx;exact SeqAt.RcNeAt.bool_none a|bl b=>cases rx;exact SeqAt.RcNeAt.bool_bool a b|int b=>obtain⟨t2,rfl⟩:=rx;exact SeqAt.RcNeAt.bool_int a b t2|str b=>obtain⟨t2,rfl⟩:=rx;exact SeqAt.RcNeAt.bool_str a b t2|_=>exact absurd (show false=true from fx) Bool.false_ne_true
 |int a =>
  obtain⟨t,rfl⟩:=ry;cases x with
  |non=>cases rx;exact SeqAt.RcNeAt.int_none a t|bl b=>cases rx;exact SeqAt.RcNeAt.int_bool a t b|int b=>obtain⟨t2,rfl⟩:=rx;exact SeqAt.RcNeAt.int_int a t b t2|str b=>obtain⟨t2,rfl⟩:=rx;exact SeqAt.RcNeAt.int_str a t b t2|_=>exact absurd (show false=true from fx) Bool.false_ne_true
 |str a =>
  obtain⟨t,rfl⟩:=ry;cases x with
  |non=>cases rx;exact SeqAt.RcNeAt.str_none a t|bl b=>cases rx;exact SeqAt.RcNeAt.str_bool a t b|int b=>obtain⟨t2,rfl⟩:=rx;exact SeqAt.RcNeAt.str_int a t b t2|str b=>obtain⟨t2,rfl⟩:=rx;exact SeqAt.RcNeAt.str_str a t b t2|_=>exact absurd (show false=true from fx) Bool.false_ne_true
 |_=>exact absurd (show false=true from fy) Bool.false_ne_true
def rc_ft{A:Around}{d:D}{x:V}{u:Value}{b:Addr}{its:Array Value}(hd:flat d=true)(rx:zy x u)(ex:x=flV d)(hb:s.heap.IsTuple b its)(hu:A.units<cLine):SeqAt.RcAt A s u (.ref b) false:=by
 subst ex;cases d with
 |non=>cases rx;exact SeqAt.RcAt.none_tuple hb hu|bl c=>cases rx;exact SeqAt.RcAt.bool_tuple c hb hu|int c=>obtain⟨t,rfl⟩:=rx;exact SeqAt.RcAt.int_tuple c t hb hu|str c=>obtain⟨t,rfl⟩:=rx;exact SeqAt.RcAt.str_tuple c t hb hu|_=>simp[flat]at hd
def rc_fl{A:Around}{d:D}{x:V}{u:Value}{b:Addr}{its:Array Value}(hd:flat d=true)(rx:zy x u)(ex:x=flV d)(hb:s.heap.IsList b its)(hu:A.units<cLine):SeqAt.RcAt A s u (.ref b) false:=by
 subst ex;cases d with
 |non=>cases rx;exact SeqAt.RcAt.none_list hb hu|bl c=>cases rx;exact SeqAt.RcAt.bool_list c hb hu|int c=>obtain⟨t,rfl⟩:=rx;exact SeqAt.RcAt.int_list c t hb hu|str c=>obtain⟨t,rfl⟩:=rx;exact SeqAt.RcAt.str_list c t hb hu|_=>simp[flat]at hd
def rc_tf{A:Around}{d:D}{x:V}{u:Value}{b:Addr}{its:Array Value}(hd:flat d=true)(rx:zy x u)(ex:x=flV d)(hb:s.heap.IsTuple b its)(hu:A.units<cLine):SeqAt.RcAt A s (.ref b) u false:=by
 subst ex;cases d with
 |non=>cases rx;exact SeqAt.RcAt.tuple_none hb hu|bl c=>cases rx;exact SeqAt.RcAt.tuple_bool c hb hu|int c=>obtain⟨t,rfl⟩:=rx;exact SeqAt.RcAt.tuple_int c t hb hu|str c=>obtain⟨t,rfl⟩:=rx;exact SeqAt.RcAt.tuple_str c t hb hu|_=>simp[flat]at hd
def rc_lf{A:Around}{d:D}{x:V}{u:Value}{b:Addr}{its:Array Value}(hd:flat d=true)(rx:zy x u)(ex:x=flV d)(hb:s.heap.IsList b its)(hu:A.units<cLine):SeqAt.RcAt A s (.ref b) u false:=by
 subst ex;cases d with
 |non=>cases rx;exact SeqAt.RcAt.list_none hb hu|bl c=>cases rx;exact SeqAt.RcAt.list_bool c hb hu|int c=>obtain⟨t,rfl⟩:=rx;exact SeqAt.RcAt.list_int c t hb hu|str c=>obtain⟨t,rfl⟩:=rx;exact SeqAt.RcAt.list_str c t hb hu|_=>simp[flat]at hd
def rn_ft{A:Around}{d:D}{x:V}{u:Value}{b:Addr}{its:Array Value}(hd:flat d=true)(rx:zy x u)(ex:x=flV d)(hb:s.heap.IsTuple b its)(hu:A.units<cLine):SeqAt.RcNeAt A s u (.ref b) true:=by
 subst ex;cases d with
 |non=>cases rx;exact SeqAt.RcNeAt.none_tuple hb hu|bl c=>cases rx;exact SeqAt.RcNeAt.bool_tuple c hb hu|int c=>obtain⟨t,rfl⟩:=rx;exact SeqAt.RcNeAt.int_tuple c t hb hu|str c=>obtain⟨t,rfl⟩:=rx;exact SeqAt.RcNeAt.str_tuple c t hb hu|_=>simp[flat]at hd
def rn_fl{A:Around}{d:D}{x:V}{u:Value}{b:Addr}{its:Array Value}(hd:flat d=true)(rx:zy x u)(ex:x=flV d)(hb:s.heap.IsList b its)(hu:A.units<cLine):SeqAt.RcNeAt A s u (.ref b) true:=by
 subst ex;cases d with
 |non=>cases rx;exact SeqAt.RcNeAt.none_list hb hu|bl c=>cases rx;exact SeqAt.RcNeAt.bool_list c hb hu|int c=>obtain⟨t,rfl⟩:=rx;exact SeqAt.RcNeAt.int_list c t hb hu|str c=>obtain⟨t,rfl⟩:=rx;exact SeqAt.RcNeAt.str_list c t hb hu|_=>simp[flat]at hd
def rn_tf{A:Around}{d:D}{x:V}{u:Value}{b:Addr}{its:Array Value}(hd:flat d=true)(rx:zy x u)(ex:x=flV d)(hb:s.heap.IsTuple b its)(hu:A.units<cLine):SeqAt.RcNeAt A s (.ref b) u true:=by
 subst ex;cases d with
 |non=>cases rx;exact SeqAt.RcNeAt.tuple_none hb hu|bl c=>cases rx;exact SeqAt.RcNeAt.tuple_bool c hb hu|int c=>obtain⟨t,rfl⟩:=rx;exact SeqAt.RcNeAt.tuple_int c t hb hu|str c=>obtain⟨t,rfl⟩:=rx;exact SeqAt.RcNeAt.tuple_str c t hb hu|_=>simp[flat]at hd
def rn_lf{A:Around}{d:D}{x:V}{u:Value}{b:Addr}{its:Array Value}(hd:flat d=true)(rx:zy x u)(ex:x=flV d)(hb:s.heap.IsList b its)(hu:A.units<cLine):SeqAt.RcNeAt A s (.ref b) u true:=by
 subst ex;cases d with
 |non=>cases rx;exact SeqAt.RcNeAt.list_none hb hu|bl c=>cases rx;exact SeqAt.RcNeAt.list_bool c hb hu|int c=>obtain⟨t,rfl⟩:=rx;exact SeqAt.RcNeAt.list_int c t hb hu|str c=>obtain⟨t,rfl⟩:=rx;exact SeqAt.RcNeAt.list_str c t hb hu|_=>simp[flat]at hd
def rcAtD(I:Inv X pins O H s)(n:Nat)(A:Around)(d e:D)(x y:V)(u v:Value)(hd:eqb n d=true)(he:eqb n e=true)(rd:Rep X.K X.mg H d x)(re:Rep X.K X.mg H e y)(rx:zy x u)(ry:zy y v)(hu:A.units+n<cLine):SeqAt.RcAt A s u v (deq d e):=by
 have hu0:A.units<cLine:=by omega
 have item:∀{m:Nat} {ds es:List D} {xs ys:List V} {us vs:List Value},n=m+1->(∀e∈ds,eqb m e=true)->(∀e∈es,eqb m e=true)->Reps X.K X.mg H ds xs->Reps X.K X.mg H es ys->zg xs us->zg ys vs ->
   ∀j (h1:j<us.toArray.size) (h2:j<vs.toArray.size),SeqAt.EqAt A.in1 s us.toArray[j] vs.toArray[j] (deq (ds.getD j .non) (es.getD j .non)):=by
  intro m ds es xs ys us vs hm k1 k2 r1 r2 v1 v2 j h1 h2;have h1':j<us.length:=by simpa using h1
  have h2':j<vs.length:=by simpa using h2
  obtain⟨l1,x1,a1,b1⟩:=JP r1 v1 h1';obtain⟨l2,x2,a2,b2⟩:=JP r2 v2 h2';rw[getElem_toArray,getElem_toArray];have m1:ds.getD j .non∈ds:=by rw[getD_eq_getElem?_getD,getElem?_eq_getElem l1];exact getElem_mem l1
  have m2:es.getD j .non∈es:=by rw[getD_eq_getElem?_getD,getElem?_eq_getElem l2];exact getElem_mem l2
  exact eqAtD I m A.in1 _ _ x1 x2 _ _ (k1 _ m1) (k2 _ m2) a1 a2 b1 b2 (by show A.units+1+m<cLine;omega)
 rcases ze hd with fd|⟨m,ds,em,rfl,hds⟩|⟨m,ds,em,rfl,hds⟩
 ·have ex:=zR fd rd
  rcases ze he with fe|⟨m,es,em,rfl,hes⟩|⟨m,es,em,rfl,hes⟩
  ·rw[jt fd fe,<- zR fd rd,<- zR fe re]
   exact rcAt_V rx ry (by rw[zR fd rd];exact yH fd) (by rw[zR fe re];exact yH fe)
  ·obtain⟨b,ys,rfl,p1,p2⟩:=zY re
   cases ry;obtain⟨its,_,pl,_⟩:=I.tuple p1;rw[Gr fd];exact rc_ft fd rx ex pl hu0
  ·obtain⟨b,ys,rfl,p1,p2⟩:=zN re
   cases ry;obtain⟨its,_,pl,_⟩:=I.list p1;rw[Gs fd];exact rc_fl fd rx ex pl.isList hu0
 ·obtain⟨a,xs,rfl,q1,q2⟩:=zY rd
  cases rx;obtain⟨us,v1,pl1,_⟩:=I.tuple q1;rcases ze he with fe|⟨m',es,em',rfl,hes⟩|⟨m',es,em',rfl,hes⟩
  ·rw[Gu fe];exact rc_tf fe ry (zR fe re) pl1 hu0
  ·have:m=m':=by omega
   subst this;obtain⟨b,ys,rfl,p1,p2⟩:=zY re;cases ry;obtain⟨vs,v2,pl2,_⟩:=I.tuple p1;have q:=SeqAt.RcAt.tuples pl1 pl2 hu0 (item em hds hes q2 p2 v1 v2);simp only[deq];rw[jV];have l1:us.toArray.size=ds.length:=by rw[size_toArray,<- v1.length,q2.length]
   have l2:vs.toArray.size=es.length:=by rw[size_toArray,<- v2.length,p2.length]
   rw[l1,l2]at q;exact q
  ·obtain⟨b,ys,rfl,p1,p2⟩:=zN re
   cases ry;obtain⟨vs,v2,pl2,_⟩:=I.list p1;simp only[deq];exact SeqAt.RcAt.tuple_list pl1 pl2.isList hu0
 ·obtain⟨a,xs,rfl,q1,q2⟩:=zN rd
  cases rx;obtain⟨us,v1,pl1,_⟩:=I.list q1;rcases ze he with fe|⟨m',es,em',rfl,hes⟩|⟨m',es,em',rfl,hes⟩
  ·rw[Gv fe];exact rc_lf fe ry (zR fe re) pl1.isList hu0
  ·obtain⟨b,ys,rfl,p1,p2⟩:=zY re
   cases ry;obtain⟨vs,v2,pl2,_⟩:=I.tuple p1;simp only[deq];exact SeqAt.RcAt.list_tuple pl1.isList pl2 hu0
  ·have:m=m':=by omega
   subst this;obtain⟨b,ys,rfl,p1,p2⟩:=zN re;cases ry;obtain⟨vs,v2,pl2,_⟩:=I.list p1;have l1:us.toArray.size=ds.length:=by rw[size_toArray,<- v1.length,q2.length]
   have l2:vs.toArray.size=es.length:=by rw[size_toArray,<- v2.length,p2.length]
   simp only[deq];rw[jV];by_cases hl:ds.length=es.length
   ·have q:=SeqAt.RcAt.lists pl1.isList pl2.isList (by rw[l1,l2,hl]) hu0 (item em hds hes q2 p2 v1 v2)
    rw[l1]at q;rw[hl]at q ⊢;simpa using q
   ·have q:=SeqAt.RcAt.lists_lengths (A:=A) pl1.isList pl2.isList (by rw[l1,l2];simpa using hl) hu0
    have e:(ds.length==es.length)=false:=by simpa using hl
    rw[e,Bool.and_false];exact q
def rcNeD(I:Inv X pins O H s)(n:Nat)(A:Around)(d e:D)(x y:V)(u v:Value)(hd:eqb n d=true)(he:eqb n e=true)(rd:Rep X.K X.mg H d x)(re:Rep X.K X.mg H e y)(rx:zy x u)(ry:zy y v)(hu:A.units+n<cLine):SeqAt.RcNeAt A s u v (!deq d e):=by
 have hu0:A.units<cLine:=by omega
 have item:∀{m:Nat} {ds es:List D} {xs ys:List V} {us vs:List Value},n=m+1->(∀e∈ds,eqb m e=true)->(∀e∈es,eqb m e=true)->Reps X.K X.mg H ds xs->Reps X.K X.mg H es ys->zg xs us->zg ys vs ->
   ∀j (h1:j<us.toArray.size) (h2:j<vs.toArray.size),SeqAt.EqAt A.in1 s us.toArray[j] vs.toArray[j] (deq (ds.getD j .non) (es.getD j .non)):=by
  intro m ds es xs ys us vs hm k1 k2 r1 r2 v1 v2 j h1 h2;have h1':j<us.length:=by simpa using h1
  have h2':j<vs.length:=by simpa using h2
  obtain⟨l1,x1,a1,b1⟩:=JP r1 v1 h1';obtain⟨l2,x2,a2,b2⟩:=JP r2 v2 h2';rw[getElem_toArray,getElem_toArray];have m1:ds.getD j .non∈ds:=by rw[getD_eq_getElem?_getD,getElem?_eq_getElem l1];exact getElem_mem l1
  have m2:es.getD j .non∈es:=by rw[getD_eq_getElem?_getD,getElem?_eq_getElem l2];exact getElem_mem l2
  exact eqAtD I m A.in1 _ _ x1 x2 _ _ (k1 _ m1) (k2 _ m2) a1 a2 b1 b2 (by show A.units+1+m<cLine;omega)
 rcases ze hd with fd|⟨m,ds,em,rfl,hds⟩|⟨m,ds,em,rfl,hds⟩
 ·have ex:=zR fd rd
  rcases ze he with fe|⟨m,es,em,rfl,hes⟩|⟨m,es,em,rfl,hes⟩
  ·rw[jt fd fe,<- zR fd rd,<- zR fe re]
   exact rcNe_V rx ry (by rw[zR fd rd];exact yH fd) (by rw[zR fe re];exact yH fe)
  ·obtain⟨b,ys,rfl,p1,p2⟩:=zY re
   cases ry;obtain⟨its,_,pl,_⟩:=I.tuple p1;rw[Gr fd];exact rn_ft fd rx ex pl hu0
  ·obtain⟨b,ys,rfl,p1,p2⟩:=zN re
   cases ry;obtain⟨its,_,pl,_⟩:=I.list p1;rw[Gs fd];exact rn_fl fd rx ex pl.isList hu0
 ·obtain⟨a,xs,rfl,q1,q2⟩:=zY rd
  cases rx;obtain⟨us,v1,pl1,_⟩:=I.tuple q1;rcases ze he with fe|⟨m',es,em',rfl,hes⟩|⟨m',es,em',rfl,hes⟩
  ·rw[Gu fe];exact rn_tf fe ry (zR fe re) pl1 hu0
  ·have:m=m':=by omega
   subst this;obtain⟨b,ys,rfl,p1,p2⟩:=zY re;cases ry;obtain⟨vs,v2,pl2,_⟩:=I.tuple p1;have q:=SeqAt.RcNeAt.tuples pl1 pl2 hu0 (item em hds hes q2 p2 v1 v2);simp only[deq];rw[jV];have l1:us.toArray.size=ds.length:=by rw[size_toArray,<- v1.length,q2.length]
   have l2:vs.toArray.size=es.length:=by rw[size_toArray,<- v2.length,p2.length]
   rw[l1,l2]at q;exact q
  ·obtain⟨b,ys,rfl,p1,p2⟩:=zN re
   cases ry;obtain⟨vs,v2,pl2,_⟩:=I.list p1;simp only[deq];exact SeqAt.RcNeAt.tuple_list pl1 pl2.isList hu0
 ·obtain⟨a,xs,rfl,q1,q2⟩:=zN rd
  cases rx;obtain⟨us,v1,pl1,_⟩:=I.list q1;rcases ze he with fe|⟨m',es,em',rfl,hes⟩|⟨m',es,em',rfl,hes⟩
  ·rw[Gv fe];exact rn_lf fe ry (zR fe re) pl1.isList hu0
  ·obtain⟨b,ys,rfl,p1,p2⟩:=zY re
   cases ry;obtain⟨vs,v2,pl2,_⟩:=I.tuple p1;simp only[deq];exact SeqAt.RcNeAt.list_tuple pl1.isList pl2 hu0
  ·have:m=m':=by omega
   subst this;obtain⟨b,ys,rfl,p1,p2⟩:=zN re;cases ry;obtain⟨vs,v2,pl2,_⟩:=I.list p1;have l1:us.toArray.size=ds.length:=by rw[size_toArray,<- v1.length,q2.length]
   have l2:vs.toArray.size=es.length:=by rw[size_toArray,<- v2.length,p2.length]
   simp only[deq];rw[jV];by_cases hl:ds.length=es.length
   ·have q:=SeqAt.RcNeAt.lists pl1.isList pl2.isList (by rw[l1,l2,hl]) hu0 (item em hds hes q2 p2 v1 v2)
    rw[l1]at q;rw[hl]at q ⊢;simpa using q
   ·have q:=SeqAt.RcNeAt.lists_lengths (A:=A) pl1.isList pl2.isList (by rw[l1,l2];simpa using hl) hu0
    have e:(ds.length==es.length)=false:=by simpa using hl
    rw[e,Bool.and_false];exact q
end
section
variable{X:Cx}{K:PySem.W.Frag}{mg:Str->Option Value}
def rEqD(K:PySem.W.Frag)(mg:Str->Option Value)(neg:Bool):R2:=λx y H Q=>∃d e,eqb 20 d=true/\eqb 20 e=true/\Rep K mg H d x/\Rep K mg H e y/\Q (.bl (if neg then !deq d e else deq d e)) H
def zBc(hu:X.A.units+20<cLine):OpR X (compareOp .Eq) (rEqD X.K X.mg false):=by
 intro pins s O H x y v u Q I rx ry h;obtain⟨d,e,h1,h2,r1,r2,q⟩:=h;exact rcAtD I 20 X.A d e x y v u h1 h2 r1 r2 rx ry hu X.prog X.w _ _ ⟨.bl (deq d e),H,I,rfl,q⟩
def zBd(hu:X.A.units+20<cLine):OpR X (compareOp .NotEq) (rEqD X.K X.mg true):=by
 intro pins s O H x y v u Q I rx ry h;obtain⟨d,e,h1,h2,r1,r2,q⟩:=h;exact rcNeD I 20 X.A d e x y v u h1 h2 r1 r2 rx ry hu X.prog X.w _ _ ⟨.bl (!deq d e),H,I,rfl,q⟩
def eqDD(neg:Bool)(d e:D):Option R:=if eqb 20 d=true/\eqb 20 e=true then some (.v (.bl (if neg then !deq d e else deq d e)))else none
def zBe{neg:Bool}:ROk K mg (rEqD K mg neg) (eqDD neg):=by
 intro M H Z x y d1 d2 res Q f r1 r2 e k;unfold eqDD at e;split at e
 ·rename_i hc
  cases e;exact⟨d1,d2,hc.1,hc.2,r1.mono zK,r2.mono zK,k.flat f rfl⟩
 ·cases e
end
end DV
namespace L2
open PySem PySem.Spec PyProof.Rows
section
variable{X:Cx}
def maxAt(ns:List Int):Int:=ns.getD (argBest (λi j=>decide (ns.getD i 0 > ns.getD j 0)) (ns.length-1)) 0
def uS(a:Int)(t:Tok)(l:Addr)(its:Array Value)(n:Nat)(dd:Option Addr)(sl:Array (Option Value)) :
  Meets (Builtin.«int.__rmul__» ⟨[.int a t,.ref l],[]⟩) (λ_ R s=>s.heap.get? l=some {cls:=.type "list",dict:=dd,data:=.seq its n,slots:=sl}/\R (.ok (.ret Value.notImplemented)) s) :=
 .of_wp λprog w A R s h=>by
  obtain⟨hp,g,d,tk,os⟩:=s;obtain⟨hl,h⟩:=h
  wp_walk
  exact⟨_,rfl,h⟩
def Gw(l:Addr)(its:Array Value)(n:Nat)(dd:Option Addr)(sl:Array (Option Value))(k:Int)(u:Tok)(h0:¬(!Builtin.List.listFitsIndex k)=true)(h1:¬its.size*k.toNat > (2^63-1)/8)(h2:¬Builtin.List.listTooLong (its.size*k.toNat)=true) :
  Meets (Builtin.«list.__mul__» ⟨[.ref l,.int k u],[]⟩) (λ_ R s=>s.heap.get? l=some {cls:=.type "list",dict:=dd,data:=.seq its n,slots:=sl} /\
   R (.ok (.ret (Value.ref s.heap.objs.size))) {s with heap:=s.heap.push {cls:=Value.type "list",data:=Data.seq (foldl (λa b=>a++b) #[] (replicate (if its.isEmpty=true then 0 else k.toNat) its))},toks:=s.toks}) :=
 .of_wp λprog w A R s h=>by
  obtain⟨hp,g,d,tk,os⟩:=s;obtain⟨hl,h⟩:=h;have fits:=AutoListH.joined_fits h2
  wp_walk
  refine wpAny_ite_false (decide_eq_false (not_lt.mpr fits)) ?_
  wp_walk
  exact⟨_,rfl,h⟩
def rRepL(K:PySem.W.Frag):R2:=λx y H Q=>∃l k xs,x=.ref l/\y=.int k/\SqL K H l xs/\-(2^63)<=k/\k<2^63/\xs.length*k.toNat<=sizeLine /\
 ∀p,H p=none->Q (.ref p) (upd H p (.l (replicate k.toNat xs).flatten))
def op_repL:OpR X (binaryOp .Mult) (rRepL X.K):=by
 intro pins s O H x y v u Q I rx ry h;obtain⟨l,k,xs,rfl,rfl,hH,h1,h2,hz,q⟩:=h;cases rx;obtain⟨t,rfl⟩:=ry;obtain⟨its,r,pl,_⟩:=I.list hH;have hl:=r.length;obtain⟨⟨cls,dd,data,sl⟩,n,ho,hc,hdd,hd⟩:=pl;simp only at hc hd;subst hc hd;have hlen:its.toArray.size*k.toNat<=sizeLine:=by rw[size_toArray,<- hl];exact hz
 have c1:¬its.toArray.size*k.toNat > (2^63-1)/8:=by
  have:(sizeLine:Nat)<=(2^63-1)/8:=by decide
  omega
 have c2:¬(!Builtin.List.listFitsIndex k)=true:=by rw[fitsIndex_both h1 h2];exact Bool.false_ne_true
 have c3:¬Builtin.List.listTooLong (its.toArray.size*k.toNat)=true:=by rw[Q0 hlen];exact Bool.false_ne_true
 have hnew:foldl (λa b=>a++b) #[] (replicate (if its.toArray.isEmpty=true then 0 else k.toNat) its.toArray)=(replicate k.toNat its).flatten.toArray:=by
  have f0:∀m:Nat,foldl (λa b=>a++b) #[] (replicate m its.toArray)=(replicate m its).flatten.toArray:=λm=>by
   have:=YI its m [];rw[nil_append]at this;exact this
  rw[f0];cases its with
  |nil=>simp|cons a r'=>rw[if_neg (by simp)]
 refine wpAny_binaryOp_repeat_ref (T:="list") (U:="int") (by decide) ⟨_,ho,rfl⟩ (λs'=>typeIs_int s' k t) noFill_list_mul F.fills_int_mul F.slot_int_rmul repeat_list F.slot_int_index.lookup
  (call_meets F.slot_int_rmul (typeIs_int s k t) F.entry_int_rmul (F.args_int_rmul_2 _ _) (uS k t l its.toArray n dd sl) ⟨ho,rfl,⟨_,ho,rfl⟩,?_⟩)
 refine call_meets F.slot_list_mul ⟨_,ho,rfl⟩ F.entry_list_mul (F.args_list_mul_2 _ _) (Gw l its.toArray n dd sl k t c2 c1 c3) ⟨ho,?_⟩;rw[hnew];exact⟨.ref _,_,I.lnew (t':=s.toks) (r.rep k.toNat) (by rw[W4,Nat.mul_comm];exact hz),rfl,q _ I.fresh⟩
def isV:V->V->Option Bool
 | .non,.non=>some true| .non,.bl _=>some false| .bl _,.non=>some false| .bl a,.bl b=>some (a==b)| .non,.int _=>some false| .int _,.non=>some false| .non,.str _=>some false| .str _,.non=>some false| .ref _,.non=>some false| .non,.ref _=>some false| .ref _,.bl _=>some false| .bl _,.ref _=>some false| .int _,.bl _=>some false| .bl _,.int _=>some false| .str _,.bl _=>some false| .bl _,.str _=>some false|_,_=>none
end
def evens{α:Type}:List α->List α
 | []=>[]| [a]=>[a]|a::_::r=>a::evens r
def Wa{α:Type}(k:Bool)(xs:List α):List α:=if k then evens xs else xs.reverse
theorem zg.evens:∀{xs:List V} {us:List Value},zg xs us->zg (evens xs) (L2.evens us)
 |_,_,.nil=>.nil|_,_,.cons a .nil=>.cons a .nil|_,_,.cons a (.cons b r)=>.cons a (zg.evens r)
def zg.rev{xs:List V}{us:List Value}(r:zg xs us):zg xs.reverse us.reverse:=by
 induction r with
 |nil=>exact .nil|cons a r ih=>rw[reverse_cons,reverse_cons];exact ih.append (.cons a .nil)
def zg.step(k:Bool){xs:List V}{us:List Value}(r:zg xs us):zg (Wa k xs) (Wa k us):=by
 cases k
 ·simp only[Wa,Bool.false_eq_true,if_false];exact r.rev
 ·simp only[Wa,if_true];exact r.evens
end L2
namespace DV
open PySem PySem.W PyProof.Rows
variable{κ:Nat->Int}
def ev(κ:Nat->Int){α:Type}:KasT α->α
 | .ret a=>a| .ask i j k=>ev κ (k (decide (κ i<κ j)))
def Kp(κ:Nat->Int)(p:Array Nat)(t:Nat):Int:=κ (p.getD t 0)
def getD_q(p:Array Nat)(t:Nat):p.getD t 0=(p[t]?).getD 0:=by simp
def Srt(κ:Nat->Int)(p:Array Nat)(m:Nat):Prop:=∀i,0<i->i<m->Kp κ p (i-1)<=Kp κ p i
def Dsc(κ:Nat->Int)(p:Array Nat)(m:Nat):Prop:=∀i,0<i->i<m->Kp κ p i<=Kp κ p (i-1)
theorem Srt.le{p:Array Nat}{m:Nat}(h:Srt κ p m):∀(d i:Nat),i+d<m->Kp κ p i<=Kp κ p (i+d)
 |0,i,_=>Int.le_refl _
 |d+1,i,hi=>by
  have h1:=Srt.le h d i (by omega);have h2:=h (i+(d+1)) (by omega) hi;rw[show i+(d+1)-1=i+d by omega]at h2;omega
def Srt.same{p q:Array Nat}{m:Nat}(h:Srt κ p m)(e:∀t,Kp κ q t=Kp κ p t):Srt κ q m:=λi h0 hi=>by rw[e,e];exact h i h0 hi
def Dsc.same{p q:Array Nat}{m:Nat}(h:Dsc κ p m)(e:∀t,Kp κ q t=Kp κ p t):Dsc κ q m:=λi h0 hi=>by rw[e,e];exact h i h0 hi
def zAa(p:Array Nat)(i j:Nat):(kas_rev p i j).Perm p:=mirror_perm _ _ _ _
def Bd(n:Nat)(p:Array Nat):Prop:=0<n/\∀x∈p,x<n
def Bd.at{n:Nat}{p:Array Nat}(h:Bd n p)(t:Nat):p.getD t 0<n:=by
 rw[getD_q];cases e:p[t]? with
 |none=>exact h.1|some x=>exact h.2 x (Array.mem_of_getElem? e)
def Bd.perm{n:Nat}{p q:Array Nat}(h:Bd n p)(e:q.Perm p):Bd n q:=⟨h.1,λx hx=>h.2 x (e.mem_iff.mp hx)⟩
def Bd.rev{n:Nat}{p:Array Nat}(h:Bd n p)(i j:Nat):Bd n (kas_rev p i j):=h.perm (zAa _ _ _)
end DV
namespace L2
open PySem PySem.Spec PyProof.Rows PySem.W
end L2
namespace DV
open PySem L2 PyProof.Rows PySem.W
def tlt:List D->List D->Option Bool
 | [],[]=>some false| [],_::_=>some true|_::_,[]=>some false
 |p::ps,q::qs=>if deq p q=true then tlt ps qs else match p,q with
  | .int i,.int j=>some (decide (i<j))|_,_=>none
def Gy:D->List D
 | .t es=>es|_=>[]
def ltAtD(ds:List D)(i j:Nat):Option Bool:=tlt (Gy (ds.getD i .non)) (Gy (ds.getD j .non))
def rkD(ds:List D)(i:Nat):Int:=(((List.range ds.length).filter λk=>ltAtD ds k i==some true).length:Nat)
structure SortOk(ds:List D):Prop where
 few:ds.length<64
 tups:∀d∈ds,∃es,d=.t es/\(∀e∈es,eqb 18 e=true)/\(2<=ds.length->∃i r,es=.int i::r)
 lt:∀i j,i<ds.length->j<ds.length->ltAtD ds i j=some (decide (rkD ds i<rkD ds j))
 one:∀i j,i<ds.length->j<ds.length->rkD ds i=rkD ds j->ds.getD i .non=ds.getD j .non
end DV
namespace L2
open PySem PySem.Spec PyProof.Rows
end L2
namespace DV
open PySem L2
section
variable{X:Cx}{K:PySem.W.Frag}{mg:Str->Option Value}
def eqG(d e:D):Option R:=match eqF d e with
 |some r=>some r|none=>eqDD false d e
def neG(d e:D):Option R:=match neF d e with
 |some r=>some r|none=>eqDD true d e
def zBf:ROk K mg (λx y H Q=>rEq x y H Q\/rEqD K mg false x y H Q) eqG:=by
 intro M H Z x y d1 d2 res Q f r1 r2 e k;unfold eqG at e;cases h:eqF d1 d2 with
 |some r=>rw[h]at e;cases e;exact .inl (ro_eq M H Z x y d1 d2 res Q f r1 r2 h k)|none=>rw[h]at e;exact .inr (zBe M H Z x y d1 d2 res Q f r1 r2 e k)
def zBg:ROk K mg (λx y H Q=>rNe x y H Q\/rEqD K mg true x y H Q) neG:=by
 intro M H Z x y d1 d2 res Q f r1 r2 e k;unfold neG at e;cases h:neF d1 d2 with
 |some r=>rw[h]at e;cases e;exact .inl (ro_ne M H Z x y d1 d2 res Q f r1 r2 h k)|none=>rw[h]at e;exact .inr (zBe M H Z x y d1 d2 res Q f r1 r2 e k)
def mulG(d e:D):Option R:=match zAH d e with
 |some r=>some r
 |none=>match d,e with
  | .l a,.int k=>if -(2^63)<=k/\k<2^63/\a.length*k.toNat<=cap then some (.own (replicate k.toNat a).flatten)else none|_,_=>none
def ro_mulG:ROk K mg (λx y H Q=>rMulD K x y H Q\/rRepL K x y H Q) mulG:=by
 intro M H Z x y d1 d2 res Q f r1 r2 e k;unfold mulG at e;cases h:zAH d1 d2 with
 |some r=>rw[h]at e;cases e;exact .inl (ro_mul M H Z x y d1 d2 res Q f r1 r2 h k)
 |none =>
  rw[h]at e;cases d1 with
  |l a =>
   cases d2 with
   |int n =>
    dsimp only at e;split at e
    ·rename_i hc
     cases e;obtain⟨p,xs,rfl,h1,h2⟩:=zN r1;rw[zM r2];exact .inr ⟨p,n,xs,rfl,rfl,zK.seq h1,hc.1,hc.2.1,by rw[h2.length];exact Jd hc.2.2,λq hq=>k.own f hq (h2.flatten _)⟩
    ·cases e
   |_=>cases e
  |_=>cases e
def vH:List D->Option (List Int)
 | []=>some []| .int i::ds=>(vH ds).map (i::·)|_::_=>none
theorem ZJ{H:Hp}:∀{ds:List D} {xs:List V} {ns:List Int},vH ds=some ns->Reps K mg H ds xs->xs=ns.map V.int
 | [],_,_,e,h=>by cases e;simp only[Reps]at h;subst h;rfl
 |d::ds,_,ns,e,h=>by
  simp only[Reps]at h;obtain⟨v,r,rfl,h1,h2⟩:=h;cases d with
  |int i =>
   simp only[vH]at e;cases eb:vH ds with
   |none=>rw[eb]at e;cases e
   |some cs =>
    rw[eb]at e;cases e;rw[zM h1,ZJ eb h2];rfl
  |_=>cases e
def maxG:List D->Option R
 | [.int i,.int j]=>maxD [.int i,.int j]
 | [.l ds]=>match vH ds with
  |some ns=>if 0<ns.length then some (.v (.int (maxAt ns)))else none|none=>none
 |_=>none
end
section
variable{X:Cx}{O:St}{H:Hp}
def eUn(f:D->Option R)(m:ME):ME:=λE=>match m E with
 | .z=>.z| .exc x E1=>.exc x E1
 | .ok (r,E1)=>match f r.d with
  |some r'=>.ok (r',E1)|none=>.z
def Gz{rel:V->Hp->VK->Prop}{f:D->Option R}{m:ME}{Q:VK}(hr:∀(M:Addr->Prop) (H:Hp) (Z:Fz) (x:V) (d:D) (res:R) (Q:VK),FR X.K X.mg M H Z->Rep X.K X.mg (Hm (Mo M Z) H) d x->f d=some res->Kt X.K X.mg M H Z res Q->rel x H Q)
  (h:tM X (eUn f m) O H Q):tM X m O H λx H1=>rel x H1 Q:=by
 obtain⟨M,E,hl,fr,k⟩:=h;unfold eUn at k;refine zd (T0:=[]) hl fr ?_;cases ea:m E with
 |z=>rw[ea]at k;exact k|exc x E1=>rw[ea]at k;exact k
 |ok p =>
  obtain⟨r,E1⟩:=p;rw[ea]at k;intro v H1 g;dsimp only at k;cases ef:f r.d with
  |none=>rw[ef]at k;exact k.elim
  |some res =>
   rw[ef]at k;exact hr M H1 _ v r.d res Q g.frame g.rep ef λv' H' f' s'=>k v' H' (g.more (T:=[(some v',res.slot)]) f' s')
theorem Reps.evens{K:PySem.W.Frag}{mg:Str->Option Value}{H:Hp}:∀{ds:List D} {xs:List V},Reps K mg H ds xs->Reps K mg H (L2.evens ds) (L2.evens xs)
 | [],_,h=>by simp only[Reps]at h;subst h;simp only[L2.evens];exact Reps.nil
 | [d],_,h=>by
  simp only[Reps]at h;obtain⟨v,r,rfl,h1,rfl⟩:=h;simp only[L2.evens];exact Reps.cons h1 Reps.nil
 |d::e::ds,_,h=>by
  simp only[Reps]at h;obtain⟨v,r,rfl,h1,v',r',rfl,h2,h3⟩:=h;simp only[L2.evens];exact Reps.cons h1 (Reps.evens h3)
theorem Reps.rev{K:PySem.W.Frag}{mg:Str->Option Value}{H:Hp}:∀{ds:List D} {xs:List V},Reps K mg H ds xs->Reps K mg H ds.reverse xs.reverse
 | [],_,h=>by simp only[Reps]at h;subst h;exact Reps.nil
 |d::ds,_,h=>by
  simp only[Reps]at h;obtain⟨v,r,rfl,h1,h2⟩:=h;rw[reverse_cons,reverse_cons];exact(Reps.rev h2).append (Reps.cons h1 Reps.nil)
def Reps.step{K:PySem.W.Frag}{mg:Str->Option Value}{H:Hp}(k:Bool){ds:List D}{xs:List V}(h:Reps K mg H ds xs):Reps K mg H (Wa k ds) (Wa k xs):=by
 cases k
 ·simp only[Wa,Bool.false_eq_true,if_false];exact h.rev
 ·simp only[Wa,if_true];exact h.evens
def sPar(i j:Nat)(m:MA):MS:=λE=>match m E with
 | .z=>.z| .exc x E1=>.exc x E1
 | .ok ([r1,r2],E1)=>match gNs [i,j] [r1.d,r2.d] E1 with
  | .ok E2=>.ok (.nx,E2)|_=>.z
 |_=>.z
def zAb{i j:Nat}{m:MA}{D:Ends}(h:tS X (sPar i j m) D O H):tPar i j (tMA X m) D O H:=by
 obtain⟨M,E,hl,fr,k⟩:=h;unfold sPar at k;refine YL (T0:=[]) hl fr ?_;cases ea:m E with
 |z=>rw[ea]at k;exact k|exc x E1=>rw[ea]at k;exact λH' g=>k O H' g
 |ok p =>
  obtain⟨rs,E1⟩:=p;rw[ea]at k
  match rs,k with
  | [r1,r2],k =>
   intro vs H1 hv g;dsimp only at k;cases eg:gNs [i,j] [r1.d,r2.d] E1 with
   |z=>rw[eg]at k;exact k.elim|exc _ _=>rw[eg]at k;exact k.elim
   |ok E2 =>
    rw[eg]at k
    match vs,hv with
    | [v,w],_ =>
     have rp:=Got.reps rfl g;have g0:=g.dropAll;have q:=YO (X:=X) [i,j] [r1.d,r2.d] [v,w] (a:=0) (ts:=[]) (Q:=D.nx) (Got.refl (T0:=[]) g0.len g0.fr) rp eg λO' g'=>k O' H1 (g0.trans' g')
     obtain⟨v1,rr,e1,v2,rr2,e2,e3,q⟩:=q;cases e1;cases e2;exact⟨v,w,rfl,q⟩
  | [],k=>exact k.elim| [_],k=>exact k.elim|_::_::_::_,k=>exact k.elim
def sk_any{st:Stmt}:SOk X st (λ_=>.z):=jc Qp λD O H ⟨M,E,hl,fr,k⟩=>k
end
section
variable{X:Cx}{pins:List (Addr×Obj)}{O:L2.St}{H:Hp}{s:Shared}
def G0(I:Inv X pins O H s){a:Addr}(h:s.heap.get? a=none):H a=none:=by
 cases q:H a with
 |none=>rfl|some o=>obtain⟨u,e⟩:=vZ (I.hok a o q);rw[h]at e;cases e
def sRaise(c:Str):MS:=λE=>.exc ⟨c,true⟩ E
def zAc{c:Str}{C:Addr}{np cpos pos:Pos}(hc:X.calm=true)(hg:Gl X c)(hm:X.mg c=some (.ref C))(q:excIn X.K C VB "ValueError.__new__"=true)(hd:(c==("__debug__":Str))=false):SOk X (.Raise (some (.Call (.Name c np) [] [] cpos)) none pos) (sRaise c):=by
 intro pins s O H D I ⟨M,E,hl,fr,k⟩;have k':XE X O H ⟨c,true⟩:=k O H (Got.refl (T0:=[]) hl fr);obtain⟨bm,N,nm,qn,bs,hdct,sn,sub,ab,col,dd,k0,k1,k2,k3,k5,mN,hC,hN,hni,T⟩:=own_at I.kIn q;refine wpAny_Raise_call_subT (nm:=nm) (q:=qn) (C:=C) (N:=N) (bs:=bs) (bm:=bm) (hdct:=hdct) (sn:=sn) (sub:=sub) (ab:=ab) (col:=col) (dd:=dd) (k0:=k0) (k1:=k1) (k2:=k2) (k3:=k3) (k5:=k5) PySem.F.excBase_ValueError (T.hasType (by decide +kernel)) (I.ok.hd hc) rfl hni (ZW I hg hm ⟨rfl,?_⟩ hd);refine wpAny_pure ⟨rfl,zero_le _,hC,hN,T,λh' e hx=>?_⟩;refine k' pins _ _ (I.kept hx.keeps) ⟨e,C,rfl,hm,G0 I hx.new,.inl ⟨rfl,s,I,rfl,hx⟩⟩
def G2{A:Around}{M:Model}{E:Value->Shared->Prop}{i:Nat}{x:Str}{v:V}{Q:Unit->Shared->Prop}(I:Inv X pins O H s)(hN:X.N.Nodup)(hi:X.N[i]?=some x)(hx:X.env.scope.names.lookup x=some .local)(hv:O[i]?=some (some v))
  (h:∀s',Inv X pins (O.set i none) H s'->Q () s'):wpAny M A (unbindName X.env x) Q E s:=by
 obtain⟨m,hn,hl⟩:=id I.loc;have hcls:(X.env.scope.kind==.class||(X.env.scope.kind==.module&&X.env.locals != X.env.globals))=false:=by rw[I.ok.kind];rfl
 obtain⟨u,_,lk⟩:=hl i x v hi hv (.inl hx);have hm:m x=some u:=by
  rcases lk with⟨_,e⟩|⟨z,_⟩
  ·exact e
  ·have z':X.env.scope.names.lookup x=some .cell\/X.env.scope.names.lookup x=some .free:=z
   rcases z' with z'|z'<;>(rw[hx]at z';cases z')
 refine wpAny_unbindName_local hx hn hm hcls λh' u' hn' hs=>?_
 obtain⟨oL,_,_,hoL,_⟩:=id hn;have keep:∀b,b≠X.env.locals->h'.get? b=s.heap.get? b:=λb hb=>hs.2 b hb
 have neL:∀b o,X.s₀.heap.get? b=some o->b≠X.env.locals:=λb o e=>ne_of_lt (lt_of_lt_of_le (lt_size e) I.ok.above)
 refine h _ ⟨I.ok,I.os,I.bare,⟨λb o e n hb hx=>(keep b (neL b o e)).trans (I.base.keep b o e n hb hx),λb o e n hb hx=>?_,I.base.free,λb o e hx=>?_,I.base.tups,I.base.frzs,I.base.tbls⟩,⟨_,hn',λj y v' e1 e2 e3=>?_⟩,λy c e=>?_,I.free,I.freeC,λp hp=>?_,λb o e=>?_,by simpa using I.len⟩
 ·obtain⟨sl,q⟩:=I.base.slot b o e n hb hx
  exact⟨sl,(keep b (neL b o e)).trans q⟩
 ·obtain⟨o',q⟩:=I.base.there b o e hx
  exact⟨o',(keep b (neL b o e)).trans q⟩
 ·have hiO:i<O.length:=(List.getElem?_eq_some_iff.mp hv).1
  have hj:j≠i:=λz=>by
   subst z;rw[getElem?_set_self hiO]at e2;cases e2
  rw[getElem?_set_ne (Ne.symm hj)]at e2;obtain⟨u2,r2,q⟩:=hl j y v' e1 e2 e3;refine⟨u2,r2,?_⟩;rcases q with⟨k,e⟩|⟨k,c,e,z⟩
  ·have ny:y≠x:=λe=>hj (ZV hN e1 (e▸hi))
   exact .inl ⟨k,by simp[ny,e]⟩
  ·exact .inr ⟨k,c,e,z.sameBut hs (I.cne y c e)⟩
 ·obtain⟨w',z⟩:=I.cell y c e
  exact⟨w',z.sameBut hs (I.cne y c e)⟩
 ·obtain⟨e,n,ne,nf,d⟩:=I.pin p hp
  exact⟨(keep p.1 ne).trans e,n,ne,nf,d⟩
 ·refine(I.hok b o e).stay (λc w' hc q=>(keep c λz=>?_).trans q) (λ_ q=>q) λ_ _ q=>q
  subst z;rcases hc with rfl|hc
  ·rw[I.free]at e;cases e
  ·rw[I.free]at hc;cases hc
def G3{sc:Shared}{Hc:Hp}{B:Heap}{a C:Addr}{t:Value}{h6:Heap}(I:Inv X pins O H s)(Ic:Inv X pins O Hc sc)(un:Un (frs X.stack) [] Hc H sc.heap s.heap)(fl:Heap.FlyingW B X.stack a (.ref C) t s.heap)(kb:Qh B H sc.heap (frs X.stack) s.heap)(hn:H a=none)
  (fl6:Heap.FlyingW B X.stack a (.ref C) t h6) (sl:s.heap.UpToSlots h6):Inv X pins O (upd H a (ExO C a)) {s with heap:=h6}:=by
 obtain⟨oe,vs,he,hec,hed,_⟩:=fl.first;have naf:a∉frs X.stack:=λz=>by
  obtain⟨_,o,q,nd⟩:=I.stack.mem z;rw[he]at q;cases q;exact nd vs hed
 have nac:sc.heap.get? a=none:=by
  cases q:sc.heap.get? a with
  |none=>rfl
  |some o =>
   have:=kb a oe he (.inl ⟨o,q⟩) naf;rw[fl.2.1]at this;cases this
 have kb':Qh B H sc.heap (a::frs X.stack) s.heap:=λb o e z nf=>kb b o e z λq=>nf (mem_cons_of_mem _ q)
 have hN:∀b∈a::frs X.stack,H b=none:=λb hb=>by
  rcases mem_cons.mp hb with rfl|hb
  ·exact hn
  ·exact I.stkFree b hb
 have hfs:∀b∈frs X.stack,∀o,s.heap.get? b=some o->∃sl,h6.get? b=some {o with slots:=sl}:=λb hb o e=>by
  obtain⟨_,o',q,nd⟩:=I.stack.mem hb;rw[e]at q;cases q;exact sl b o e nd
 have u6:=un_on un I.hok kb' fl6.1 nac hfs;have ok6:HOk X.prog X.w H h6:=GH I.hok kb' fl6.1 hN;obtain⟨o6,e6,c6⟩:=fl6.there;have ne:∀{b:Addr} {o:HO},H b=some o->b≠a:=λ{b o} e z=>by subst z;rw[hn]at e;cases e
 refine Ic.call' (s':={s with heap:=h6}) (ch:=[]) (I.os.trans Ic.os.symm) ?_ (λb o e=>?_) I.bare (λb z=>absurd z (by simp))
 ·exact⟨u6.keep,u6.slot,λb o e n hx=>by
   have:b≠a:=λz=>by subst z;rw[nac]at e;cases e
   rw[zr this];exact u6.free b o e n hx,u6.there,λb xs e=>by have q:=u6.tups b xs e;rw[zr (ne q)];exact q,λb o u e=>by have q:=u6.frzs b o u e;rw[zr (ne q)];exact q,λb ps e=>by obtain⟨m,q⟩:=u6.tbls b ps e;exact⟨m,by rw[zr (ne q)];exact q⟩⟩
 ·by_cases hb:b=a
  ·subst hb
   rw[yc]at e;cases e;exact GG e6 c6
  ·rw[zr hb]at e
   exact(ok6 b o e).stay (λc w' _ q=>q) (λc q=>by rw[zr (ne q)];exact q) λc xs q=>by rw[zr (ne q)];exact q
abbrev trX(X:Cx)(pn:List (Addr×Obj))(E:Value->Shared->Prop):Cx:={X with pn:=pn,xe:=E}
abbrev hdX(X:Cx)(a:Addr):Cx:={X with A:=X.A.mark (some (.ref a)),calm:=false,xe:=λ_ _=>False}
def inv_tr(I:Inv X pins O H s)(E:Value->Shared->Prop):Inv (trX X (X.pn++pins) E) [] O H s :=
 ⟨⟨I.ok.mod,I.ok.kind,I.ok.glob,I.ok.blt,I.ok.above,I.ok.inj,I.ok.has,I.ok.cab,I.ok.hd,I.ok.frames,I.ok.stk,I.ok.exf,I.ok.bs,I.ok.bsz,I.ok.noex,I.ok.exfs,I.ok.funs,I.ok.frf⟩,I.os,I.bare,I.base,I.loc,I.cell,I.free,I.freeC,λp hp=>I.pin p (by simpa using hp),I.hok,I.len⟩
def ju{pins':List (Addr×Obj)}{E:Value->Shared->Prop}(I:Inv (trX X (X.pn++pins) E) pins' O H s):Inv X pins O H s :=
 ⟨⟨I.ok.mod,I.ok.kind,I.ok.glob,I.ok.blt,I.ok.above,I.ok.inj,I.ok.has,I.ok.cab,I.ok.hd,I.ok.frames,I.ok.stk,I.ok.exf,I.ok.bs,I.ok.bsz,I.ok.noex,I.ok.exfs,I.ok.funs,I.ok.frf⟩,I.os,I.bare,I.base,I.loc,I.cell,I.free,I.freeC,λp hp=>I.pin p (mem_append_left _ hp),I.hok,I.len⟩
def Zl{pins':List (Addr×Obj)}{E:Value->Shared->Prop}{D:Ends}{f:Flow}{s':Shared}(h:SP (trX X (X.pn++pins) E) pins' D f s'):SP X pins D f s':=by
 cases f with
 |next=>obtain⟨O',H',I,q⟩:=h;exact⟨O',H',ju I,q⟩|brk=>obtain⟨O',H',I,q⟩:=h;exact⟨O',H',ju I,q⟩|cont=>obtain⟨O',H',I,q⟩:=h;exact⟨O',H',ju I,q⟩|ret u=>obtain⟨v,O',H',I,r,q⟩:=h;exact⟨v,O',H',ju I,r,q⟩
def zBh(I:Inv X pins O H s)(a:Addr):Inv (hdX X a) pins O H s:=JJ I _ false _ (λz=>by cases z) I.ok.frames
def zAd{a:Addr}(I:Inv (hdX X a) pins O H s)(hd:X.calm=true->X.A.handled=none):Inv X pins O H s :=
 ⟨⟨I.ok.mod,I.ok.kind,I.ok.glob,I.ok.blt,I.ok.above,I.ok.inj,I.ok.has,I.ok.cab,hd,I.ok.frames,I.ok.stk,I.ok.exf,I.ok.bs,I.ok.bsz,I.ok.noex,I.ok.exfs,I.ok.funs,I.ok.frf⟩,I.os,I.bare,I.base,I.loc,I.cell,I.free,I.freeC,I.pin,I.hok,I.len⟩
def sTry(cl:List Str)(i:Nat)(b h:MS):MS:=λE=>match b E with
 | .exc x E1=>if(!x.made&&cl.contains x.cls)=true then(match JM i (.v (.exn x.cls)) E1 with
   | .ok E2=>(match h E2 with
    | .ok (.ret r,E3)=>.ok (.ret r,E3)|_=>.z)
   |_=>.z)else .z
 |o=>o
def sk_try{body suite:List Stmt}{b0:Stmt}{n t:Str}{i:Nat}{T:Addr}{np hp pos:Pos}{mb mh:MS}{cl:List Str}(hst:X.stack=X.env::X.outer/\X.env.frame=some X.env.locals)(hN:X.N.Nodup)(hi:X.N[i]?=some n)(hx:X.env.scope.names.lookup n=some .local)
  (hg:Gl X t) (hd:(t==("__debug__":Str))=false) (hm:X.mg t=some (.ref T)) (hT:TCls X.K T) (hcl:∀c∈cl,∃C,X.mg c=some (.ref C)/\XCls X.K c C T)
  (hb:∀pn E,uc (trX X pn E) body mb) (hh:∀a,uc (hdX X a) (b0::suite) mh) :
  SOk X (.Try body [.ExceptHandler (some (.Name t np)) (some n) (b0::suite) hp] [] [] pos) (sTry cl i mb mh):=by
 intro pins s O H D I ⟨M,E,hl,fr,k⟩;rw[arm_exec_Try];refine wpAny_bind (wpAny_standAt (wpAny_tryStmt_except ?_));unfold sTry at k;refine wpAny_mono (hb (X.pn++pins) _ [] s O H D (inv_tr I _) ⟨M,E,hl,fr,?_⟩) (λf s1 q=>?_) λ_ _ z=>z
 ·cases eb:mb E with
  |z=>rw[eb]at k;exact k
  |ok p =>
   rw[eb]at k;obtain⟨fl,E1⟩:=p;cases fl<;>exact k
  |exc x E1 =>
   rw[eb]at k;dsimp only at k;intro O1 H1 g;intro pins' s1 e I1 ⟨a,C,he,hmx,hn,rel⟩;subst he;cases hq:(!x.made&&cl.contains x.cls)with
   |false=>rw[hq]at k;exact k.elim
   |true =>
   rw[hq]at k;simp only[Bool.and_eq_true,Bool.not_eq_true']at hq;obtain⟨hmd,hin⟩:=hq;rcases rel with⟨z,_⟩|⟨_,sc,Hc,Ic,un,B,tt,fl,kb⟩
   ·rw[hmd]at z;cases z
   obtain⟨C',hmc,FC⟩:=hcl x.cls (by simpa using hin);have ec:C=C':=by
    have z:X.mg x.cls=some (.ref C):=hmx;rw[hmc]at z;cases z;rfl
   subst ec;have J1:Inv X pins O1 H1 s1:=ju I1;have Jc:Inv X pins O1 Hc sc:=ju Ic;have hfr:X.A.frames=some (X.env::X.outer):=by rw[<- hst.1];exact J1.ok.frames
   have fl':Heap.FlyingW B (X.env::X.outer) a (.ref C) (.ref tt) s1.heap:=by rw[<- hst.1];exact fl
   refine wpAny_looks_onW hfr hst.2 fl' λh4 held sl4=>?_
   refine wpAny_landsW held λh5 fl5 sl5=>?_
   have fl5':Heap.FlyingW B X.stack a (.ref C) (.ref tt) h5:=by rw[hst.1];exact fl5
   have J5:=G3 J1 Jc un fl kb hn fl5' (sl4.trans sl5);obtain⟨o5,e5,c5⟩:=fl5.there;refine wpAny_handleBy_cons (codeAny_handlers_test ?_) (by intro z;cases z);refine ZW (X:=hdX X a) (zBh J5 a) hg hm ?_ hd;refine W7 FC hT J5.kIn e5 c5 ?_;refine codeAny_handlers_suite_as ?_;refine PyProof.Rows.lands_againW fl5 λh6 fl6 sl6=>?_
   have fl6':Heap.FlyingW B X.stack a (.ref C) (.ref tt) h6:=by rw[hst.1];exact fl6
   have J6:=G3 J1 Jc un fl kb hn fl6' ((sl4.trans sl5).trans sl6);have g2:Got X.K X.mg M O E H [] O1 E1 (upd H1 a (ExO C a)) [(some (.ref a),R.slot (.v (.exn x.cls)))]:=by
    refine g.more (T:=[(some (.ref a),.v (.exn x.cls))]) ((g.frame.grow hn).add ?_) (Step.newVal hn);simp only[Rep];exact⟨a,C,rfl,hmx,zJ.mpr ⟨wm g.frame hn,yc⟩⟩
   cases ep:JM i (.v (.exn x.cls)) E1 with
   |z=>rw[ep]at k;exact k.elim|exc _ _=>rw[ep]at k;exact k.elim
   |ok E2 =>
   rw[ep]at k;dsimp only at k;have g3:=JN g2 ep;refine jp (i:=i) (v:=.ref a) J6 hN hi (.inl hx) rfl (λs7 J7=>?_) (.inr hx);refine wpAny_mono (hh a pins s7 (O1.set i (some (.ref a))) (upd H1 a (ExO C a)) {D with nx:=λ_ _=>False,bk:=λ_ _=>False,ct:=λ_ _=>False} (zBh J7 a) (WU (T0:=[]) g3.len g3.fr ?_)) (λf s8 q=>?_) λ_ _ z=>z.elim
   ·cases eh:mh E2 with
    |z=>rw[eh]at k;exact k.elim|exc _ _=>rw[eh]at k;exact k.elim
    |ok p =>
     obtain⟨fl,E3⟩:=p;rw[eh]at k;cases fl with
     |nx=>exact k.elim|bk=>exact k.elim|ct=>exact k.elim|ret r=>exact λv O' H' g4=>k v O' H' (g3.trans' g4)
   ·cases f with
    |next=>obtain⟨_,_,_,z⟩:=q;exact z.elim|brk=>obtain⟨_,_,_,z⟩:=q;exact z.elim|cont=>obtain⟨_,_,_,z⟩:=q;exact z.elim
    |ret u =>
     obtain⟨v,O3,H3,J8,ru,dr⟩:=q;have J8':=zAd J8 I.ok.hd;refine wpAny_bind (wpAny_bindName (jp (i:=i) (v:=.non) J8' hN hi (.inl hx) rfl (λs9 J9=>?_) (.inr hx)));unfold unbindBehindTheSuite;refine wpAny_onRaise ?_;refine G2 (v:=.non) J9 hN hi hx ?_ λs10 J10=>⟨v,_,H3,J10,ru,dr⟩
     have:i<O3.length:=by rw[J8.len];exact(List.getElem?_eq_some_iff.mp hi).1
     rw[getElem?_set_self this]
 ·cases f with
  |next=>exact wpAny_execs_nil (Zl q)|brk=>exact Zl q|cont=>exact Zl q|ret u=>exact Zl q
end
section
variable{X:Cx}{O:L2.St}{H:Hp}
def vj{cl:List Str}{v:V}{cv:Value}{b:Str->Bool}(rv:∀u,zy v u->u=cv)(hk:∀c∈cl,∃C T,X.mg c=some (.ref C)/\XCls X.K c C T/\kitOne X.K (.ref C) cv=some (b c)) :
  jQ X (.builtin "isinstance") (λxs H Q=>∃x c,xs=[x,v]/\Rep X.K X.mg H (.exn c) x/\c∈cl/\Q (.bl (b c)) H):=by
 intro pins s O H xs us Q I r h;obtain⟨x,c,rfl,rd,hc,q⟩:=h;obtain⟨u,w',rfl,rx,ry⟩:=vals2 r;obtain rfl:=rv w' ry;simp only[Rep]at rd;obtain⟨a,C,rfl,hm,ha⟩:=rd;obtain⟨C',T,hm',F,kq⟩:=hk c hc;rw[hm]at hm';cases hm';cases (show u=Value.ref a from rx);obtain⟨φ,_,_⟩:=(show jK X.prog X.w H s.heap a (ExO C a)from I.hok a _ ha);exact kia_one (kit_exc F) I.kIn φ kq (λz=>nomatch z) λtk=>⟨.bl _,H,I.tok tk,rfl,q⟩
def eIsX(cl:List Str)(b:Str->Bool)(m:ME):ME:=λE=>match m E with
 | .z=>.z| .exc x E1=>.exc x E1| .ok (.v (.exn c),E1)=>if cl.contains c=true then .ok (.v (.bl (b c)),E1)else .z|_=>.z
def G4{cl:List Str}{v:V}{b:Str->Bool}{m:ME}{Q:VK}(h:tM X (eIsX cl b m) O H Q):tM X m O H λx H1=>∃y c,[x,v]=[y,v]/\Rep X.K X.mg H1 (.exn c) y/\c∈cl/\Q (.bl (b c)) H1:=by
 obtain⟨M,E,hl,fr,k⟩:=h;unfold eIsX at k;refine zd (T0:=[]) hl fr ?_;cases ea:m E with
 |z=>rw[ea]at k;exact k|exc x E1=>rw[ea]at k;exact k
 |ok pr =>
  obtain⟨r,E1⟩:=pr;rw[ea]at k;cases r with
  |own ds=>exact k.elim
  |v d =>
   cases d with
   |exn c =>
    dsimp only at k;intro v H' g;cases hc:cl.contains c with
    |false=>rw[hc]at k;exact k.elim
    |true =>
     rw[hc]at k;exact⟨v,c,rfl,g.rep.mono zK,by simpa using hc,k _ H' (g.flat (d:=.bl (b c)) rfl)⟩
   |_=>exact k.elim
def ok_isC{cl:List Str}{y:Str}{Y T:Addr}{a:Expr}{m:ME}{p p1 pos:Pos}(hcl:∀c∈cl,∃C,X.mg c=some (.ref C)/\XCls X.K c C T)(hy:X.mg y=some (.ref Y))(FY:XCls X.K y Y T)(hYT:Y≠T)(hg:Gl X "isinstance")(hm:X.mg "isinstance"=none)
  (hgY:Gl X y) (ha:EOk X a m) (hv:bootBuiltins "isinstance"=some (.builtin "isinstance")) (hd:(y==("__debug__":Str))=false) (he:zL a=false) :
  EOk X (.Call (.Name "isinstance" p) [a,.Name y p1] [] pos) (eIsX cl (·==y) m) :=
 zc (wg (vj (cl:=cl) (v:=.ref Y) (cv:=.ref Y) (b:=(·==y)) (λu h=>h) λc hc=>by
  obtain⟨C,h1,h2⟩:=hcl c hc;exact⟨C,T,h1,h2,kit_own h2 FY hYT λe=>by subst e;rw[h1]at hy;cases hy;rfl⟩) hg hm hv (yK ha (yK (uj (v:=.ref Y) hgY hy rfl hd) jg (zF rfl)) (zF he)) (by decide) (by decide) (zF he) (yy rfl)) λO H Q h=>G4 h
def ok_isV{cl:List Str}{T:Addr}{a:Expr}{m:ME}{p p1 pos:Pos}(hcl:∀c∈cl,∃C,X.mg c=some (.ref C)/\XCls X.K c C T)(hg:Gl X "isinstance")(hm:X.mg "isinstance"=none)
  (hgV:Gl X "ValueError") (hmV:X.mg "ValueError"=none) (hvV:bootBuiltins "ValueError"=some (.type "ValueError")) (ha:EOk X a m) (hv:bootBuiltins "isinstance"=some (.builtin "isinstance")) (he:zL a=false) :
  EOk X (.Call (.Name "isinstance" p) [a,.Name "ValueError" p1] [] pos) (eIsX cl (λ_=>true) m) :=
 zc (wg (vj (cl:=cl) (v:=.ty "ValueError") (cv:=.type "ValueError") (b:=λ_=>true) (λu h=>h) λc hc=>by
  obtain⟨C,h1,h2⟩:=hcl c hc;exact⟨C,T,h1,h2,kit_val h2⟩) hg hm hv (yK ha (yK (uk (v:=.ty "ValueError") hgV hmV hvV rfl (by decide) (by decide)) jg (zF rfl)) (zF he)) (by decide) (by decide) (zF he) (yy rfl)) λO H Q h=>G4 h
end
section
variable{X:Cx}{O:L2.St}{H:Hp}
def Wb(k:Bool):Value->Bool
 | .bool b=>b==k|_=>false
def zBi(k:Int):Value->Bool
 | .int b _=>b==k|_=>false
theorem JQ:∀{bs:List Bool} {us:List Value},zg (bs.map V.bl) us->us=bs.map Value.bool
 | [],_,.nil=>rfl
 |b::bs,_,.cons r t=>by
  cases (show _=Value.bool b from r);rw[JQ t];rfl
theorem wy:∀{ns:List Int} {us:List Value},zg (ns.map V.int) us->∀u∈us,∃i t,u=.int i t
 | [],_,.nil,_,h=>by cases h
 |n::ns,_,.cons r t,u,h=>by
  rcases mem_cons.mp h with rfl|h
  ·obtain⟨tk,e⟩:=r;exact⟨n,tk,e⟩
  ·exact wy t u h
theorem jj(k:Int):∀{ns:List Int} {us:List Value},zg (ns.map V.int) us->us.countP (zBi k)=ns.count k
 | [],_,.nil=>rfl
 |n::ns,_,.cons r t=>by
  obtain⟨tk,e⟩:=r;subst e;rw[List.countP_cons,List.count_cons,jj k t];rfl
def zAe:MtM X "list.count" (λx vs H Q=>∃l,x=.ref l/\((∃(bs:List Bool) (k:Bool),vs=[.bl k]/\SqL X.K H l (bs.map V.bl)/\Q (.int (bs.count k:Nat)) H)\/(∃(ns:List Int) (k:Int),vs=[.int k]/\SqL X.K H l (ns.map V.int)/\Q (.int (ns.count k:Nat)) H))):=by
 intro pins s O H x vs v us Q I rx rv h;obtain⟨l,rfl,h⟩:=h;cases rx;rcases h with⟨bs,k,rfl,hs,q⟩|⟨ns,k,rfl,hs,q⟩
 ·obtain⟨u,rfl,ru⟩:=rv.one
  cases (show u=Value.bool k from ru);obtain⟨its,r,p,_⟩:=I.list hs;obtain⟨⟨c0,dd,dt,sl⟩,n,e,ec,ed,es⟩:=p;dsimp only at ec ed es;subst ec ed es;have hb:=JQ r;subst hb;refine call_meets PySem.F.slot_list_count ⟨_,e,rfl⟩ PySem.F.entry_list_count (PySem.F.args_list_count_2 _ _) (SeqAt.list_countAt l _ n none sl (.bool k) (Wb k)) ⟨e,λy hy=>?_,?_⟩
  ·have hy':y∈bs.map Value.bool:=by simpa using hy
   obtain⟨b,_,rfl⟩:=mem_map.mp hy';exact SeqAt.EqAt.bool_bool b k
  ·have:(bs.map Value.bool).countP (Wb k)=bs.count k:=by rw[List.countP_map,List.count];rfl
   rw[show(bs.map Value.bool).toArray.toList=bs.map Value.bool from rfl,this];exact⟨.int _,H,I.tok _,⟨_,rfl⟩,q⟩
 ·obtain⟨u,rfl,ru⟩:=rv.one
  obtain⟨tk,eu⟩:=(show ∃t,u=Value.int k t from ru);subst eu;obtain⟨its,r,p,_⟩:=I.list hs;obtain⟨⟨c0,dd,dt,sl⟩,n,e,ec,ed,es⟩:=p;dsimp only at ec ed es;subst ec ed es;refine call_meets PySem.F.slot_list_count ⟨_,e,rfl⟩ PySem.F.entry_list_count (PySem.F.args_list_count_2 _ _) (SeqAt.list_countAt l _ n none sl (.int k tk) (zBi k)) ⟨e,λy hy=>?_,?_⟩
  ·obtain⟨i,t,rfl⟩:=wy r y (by simpa using hy)
   exact SeqAt.EqAt.int_int i t k tk
  ·rw[show its.toArray.toList=its from rfl,jj k r]
   exact⟨.int _,H,I.tok _,⟨_,rfl⟩,q⟩
def zAf:MtM X "list.index" (λx vs H Q=>∃l,x=.ref l/\∃(bs:List Bool) (k:Bool) (j:Nat),vs=[.bl k]/\SqL X.K H l (bs.map V.bl)/\bs.findIdx? (·==k)=some j/\j<1000000/\Q (.int (j:Nat)) H):=by
 intro pins s O H x vs v us Q I rx rv h;obtain⟨l,rfl,bs,k,j,rfl,hs,hj,hj2,q⟩:=h;cases rx;obtain⟨u,rfl,ru⟩:=rv.one;cases (show u=Value.bool k from ru);obtain⟨its,r,p,_⟩:=I.list hs;obtain⟨⟨c0,dd,dt,sl⟩,n,e,ec,ed,es⟩:=p;dsimp only at ec ed es;subst ec ed es;have hb:=JQ r;subst hb;obtain⟨h1,h2,h3⟩:=List.findIdx?_eq_some_iff_getElem.mp hj;refine call_meets PySem.F.slot_list_index ⟨_,e,rfl⟩ PySem.F.entry_list_index (PySem.F.args_list_index_2 _ _) (SeqAt.list_indexAt l _ n none sl (.bool k) (Wb k) j (by simpa using h1) (by omega) ?_ ?_) ⟨e,λy hy=>?_,⟨.int _,H,I.tok _,⟨_,rfl⟩,q⟩⟩
 ·simpa[Wb]using h2
 ·intro m hm hlt
  have:=h3 m hlt;simpa[Wb]using this
 ·have hy':y∈bs.map Value.bool:=by simpa using hy
  obtain⟨b,_,rfl⟩:=mem_map.mp hy';exact SeqAt.EqAt.bool_bool b k
def eMet(f:D->D->Option R)(a b:ME):ME:=λE=>match a E with
 | .z=>.z| .exc x E1=>.exc x E1
 | .ok (r1,E1)=>match r1.d with
  | .l _=>(match b E1 with
   | .z=>.z| .exc x E2=>.exc x E2
   | .ok (r2,E2)=>match f r1.d r2.d with
    |some r=>.ok (r,E2)|none=>.z)
  |_=>.z
def cntD:D->D->Option R
 | .l ds,.bl k=>(yk ds).map λbs=>.v (.int (bs.count k:Nat))| .l ds,.int k=>(vH ds).map λns=>.v (.int (ns.count k:Nat))|_,_=>none
def idxD:D->D->Option R
 | .l ds,.bl k=>(yk ds).bind λbs=>match bs.findIdx? (·==k)with
  |some j=>if j<1000000 then some (.v (.int (j:Nat)))else none|none=>none
 |_,_=>none
def G5{f:D->D->Option R}{rel:V->List V->Hp->VK->Prop}{a b:ME}{Q:VK}(hr:ROk X.K X.mg (λx y H Q=>rel x [y] H Q) f)(h:tM X (eMet f a b) O H Q):tBM X.K "list" rel (tM X a) (W2 (tM X b) tNil) O H Q:=by
 obtain⟨M,E,hl,fr,k⟩:=h;unfold eMet at k;refine zd (T0:=[]) hl fr ?_;cases ea:a E with
 |z=>rw[ea]at k;exact k|exc x E1=>rw[ea]at k;exact k
 |ok p =>
  obtain⟨r1,E1⟩:=p;rw[ea]at k;intro x H1 g1;dsimp only at k;cases ed:r1.d with
  |l ds =>
   rw[ed]at k;have rx:=g1.rep;rw[ed]at rx;obtain⟨l,xs,ex,hs,_⟩:=zN rx;subst ex;refine⟨(show tyV X.K "list" (.ref l) H1 from .inl ⟨rfl,xs,zK.seq hs⟩),?_⟩;refine zd (T0:=[(some (.ref l),r1.slot)]) g1.len g1.fr ?_;dsimp only at k;cases eb:b E1 with
   |z=>rw[eb]at k;exact k|exc x E2=>rw[eb]at k;exact λH' g=>k H' (g1.trans' g).dropAll
   |ok p =>
    obtain⟨r2,E2⟩:=p;rw[eb]at k;intro y H2 g2;have g:=g1.trans' g2;have rp:=Got.reps (vs:=[y,.ref l]) (rs:=[r2,r1]) rfl g;simp only[List.map,Reps]at rp;obtain⟨y',_,e1,ry,x',_,e2,rx,_⟩:=rp;cases e1;cases e2;dsimp only at k;cases ef:f (.l ds) r2.d with
    |none=>rw[ef]at k;exact k.elim
    |some r =>
     rw[ef]at k;rw[ed]at rx;exact hr M H2 _ (.ref l) y (.l ds) r2.d r Q g.frame rx ry ef λv H' f' s'=>k v H' (g.more (T:=[(some v,r.slot)]) f' s')
  |_=>rw[ed]at k;exact k.elim
def ro_cnt{K:PySem.W.Frag}{mg:Str->Option Value}:ROk K mg (λx y H Q=>∃l,x=.ref l/\((∃(bs:List Bool) (k:Bool),[y]=[.bl k]/\SqL K H l (bs.map V.bl)/\Q (.int (bs.count k:Nat)) H)\/(∃(ns:List Int) (k:Int),[y]=[.int k]/\SqL K H l (ns.map V.int)/\Q (.int (ns.count k:Nat)) H))) cntD:=by
 intro M H Z x y d1 d2 res Q f r1 r2 e k;cases d1 with
 |l ds =>
  obtain⟨l,xs,rfl,hs,rs⟩:=zN r1;refine⟨l,rfl,?_⟩;cases d2 with
  |bl b =>
   simp only[cntD]at e;cases eb:yk ds with
   |none=>rw[eb]at e;cases e
   |some bs =>
    rw[eb]at e;cases e;rw[jr eb rs]at hs;exact .inl ⟨bs,b,by rw[wo r2],zK.seq hs,k.flat f rfl⟩
  |int i =>
   simp only[cntD]at e;cases eb:vH ds with
   |none=>rw[eb]at e;cases e
   |some ns =>
    rw[eb]at e;cases e;rw[ZJ eb rs]at hs;exact .inr ⟨ns,i,by rw[zM r2],zK.seq hs,k.flat f rfl⟩
  |_=>cases e
 |_=>cases e
def ro_idx{K:PySem.W.Frag}{mg:Str->Option Value}:ROk K mg (λx y H Q=>∃l,x=.ref l/\∃(bs:List Bool) (k:Bool) (j:Nat),[y]=[.bl k]/\SqL K H l (bs.map V.bl)/\bs.findIdx? (·==k)=some j/\j<1000000/\Q (.int (j:Nat)) H) idxD:=by
 intro M H Z x y d1 d2 res Q f r1 r2 e k;cases d1 with
 |l ds =>
  obtain⟨l,xs,rfl,hs,rs⟩:=zN r1;refine⟨l,rfl,?_⟩;cases d2 with
  |bl b =>
   simp only[idxD]at e;cases eb:yk ds with
   |none=>rw[eb]at e;cases e
   |some bs =>
    rw[eb,Option.bind_some]at e;cases ej:bs.findIdx? (·==b)with
    |none=>rw[ej]at e;cases e
    |some j =>
     rw[ej]at e;dsimp only at e;split at e
     ·rename_i hj
      cases e;rw[jr eb rs]at hs;exact⟨bs,b,j,by rw[wo r2],zK.seq hs,ej,hj,k.flat f rfl⟩
     ·cases e
  |_=>cases e
 |_=>cases e
def ok_cnt{o e:Expr}{a b:ME}{apos cpos:Pos}(ho:EOk X o a)(he:EOk X e b)(hbase:attributeBase o "count" X.env (eval o X.env)=eval o X.env)(hs:zL e=false)(hline:(apos.endLine==cpos.line)=true)
  (hfew:((backTo cpos (starEach (e::[]) X.env)).all (λx=>!x.1)&&(backToKw cpos (keywordEach [] X.env)).all (λx=>x.1.isSome)&&decide ((e::([]:List Expr)).length+([]:List Keyword).length+(if([]:List Keyword).isEmpty then 0 else 1)<30))=true) :
  EOk X (.Call (.Attribute o "count" apos) [e] [] cpos) (eMet cntD a b) :=
 zc (GC PySem.F.plainAttrs_list PySem.F.slot_list_count PySem.F.type_list_count zAe ho (yK he jg (zF hs)) hbase hfew hline (zF hs) rfl) λO H Q h=>G5 ro_cnt h
def ok_idx{o e:Expr}{a b:ME}{apos cpos:Pos}(ho:EOk X o a)(he:EOk X e b)(hbase:attributeBase o "index" X.env (eval o X.env)=eval o X.env)(hs:zL e=false)(hline:(apos.endLine==cpos.line)=true)
  (hfew:((backTo cpos (starEach (e::[]) X.env)).all (λx=>!x.1)&&(backToKw cpos (keywordEach [] X.env)).all (λx=>x.1.isSome)&&decide ((e::([]:List Expr)).length+([]:List Keyword).length+(if([]:List Keyword).isEmpty then 0 else 1)<30))=true) :
  EOk X (.Call (.Attribute o "index" apos) [e] [] cpos) (eMet idxD a b) :=
 zc (GC PySem.F.plainAttrs_list PySem.F.slot_list_index PySem.F.type_list_index zAf ho (yK he jg (zF hs)) hbase hfew hline (zF hs) rfl) λO H Q h=>G5 ro_idx h
end
section
variable{X:Cx}{O:L2.St}{pins:List (Addr×Obj)}{H:Hp}{s:Shared}
def SmOk(K:PySem.W.Frag):Prop:=∃o es n,K.lookup sysModules=some o/\o.data=.dict es n
end
end DV
namespace L2
open PySem PySem.Spec PyProof.Rows
end L2
namespace DV
open PySem
section
variable{prog:Program}{w:World}{A:Around}{E:Value->Shared->Prop}{s:Shared}
structure Src(prog:Program)(w:World)(A:Around)(it l:Addr)(items:Array Value)(st:Nat->Heap->Prop):Prop where
 keep:∀{i:Nat} {h h':Heap},st i h->(∀b,b=it\/b=l->∀o,h.get? b=some o->h'.get? b=some o)->st i h'
 lt:∀{i:Nat} {h:Heap},st i h->it<h.objs.size
 next:∀{i:Nat} {s:Shared} {Q:Value->Shared->Prop} {E:Value->Shared->Prop},st i s.heap->(∀x,items[i]?=some x->∀h',st (i+1) h'->Heap.SameBut it s.heap h'->Q x {s with heap:=h'}) ->
  (items[i]?=none->∀h' e,Heap.ExtBut it s.heap h'->(∃o,h'.get? e=some o/\o.cls=.type "StopIteration")->E (.ref e) {s with heap:=h'})->wpAny (model prog w) A (Builtin.SmallTypes.nextOf (.ref it)) Q E s
end
abbrev itO(c:String)(l:Addr):Obj:={cls:=.type c,data:=.fields #[.ref l,.int 0 0]}
structure Zp(h h':Heap)(c1 c2:String)(l1 l2:Addr):Prop where
 z:IsZip h' (h.objs.size+4) (h.objs.size+2) (h.objs.size+3) .none
 a:IsPair h' (h.objs.size+2) (.ref h.objs.size) (.ref (h.objs.size+1))
 b:IsPair h' (h.objs.size+3) .none .none
 i1:h'.get? h.objs.size=some (itO c1 l1)
 i2:h'.get? (h.objs.size+1)=some (itO c2 l2)
 kp:∀c o,h.get? c=some o->h'.get? c=some o
end DV
namespace DV
open PySem L2 PySem.Spec PyProof.Rows
structure Five(z TI TO i1 i2:Addr):Prop where
 a1:TI≠z
 a2:TO≠z
 a3:i1≠z
 a4:i2≠z
 a5:TI≠TO
 a6:TI≠i1
 a7:TI≠i2
 a8:TO≠i1
 a9:TO≠i2
 a10:i1≠i2
end DV
namespace DV
open PySem L2
end DV
namespace DV
open PySem L2 PySem.Spec PyProof.Rows
end DV
namespace DV
open PySem L2 PySem.Spec PyProof.Rows
open AutoSeq1 (wpAny_loadPart')
section
variable{prog:Program}{w:World}{A:Around}{E:Value->Shared->Prop}{s:Shared}
structure En(h h':Heap)(c:String)(l:Addr):Prop where
 e:IsEnum h' (h.objs.size+1) h.objs.size 0 .none
 i:h'.get? h.objs.size=some (itO c l)
 kp:∀b o,h.get? b=some o->h'.get? b=some o
end
end DV
namespace PySem
open Sem (wp)
open AutoSeq1 (wpAny_loadPart')
end PySem
namespace L2
open PySem PySem.Spec PyProof.Rows
end L2
namespace DV
open PySem L2
mutual
/-- no list within -/
def nol:D->Bool
 | .non=>true| .bl _=>true| .int _=>true| .str _=>true| .fn _=>true| .t ds=>nols ds|_=>false
def nols:List D->Bool
 | []=>true|d::ds=>nol d&&nols ds
end
def zBj:Slot->Bool
 | .own ds=>nols ds| .par ds=>nols ds|_=>true
open Classical in
def zAg(i:Nat)(t:MT):MT:=λE=>match E[i]? with
 |some (.own ds)=>if(E.set i .e).all zBj=true then(match t (E.set i (.v (.l ds)))with
  | .ok (b,E1)=>if E1=E.set i (.v (.l ds))then .ok (b,E)else .z|_=>.z)else .z
 |some (.v _)=>t E|_=>.z
section
variable{X:Cx}{K:PySem.W.Frag}{mg:Str->Option Value}{P P':Addr->Prop}{H:Hp}{a:Addr}{xs:List V}
mutual
theorem rep_nol(ha:H a=some (.l xs))(hp:∀b,P' b->P b\/b=a):∀(d:D) (v:V),nol d=true->Rep K mg (Hm P H) d v->Rep K mg (Hm P' H) d v
 | .non,v,_,h=>h| .bl _,v,_,h=>h| .int _,v,_,h=>h| .str _,v,_,h=>h| .fn _,v,_,h=>h
 | .t ds,v,n,h=>by
  simp only[Rep]at h ⊢;obtain⟨c,ys,e,s,r⟩:=h;refine⟨c,ys,e,?_,reps_nol ha hp ds ys n r⟩;rcases s with(s|⟨o,s⟩)|s
  ·obtain⟨s1,s2⟩:=zJ.mp s
   refine .inl (.inl (zJ.mpr ⟨λq=>?_,s2⟩));rcases hp c q with q|q
   ·exact s1 q
   ·subst q;rw[ha]at s2;cases s2
  ·obtain⟨s1,s2⟩:=zJ.mp s
   refine .inl (.inr ⟨o,zJ.mpr ⟨λq=>?_,s2⟩⟩);rcases hp c q with q|q
   ·exact s1 q
   ·subst q;rw[ha]at s2;cases s2
  ·exact .inr s
 | .l _,v,n,h=>by cases n| .dic,v,n,h=>by cases n| .exn _,v,n,h=>by cases n
theorem reps_nol(ha:H a=some (.l xs))(hp:∀b,P' b->P b\/b=a):∀(ds:List D) (vs:List V),nols ds=true->Reps K mg (Hm P H) ds vs->Reps K mg (Hm P' H) ds vs
 | [],vs,_,h=>h
 |d::ds,vs,n,h=>by
  simp only[Reps]at h ⊢;obtain⟨v,r,e,h1,h2⟩:=h;obtain⟨n1,n2⟩:=Bool.and_eq_true_iff.mp n;exact⟨v,r,e,rep_nol ha hp d v n1 h1,reps_nol ha hp ds r n2 h2⟩
end
def ok_bor(i:Nat){e:Expr}{t:MT}(h:TOk X e t):TOk X e (zAg i t):=WP h λO H Q ⟨M,E,hl,f,k⟩=>by
 unfold zAg at k;cases ei:E[i]? with
 |none=>rw[ei]at k;exact k.elim
 |some sl =>
 rw[ei]at k;cases sl with
 |e=>exact k.elim|par ds=>exact k.elim|v d=>exact⟨M,E,hl,f,k⟩
 |own ds =>
  dsimp only at k;by_cases hb:(E.set i .e).all zBj=true
  ·rw[if_pos hb]at k
   obtain⟨o,h1,h2⟩:=JK hl ei;obtain⟨a,xs,rfl,q1,q2,q3⟩:=f.own o (.own ds) ds (mem_of_getElem? h2) rfl;have hlt:i<(O.zip E).length:=(List.getElem?_eq_some_iff.mp h2).1;have p:(O.zip E).Perm ((some (.ref a),R.slot (.own ds))::(O.zip E).eraseIdx i):=by
    have:=zh (some (V.ref a),Slot.own ds) (O.zip E) i hlt;rw[Js h2]at this;exact this
   have f1:=(f.perm p).frz;have f2:FR X.K X.mg M H ((O.zip E).set i (some (.ref a),.v (.l ds))):=f1.perm (zh _ _ _ hlt).symm;have ez:O.zip (E.set i (.v (.l ds)))=(O.zip E).set i (some (.ref a),.v (.l ds)):=z8 (.v (.l ds)) h1;rw[<- ez]at f2;have pz:(O.zip (E.set i (.v (.l ds)))).Perm ((some (.ref a),Slot.v (.l ds))::(O.zip E).eraseIdx i):=by rw[ez];exact zh _ _ _ hlt
   -- what the one zu and the other
   have oz:∀b,b∈zu (O.zip E)↔b=a\/b∈zu (O.zip (E.set i (.v (.l ds)))):=λb=>by
    constructor
    ·intro q
     have q:=zB p b q;rcases mem_cons.mp (show b∈a::zu ((O.zip E).eraseIdx i)from q)with q|q
     ·exact .inl q
     ·exact .inr (zB pz.symm b (by rw[zS];exact q))
    ·intro q
     rcases q with q|q
     ·subst q;exact yx (mem_of_getElem? h2) rfl rfl
     ·have q:=zB pz b q
      rw[zS]at q;exact zB p.symm b (mem_cons_of_mem a q)
   have na:¬Mo M (O.zip (E.set i (.v (.l ds)))) a:=λq=>by
    rcases q with q|q
    ·exact q2 q
    ·have q:=zB pz a q
     rw[zS]at q;have nd:(zu ((some (V.ref a),Slot.own ds)::(O.zip E).eraseIdx i)).Nodup:=(p.filterMap Wz).nodup_iff.mp f.nd;exact(nodup_cons.mp nd).1 q
   have mo:∀b,Mo M (O.zip E) b->Mo M (O.zip (E.set i (.v (.l ds)))) b\/b=a:=λb q=>by
    rcases q with q|q
    ·exact .inl (.inl q)
    ·rcases(oz b).mp q with q|q
     ·exact .inr q
     ·exact .inl (.inr q)
   have mo':∀b,Mo M (O.zip (E.set i (.v (.l ds)))) b->Mo M (O.zip E) b:=λb q=>by
    rcases q with q|q
    ·exact .inl q
    ·exact .inr ((oz b).mpr (.inr q))
   refine⟨M,E.set i (.v (.l ds)),by simp[hl],f2,?_⟩;cases et:t (E.set i (.v (.l ds)))with
   |z=>rw[et]at k;exact k.elim|exc x E1=>rw[et]at k;exact k.elim
   |ok pr =>
    obtain⟨b,E1⟩:=pr;rw[et]at k;dsimp only at k;by_cases hE:E1=E.set i (.v (.l ds))
    ·rw[if_pos hE]at k
     subst hE;intro H' g;refine k H' ⟨hl,?_,?_,PKp.refl⟩
     ·have ha:H' a=some (.l xs):=(zJ.mp (g.st.same a _ (zJ.mpr ⟨na,q1⟩))).2
      have sm:JI (Hm (Mo M (O.zip E)) H) (Hm (Mo M (O.zip E)) H'):=λc u x=>by
       obtain⟨x1,x2⟩:=zJ.mp x;exact zJ.mpr ⟨x1,(zJ.mp (g.st.same c u (zJ.mpr ⟨λq=>x1 (mo' c q),x2⟩))).2⟩
      refine⟨λo d q=>?_,λo s es q es'=>?_,f.nd,g.fr.mal⟩
      ·obtain⟨v,e1,r⟩:=f.val o d q
       exact⟨v,e1,r.mono sm⟩
      ·obtain⟨c,ys,e1,e2,e3,r⟩:=f.own o s es q es'
       by_cases hc:c=a
       ·subst hc
        rw[e2]at q1;cases q1;exact⟨c,_,e1,ha,e3,r.mono sm⟩
       ·-- another one's list
        subst e1;obtain⟨j,hj⟩:=List.getElem?_of_mem q;replace hj:(O.zip E)[j]?=some (some (.ref c),s):=hj;have hij:j≠i:=λq=>by
         subst q;rw[hj]at h2;cases h2;exact hc rfl
        have hj':(O.zip (E.set i (.v (.l ds))))[j]?=some (some (.ref c),s):=by
         rw[ez,getElem?_set_ne (Ne.symm hij)];exact hj
        have nb:nols es=true:=by
         have hEj:(E.set i .e)[j]?=some s:=by
          rw[getElem?_set_ne (Ne.symm hij)];exact(List.getElem?_zip_eq_some.mp hj).2
         have:=all_eq_true.mp hb s (mem_of_getElem? hEj);cases s with
         |e=>cases es'|v d=>cases es'|own ds'=>cases es';exact this|par ds'=>cases es';exact this
        obtain⟨c',ys',e1',e2',e3',r'⟩:=g.fr.own _ s es (mem_of_getElem? hj') es';cases e1';exact⟨c,ys',rfl,e2',e3',reps_nol ha mo es ys' nb r'⟩
     ·refine⟨λc u x=>?_,g.st.keep⟩
      obtain⟨x1,x2⟩:=zJ.mp x;exact zJ.mpr ⟨x1,(zJ.mp (g.st.same c u (zJ.mpr ⟨λq=>x1 (mo' c q),x2⟩))).2⟩
    ·rw[if_neg hE]at k;exact k.elim
  ·rw[if_neg hb]at k;exact k.elim
end
section
variable{X:Cx}{O:L2.St}{pins:List (Addr×Obj)}{H:Hp}{s:Shared}{K:PySem.W.Frag}{mg:Str->Option Value}
def MtM.or{id:String}{r r':V->List V->Hp->VK->Prop}(h:MtM X id r)(h':MtM X id r'):MtM X id (λx vs H Q=>r x vs H Q\/r' x vs H Q):=by
 intro pins s O H x vs v us Q I rx rv q;rcases q with q|q
 ·exact h pins s O H x vs v us Q I rx rv q
 ·exact h' pins s O H x vs v us Q I rx rv q
end
end DV
namespace DV
open PySem L2 PyProof.Rows PySem.Calls
end DV
namespace DV
open PySem L2
end DV
namespace DV
open PySem PyProof.Rows
section
variable{prog:Program}{w:World}{A:Around}{E:Value->Shared->Prop}
theorem Wc{it t:Addr}{items:Array Value}(hne:t≠it):∀(n i:Nat) (s:Shared) (Q:List Value->Shared->Prop),s.heap.IsListIter it t i->s.heap.IsList t items->i+n<=items.size ->
  (∀h',h'.IsListIter it t (i+n)->Heap.SameBut it s.heap h'->Q ((items.toList.drop i).take n) {s with heap:=h'})->wpAny (model prog w) A (draw (.ref it) n) Q E s
 |0,i,s,Q,hit,_,_,hQ=>by
  show wpAny _ _ (pure []) Q E s
  exact wpAny_pure (by simpa using hQ s.heap hit (Heap.SameBut.refl ..))
 |n+1,i,s,Q,hit,ht,hle,hQ=>by
  have hlt:i<items.size:=by omega
  show wpAny _ _ (pyNext (.ref it) >>= _) Q E s
  refine wpAny_bind (wpAny_pyNext_list_item hit ht (x:=items[i]) (by simp[hlt]) λh₁ hit₁ hs₁=>?_);have ht₁:h₁.IsList t items:=by
   obtain⟨o,ho,hc,n,hd⟩:=ht;exact⟨o,(hs₁.2 t hne).trans ho,hc,n,hd⟩
  refine wpAny_bind (wpAny_holding (Wc hne n (i+1) _ _ hit₁ ht₁ (by omega) λh₂ hit₂ hs₂=>wpAny_pure ?_));have hd:items.toList.drop i=items[i]::items.toList.drop (i+1):=by simp[List.drop_eq_getElem_cons,hlt]
  have:=hQ h₂ (by rw[show i+(n+1)=i+1+n by omega];exact hit₂) (hs₁.trans hs₂);rw[hd,List.take_succ_cons]at this;exact this
variable{s:Shared}
end
end DV
namespace DV
open PySem L2
abbrev TA:=Addr->St->Hp->(St->Hp->Prop)->Prop
def PA(Y:Cx)(act:Value->Env->Sem PySem.Fin->Sem PySem.Fin)(ta:TA):Prop:=∀(D:Addr) (pins:List (Addr×Obj)) (s:Shared) (O:St) (H:Hp) (Nx:St->Hp->Prop) (k:Sem PySem.Fin) (Q:PySem.Fin->Shared->Prop) (E:Value->Shared->Prop),Inv Y pins O H s->ta D O H Nx ->
 (∀O' H' s',Inv Y pins O' H' s'->Nx O' H'->wpAny (model Y.prog Y.w) Y.A k Q E s')->wpAny (model Y.prog Y.w) Y.A (act (.ref D) Y.env k) Q E s
section
variable{X:Cx}{K:PySem.W.Frag}{mg:Str->Option Value}{O:St}{M:Addr->Prop}{E:zQ}{H:Hp}{T0 Z T:Fz}
structure GA(K:PySem.W.Frag)(mg:Str->Option Value)(M:Addr->Prop)(D:Addr)(O:St)(E:zQ)(H:Hp)(acc:List DV.D)(O':St)(E':zQ)(H':Hp)(acc':List DV.D):Prop where
 len:E'.length=O'.length
 fr:FR K mg M H' ((some (.ref D),.own acc')::O'.zip E')
 st:Step M H ((some (.ref D),.own acc)::O.zip E) H' ((some (.ref D),.own acc')::O'.zip E')
 pk:PKp O E O' E'
def GA.of{D:Addr}{acc:List DV.D}{O':St}{E':zQ}{H':Hp}(g:Got K mg M O E H [(some (.ref D),.own acc)] O' E' H' []):GA K mg M D O E H acc O' E' H' acc:=⟨g.len,g.fr,g.st,g.pk⟩
theorem GA.trans{D:Addr}{acc acc1 acc2:List DV.D}{O1 O2:St}{E1 E2:zQ}{H1 H2:Hp}(a:GA K mg M D O E H acc O1 E1 H1 acc1)(b:GA K mg M D O1 E1 H1 acc1 O2 E2 H2 acc2):GA K mg M D O E H acc O2 E2 H2 acc2:=⟨b.len,b.fr,a.st.trans b.st,a.pk.trans b.pk⟩
end
end DV
namespace DV
open PySem PySem.SetTable
def Qj(l:List Nat):Prop:=l.Pairwise (·<·)
theorem Zm(xs:Array Nat)(j:Nat)(hs:Qj xs.toList):∀(fuel lo hi:Nat),hi-lo<=fuel->lo<=hi->hi<=xs.size->(∀k (h:k<xs.size),k<lo->xs[k]<j)->(∀k (h:k<xs.size),hi<=k->j<=xs[k]) ->
  below.go xs j fuel lo hi<=xs.size/\(∀k (h:k<xs.size),k<below.go xs j fuel lo hi->xs[k]<j)/\∀k (h:k<xs.size),below.go xs j fuel lo hi<=k->j<=xs[k]
 |0,lo,hi,h1,h2,h3,h4,h5=>by
  have e:lo=hi:=by omega
  subst e;exact⟨h3,h4,h5⟩
 |fuel+1,lo,hi,h1,h2,h3,h4,h5=>by
  unfold below.go;have hp:∀a b (ha:a<xs.size) (hb:b<xs.size),a<=b->xs[a]<=xs[b]:=λa b ha hb hab=>by
   rcases Nat.lt_or_eq_of_le hab with hl|he
   ·have:=List.pairwise_iff_getElem.mp hs a b (by simpa using ha) (by simpa using hb) hl
    simp at this;omega
   ·subst he;exact le_refl _
  by_cases hl:lo<hi
  ·rw[if_pos hl]
   have hm:(lo+hi)/2<xs.size:=by omega
   have eg:xs.getD ((lo+hi)/2) j=xs[(lo+hi)/2]:=by simp[Array.getD,hm]
   dsimp only;rw[eg];by_cases hx:xs[(lo+hi)/2]<j
   ·rw[if_pos hx]
    exact Zm xs j hs fuel _ _ (by omega) (by omega) h3 (λk hk hlt=>Nat.lt_of_le_of_lt (hp k _ hk hm (by omega)) hx) h5
   ·rw[if_neg hx]
    exact Zm xs j hs fuel _ _ (by omega) (by omega) (by omega) h4 (λk hk hle=>le_trans (not_lt.mp hx) (hp _ k hm hk hle))
  ·rw[if_neg hl]
   have e:lo=hi:=by omega
   subst e;exact⟨h3,h4,h5⟩
def zAh(xs:Array Nat)(j:Nat)(hs:Qj xs.toList):below xs j<=xs.size/\(∀k (h:k<xs.size),k<below xs j->xs[k]<j)/\∀k (h:k<xs.size),below xs j<=k->j<=xs[k] :=
 Zm xs j hs xs.size 0 xs.size (by omega) (by omega) (le_refl _) (λk _ h=>by omega) (λk h h'=>by omega)
def wz{α:Type}(xs:Array α)(p:Nat)(x:α):(insertAt xs p x).toList=xs.toList.take p++x::xs.toList.drop p:=by
 unfold insertAt;simp[Array.toList_append,Array.toList_extract,List.extract_eq_drop_take,List.take_of_length_le]
def vk(xs:Array Nat)(j:Nat)(hs:Qj xs.toList)(hj:j∉xs.toList):Qj (insertAt xs (below xs j) j).toList:=by
 obtain⟨h1,h2,h3⟩:=zAh xs j hs;rw[wz];unfold Qj at *;have hlo:∀a∈xs.toList.take (below xs j),a<j:=λa ha=>by
  obtain⟨i,hi,e⟩:=List.getElem_of_mem ha;rw[List.getElem_take]at e;simp at hi e;rw[<- e];exact h2 i (by omega) (by omega)
 have hhi:∀a∈xs.toList.drop (below xs j),j<a:=λa ha=>by
  have hm:a∈xs.toList:=List.mem_of_mem_drop ha;obtain⟨i,hi,e⟩:=List.getElem_of_mem ha;rw[List.getElem_drop]at e;simp at hi e;have:=h3 (below xs j+i) (by omega) (by omega);rw[e]at this;rcases Nat.lt_or_eq_of_le this with h|h
  ·exact h
  ·exact absurd (h▸hm) hj
 rw[List.pairwise_append];refine⟨hs.sublist (List.take_sublist _ _),?_,?_⟩
 ·rw[List.pairwise_cons]
  exact⟨hhi,hs.sublist (List.drop_sublist _ _)⟩
 ·intro a ha b hb
  rcases mem_cons.mp hb with rfl|hb
  ·exact hlo a ha
  ·exact Nat.lt_trans (hlo a ha) (hhi b hb)
def mem_ins{α:Type}(xs:Array α)(p:Nat)(x y:α):y∈(insertAt xs p x).toList↔y=x\/y∈xs.toList:=by
 rw[wz]
 conv=>rhs;rw[<- List.take_append_drop p xs.toList]
 simp only[mem_append,mem_cons];constructor
 ·rintro (h|h|h)
  ·exact .inr (.inl h)
  ·exact .inl h
  ·exact .inr (.inr h)
 ·rintro (h|h|h)
  ·exact .inr (.inl h)
  ·exact .inl h
  ·exact .inr (.inr h)
def uT{t:SetTable}{j:Nat}(hj:j∉t.place.toList)(hd:t.dummies=#[]):t.slot j=.empty:=by
 have h1:(t.place[below t.place j]?==some j)=false:=by
  rw[Bool.eq_false_iff];intro h;exact hj (by simpa using Array.mem_of_getElem? (eq_of_beq h))
 unfold slot;dsimp only;rw[h1,hd];rfl
def chk7(led:Bool)(bs:List Bool)(h:Nat):Bool :=
 let pl:=(List.range 8).filter λi=>bs.getD i false
 decide (4<pl.length)||match(⟨7,pl.toArray,#[],0,led,0,true⟩:SetTable).freeSlot (h:Int)with
  |some (j,false)=>decide (j<=7)&&!pl.contains j|_=>false
def all7:∀l b0 b1 b2 b3 b4 b5 b6 b7:Bool,((List.range 16).all λh=>chk7 l [b0,b1,b2,b3,b4,b5,b6,b7] h)=true:=by decide +kernel
def vI(l:List Nat)(hs:Qj l)(n:Nat)(hb:∀j∈l,j<n):l=(List.range n).filter λi=>l.contains i:=by
 refine List.Perm.eq_of_pairwise (le:=(·<·)) (λa b _ _ h1 h2=>absurd (Nat.lt_trans h1 h2) (lt_irrefl _)) hs (List.pairwise_lt_range.filter _) ?_;rw[List.perm_ext_iff_of_nodup (hs.imp λh=>ne_of_lt h) (List.nodup_range.filter _)];intro a;simp only[mem_filter,mem_range,List.contains_iff_mem];exact⟨λh=>⟨hb a h,h⟩,λh=>h.2⟩
def free7{led:Bool}{pl:Array Nat}(hs:Qj pl.toList)(hb:∀j∈pl.toList,j<8)(h4:pl.size<=4){h:Nat}(hh:h<16) :
  ∃j,(⟨7,pl,#[],0,led,0,true⟩:SetTable).freeSlot (h:Int)=some (j,false)/\j<8/\j∉pl.toList:=by
 have e:=vI pl.toList hs 8 hb;have e2:((List.range 8).filter λi=>[pl.toList.contains 0,pl.toList.contains 1,pl.toList.contains 2,pl.toList.contains 3,pl.toList.contains 4,pl.toList.contains 5,pl.toList.contains 6,pl.toList.contains 7].getD i false)=pl.toList:=by
  conv=>rhs;rw[e]
  rfl
 have:=all7 led (pl.toList.contains 0) (pl.toList.contains 1) (pl.toList.contains 2) (pl.toList.contains 3) (pl.toList.contains 4) (pl.toList.contains 5) (pl.toList.contains 6) (pl.toList.contains 7);have:=all_eq_true.mp this h (by simpa using hh);unfold chk7 at this;rw[e2]at this;simp only[Array.toArray_toList,Bool.or_eq_true,decide_eq_true_eq]at this;rcases this with h|h
 ·simp at h;omega
 ·split at h
  ·rename_i j hf
   simp at h
   exact⟨j,hf,by omega,by simpa using h.2⟩
  ·cases h
def own(hs:List Nat)(j:Nat):Option Nat:=if j∈hs then some (hs.idxOf j)else none
def vm{n:Nat}(h:n<32):bits (n:Int)=n:=by
 unfold bits;omega
def free31{owner:Array (Option Nat)}{n:Nat}(fuel:Nat)(p:Nat)(hn:owner[n]?=some none):layClean.free 31 owner (fuel+1) n p=some n:=by
 have hr:(List.range (runEnd 31 n+1-n)).find? (λk=>(owner.getD (n+k) (some 0)).isNone)=some 0:=by
  have e:∃m,runEnd 31 n+1-n=m+1:=⟨runEnd 31 n-n,by unfold runEnd;split<;>omega⟩;obtain⟨m,e⟩:=e;rw[e,List.range_succ_eq_map,List.find?_cons];have:(owner.getD (n+0) (some 0)).isNone=true:=by
   rw[Nat.add_zero,Array.getD_eq_getD_getElem?,hn];rfl
  rw[this]
 unfold layClean.free;rw[hr];rfl
def zAi(jf:List Nat):∀(done:List Nat) (owner:Array (Option Nat)),(done++jf).Nodup->(∀n∈done++jf,n<32)->owner.size=32->(∀j,j<32->owner[j]?=some (own done j)) ->
  ∃o',(jf.map λn:Nat=>(n:Int)).foldl (init:=some (owner,done.length)) (λacc h=>do
   let (owner,k) <- acc
   let j <- layClean.free 31 owner (SetTable.turns 31) (bits h%(31+1)) (bits h)
   pure (owner.setIfInBounds j (some k),k+1))=some (o',(done++jf).length)/\o'.size=32/\∀j,j<32->o'[j]?=some (own (done++jf) j):=by
 induction jf with
 |nil=>intro done owner _ _ h1 h2;exact⟨owner,by simp,h1,by simpa using h2⟩
 |cons n jf ih =>
  intro done owner nd hb h1 h2;have hn:n<32:=hb n (by simp);have hnd:n∉done:=λh=>(nodup_append.mp nd).2.2 n h n (by simp) rfl
  have hfree:layClean.free 31 owner (SetTable.turns 31) (bits (n:Int)%(31+1)) (bits (n:Int))=some n:=by
   rw[vm hn,Nat.mod_eq_of_lt (by omega)];exact free31 45 n (by rw[h2 n hn];unfold own;rw[if_neg hnd])
  have key:=ih (done++[n]) (owner.setIfInBounds n (some done.length)) (by simpa using nd) (by simpa using hb) (by simpa using h1) (λj hj=>by
   rw[Array.getElem?_setIfInBounds];by_cases e:n=j
   ·subst e
    rw[if_pos rfl,if_pos (by omega)];unfold own;rw[if_pos (by simp),List.idxOf_append,if_neg hnd];simp
   ·rw[if_neg e,h2 j hj]
    unfold own;by_cases hj:j∈done
    ·rw[if_pos hj,if_pos (by simp[hj]),List.idxOf_append,if_pos hj]
    ·rw[if_neg hj,if_neg (by simp[hj];exact λh=>e h.symm)])
  obtain⟨o',k1,k2,k3⟩:=key;refine⟨o',?_,k2,?_⟩
  ·rw[map_cons,List.foldl_cons]
   show foldl _ (do let j <- layClean.free 31 owner (SetTable.turns 31) (bits (n:Int)%(31+1)) (bits (n:Int));pure (owner.setIfInBounds j (some done.length),done.length+1)) _=_
   rw[hfree];have e:(done++[n]).length=done.length+1:=by simp
   rw[e]at k1;have e2:(done++[n]++jf).length=(done++n::jf).length:=by simp
   rw[e2]at k1;exact k1
  ·intro j hj;have:=k3 j hj;rw[append_assoc]at this;exact this
def fm_eq(p:Nat->Bool)(g:Nat->Nat)(f:Nat->Option Nat)(l:List Nat):(∀j∈l,f j=if p j=true then some (g j)else none)->l.filterMap (λj=>(f j).map (j,·))=(l.filter p).map λj=>(j,g j):=by
 induction l with
 |nil=>exact λ_=>rfl
 |cons a l ih =>
  intro h;have i:=ih λj hj=>h j (mem_cons_of_mem _ hj)
  have ha:=h a mem_cons_self;rw[filterMap_cons,List.filter_cons,ha];cases hp:p a
  ·simpa using i
  ·simp only[if_true,Option.map_some,map_cons];rw[i]
def laid31(hs:List Nat)(nd:hs.Nodup)(hb:∀n∈hs,n<32)(f m:Nat)(led pn:Bool) :
  laid 31 f m led pn (hs.map λn:Nat=>(n:Int)).toArray=some (⟨31,((List.range 32).filter λj=>hs.contains j).toArray,#[],f,led,m,pn⟩,(((List.range 32).filter λj=>hs.contains j).map λj=>hs.idxOf j).toArray):=by
 obtain⟨o,k1,k2,k3⟩:=zAi hs [] (Array.replicate 32 none) (by simpa using nd) (by simpa using hb) (by simp) (λj hj=>by simp[own,hj]);have e1:layClean 31 (hs.map λn:Nat=>(n:Int)).toArray=some o:=by
  unfold layClean;rw[List.foldl_toArray];have:(31:Nat)+1=32:=rfl;rw[this];have k1':=k1;simp only[length_nil]at k1';rw[this]at k1';rw[k1'];rfl
 have e2:((List.range (31+1)).filterMap λj=>(o.getD j none).map (j,·))=((List.range 32).filter λj=>hs.contains j).map λj=>(j,hs.idxOf j):=by
  refine fm_eq _ _ _ _ λj hj=>?_
  rw[Array.getD_eq_getD_getElem?,k3 j (by simpa using hj)];simp only[nil_append,own,Option.getD_some,List.contains_iff_mem]
 unfold laid;rw[e1];show some _=_;rw[e2,map_map,map_map];congr 1;simp[Function.comp_def]
structure SetG(led:Bool)(es:Array (Int×Value))(t:SetTable):Prop where
 ent:∀e∈es.toList,∃(n:Nat) (k:Tok),n<16/\e=((n:Int),.int (n:Int) k)
 nd:(es.toList.map (·.1)).Nodup
 sz:t.place.size=es.size
 rise:Qj t.place.toList
 tab:(t=⟨7,t.place,#[],0,led,0,true⟩/\es.size<=4/\∀j∈t.place.toList,j<8)\/(t=⟨31,t.place,#[],t.finger,led,t.moves,true⟩/\t.place.toList=es.toList.map λe=>e.1.toNat)
def zAj(l:List Nat):∀(a b:Nat),Qj l->(∀j∈l,a<=j/\j<b)->l.length<=b-a:=by
 induction l with
 |nil=>intro a b _ _;exact zero_le _
 |cons x l ih =>
  intro a b hr hb;have h1:=hb x mem_cons_self;have:=ih (x+1) b hr.tail λj hj=>⟨(List.pairwise_cons.mp hr).1 j hj,(hb j (mem_cons_of_mem _ hj)).2⟩
  simp only[length_cons];omega
def SetG.few{led:Bool}{es:Array (Int×Value)}{t:SetTable}(g:SetG led es t):es.size<=16:=by
 rcases g.tab with h|h
 ·omega
 ·have:t.place.toList.length<=16-0:=zAj _ _ _ g.rise λj hj=>by
   rw[h.2]at hj;obtain⟨e,he,rfl⟩:=mem_map.mp hj;obtain⟨n,k,hn,rfl⟩:=g.ent e he;simp;omega
  rw[Array.length_toList,g.sz]at this;omega
theorem SetG.fits{led:Bool}{es:Array (Int×Value)}{t:SetTable}(g:SetG led es t):t.fits es.size=true:=by
 have h16:=g.few;have hs:=g.sz;have h1:t.fill<=t.mask:=by
  rcases g.tab with h|h
  ·rw[h.1];show t.place.size+0<=7;omega
  ·rw[h.1];show t.place.size+0<=31;omega
 simp[SetTable.fits,hs,h1]
def yn{α:Type}(xs:Array α)(p:Nat)(x:α):(insertAt xs p x).size=xs.size+1:=by
 rw[<- Array.length_toList,wz];have:=congrArg length (List.take_append_drop p xs.toList);simp only[length_append,length_cons,Array.length_toList]at this ⊢;omega
def G6(hs:List Nat)(nd:hs.Nodup):hs.map (λj=>hs.idxOf j)=List.range hs.length:=by
 apply List.ext_getElem
 ·simp
 ·intro i h1 h2
  simp only[List.getElem_map,List.getElem_range];exact nd.idxOf_getElem i (by simpa using h1)
def zAk(es:Array (Int×Value))(idx:Nat->Nat)(l:List Nat):(∀j∈l,∃e,es[idx j]?=some e/\e.1.toNat=j)->((l.map idx).filterMap (es[·]?)).map (λe=>e.1.toNat)=l:=by
 induction l with
 |nil=>exact λ_=>rfl
 |cons a l ih =>
  intro h;obtain⟨e,e1,e2⟩:=h a mem_cons_self;rw[map_cons,filterMap_cons,e1];simp only[map_cons];rw[ih λj hj=>h j (mem_cons_of_mem _ hj),e2]
def SetG.of_perm_ent{es es':Array (Int×Value)}(p:es'.toList.Perm es.toList)(h:∀e∈es.toList,∃(n:Nat) (k:Tok),n<16/\e=((n:Int),.int (n:Int) k)):∀e∈es'.toList,∃(n:Nat) (k:Tok),n<16/\e=((n:Int),.int (n:Int) k):=λe he=>h e (p.mem_iff.mp he)
def relay7{led:Bool}{es:Array (Int×Value)}{pl:Array Nat}(h5:es.size=5)(hent:∀e∈es.toList,∃(n:Nat) (k:Tok),n<16/\e=((n:Int),.int (n:Int) k))(hnd:(es.toList.map (·.1)).Nodup) :
  ∃es2 t2,relayAll ⟨7,pl,#[],0,led,0,true⟩ es (grown es.size)=(es2,t2,false)/\SetG led es2 t2/\es2.toList.Perm es.toList:=by
 have hp:=relayAll_perm ⟨7,pl,#[],0,led,0,true⟩ es (grown es.size);generalize ehs:es.toList.map (λe=>e.1.toNat)=hs;have hl:hs.length=es.size:=by rw[<- ehs];simp
 have hback:es.map (·.1)=(hs.map λn:Nat=>(n:Int)).toArray:=by
  apply Array.toList_inj.mp;rw[Array.toList_map,<- ehs,map_map];refine List.map_congr_left λe he=>?_
  obtain⟨n,k,hn,rfl⟩:=hent e he;simp
 have nd:hs.Nodup:=by
  have:(es.toList.map (·.1))=hs.map λn:Nat=>(n:Int):=by rw[<- Array.toList_map,hback]
  rw[this]at hnd;exact List.Pairwise.imp (λh=>λe=>h (by rw[e])) (List.pairwise_map.mp hnd)
 have hb:∀n∈hs,n<16:=λn hn=>by
  rw[<- ehs]at hn;obtain⟨e,he,rfl⟩:=mem_map.mp hn;obtain⟨m,k,hm,rfl⟩:=hent e he;simpa using hm
 generalize ep:((List.range 32).filter λj=>hs.contains j)=p;have hpp:p.Perm hs:=by
  rw[<- ep,List.perm_ext_iff_of_nodup (List.nodup_range.filter _) nd];intro a;simp only[mem_filter,mem_range,List.contains_iff_mem];exact⟨λh=>h.2,λh=>⟨by have:=hb a h;omega,h⟩⟩
 have hr:Qj p:=by rw[<- ep];exact List.pairwise_lt_range.filter _
 have hmap:((p.map λj=>hs.idxOf j).filterMap (es[·]?)).map (λe=>e.1.toNat)=p:=zAk es _ p λj hj=>by
  have hj':j∈hs:=hpp.mem_iff.mp hj;have hlt:hs.idxOf j<hs.length:=List.idxOf_lt_length_iff.mpr hj';refine⟨es[hs.idxOf j]'(by omega),by rw[Array.getElem?_eq_getElem (by omega)],?_⟩;have e1:hs[hs.idxOf j]=j:=List.getElem_idxOf hlt;have e2:hs[hs.idxOf j]'hlt=(es.toList.map (λe=>e.1.toNat))[hs.idxOf j]'(by simpa using(by omega:hs.idxOf j<es.size)):=by simp only[ehs]
  rw[e1]at e2;rw[List.getElem_map,Array.getElem_toList]at e2;exact e2.symm
 have hlaid:(⟨7,pl,#[],0,led,0,true⟩:SetTable).relaid (es.map (·.1)) (grown es.size)=some (⟨31,p.toArray,#[],0,led,1,true⟩,(p.map λj=>hs.idxOf j).toArray):=by
  unfold relaid;rw[h5,hback];have:=laid31 hs nd (λn hn=>by have:=hb n hn;omega) 0 1 led true;rw[ep]at this;exact this
 have hcov:coversAll (p.map λj=>hs.idxOf j).toArray es.size=true:=by
  unfold coversAll;rw[List.isPerm_iff];have:=hpp.map λj=>hs.idxOf j
  rw[G6 hs nd,hl]at this;exact this
 have hsz:((p.map λj=>hs.idxOf j).toArray.filterMap (es[·]?)).size=p.length:=by
  rw[<- Array.length_toList,Array.toList_filterMap];have:=congrArg length hmap;simpa using this
 have hfit:(⟨31,p.toArray,#[],0,led,1,true⟩:SetTable).fits ((p.map λj=>hs.idxOf j).toArray.filterMap (es[·]?)).size=true:=by
  rw[hsz];have:p.length=5:=by rw[hpp.length_eq];omega
  simp[SetTable.fits,SetTable.fill,this]
 have e:relayAll ⟨7,pl,#[],0,led,0,true⟩ es (grown es.size)=((p.map λj=>hs.idxOf j).toArray.filterMap (es[·]?),⟨31,p.toArray,#[],0,led,1,true⟩,false):=by
  unfold relayAll;rw[hlaid];dsimp only;rw[if_pos (by rw[hcov,hfit];rfl)]
 rw[e]at hp;refine⟨_,_,e,⟨SetG.of_perm_ent hp hent,((hp.map _).nodup_iff).mpr hnd,hsz.symm▸by simp,hr,.inr ⟨rfl,?_⟩⟩,hp⟩;rw[Array.toList_filterMap];exact hmap.symm
def SetG.add{led:Bool}{es:Array (Int×Value)}{t:SetTable}(g:SetG led es t){n:Nat}(hn:n<16)(k:Tok)(hnew:∀e∈es.toList,e.1≠(n:Int)) :
  ∃es1 t1,layNew t es (n:Int) (.int (n:Int) k)=(es1,t1,false,false)/\t1.plain=true/\t1.fits es1.size=true/\es1.toList.Perm (es.toList++[((n:Int),.int (n:Int) k)]) /\
   ((t1.tooFull=false/\SetG led es1 t1)\/(t1.tooFull=true/\∃es2 t2,relayAll t1 es1 (grown es1.size)=(es2,t2,false)/\SetG led es2 t2/\es2.toList.Perm es1.toList)):=by
 have hperm:=layNew_perm t es (n:Int) (.int (n:Int) k);rw[Array.toList_push]at hperm;have hent:∀e∈es.toList++[((n:Int),Value.int (n:Int) k)],∃(n:Nat) (k:Tok),n<16/\e=((n:Int),.int (n:Int) k):=λe he=>by
  rcases mem_append.mp he with he|he
  ·exact g.ent e he
  ·rw[mem_singleton]at he;exact⟨n,k,hn,he⟩
 have hnd:((es.toList++[((n:Int),Value.int (n:Int) k)]).map (·.1)).Nodup:=by
  rw[List.map_append,nodup_append];refine⟨g.nd,by simp,λa ha b hb=>?_⟩;simp at hb;subst hb;obtain⟨e,he,rfl⟩:=mem_map.mp ha;exact hnew e he
 have common:∀j,t.freeSlot (n:Int)=some (j,false)->t.dummies=#[]->t.fill<t.mask->layNew t es (n:Int) (.int (n:Int) k)=(insertAt es (below t.place j) ((n:Int),.int (n:Int) k),{t with place:=insertAt t.place (below t.place j) j},false,false)/\({t with place:=insertAt t.place (below t.place j) j}:SetTable).fits (insertAt es (below t.place j) ((n:Int),Value.int (n:Int) k)).size=true:=by
  intro j hf hd hfl;have hput:t.put j=({t with place:=insertAt t.place (below t.place j) j},below t.place j):=by
   unfold put;have:has t.dummies j=false:=by rw[hd];rfl
   rw[this];rfl
  have hfit:({t with place:=insertAt t.place (below t.place j) j}:SetTable).fits (insertAt es (below t.place j) ((n:Int),Value.int (n:Int) k)).size=true:=by
   simp only[SetTable.fits,Bool.and_eq_true,beq_iff_eq,decide_eq_true_eq];rw[yn,yn];refine⟨by rw[g.sz],?_⟩;show(insertAt t.place (below t.place j) j).size+t.dummies.size<=t.mask;rw[yn];unfold fill at hfl;omega
  refine⟨?_,hfit⟩;unfold layNew;rw[hf];dsimp only;rw[hput];dsimp only;unfold SetTable.orStandIn;rw[if_pos hfit,hfit];rfl
 rcases g.tab with⟨ht,h4,h8⟩|⟨ht,hpl⟩
 ·obtain⟨j,hf,hj8,hj⟩:=free7 (led:=led) g.rise h8 (by rw[g.sz];exact h4) hn
  rw[<- ht]at hf;have hsz:=g.sz;obtain⟨e1,e2⟩:=common j hf (by rw[ht]) (by rw[ht];show t.place.size+0<7;omega);rw[e1]at hperm;have et:({t with place:=insertAt t.place (below t.place j) j}:SetTable)=⟨7,insertAt t.place (below t.place j) j,#[],0,led,0,true⟩:=by rw[ht]
  have ent1:=SetG.of_perm_ent (es:=(es.toList++[((n:Int),Value.int (n:Int) k)]).toArray) (by simpa using hperm) (by simpa using hent);have nd1:=((hperm.map (·.1)).nodup_iff).mpr hnd;refine⟨_,_,e1,by rw[et],e2,hperm,?_⟩;rw[et];have hs1:(insertAt es (below t.place j) ((n:Int),Value.int (n:Int) k)).size=es.size+1:=yn ..;have hs2:(insertAt t.place (below t.place j) j).size=es.size+1:=by rw[yn,hsz]
  by_cases h3:es.size=4
  ·refine .inr ⟨?_,relay7 (by omega) ent1 nd1⟩
   simp[tooFull,fill,hs2,h3]
  ·refine .inl ⟨?_,ent1,nd1,by show(insertAt t.place (below t.place j) j).size=_;omega,vk _ _ g.rise hj,.inl ⟨rfl,by omega,λi hi=>?_⟩⟩
   ·simp[tooFull,fill,hs2];omega
   ·rcases(mem_ins _ _ _ _).mp hi with rfl|hi
    ·exact hj8
    ·exact h8 i hi
 ·have hj:n∉t.place.toList:=λh=>by
   rw[hpl]at h;obtain⟨e,he,e1⟩:=mem_map.mp h;obtain⟨m,k',hm,rfl⟩:=g.ent e he;refine hnew _ he ?_;simp at e1;simp[e1]
  have hb:bits (n:Int)=n:=vm (by omega);have hm:t.mask=31:=by rw[ht]
  have hd:t.dummies=#[]:=by rw[ht]
  have hf:t.freeSlot (n:Int)=some (n,false):=by
   unfold freeSlot probe;have h1:(t.probeStart (n:Int)).j=n:=by unfold probeStart;rw[hb,hm];show n%32=n;omega
   have h2:(t.probeStart (n:Int)).dummy=none:=rfl;have e:10*SetTable.turns t.mask=459+1:=by rw[hm];rfl
   rw[e];unfold probe.go;rw[h1,uT hj hd,h2];rfl
  have hsz:=g.sz;have h16:=g.few;obtain⟨e1,e2⟩:=common n hf hd (by rw[ht];show t.place.size+0<31;omega);rw[e1]at hperm;have ent1:=SetG.of_perm_ent (es:=(es.toList++[((n:Int),Value.int (n:Int) k)]).toArray) (by simpa using hperm) (by simpa using hent);have nd1:=((hperm.map (·.1)).nodup_iff).mpr hnd;have G1:SetG led (insertAt es (below t.place n) ((n:Int),Value.int (n:Int) k)) {t with place:=insertAt t.place (below t.place n) n}:=by
   refine⟨ent1,nd1,by show(insertAt t.place (below t.place n) n).size=_;rw[yn,yn,hsz],vk _ _ g.rise hj,.inr ⟨by rw[ht],?_⟩⟩;show(insertAt t.place (below t.place n) n).toList=_;rw[wz,wz,hpl,List.map_append,map_cons,map_take,map_drop];simp
  refine⟨_,_,e1,by rw[ht],e2,hperm,.inl ⟨?_,G1⟩⟩;have h16':=G1.few;rw[yn]at h16';simp only[tooFull,fill,hm,hd];rw[yn];simp;omega
end DV
namespace PySem
open Sem (wp)
open DV
end PySem
namespace PySem
open Sem (wp)
open DV PyProof.Rows
end PySem
namespace PySem
namespace F
end F
open Sem (wp)
open DV PyProof.Rows
end PySem
namespace PySem
open Sem (wp)
open DV PyProof.Rows
end PySem
namespace L2
open PySem PySem.Spec PyProof.Rows DV
end L2
namespace DV
open PySem L2
section
variable{K:PySem.W.Frag}{mg:Str->Option Value}{X:Cx}{O:L2.St}{H:Hp}
def j9:List D->Option (List Str)
 | []=>some []| .str x::ds=>(j9 ds).map (x::·)|_=>none
theorem JR:∀ts:List Str,j9 (ts.map D.str)=some ts
 | []=>rfl
 |t::ts=>by
  show(j9 (ts.map D.str)).map (t::·)=_
  rw[JR ts];rfl
theorem YV:∀{ds:List D} {ts:List Str},j9 ds=some ts->ds=ts.map D.str
 | [],_,e=>by cases e;rfl
 |d::ds,ts,e=>by
  cases d with
  |str x =>
   simp only[j9]at e;cases eb:j9 ds with
   |none=>rw[eb]at e;cases e|some cs=>rw[eb]at e;cases e;rw[YV eb];rfl
  |_=>cases e
theorem YW{H:Hp}:∀{ts:List Str} {xs:List V},Reps K mg H (ts.map D.str) xs->xs=ts.map V.str
 | [],_,h=>by simp only[List.map,Reps]at h;subst h;rfl
 |t::ts,_,h=>by
  simp only[List.map,Reps]at h;obtain⟨v,r,rfl,h1,h2⟩:=h;rw[z9 h1,YW h2];rfl
theorem YX{H:Hp}:∀ts:List Str,Reps K mg H (ts.map D.str) (ts.map V.str)
 | []=>Reps.nil|t::ts=>Reps.cons (by simp only[Rep]) (YX ts)
theorem We:∀{ts:List Str} {us:List Value},zg (ts.map V.str) us->∃l:List (Str×Tok),us=strValues l/\l.map (·.1)=ts
 | [],_,.nil=>⟨[],rfl,rfl⟩
 |t::ts,_,.cons r h=>by
  obtain⟨tk,rfl⟩:=r;obtain⟨l,rfl,e⟩:=We h;exact⟨(t,tk)::l,rfl,by rw[<- e];rfl⟩
theorem Wf:∀{ts:List Str} {l:List (Str×Tok)},l.map (·.1)=ts->zg (ts.map V.str) (strValues l)
 |_,[],rfl=>.nil|_,(t,tk)::l,rfl=>.cons ⟨tk,rfl⟩ (Wf (l:=l) rfl)
def strF:List D->Option R
 | [.int i]=>if i.natAbs.log2<1920 then some (.v (.str (toString i)))else none|_=>none
def co_strF:COk K mg (λxs H Q=>∃i,xs=[.int i]/\i.natAbs.log2<1920/\Q (.str (toString i)) H) strF:=by
 intro M H Z xs ds res Q f r e k
 match ds,e with
 | [.int i],e =>
  simp only[strF]at e;split at e
  ·rename_i hz
   cases e;obtain⟨v,rfl,h⟩:=wq r;exact⟨i,by rw[zM h],hz,k.flat f rfl⟩
  ·cases e
def intT:List D->Option R
 | [.str x]=>if x.length<=640 then(PySem.intText? x).map λn=>.v (.int n)else none|_=>none
def G7:jQ X (.type "int") (λxs H Q=>∃x n,xs=[.str x]/\x.length<=640/\PySem.intText? x=some n/\Q (.int n) H):=by
 intro pins s O H xs us Q I r h;obtain⟨x,n,rfl,hl,hn,q⟩:=h;obtain⟨u,rfl,t,rfl⟩:=YF r;exact PySem.W.KIN.call_text hn hl ⟨.int n,H,I.tok _,⟨_,rfl⟩,q⟩
def co_intT:COk K mg (λxs H Q=>∃x n,xs=[.str x]/\x.length<=640/\PySem.intText? x=some n/\Q (.int n) H) intT:=by
 intro M H Z xs ds res Q f r e k
 match ds,e with
 | [.str x],e =>
  simp only[intT]at e;split at e
  ·rename_i hz
   cases en:PySem.intText? x with
   |none=>rw[en]at e;cases e
   |some n =>
    rw[en]at e;cases e;obtain⟨v,rfl,h⟩:=wq r;exact⟨x,n,by rw[z9 h],hz,en,k.flat f rfl⟩
  ·cases e
def lenT:List D->Option R
 | [.str x]=>if x.length<=sizeLine then some (.v (.int x.length))else none|_=>none
def co_lenT:COk K mg (λxs H Q=>∃z,xs=[.str z]/\z.length<=sizeLine/\Q (.int z.length) H) lenT:=by
 intro M H Z xs ds res Q f r e k
 match ds,e with
 | [.str x],e =>
  simp only[lenT]at e;split at e
  ·rename_i hz
   cases e;obtain⟨v,rfl,h⟩:=wq r;exact⟨x,by rw[z9 h],hz,k.flat f rfl⟩
  ·cases e
def zBk:D->D->Option R
 | .str i,.str j=>if i.length+j.length<=sizeLine then some (.v (.str (i++j)))else none|_,_=>none
def ro_cat:ROk K mg (λx y H Q=>∃i j,x=.str i/\y=.str j/\i.length+j.length<=sizeLine/\Q (.str (i++j)) H) zBk:=by
 intro M H Z x y d1 d2 res Q f r1 r2 e k;cases d1 with
 |str i =>
  cases d2 with
  |str j =>
   simp only[zBk]at e;split at e
   ·rename_i hz
    cases e;exact⟨i,j,z9 r1,z9 r2,hz,k.flat f rfl⟩
   ·cases e
  |_=>cases e
 |_=>cases e
def ixT:D->D->Option R
 | .str z,.int i=>if z.length<=sizeLine then(atI z.cps.toList i).map λc=>.v (.str ⟨#[c]⟩)else none|_,_=>none
def ro_ixT:ROk K mg rIxS ixT:=by
 intro M H Z x y d1 d2 res Q f r1 r2 e k;cases d1 with
 |str z =>
  cases d2 with
  |int i =>
   simp only[ixT]at e;split at e
   ·rename_i hz
    cases ea:atI z.cps.toList i with
    |none=>rw[ea]at e;cases e
    |some c =>
     rw[ea]at e;cases e;exact⟨z,i,c,z9 r1,zM r2,hz,ea,k.flat f rfl⟩
   ·cases e
  |_=>cases e
 |_=>cases e
def uU:MtR X "str.isascii" (λx vs H Q=>∃z,x=.str z/\vs=[]/\Q (.bl (Txt.isascii z)) H):=by
 intro pins s O H x vs v us Q I rx rv h;obtain⟨z,rfl,rfl,q⟩:=h;obtain⟨t,rfl⟩:=rx;cases rv;exact call_meets PySem.F.slot_str_isascii (typeIs_str _ _ _) PySem.F.entry_str_isascii (PySem.F.args_str_isascii_1 _) (PySem.gives_str_isascii z t).meets ⟨.bl _,H,I,rfl,q⟩
def uV:MtR X "str.isdigit" (λx vs H Q=>∃z,x=.str z/\vs=[]/\Q (.bl (Txt.isdigit z)) H):=by
 intro pins s O H x vs v us Q I rx rv h;obtain⟨z,rfl,rfl,q⟩:=h;obtain⟨t,rfl⟩:=rx;cases rv;exact call_meets PySem.F.slot_str_isdigit (typeIs_str _ _ _) PySem.F.entry_str_isdigit (PySem.F.args_str_isdigit_1 _) (PySem.gives_str_isdigit z t).meets ⟨.bl _,H,I,rfl,q⟩
def ZK(k:Bool):D->Option R
 | .str z=>some (.v (.bl (if k then Txt.isdigit z else Txt.isascii z)))|_=>none
def zAl{o:Expr}{a:ME}{apos cpos:Pos}(ho:EOk X o a)(hbase:attributeBase o "isascii" X.env (eval o X.env)=eval o X.env)(hline:(apos.endLine==cpos.line)=true) :
  EOk X (.Call (.Attribute o "isascii" apos) [] [] cpos) (eUn (ZK false) a) :=
 zc (zBM PySem.F.plainAttrs_str PySem.F.slot_str_isascii PySem.F.type_str_isascii uU ho hbase hline) λO H Q h=>Gz (rel:=λx H Q=>tyV X.K "str" x H/\∃z,x=.str z/\([]:List V)=[]/\Q (.bl (Txt.isascii z)) H) (λM H Z x d res Q f r e k=>by
  cases d with
  |str z=>cases e;cases z9 r;exact⟨rfl,z,rfl,rfl,k.flat f rfl⟩|_=>cases e) h
def zAm{o:Expr}{a:ME}{apos cpos:Pos}(ho:EOk X o a)(hbase:attributeBase o "isdigit" X.env (eval o X.env)=eval o X.env)(hline:(apos.endLine==cpos.line)=true) :
  EOk X (.Call (.Attribute o "isdigit" apos) [] [] cpos) (eUn (ZK true) a) :=
 zc (zBM PySem.F.plainAttrs_str PySem.F.slot_str_isdigit PySem.F.type_str_isdigit uV ho hbase hline) λO H Q h=>Gz (rel:=λx H Q=>tyV X.K "str" x H/\∃z,x=.str z/\([]:List V)=[]/\Q (.bl (Txt.isdigit z)) H) (λM H Z x d res Q f r e k=>by
  cases d with
  |str z=>cases e;cases z9 r;exact⟨rfl,z,rfl,rfl,k.flat f rfl⟩|_=>cases e) h
def mt_join:MtR X "str.join" (λx vs H Q=>∃z l ts,x=.str z/\vs=[.ref l]/\SqL X.K H l (ts.map V.str)/\JoinOk z ts=true/\Q (.str (Txt.join z ts)) H):=by
 intro pins s O H x vs v us Q I rx rv h;obtain⟨z,l,ts,rfl,rfl,hs,hok,q⟩:=h;obtain⟨t,rfl⟩:=rx;obtain⟨u,rfl,ru⟩:=YF rv;cases ru;obtain⟨its,r,p,_⟩:=I.list hs;obtain⟨l',rfl,e⟩:=We r;exact SC.join p.isList e hok λt' k=>⟨.str _,H,I.tok _,⟨_,rfl⟩,q⟩
def zAn:MtR X "str.split" (λx vs H Q=>∃z y,x=.str z/\vs=[.str y]/\(y.length==0)=false/\z.length<=1000/\∀l,H l=none->Q (.ref l) (upd H l (.l ((Txt.split z y).map V.str)))):=by
 intro pins s O H x vs v us Q I rx rv h;obtain⟨z,y,rfl,rfl,hy,hz,q⟩:=h;obtain⟨t,rfl⟩:=rx;obtain⟨w,rfl,u,rfl⟩:=YF rv;have hln:=YE;have hsl:(1002:Nat)<=sizeLine:=by decide +kernel
 have hle:=PyProof.Rows.split_le z y;have fin:∀(l:List (Str×Tok)) (c:Nat) (tk:Nat),l.map (·.1)=Txt.split z y->EP X pins O Q (.ref s.heap.objs.size) {s with heap:=s.heap.push {cls:=.type "list",data:=.seq (strValues l).toArray c},toks:=tk}:=λl c tk e =>
  ⟨.ref s.heap.objs.size,_,I.laid (t':=tk) (λb o e=>get?_push_of_some _ e) (le_refl _) (show jK X.prog X.w _ _ _ (.l ((Txt.split z y).map V.str))from⟨by rw[length_map];omega,_,c,Wf e,get?_push_size _ rfl⟩),rfl,q _ (I.hok.fresh (le_refl _))⟩
 cases h1:(decide (z.length<y.length)||decide (Builtin.Str.strKind z<Builtin.Str.strKind y))with
 |true=>exact call_meets PySem.F.slot_str_split (typeIs_str _ _ _) PySem.F.entry_str_split (PySem.F.args_str_split_2 _ _) (PySem.meets_str_split_cannot_occur z y t u h1) (fin [(z,t)] _ _ (if_pos h1).symm)
 |false =>
  cases hf:(Builtin.Str.occurrences z y 0 z.length (z.length+1)).isEmpty with
  |true=>exact call_meets PySem.F.slot_str_split (typeIs_str _ _ _) PySem.F.entry_str_split (PySem.F.args_str_split_2 _ _) (PySem.meets_str_split_not_found z y t u h1 hy hf) (fin [(z,t)] _ _ ((if_neg (ne_true_of_eq_false h1)).trans (if_pos hf)).symm)
  |false =>
   have es:Txt.split z y=Builtin.Str.partsBetween z (Builtin.Str.occurrences z y 0 z.length (z.length+1)) y.length:=(if_neg (ne_true_of_eq_false h1)).trans (if_neg (ne_true_of_eq_false hf));refine call_meets PySem.F.slot_str_split (typeIs_str _ _ _) PySem.F.entry_str_split (PySem.F.args_str_split_2 _ _) (PySem.meets_str_split_sep z y t u h1 hy hf (by omega) (by rw[<- es];omega)) ?_;show wants (EP X pins O Q) X.xe _ {s with toks:=_,heap:=s.heap.push {cls:=.type "list",data:=.seq (strsFrom s.toks (Builtin.Str.partsBetween z (Builtin.Str.occurrences z y 0 z.length (z.length+1)) y.length)).toArray}}
   rw[strsFrom_eq];exact fin _ _ _ ((numbered_texts _ _).trans es.symm)
def Wg(f:D->D->Option R)(a b:ME):ME:=λE=>match a E with
 | .z=>.z| .exc x E1=>.exc x E1
 | .ok (r1,E1)=>match r1 with
  | .v (.str z)=>(match b E1 with
   | .z=>.z| .exc x E2=>.exc x E2
   | .ok (r2,E2)=>match f (.str z) r2.d with
    |some r=>.ok (r,E2)|none=>.z)
  |_=>.z
def Wh:D->D->Option R
 | .str z,.l ds=>(j9 ds).bind λts=>if JoinOk z ts=true then some (.v (.str (Txt.join z ts)))else none|_,_=>none
def w6:D->D->Option R
 | .str z,.str y=>if(y.length==0)=false/\z.length<=1000 then some (.own ((Txt.split z y).map D.str))else none|_,_=>none
def vn{f:D->D->Option R}{rel:V->List V->Hp->VK->Prop}{a b:ME}{Q:VK}(hr:ROk X.K X.mg (λx y H Q=>rel x [y] H Q) f)(h:tM X (Wg f a b) O H Q):tBM X.K "str" rel (tM X a) (W2 (tM X b) tNil) O H Q:=by
 obtain⟨M,E,hl,fr,k⟩:=h;unfold Wg at k;refine zd (T0:=[]) hl fr ?_;cases ea:a E with
 |z=>rw[ea]at k;exact k|exc x E1=>rw[ea]at k;exact k
 |ok p =>
  obtain⟨r1,E1⟩:=p;rw[ea]at k;intro x H1 g1;dsimp only at k;cases r1 with
  |v d =>
   cases d with
   |str z =>
    have rx:=g1.rep;have ex:=z9 rx;subst ex;refine⟨(show tyV X.K "str" (.str z) H1 from rfl),?_⟩;refine zd (T0:=[(some (.str z),R.slot (.v (.str z)))]) g1.len g1.fr ?_;dsimp only at k;cases eb:b E1 with
    |z=>rw[eb]at k;exact k|exc x E2=>rw[eb]at k;exact λH' g=>k H' (g1.trans' g).dropAll
    |ok p =>
     obtain⟨r2,E2⟩:=p;rw[eb]at k;intro y H2 g2;have g:=g1.trans' g2;have rp:=Got.reps (vs:=[y,.str z]) (rs:=[r2,.v (.str z)]) rfl g;simp only[List.map,Reps]at rp;obtain⟨y',_,e1,ry,x',_,e2,rx,_⟩:=rp;cases e1;cases e2;dsimp only at k;cases ef:f (.str z) r2.d with
     |none=>rw[ef]at k;exact k.elim
     |some r =>
      rw[ef]at k;exact hr M H2 _ (.str z) y (.str z) r2.d r Q g.frame (by simp only[Rep]) ry ef λv H' f' s'=>k v H' (g.more (T:=[(some v,r.slot)]) f' s')
   |_=>exact k.elim
  |_=>exact k.elim
def ro_join:ROk K mg (λx y H Q=>∃z l ts,x=.str z/\[y]=[.ref l]/\SqL K H l (ts.map V.str)/\JoinOk z ts=true/\Q (.str (Txt.join z ts)) H) Wh:=by
 intro M H Z x y d1 d2 res Q f r1 r2 e k;cases d1 with
 |str z =>
  cases d2 with
  |l ds =>
   simp only[Wh]at e;cases es:j9 ds with
   |none=>rw[es]at e;cases e
   |some ts =>
    rw[es]at e;simp only[Option.bind_some]at e;split at e
    ·rename_i hz
     cases e;have:=YV es;subst this;obtain⟨p,ys,rfl,h1,h2⟩:=zN r2;rw[YW h2]at h1;exact⟨z,p,ts,z9 r1,rfl,zK.seq h1,hz,k.flat f rfl⟩
    ·cases e
  |_=>cases e
 |_=>cases e
def zAo:ROk K mg (λx y H Q=>∃z u,x=.str z/\[y]=[.str u]/\(u.length==0)=false/\z.length<=1000/\∀l,H l=none->Q (.ref l) (upd H l (.l ((Txt.split z u).map V.str)))) w6:=by
 intro M H Z x y d1 d2 res Q f r1 r2 e k;cases d1 with
 |str z =>
  cases d2 with
  |str u =>
   simp only[w6]at e;split at e
   ·rename_i hz
    cases e;exact⟨z,u,z9 r1,by rw[z9 r2],hz.1,hz.2,λl hl=>k.own f hl (YX _)⟩
   ·cases e
  |_=>cases e
 |_=>cases e
def ok_join{o e:Expr}{a b:ME}{apos cpos:Pos}(ho:EOk X o a)(he:EOk X e b)(hbase:attributeBase o "join" X.env (eval o X.env)=eval o X.env)(hs:zL e=false)(hline:(apos.endLine==cpos.line)=true)
  (hfew:((backTo cpos (starEach (e::[]) X.env)).all (λx=>!x.1)&&(backToKw cpos (keywordEach [] X.env)).all (λx=>x.1.isSome)&&decide ((e::([]:List Expr)).length+([]:List Keyword).length+(if([]:List Keyword).isEmpty then 0 else 1)<30))=true) :
  EOk X (.Call (.Attribute o "join" apos) [e] [] cpos) (Wg Wh a b) :=
 zc (GC PySem.F.plainAttrs_str PySem.F.slot_str_join PySem.F.type_str_join mt_join ho (yK he jg (zF hs)) hbase hfew hline (zF hs) rfl) λO H Q h=>vn ro_join h
def zAp{o e:Expr}{a b:ME}{apos cpos:Pos}(ho:EOk X o a)(he:EOk X e b)(hbase:attributeBase o "split" X.env (eval o X.env)=eval o X.env)(hs:zL e=false)(hline:(apos.endLine==cpos.line)=true)
  (hfew:((backTo cpos (starEach (e::[]) X.env)).all (λx=>!x.1)&&(backToKw cpos (keywordEach [] X.env)).all (λx=>x.1.isSome)&&decide ((e::([]:List Expr)).length+([]:List Keyword).length+(if([]:List Keyword).isEmpty then 0 else 1)<30))=true) :
  EOk X (.Call (.Attribute o "split" apos) [e] [] cpos) (Wg w6 a b) :=
 zc (GC PySem.F.plainAttrs_str PySem.F.slot_str_split PySem.F.type_str_split zAn ho (yK he jg (zF hs)) hbase hfew hline (zF hs) rfl) λO H Q h=>vn zAo h
end
end DV
namespace DV
open PySem PyProof.Rows
section
variable{prog:Program}{w:World}{A:Around}{E:Value->Shared->Prop}
def Wi(hh:A.handled=none)(I ax:Addr)(hne:ax≠I)(items:Array Value)(n:Nat)(hn:n+1=items.size) :
  Walks prog w A I [I,ax] [I] n (λi v=>items[i+1]?=some v) (λi h=>h.IsListIter I ax (i+1)/\h.IsList ax items) where
 sub:=(Walks.list (prog:=prog) (w:=w) hh I ax hne items).sub
 frame:=λi h h' st k=>(Walks.list (prog:=prog) (w:=w) hh I ax hne items).frame (i+1) h h' st k
 item:=λi s Q E hi st hQ=>(Walks.list (prog:=prog) (w:=w) hh I ax hne items).item (i+1) s Q E (by omega) st hQ
 done:=λs Q E st hQ=>(Walks.list (prog:=prog) (w:=w) hh I ax hne items).done s Q E (by rw[<- hn];exact st) hQ
 self:=λi s Q E st hQ=>(Walks.list (prog:=prog) (w:=w) hh I ax hne items).self (i+1) s Q E st hQ
variable{s:Shared}
def vJ{t:Addr}{x:Value}{r:List Value}{Q:List Value->Shared->Prop}(hh:A.handled=none)(ht:s.heap.IsList t (x::r).toArray)(hz:r.length<=sizeLine)
  (hQ:∀s':Shared,(∀b o,s.heap.get? b=some o->s'.heap.get? b=some o)->s'.gens=s.gens->s'.drawn=s.drawn->s'.os=s.os->Q [x,.ref s'.heap.objs.size] {s' with heap:=s'.heap.push {cls:=.type "list",data:=.seq r.toArray}}) :
  wpAny (model prog w) A (unpackItems (.ref t) 2 (some 1)) Q E s:=by
 have hlt:t≠s.heap.objs.size:=by obtain⟨o,ho,_⟩:=ht;exact ne_of_lt (lt_size ho)
 have keep:∀{h:Heap},(∀b o,b≠s.heap.objs.size->s.heap.get? b=some o->h.get? b=some o)->h.IsList t (x::r).toArray:=λk=>by
  obtain⟨o,ho,hc,n,hd⟩:=ht;exact⟨o,k t o hlt ho,hc,n,hd⟩
 unfold unpackItems notIterableAtAll;refine wpAny_bind (wpAny_bind (wpAny_specialOf ht.typeIs slot_list_iter.lookup (wpAny_pure ?_)));simp only[Bool.false_eq_true,if_false];refine wpAny_bind (wpAny_holding (wpAny_pyIter_list ht ?_));refine wpAny_bind (wpAny_holding (Wc hlt 1 0 _ _ ⟨_,get?_push_size _ rfl,rfl,rfl⟩ (keep λb o _ e=>get?_push_of_some _ e) (by simp) λh₁ hit₁ hs₁=>?_));rw[if_neg (by simp)];have ht₁:h₁.IsList t (x::r).toArray:=keep λb o hb e=>hs₁.extBut b o hb (get?_push_of_some _ e)
 have ext₁:∀b o,s.heap.get? b=some o->h₁.get? b=some o:=λb o e=>hs₁.extBut b o (ne_of_lt (lt_size e)) (get?_push_of_some _ e)
 have hitL:s.heap.objs.size<h₁.objs.size:=by obtain⟨o,e,_⟩:=hit₁;exact lt_size e
 have htL:t<h₁.objs.size:=by obtain⟨o,e,_⟩:=ht₁;exact lt_size e
 refine wpAny_bind (wpAny_holding (wpAny_collect_iter (T:="list_iterator") (.inr (.inr (.inl rfl))) (Wi (A:=A.in1) hh s.heap.objs.size t hlt (x::r).toArray r.length (by simp)).toS
  (λi s' st=>by obtain⟨⟨o,e,c,_⟩,_⟩:=st;exact⟨o,e,c⟩) ⟨hit₁,ht₁⟩ (λb hb=>?_) (mem_cons_self) (λs' acc mv it=>?_) hz))
 ·rcases mem_cons.mp hb with rfl|hb
  ·exact hitL
  ·rw[mem_singleton.mp hb];exact htL
 ·have ea:acc.toList=r:=by
   obtain⟨h1,h2⟩:=it;refine List.ext_getElem? λj=>?_
   by_cases hj:j<r.length
   ·have e1:acc[j]?=some acc[j]:=by simp[h1,hj]
    have e2:=h2 j _ e1;rw[Array.getElem?_toList,e1];simpa using e2.symm
   ·rw[List.getElem?_eq_none (by simp[h1];omega),List.getElem?_eq_none (by omega)]
  rw[ea];dsimp only;rw[if_neg (by simp)];have e3:r.take (r.length-(2-1-1))=r:=by simp
  have e4:r.drop (r.length-(2-1-1))=[]:=by simp
  rw[e3,e4];refine wpAny_bind (wpAny_newList ?_ hz);refine wpAny_pure ?_;exact hQ s' (λb o e=>mv.heap b o (λz=>by
   have:=mem_singleton.mp z
   exact ne_of_lt (lt_size e) this) (ext₁ b o e)) mv.gens mv.drawn mv.os
end
end DV
namespace DV
open PySem L2
section
variable{X:Cx}{O:L2.St}{H:Hp}
def gStar(K:PySem.W.Frag)(i j:Nat):TG:=λv O H Q=>∃a x xs,v=.ref a/\SqL K H a (x::xs)/\∀l,H l=none->Q ((O.set i (some x)).set j (some (.ref l))) (upd H l (.l xs))
def pg_star{x y:Str}{px py ps p:Pos}{k i j:Nat}(hc:X.calm=true)(h:PGs X [.Name x px,.Name y py] (wP [i,j])):PG X (.Tuple [.Name x px,.Starred (.Name y py) ps] k p) (gStar X.K i j):=by
 intro pins s O H v u Q I r hw;obtain⟨a,z,xs,e1,hq,hw⟩:=hw;subst e1;cases r;obtain⟨its,rv,ht,hz⟩:=I.list hq;cases rv with
 |cons r1 r2 =>
 rename_i u0 us;have hl:=r2.length;rw[PyProof.Rows.assign_Tuple];refine wpAny_bind (wpAny_standAt ?_);unfold unpack;refine wpAny_bind (wpAny_holding (vJ (I.ok.hd hc) ht.isList (by simp only[length_cons]at hz;omega) λs' kp eg ed eo=>?_));have es:s'={s with heap:=s'.heap,toks:=s'.toks}:=by
  obtain⟨a1,a2,a3,a4,a5⟩:=s';obtain⟨b1,b2,b3,b4,b5⟩:=s;cases eg;cases ed;cases eo;rfl
 have I1:Inv X pins O H s':=by rw[es];exact I.kept (t':=s'.toks) kp
 have I2:Inv X pins O (upd H s'.heap.objs.size (.l xs)) {s' with heap:=s'.heap.push {cls:=.type "list",data:=.seq us.toArray}} :=
  I1.laid (t':=s'.toks) (λb o e=>get?_push_of_some _ e) (le_refl _) (show jK X.prog X.w _ _ _ (.l xs)from⟨by simp only[length_cons]at hz;omega,us,0,r2,get?_push_size _ rfl⟩)
 exact h pins _ O _ [z,.ref s'.heap.objs.size] _ Q I2 (.cons r1 (.cons rfl .nil)) ⟨z,_,rfl,⟨_,_,rfl,rfl,hw _ (I1.hok.fresh (le_refl _))⟩⟩
def sStar(i j:Nat)(m:ME):MS:=λE=>match m E with
 | .z=>.z| .exc x E1=>.exc x E1
 | .ok (r,E1)=>match r.d with
  | .l (.str z::ds)=>(match j9 ds with
   |some _=>(match JM i (.v (.str z)) E1 with
    | .ok E2=>(match JM j (.own ds) E2 with
     | .ok E3=>.ok (.nx,E3)|_=>.z)
    |_=>.z)
   |none=>.z)
  |_=>.z
def G8{i j:Nat}{m:ME}{D:Ends}(h:tS X (sStar i j m) D O H):tAsg (tM X m) (gStar X.K i j) D O H:=by
 obtain⟨M,E,hl,fr,k⟩:=h;unfold sStar at k;refine zd (T0:=[]) hl fr ?_;cases ea:m E with
 |z=>rw[ea]at k;exact k|exc x E1=>rw[ea]at k;exact λH' g=>k O H' g
 |ok p =>
  obtain⟨r,E1⟩:=p;rw[ea]at k;intro v H1 g;dsimp only at k;split at k
  ·rename_i z ds ed
   cases es:j9 ds with
   |none=>rw[es]at k;exact k.elim
   |some ts =>
    rw[es]at k;have e0:=YV es;subst e0;have g0:=g.dropAll;have rp:=g.rep;rw[ed]at rp;obtain⟨a,xs,rfl,h1,h2⟩:=zN rp;have e5:=YW (ts:=z::ts) h2;subst e5;dsimp only at k;cases e1:JM i (.v (.str z)) E1 with
    |z=>rw[e1]at k;exact k.elim|exc _ _=>rw[e1]at k;exact k.elim
    |ok E2 =>
     rw[e1]at k;dsimp only at k;cases e2:JM j (.own (ts.map DV.D.str)) E2 with
     |z=>rw[e2]at k;exact k.elim|exc _ _=>rw[e2]at k;exact k.elim
     |ok E3 =>
      rw[e2]at k;refine⟨a,.str z,ts.map V.str,rfl,zK.seq h1,λl hl=>?_⟩;have g1:=g0.more (T:=[(some (.str z),R.slot (.v (.str z)))]) (FR.add g0.frame (by simp only[Rep])) Step.refl.add;have g2:=JN g1 e1;have g3:=g2.more (T:=[(some (.ref l),R.slot (.own (ts.map DV.D.str)))]) (FR.newOwn g2.frame hl (YX ts)) (Step.newOwn g2.frame hl);exact k _ _ (JN g3 e2)
  ·exact k.elim
def sk_star{i j:Nat}{x y:Str}{px py ps:Pos}{e:Expr}{m:ME}{k:Nat}{p pos:Pos}(hc:X.calm=true)(h:PGs X [.Name x px,.Name y py] (wP [i,j]))(he:EOk X e m)(hs:swapsWithSole [.Tuple [.Name x px,.Starred (.Name y py) ps] k p] e pos.line X.env=pure false)(hw:swappedStores [.Tuple [.Name x px,.Starred (.Name y py) ps] k p] e X.env=pure none) :
  SOk X (.Assign [.Tuple [.Name x px,.Starred (.Name y py) ps] k p] e pos) (sStar i j m) :=
 jc (zBG he (pg_star hc h) hs hw) λD O H=>G8
end
inductive Op2 where
 |add|sub|mul|fdiv|mod|pow
def Op2.op:Op2->Operator
 | .add=>.Add | .sub=>.Sub | .mul=>.Mult | .fdiv=>.FloorDiv | .mod=>.Mod | .pow=>.Pow
def Op2.f:Op2->D->D->Option R
 | .add=>Z7 | .sub=>subD | .mul=>mulG | .fdiv=>zAG | .mod=>modD | .pow=>powD
inductive Cp where
 |lt|le|gt|ge|eq|ne
def Cp.op:Cp->CmpOp
 | .lt=>.Lt | .le=>.LtE | .gt=>.Gt | .ge=>.GtE | .eq=>.Eq | .ne=>.NotEq
def Cp.f:Cp->D->D->Option R
 | .lt=>ltD | .le=>leD | .gt=>gtD | .ge=>geD | .eq=>eqG | .ne=>neG
def Cp.isI:Cp->Bool
 | .lt | .le | .gt | .ge=>true
 |_=>false
def Cp.b:Cp->Int->Int->Bool
 | .lt=>ltB | .le=>leB | .gt=>gtB|_=>geB
inductive Bi where
 |len|max|all|int|tuple|list|strT|intT|lenT
def Bi.nm:Bi->Str
 | .len=>"len" | .max=>"max" | .all=>"all" | .int=>"int" | .tuple=>"tuple" | .list=>"list" | .strT=>"str" | .intT=>"int" | .lenT=>"len"
def Bi.f:Bi->List D->Option R
 | .len=>lenD | .max=>maxD | .all=>allD | .int=>intF | .tuple=>zBU | .list=>listD | .strT=>strF | .intT=>DV.intT | .lenT=>DV.lenT
inductive Ty where
 |int|bool|tuple|list|str|dict
def Ty.s:Ty->String
 | .int=>"int" | .bool=>"bool" | .tuple=>"tuple" | .list=>"list" | .str=>"str" | .dict=>"dict"
def Ty.nm:Ty->Str
 | .int=>"int" | .bool=>"bool" | .tuple=>"tuple" | .list=>"list" | .str=>"str" | .dict=>"dict"
inductive Tg where
 |n (i:Nat)
 |t (is:List Nat)
def Tg.m:Tg->MG
 | .n i=>gN i| .t is=>gT is
mutual
inductive Ex where
 |c (d:D)|gl (d:D)|var (i:Nat)
 |bin (o:Op2) (a b:Ex)|cmp (o:Cp) (a b:Ex)|chain (o o':Cp) (a b c:Ex)
 |neg (a:Ex)|not (a:Ex)|and (a b:Ex)
 |ifx (t:Tx) (a b:Ex)|t (as:Ax)|l (as:Ax)|dic
 |ix (a b:Ex)|ixO (i:Nat) (b:Ex)|lenO (i:Nat)|sl (a:Ex) (l h:Ox)
 |comp (nl:Nat) (loc capn:List Str) (caps:List Nat) (it:Ix) (tg:Tg) (tt:Tx) (el:Ex)
 |is (T:Ty) (a:Ex)|cB (b:Bi) (as:Ax)|call (k:Nat) (as:Gx)
 |isC (cl:List Str) (y:Str) (a:Ex)|isV (cl:List Str) (a:Ex)|cnt (a b:Ex)|idx (a b:Ex)
 |cat (a b:Ex)|ixT (a b:Ex)|joi (a b:Ex)|spl (a b:Ex)|asc (a:Ex)|dig (a:Ex)
inductive Tx where
 |tAnd (a b:Tx)|tOr (a b:Tx)|tNot (a:Tx)|tE (a:Ex)|tBor (i:Nat) (a:Tx)|tTr
inductive Ax where
 |nil|cons (a:Ex) (as:Ax)
inductive Gx where
 |nil|ev (a:Ex) (as:Gx)|lend (i:Nat) (as:Gx)
inductive Ox where
 |oN|oS (a:Ex)
inductive Ix where
 |iL (a:Ex)|iT (a:Ex)|iR1 (as:Ax)
end
mutual
inductive Sx where
 |sIf (t:Tx) (a b:Bx)|sSet (i:Nat) (a:Ex)|sRet (a:Ex)|sDrop (a:Ex)|sIx (i:Nat) (b a:Ex)|sApp (i:Nat) (a:Ex)
 |sForL (a:Ex) (tg:Tg) (b:Bx)|sForR1 (as:Ax) (tg:Tg) (b:Bx)
 |sAny|sPar (i j:Nat) (as:Ax)|sStar (i j:Nat) (a:Ex)
 |sRaise (c:Str)|sTry (cl:List Str) (b:Bx) (i:Nat) (h:Bx)
inductive Bx where
 |bNil|bOne (s:Sx)|bSeq (s:Sx) (b:Bx)
end
structure FI where
 x:Str
 n:Nat
 lv:Nat
 wild:Bool
 F:MF
def fiF(fs:List FI)(k:Nat):MF:=match fs[k]? with
 |some i=>i.F|none=>λ_=>.z
def fiX(fs:List FI)(k:Nat):Str:=match fs[k]? with
 |some i=>i.x|none=>""
def noXE(m:ME):ME:=λE=>match m E with
 | .exc _ _=>.z|o=>o
def zBl(m:MS):MS:=λE=>match m E with
 | .exc _ _=>.z|o=>o
def G9{m:ME}{E:zQ}{p:R×zQ}(h:m E=.ok p):noXE m E=.ok p:=by simp only[noXE,h]
def QA{m:MS}{E:zQ}{p:Fl×zQ}(h:m E=.ok p):zBl m E=.ok p:=by simp only[zBl,h]
def no_E{X:Cx}{e:Expr}{m:ME}(h:EOk X.nox e m):EOk X e (noXE m):=zc h.nox λO H Q ⟨M,E,hl,fr,k⟩=>by
 unfold noXE at k;refine⟨M,E,hl,fr,?_⟩;cases e:m E with
 |z=>rw[e]at k;exact k|exc x E1=>rw[e]at k;exact k.elim|ok p=>rw[e]at k;exact k
def no_S{X:Cx}{st:Stmt}{m:MS}(h:SOk X.nox st m):SOk X st (zBl m):=λpins s O H D I ⟨M,E,hl,fr,k⟩=>by
 refine wpAny_mono (h pins s O H D (I.wish _) ⟨M,E,hl,fr,?_⟩) (λ_ _ q=>q.unwish) λ_ _ z=>False.elim z
 unfold zBl at k;cases e:m E with
 |z=>rw[e]at k;exact k|exc x E1=>rw[e]at k;exact k.elim
 |ok p =>
  rw[e]at k;obtain⟨fl,E1⟩:=p;cases fl<;>exact k
def no_set{i:Nat}{m:ME}:zBl (sSet i m)=sSet i (noXE m):=by
 funext E
 simp only[zBl,sSet,noXE];cases m E with
 |z=>rfl|exc x E1=>rfl
 |ok p =>
  obtain⟨r,E1⟩:=p;dsimp only;cases JM i r E1<;>rfl
mutual
def dE(fs:List FI):Ex->ME
 | .c d=>eC d| .gl d=>eC d| .var i=>ub i| .bin o a b=>Jt o.f (dE fs a) (dE fs b)| .cmp o a b=>Jt o.f (dE fs a) (dE fs b)| .chain o o' a b c=>wx o.b o'.b (dE fs a) (dE fs b) (dE fs c)| .neg a=>eNeg (dE fs a)| .not a=>eNot (dE fs a)| .and a b=>zBS (dE fs a) (dE fs b)| .ifx t a b=>eIf (dT fs t) (dE fs a) (dE fs b)| .t as=>eTup (dA fs as)| .l as=>eLst (dA fs as)| .dic=>eC .dic| .ix a b=>Jt ixD (dE fs a) (dE fs b)| .ixO i b=>eIxO i (dE fs b)| .lenO i=>GX i| .sl a l h=>eSl slD (dE fs a) (dO fs l) (dO fs h)| .comp nl _ _ caps it tg tt el=>noXE (Yz nl caps (dI fs it) tg.m (dT fs tt) (dE fs el))| .is T a=>eIs T.s (dE fs a)| .cB b as=>eCB b.f (dA fs as)| .call k as=>jd (fiF fs k) (dG fs as)| .isC cl y a=>eIsX cl (·==y) (dE fs a)| .isV cl a=>eIsX cl (λ_=>true) (dE fs a)| .cnt a b=>eMet cntD (dE fs a) (dE fs b)| .idx a b=>eMet idxD (dE fs a) (dE fs b)| .cat a b=>Jt zBk (dE fs a) (dE fs b)| .ixT a b=>Jt DV.ixT (dE fs a) (dE fs b)| .joi a b=>Wg Wh (dE fs a) (dE fs b)| .spl a b=>Wg w6 (dE fs a) (dE fs b)| .asc a=>eUn (ZK false) (dE fs a)| .dig a=>eUn (ZK true) (dE fs a)
def dT(fs:List FI):Tx->MT
 | .tAnd a b=>uR (dT fs a) (dT fs b)| .tOr a b=>tOrM (dT fs a) (dT fs b)| .tNot a=>GR (dT fs a)| .tE a=>tT (dE fs a)| .tBor i a=>zAg i (dT fs a)| .tTr=>zAV
def dA(fs:List FI):Ax->MA
 | .nil=>aNil| .cons a as=>vB (dE fs a) (dA fs as)
def dG(fs:List FI):Gx->List Arg
 | .ev a as=>.ev (dE fs a)::dG fs as| .lend i as=>.lend i::dG fs as| .nil=>[]
def dO(fs:List FI):Ox->MO
 | .oN=>oNone| .oS a=>zAJ (dE fs a)
def dI(fs:List FI):Ix->MI
 | .iL a=>iL (dE fs a)| .iT a=>iT (dE fs a)| .iR1 as=>iR1 (dA fs as)
end
mutual
def dS(fs:List FI):Sx->MS
 | .sIf t a b=>sIf (dT fs t) (dB fs a) (dB fs b)| .sSet i a=>sSet i (dE fs a)| .sRet a=>sRet (dE fs a)| .sDrop a=>sDrop (dE fs a)| .sIx i b a=>YN i (dE fs b) (dE fs a)| .sApp i a=>sApp i (dE fs a)| .sStar i j a=>DV.sStar i j (dE fs a)| .sPar i j as=>sPar i j (dA fs as)| .sForL a tg b=>zBl (sForL (dE fs a) tg.m (dB fs b))| .sForR1 a tg b=>zBl (sForR1 (dA fs a) tg.m (dB fs b))| .sAny=>λ_=>.z| .sRaise c=>DV.sRaise c| .sTry cl b i h=>DV.sTry cl i (dB fs b) (dB fs h)
def dB(fs:List FI):Bx->MS
 | .bNil=>sNil| .bOne s=>dS fs s| .bSeq s b=>ud (dS fs s) (dB fs b)
end
structure Sg where
 N:List Str
 sc:Scope
 top:Bool
 cs:List (Str×D)
 fs:List FI
 bs:List Str
 lv:Nat
 calm:Bool
 cl:List Str
 rs:List Str
 oc:List Str
def kIs(sg:Sg)(x:Str)(k:NameKind):Bool:=sg.sc.names.lookup x==some k
def vis(sg:Sg)(i:Nat)(x:Str):Bool:=sg.N[i]?==some x&&(kIs sg x .local||(kIs sg x .cell||kIs sg x .free))&&(!(x==("__debug__":Str))&&!(x==("__classdict__":Str)))
def glb(sg:Sg)(x:Str):Bool:=kIs sg x .globalImplicit&&!(x==("__debug__":Str))
def locd(sg:Sg)(i:Nat)(x:Str):Bool:=sg.N[i]?==some x&&(kIs sg x .local||(kIs sg x .cell&&(sg.top||sg.oc.contains x)))
def cIs:D->Const->Bool
 | .non,.none=>true| .bl b,.bool c=>b==c| .int i,.int j=>i==j| .str x,.str y=>x==y|_,_=>false
def feq:D->D->Bool
 | .non,.non=>true| .bl b,.bl c=>b==c| .int i,.int j=>i==j| .str x,.str y=>x==y|_,_=>false
def geq:D->D->Bool
 | .t [.int a,.int b],.t [.int c,.int d]=>a==c&&b==d| .t [.non,.int b],.t [.non,.int d]=>b==d|d,e=>feq d e
def gIs(sg:Sg)(x:Str)(d:D):Bool:=match sg.cs.lookup x with
 |some d'=>geq d d'|none=>false
def fIs(sg:Sg)(k:Nat)(x:Str):Bool:=match sg.fs[k]? with
 |some i=>i.x==x|none=>false
def fArg(sg:Sg)(n:Nat)(k:Nat):Bool:=match sg.fs[k]? with
 |some i=>i.n==n&&decide (i.lv<=sg.lv)&&(sg.calm||i.wild)
 |none=>false
def bIn(sg:Sg)(x:Str):Bool:=sg.bs.contains x
def gLen:Gx->Nat
 | .ev _ as=>gLen as+1| .lend _ as=>gLen as+1| .nil=>0
def vo:Tg->Sg->Expr->Bool
 | .n i,sg,e=>match e with
  | .Name x _=>locd sg i x|_=>false
 | .t is,sg,e=>match e with
  | .Tuple es _ _=>all2 sg is es|_=>false
where all2 (sg:Sg):List Nat->List Expr->Bool
 | [],[]=>true
 |i::is,e::es=>(match e with | .Name x _=>locd sg i x|_=>false)&&all2 sg is es
 |_,_=>false
def relab(scope:Scope)(sc:Scope):Scope:={scope with names:=scope.names.map λ(n,k)=>if(k==NameKind.free&&sc.kind==.function&&sc.names.lookup n==some .cell)then(n,NameKind.cell)else(n,k)}
def capB(sg:Sg)(scope:Scope):List Nat->List Str->Bool
 | [],[]=>true|j::js,x::xs=>sg.N[j]?==some x&&scope.names.lookup x==some .free&&capB sg scope js xs|_,_=>false
def W0(sg:Sg)(N:List Str)(scope:Scope):Sg:={sg with N:=N,sc:=relab scope sg.sc,top:=false,oc:=(scope.names.filter λy=>y.2==.cell).map Prod.fst}
def QB(sg:Sg)(nl:Nat)(loc capn:List Str)(caps:List Nat)(scope:Scope):Bool :=
 loc.length==nl&&scope.kind==.function&&decide (loc++capn).Nodup&&scope.names.all (λy=>y.2 != .local||scope.names.lookup y.1==some .local)&&scope.names.all (λy=>y.2 != .cell||scope.names.lookup y.1==some .cell)
  && scope.names.all (λy=>y.2 != .free||sg.sc.names.lookup y.1==some .cell)&&capB sg scope caps capn
def isCmp:Ex->Bool
 | .cmp _ _ _=>true| .chain _ _ _ _ _=>true|_=>false
def QC:Expr->Bool
 | .Tuple _ _ _=>false|_=>true
def swB(sg:Sg)(x:Str)(px:Pos)(scope:Scope)(vp:Pos):Bool:=kIs sg x .local&&px.line==vp.line&&!(scope.names.any λy=>y.1==x&&(y.2==.local||y.2==.cell))
def isCo:Ex->Bool
 | .comp _ _ _ _ _ _ _ _=>true|_=>false
def setOk(sg:Sg)(x:Str)(px:Pos)(a:Ex)(v:Expr):Bool:=match v with
 | .ListComp _ _ scope vp=>sg.sc.kind==.function&&(!swB sg x px scope vp||isCo a)
 |v=>wN v
def QD(sg:Sg)(i j:Nat)(x y:Str)(px py:Pos)(a b:Expr):Bool :=
 sg.sc.kind==.function&&sg.N[i]?==some x&&sg.N[j]?==some y&&i != j&&kIs sg x .local&&kIs sg y .local&&py.line==px.line&&!(x==y)&&!zL a&&!zL b&&!([a,b].all (foldedForSure 8))&&!([a,b].all (constantsAlone 8))
def isTr:Tx->Bool
 | .tTr=>true|_=>false
def chkZ:Ix->Expr->Bool
 |_,_=>true
mutual
def zb:Ex->Sg->Expr->Bool
 | .c d,_,e=>match e with
  | .Constant k _ _=>cIs d k|_=>false
 | .gl d,sg,e=>match e with
  | .Name x _=>glb sg x&&gIs sg x d|_=>false
 | .var i,sg,e=>match e with
  | .Name x _=>vis sg i x|_=>false
 | .bin o a b,sg,e=>match e with
  | .BinOp x op y _=>op==o.op&&(zb a sg x&&zb b sg y)|_=>false
 | .cmp o a b,sg,e=>match e with
  | .Compare x [op] [y] _=>op==o.op&&yl y&&(zb a sg x&&zb b sg y)|_=>false
 | .chain o o' a b c,sg,e=>match e with
  | .Compare x [op,op'] [y,z] _=>op==o.op&&op'==o'.op&&o.isI&&o'.isI&&yl z&&(zb a sg x&&(zb b sg y&&zb c sg z))|_=>false
 | .neg a,sg,e=>match e with
  | .UnaryOp .USub x _=>zb a sg x|_=>false
 | .not a,sg,e=>match e with
  | .UnaryOp .Not x _=>zb a sg x|_=>false
 | .and a b,sg,e=>match e with
  | .BoolOp .And (x::y::r) p=>zb a sg x&&(match r with | []=>zb b sg y|z::r'=>zb b sg (.BoolOp .And (y::z::r') p))
  |_=>false
 | .ifx t a b,sg,e=>match e with
  | .IfExp c x y _=>chkT t sg c&&(zb a sg x&&zb b sg y)|_=>false
 | .t as,sg,e=>match e with
  | .Tuple es _ _=>chkA as sg es|_=>false
 | .l as,sg,e=>match e with
  | .List es _=>chkA as sg es|_=>false
 | .dic,_,e=>match e with
  | .Dict [] [] _=>true|_=>false
 | .ix a b,sg,e=>match e with
  | .Subscript x y _=>Yw y&&(zb a sg x&&zb b sg y)|_=>false
 | .ixO i b,sg,e=>match e with
  | .Subscript (.Name x _) y _=>vis sg i x&&Yw y&&zb b sg y|_=>false
 | .lenO i,sg,e=>match e with
  | .Call (.Name f _) [.Name x _] [] _=>f == "len"&&glb sg "len"&&bIn sg "len"&&vis sg i x|_=>false
 | .sl a l h,sg,e=>match e with
  | .Subscript x (.Slice lo hi none _) _=>zb a sg x&&(chkO l sg lo&&chkO h sg hi)|_=>false
 | .comp nl loc capn caps it tg tt el,sg,e=>match e with
  | .ListComp elt [⟨target,iter,ifs,0⟩] scope _=>sg.calm&&(QB sg nl loc capn caps scope&&yl iter&&((chkZ it target&&chkI it sg iter)&&(vo tg (W0 sg (loc++capn) scope) target&&((match ifs with | []=>isTr tt|c::cs=>cs.isEmpty&&chkT tt (W0 sg (loc++capn) scope) c)&&zb el (W0 sg (loc++capn) scope) elt))))
  |_=>false
 | .is T a,sg,e=>match e with
  | .Call (.Name f _) [x,.Name y _] [] _=>f == "isinstance"&&y==T.nm&&glb sg "isinstance"&&bIn sg "isinstance"&&glb sg T.nm&&bIn sg T.nm&&!zL x&&zb a sg x|_=>false
 | .cB b as,sg,e=>match e with
  | .Call (.Name f _) (x::es) [] _=>sg.calm&&(f==b.nm&&glb sg b.nm&&bIn sg b.nm&&yg (x::es)&&chkA as sg (x::es))|_=>false
 | .call k as,sg,e=>match e with
  | .Call (.Name f _) (x::es) [] _=>glb sg f&&fIs sg k f&&fArg sg (gLen as) k&&yg (x::es)&&chkG as sg (x::es)|_=>false
 | .isC cl y a,sg,e=>match e with
  | .Call (.Name f _) [x,.Name z _] [] _=>f == "isinstance"&&z==y&&glb sg "isinstance"&&bIn sg "isinstance"&&glb sg y&&(cl==sg.cl&&sg.cl.contains y)&&!zL x&&zb a sg x|_=>false
 | .isV cl a,sg,e=>match e with
  | .Call (.Name f _) [x,.Name z _] [] _=>f == "isinstance"&&z == "ValueError"&&glb sg "isinstance"&&bIn sg "isinstance"&&glb sg "ValueError"&&bIn sg "ValueError"&&(cl==sg.cl&&!sg.cl.isEmpty)&&!zL x&&zb a sg x|_=>false
 | .cnt a b,sg,e=>match e with
  | .Call (.Attribute (.Name x p) m ap) [v] [] cp=>m == "count"&&ap.endLine==cp.line&&!zL v&&(zb a sg (.Name x p)&&zb b sg v)|_=>false
 | .idx a b,sg,e=>match e with
  | .Call (.Attribute (.Name x p) m ap) [v] [] cp=>m == "index"&&ap.endLine==cp.line&&!zL v&&(zb a sg (.Name x p)&&zb b sg v)|_=>false
 | .cat a b,sg,e=>match e with
  | .BinOp x op y _=>op==.Add&&(zb a sg x&&zb b sg y)|_=>false
 | .ixT a b,sg,e=>match e with
  | .Subscript x y _=>Yw y&&(zb a sg x&&zb b sg y)|_=>false
 | .joi a b,sg,e=>match e with
  | .Call (.Attribute (.Constant x y p) m ap) [v] [] cp=>m == "join"&&ap.endLine==cp.line&&!zL v&&(zb a sg (.Constant x y p)&&zb b sg v)|_=>false
 | .spl a b,sg,e=>match e with
  | .Call (.Attribute (.Name x p) m ap) [v] [] cp=>m == "split"&&ap.endLine==cp.line&&!zL v&&(zb a sg (.Name x p)&&zb b sg v)|_=>false
 | .asc a,sg,e=>match e with
  | .Call (.Attribute (.Name x p) m ap) [] [] cp=>m == "isascii"&&ap.endLine==cp.line&&zb a sg (.Name x p)|_=>false
 | .dig a,sg,e=>match e with
  | .Call (.Attribute (.Name x p) m ap) [] [] cp=>m == "isdigit"&&ap.endLine==cp.line&&zb a sg (.Name x p)|_=>false
def chkT:Tx->Sg->Expr->Bool
 | .tAnd a b,sg,e=>match e with
  | .BoolOp .And (x::y::r) p=>chkT a sg x&&(match r with | []=>chkT b sg y|z::r'=>chkT b sg (.BoolOp .And (y::z::r') p))
  |_=>false
 | .tOr a b,sg,e=>match e with
  | .BoolOp .Or (x::y::r) p=>chkT a sg x&&(match r with | []=>chkT b sg y|z::r'=>chkT b sg (.BoolOp .Or (y::z::r') p))
  |_=>false
 | .tNot a,sg,e=>match e with
  | .UnaryOp .Not x _=>chkT a sg x|_=>false
 | .tE a,sg,e=>(zBP e||isCmp a)&&zb a sg e
 | .tBor _ a,sg,e=>chkT a sg e| .tTr,_,_=>false
def chkA:Ax->Sg->List Expr->Bool
 | .nil,_,es=>es.isEmpty
 | .cons a as,sg,es=>match es with
  |x::r=>!zL x&&(zb a sg x&&chkA as sg r)| []=>false
def chkG:Gx->Sg->List Expr->Bool
 | .nil,_,es=>es.isEmpty
 | .ev a as,sg,es=>match es with
  |x::r=>!zL x&&(zb a sg x&&chkG as sg r)| []=>false
 | .lend i as,sg,es=>match es with
  | .Name x _::r=>vis sg i x&&chkG as sg r|_=>false
def chkO:Ox->Sg->Option Expr->Bool
 | .oN,_,o=>o.isNone
 | .oS a,sg,o=>match o with
  |some e=>zb a sg e|none=>false
def chkI:Ix->Sg->Expr->Bool
 | .iL a,sg,e=>zb a sg e| .iT a,sg,e=>zb a sg e
 | .iR1 as,sg,e=>match e with
  | .Call (.Name f _) [x] [] _=>f == "range"&&glb sg "range"&&bIn sg "range"&&!zL x&&chkA as sg [x]|_=>false
end
mutual
def chkS:Sx->Sg->Stmt->Bool
 | .sIf t a b,sg,e=>match e with
  | .If c x y _=>chkT t sg c&&(chkB a sg x&&chkB b sg y)|_=>false
 | .sSet i a,sg,e=>match e with
  | .Assign [.Name x px] v _=>locd sg i x&&setOk sg x px a v&&zb a sg v|_=>false
 | .sAny,_,_=>true
 | .sRaise c,sg,e=>match e with
  | .Raise (some (.Call (.Name x _) [] [] _)) none _=>sg.calm&&(x==c&&glb sg c&&sg.rs.contains c)|_=>false
 | .sTry cl b i h,sg,e=>match e with
  | .Try body [.ExceptHandler (some (.Name t _)) (some n) (b0::suite) _] [] [] _=>t == "ThrowError"&&glb sg "ThrowError"&&(cl==sg.cl&&!sg.cl.isEmpty)&&sg.top&&(sg.N[i]?==some n&&kIs sg n .local)&&(chkB b sg body&&chkB h {sg with calm:=false} (b0::suite))
  |_=>false
 | .sStar i j a,sg,e=>match e with
  | .Assign [.Tuple [.Name x px,.Starred (.Name y py) ps] k p] v _=>sg.calm&&(vo.all2 sg [i,j] [.Name x px,.Name y py]&&QC v&&zb a sg v)|_=>false
 | .sPar i j as,sg,e=>match e with
  | .Assign [.Tuple [.Name x px,.Name y py] _ _] (.Tuple [a,b] _ _) _=>sg.calm&&(QD sg i j x y px py a b&&chkA as sg [a,b])|_=>false
 | .sRet a,sg,e=>match e with
  | .Return (some v) _=>zb a sg v|_=>false
 | .sDrop a,sg,e=>match e with
  | .Expr v _=>wN v&&zb a sg v|_=>false
 | .sIx i b a,sg,e=>match e with
  | .Assign [.Subscript (.Name x _) y _] v _=>vis sg i x&&Yw y&&wN v&&(zb b sg y&&zb a sg v)|_=>false
 | .sApp i a,sg,e=>match e with
  | .Expr (.Call (.Attribute (.Name x _) m ap) [v] [] cp) _=>m == "append"&&ap.endLine==cp.line&&vis sg i x&&!zL v&&zb a sg v|_=>false
 | .sForL a tg b,sg,e=>match e with
  | .For t it body [] _=>sg.calm&&(yl it&&vo tg sg t&&(zb a sg it&&chkB b sg body))|_=>false
 | .sForR1 as tg b,sg,e=>match e with
  | .For t (.Call (.Name f _) [x] [] _) body [] _=>sg.calm&&(f == "range"&&glb sg "range"&&bIn sg "range"&&!zL x&&vo tg sg t&&(chkA as sg [x]&&chkB b sg body))|_=>false
def chkB:Bx->Sg->List Stmt->Bool
 | .bNil,_,l=>l.isEmpty
 | .bOne a,sg,l=>match l with
  | [s]=>chkS a sg s|_=>false
 | .bSeq a b,sg,l=>match l with
  |s::r=>chkS a sg s&&chkB b sg r|_=>false
end
structure SgOk(X:Cx)(sg:Sg):Prop where
 N:X.N=sg.N
 sc:X.env.scope=sg.sc
 fn:sg.top=true->∀x,X.fn x=true
 oc:∀x∈sg.oc,X.env.scope.names.lookup x=some .cell->X.fn x=true
 calm:sg.calm=true->X.calm=true
 hd:sg.calm=true->X.A.handled=none
 stk:sg.top=true->X.stack=X.env::X.outer/\X.env.frame=some X.env.locals
 nd:X.N.Nodup
 cs:∀x d,sg.cs.lookup x=some d->∃u v,X.mg x=some u/\zy v u/\∀H,Rep X.K X.mg H d v
 fs:∀i∈sg.fs,∃f fd ps,X.mg i.x=some (.ref f)/\keepIn X.K (.ref f)=true/\YG X.K fd ps []/\ps.length=i.n/\FnOkN (!i.wild) X.prog X.w X.K X.mg X.base i.lv f fd ps (spM X.K X.mg i.n i.F)
 bs:∀x∈sg.bs,X.mg x=none
 room:RoomN sg.lv X.A
 cl:sg.cl≠[]->∃T,X.mg "ThrowError"=some (.ref T)/\TCls X.K T/\∀c∈sg.cl,∃C,X.mg c=some (.ref C)/\XCls X.K c C T/\C≠T
 rs:∀c∈sg.rs,∃C,X.mg c=some (.ref C)/\excIn X.K C VB "ValueError.__new__"=true
 sm:SmOk X.K
section
variable{X:Cx}{sg:Sg}
def jL(G:SgOk X sg){x:Str}{k:NameKind}(h:kIs sg x k=true):X.env.scope.names.lookup x=some k:=by
 rw[G.sc];simpa[kIs]using h
def yX(G:SgOk X sg){x:Str}(h:glb sg x=true):Gl X x/\(x==("__debug__":Str))=false:=by
 simp only[glb,Bool.and_eq_true,Bool.not_eq_true']at h;exact⟨jL G h.1,h.2⟩
def ZL(G:SgOk X sg){x:Str}{i:Nat}{pos:Pos}(h:vis sg i x=true):PE X (.Name x pos) (uJ i):=by
 simp only[vis,Bool.and_eq_true,Bool.or_eq_true,Bool.not_eq_true']at h;refine pe_var (by rw[G.N];simpa using h.1.1) ?_ h.2.1 h.2.2;rcases h.1.2 with q|q|q
 ·exact .inl (jL G q)
 ·exact .inr (.inl (jL G q))
 ·exact .inr (.inr (jL G q))
def vK(G:SgOk X sg){x:Str}{i:Nat}(h:locd sg i x=true):X.N[i]?=some x/\Loc X.env.scope x/\(X.fn x=true\/X.env.scope.names.lookup x=some .local):=by
 simp only[locd,Bool.and_eq_true,Bool.or_eq_true]at h;refine⟨by rw[G.N];simpa using h.1,?_⟩;rcases h.2 with q|q
 ·exact⟨.inl (jL G q),.inr (jL G q)⟩
 ·refine⟨.inr (jL G q.1),.inl ?_⟩
  rcases q.2 with q2|q2
  ·exact G.fn q2 x
  ·exact G.oc x (by simpa using q2) (jL G q.1)
def w8(G:SgOk X sg){x:Str}(h:bIn sg x=true):X.mg x=none:=G.bs x (by simpa[bIn]using h)
def feq_of{d d':D}(h:feq d d'=true):d=d':=by
 cases d<;>cases d'<;>simp[feq]at h<;>first|rfl|(subst h;rfl)
def geq_of{d d':D}(h:geq d d'=true):d=d':=by
 unfold geq at h;split at h
 ·obtain⟨h1,h2⟩:=Bool.and_eq_true_iff.mp h
  have:=beq_iff_eq.mp h1;have:=beq_iff_eq.mp h2
  subst_vars;rfl
 ·have:=beq_iff_eq.mp h
  subst_vars;rfl
 ·exact feq_of h
def ok_glR{x:Str}{d:D}{u:Value}{v:V}{pos:Pos}(hg:Gl X x)(hm:X.mg x=some u)(r:zy v u)(hr:∀H,Rep X.K X.mg H d v)(hd:(x==("__debug__":Str))=false):EOk X (.Name x pos) (eC d) :=
 zc (uj hg hm r hd) λO H Q ⟨M,E,hl,fr,k⟩=>k _ H ((Got.refl (T0:=[]) hl fr).more (T:=[(some v,.v d)]) (FR.add fr (hr _)) Step.refl.add)
def fIs_of{k:Nat}{x:Str}(h:fIs sg k x=true):∃i,sg.fs[k]?=some i/\i.x=x:=by
 unfold fIs at h;split at h
 ·rename_i i e;exact⟨i,e,by simpa using h⟩
 ·cases h
def fArg_of{k n:Nat}(h:fArg sg n k=true):∃i,sg.fs[k]?=some i/\i.n=n/\i.lv<=sg.lv/\(sg.calm||i.wild)=true:=by
 unfold fArg at h;split at h
 ·rename_i i e
  simp only[Bool.and_eq_true,decide_eq_true_eq,beq_iff_eq]at h;exact⟨i,e,h.1.1,h.1.2,by simpa using h.2⟩
 ·cases h
def hd_of(G:SgOk X sg){b:Bool}(h:(sg.calm||b)=true):(!b)=true->X.A.handled=none:=λhb=>G.hd (by
 cases b with
 |true=>cases hb|false=>simpa using h)
def fiF_of{fs:List FI}{k:Nat}{i:FI}(h:fs[k]?=some i):fiF fs k=i.F/\fiX fs k=i.x:=by
 unfold fiF fiX;rw[h];exact⟨rfl,rfl⟩
def JS{b:Expr}(h:Yw b=true):ZX b:=by
 intro o i;cases b<;>first|rfl|(cases h)
def Jf(es:List Expr)(is:List Nat)(G:SgOk X sg)(h:vo.all2 sg is es=true):PGs X es (wP is)/\(assignEach es X.env).length=is.length/\(assignEach es X.env).findIdx? (·.1)=none:=by
 induction es generalizing is with
 |nil =>
  cases is with
  |nil=>exact⟨pgs_nil,rfl,rfl⟩|cons i is=>cases h
 |cons e es ih =>
  cases is with
  |nil=>cases h
  |cons i is =>
   simp only[vo.all2,Bool.and_eq_true]at h;obtain⟨h1,h2⟩:=h;cases e with
   |Name x pos =>
    obtain⟨q1,q2,q3⟩:=vK G h1;obtain⟨i1,i2,i3⟩:=ih is h2;refine⟨Qq (um G.nd q1 q2 q3) i1 rfl,?_,?_⟩
    ·show(assignEach es X.env).length+1=_
     rw[i2];rfl
    ·show List.findIdx? _ ((false,_)::assignEach es X.env)=none
     simp only[List.findIdx?_cons,i3];rfl
   |_=>cases h1
def gOf(K:PySem.W.Frag):Tg->TG
 | .n i=>W1 i| .t is=>gTup K is.length (wP is)
def WB(tg:Tg):GOk X (gOf X.K tg) tg.m:=by
 cases tg with
 |n i=>exact go_name i|t is=>exact go_tup is rfl
def zAq{tg:Tg}{t:Expr}(hcm:sg.calm=true)(G:SgOk X sg)(h:vo tg sg t=true):PG X t (gOf X.K tg):=by
 cases tg with
 |n i =>
  simp only[vo]at h;cases t with
  |Name x pos =>
   obtain⟨q1,q2,q3⟩:=vK G h;exact um G.nd q1 q2 q3
  |_=>cases h
 |t is =>
  simp only[vo]at h;cases t with
  |Tuple es k pos =>
   obtain⟨q1,q2,q3⟩:=Jf es is G h;exact pg_tup (G.calm hcm) q1 q2 q3
  |_=>cases h
def vq(G:SgOk X sg){N:List Str}{scope:Scope}(hn:N.Nodup)(hcell:∀y∈scope.names,y.2=.cell->scope.names.lookup y.1=some .cell){cl C ex s H}:SgOk (cxB X N scope cl C ex s H) (W0 sg N scope) where
 N:=rfl
 sc:=by
  show relabel scope X.env=relab scope sg.sc
  rw[<- G.sc];rfl
 fn:=λh=>by cases h
 oc:=λx h _=>by
  obtain⟨y,hy,rfl⟩:=mem_map.mp (show x∈(scope.names.filter λy=>y.2==.cell).map Prod.fst from h);obtain⟨q1,q2⟩:=mem_filter.mp hy;show(scope.names.lookup y.1==some NameKind.cell)=true;rw[hcell y q1 (by simpa using q2)];rfl
 calm:=G.calm
 hd:=G.hd
 stk:=λh=>by cases h
 nd:=hn
 cs:=G.cs
 fs:=G.fs
 bs:=G.bs
 room:=G.room
 cl:=G.cl
 rs:=G.rs
 sm:=G.sm
def jB(G:SgOk X sg):SgOk X.nox sg:=⟨G.N,G.sc,G.fn,G.oc,G.calm,G.hd,G.stk,G.nd,G.cs,G.fs,G.bs,G.room,G.cl,G.rs,G.sm⟩
def tr_ok(G:SgOk X sg)(pn:List (Addr×Obj))(E:Value->Shared->Prop):SgOk (trX X pn E) sg:=⟨G.N,G.sc,G.fn,G.oc,G.calm,G.hd,G.stk,G.nd,G.cs,G.fs,G.bs,G.room,G.cl,G.rs,G.sm⟩
def hd_ok(G:SgOk X sg)(a:Addr):SgOk (hdX X a) {sg with calm:=false}:=⟨G.N,G.sc,G.fn,G.oc,λh=>by(cases h),λh=>by(cases h),G.stk,G.nd,G.cs,G.fs,G.bs,⟨G.room.gd,G.room.dp,G.room.un⟩,G.cl,G.rs,G.sm⟩
end
section
open Bool
def kit_of(K:PySem.W.Frag)(T:Ty):Kit K T.s:=by
 cases T
 ·exact kit_int K
 ·exact zAW K
 ·exact Gj K
 ·exact zAX K
 ·exact kit_str K
 ·exact zAY K
def bt_of(T:Ty):bootBuiltins T.nm=some (.type T.s):=by
 cases T
 ·exact Gm
 ·exact bt_bool
 ·exact vg
 ·exact Gn
 ·exact zBb
 ·exact bt_dict
def nm_of(T:Ty):T.nm≠"__name__":=by cases T<;>decide +kernel
def bin_of{X:Cx}{o:Op2}{a b:Expr}{ma mb:ME}{pos:Pos}(ha:EOk X a ma)(hb:EOk X b mb):EOk X (.BinOp a o.op b pos) (Jt o.f ma mb):=by
 cases o
 ·exact vA op_addD ro_add ha hb
 ·exact vA op_sub ro_sub ha hb
 ·exact vA (op_mulD.or op_repL) ro_mulG ha hb
 ·exact vA zAF ro_fdiv ha hb
 ·exact vA op_mod ro_mod ha hb
 ·exact vA op_pow ro_pow ha hb
def vt{X:Cx}{sg:Sg}(G:SgOk X sg):X.A.units+20<cLine:=by have:=G.room.un;omega
def yD{op:CmpOp}{b:Expr}(h:yl b=true):behindInMarks op b=false:=by
 cases b<;>first|rfl|(cases h)
def cmp_of{X:Cx}{sg:Sg}(G:SgOk X sg){o:Cp}{a b:Expr}{ma mb:ME}{pos:Pos}(hn:yl b=true)(ha:EOk X a ma)(hb:EOk X b mb):EOk X (.Compare a [o.op] [b] pos) (Jt o.f ma mb):=by
 cases o
 ·exact ZH op_lt ro_lt (yD hn) ha hb
 ·exact ZH op_le ro_le (yD hn) ha hb
 ·exact ZH op_gt ro_gt (yD hn) ha hb
 ·exact ZH op_ge ro_ge (yD hn) ha hb
 ·exact ZH (op_eq.or (zBc (vt G))) zBf (yD hn) ha hb
 ·exact ZH (op_ne.or (zBd (vt G))) zBg (yD hn) ha hb
def cmpT_of{X:Cx}{sg:Sg}(G:SgOk X sg){o:Cp}{a b:Expr}{ma mb:ME}{pos:Pos}(hn:yl b=true)(ha:EOk X a ma)(hb:EOk X b mb):TOk X (.Compare a [o.op] [b] pos) (tT (Jt o.f ma mb)):=by
 cases o
 ·exact JL op_lt ro_lt (yD hn) ha hb
 ·exact JL op_le ro_le (yD hn) ha hb
 ·exact JL op_gt ro_gt (yD hn) ha hb
 ·exact JL op_ge ro_ge (yD hn) ha hb
 ·exact JL (op_eq.or (zBc (vt G))) zBf (yD hn) ha hb
 ·exact JL (op_ne.or (zBd (vt G))) zBg (yD hn) ha hb
def QE{o o':CmpOp}{b c:Expr}(h:yl c=true):lastMarks [o,o'] [b,c]=false:=yD h
def vv{X:Cx}{o:Cp}(h:o.isI=true):OpR X (compareOp o.op) (rI0 λi j=>.bl (o.b i j)):=by
 cases o<;>first|exact op_lt|exact op_le|exact op_gt|exact op_ge|(cases h)
def bi_of{X:Cx}{sg:Sg}(hcm:sg.calm=true)(G:SgOk X sg)(b:Bi){x:Expr}{es:List Expr}{m:MA}{p pos:Pos}(hg:Gl X b.nm)(hm:X.mg b.nm=none)(hs:yg (x::es)=true)(ha:AOk X (x::es) m):EOk X (.Call (.Name b.nm p) (x::es) [] pos) (eCB b.f m):=by
 have h1:zL x=false:=by simp only[yg,Bool.and_eq_true,Bool.not_eq_true']at hs;exact hs.1
 have h2:yg es=true:=by simp only[yg,Bool.and_eq_true,Bool.not_eq_true']at hs;exact hs.2
 cases b with
 |len=>exact Ju Jb co_len hg hm zBa ha (by decide +kernel) (by decide +kernel) h1 h2|max=>exact Ju (uy (G.calm hcm)) co_max hg hm bt_max ha (by decide +kernel) (by decide +kernel) h1 h2|all=>exact Ju (zAA (G.calm hcm)) co_all hg hm bt_all ha (by decide +kernel) (by decide +kernel) h1 h2|int=>exact ji uz co_int hg hm Gm ha (by decide +kernel) (by decide +kernel) h1 h2|tuple=>exact ji Za zAI hg hm vg ha (by decide +kernel) (by decide +kernel) h1 h2|list=>exact ji WM co_list hg hm Gn ha (by decide +kernel) (by decide +kernel) h1 h2|strT=>exact ji WE co_strF hg hm zBb ha (by decide +kernel) (by decide +kernel) h1 h2|intT=>exact ji G7 co_intT hg hm Gm ha (by decide +kernel) (by decide +kernel) h1 h2|lenT=>exact Ju WL co_lenT hg hm zBa ha (by decide +kernel) (by decide +kernel) h1 h2
theorem QF(fs:List FI):∀as:Gx,(dG fs as).length=gLen as
 | .nil=>rfl| .ev a as=>congrArg (·+1) (QF fs as)| .lend i as=>congrArg (·+1) (QF fs as)
def call_ok{X:Cx}{sg:Sg}(G:SgOk X sg){k:Nat}{as:Gx}{f:Str}{x:Expr}{es:List Expr}{p pos:Pos}(h1:glb sg f=true)(h2:fIs sg k f=true)(h3:fArg sg (gLen as) k=true)(h4:yg (x::es)=true)(ha:zBY X (x::es) (dG sg.fs as)):EOk X (.Call (.Name f p) (x::es) [] pos) (jd (fiF sg.fs k) (dG sg.fs as)):=by
 obtain⟨g1,g2⟩:=yX G h1;obtain⟨i,e1,e2⟩:=fIs_of h2;obtain⟨i',e1',e3,e4,e5⟩:=fArg_of h3;rw[e1]at e1';cases e1';obtain⟨a,fd,ps,m1,m2,m3,m4,m5⟩:=G.fs i (mem_of_getElem? e1);rw[(fiF_of e1).1];subst e2;simp only[yg,Bool.and_eq_true,Bool.not_eq_true']at h4;rw[<- m4]at m5;exact ok_call m5 (hd_of G e5) (G.room.mono e4) g1 m1 m2 m3 ha (by rw[QF,m4,e3]) g2 h4.1 h4.2
theorem QG{X:Cx}{sg:Sg}(G:SgOk X sg){scope:Scope}:∀{caps:List Nat} {capn:List Str},capB sg scope caps capn=true->Gp X scope caps capn
 | [],[],_=>trivial| [],_::_,h=>by cases h|_::_,[],h=>by cases h
 |j::js,x::xs,h=>by
  simp only[capB,Bool.and_eq_true]at h;exact⟨by rw[G.N];simpa using h.1.1,by simpa using h.1.2,QG G h.2⟩
end
section
def set_of{x:Str}{p p1:Pos}{b:Expr}{env:Env}(h:Yw b=true):∀v,assign (.Subscript (.Name x p) b p1) env v=(do
   let ov <- holding [v] (eval (.Name x p) env)
   let iv <- holding [v,ov] (eval b env)
   standAt p1
   holding [v,ov,iv] (setItem ov iv v)
   release [v,ov,iv] []):=by
 intro v;cases b<;>first|rfl|(cases h)
def zAr{es:List Expr}{k:Nat}{p:Pos}{e:Expr}{l:Nat}{env:Env}:swapsWithSole [.Tuple es k p] e l env=pure false:=by
 show swapsWith e (some (.Tuple es k p)) l env=pure false
 cases e<;>rfl
def swp_of{es:List Expr}{k:Nat}{p:Pos}{e:Expr}{env:Env}(h:QC e=true):swappedStores [.Tuple es k p] e env=pure none:=by
 cases e<;>first|rfl|(cases h)
def QH{t e:Expr}{l:Nat}{env:Env}(h:wN e=true):swapsWithSole [t] e l env=pure false:=by
 show swapsWith e (some t) l env=pure false
 exact Zc h
def QI{X:Cx}{sg:Sg}(G:SgOk X sg)(h:(sg.sc.kind==ScopeKind.function)=true):X.env.blockKind=.function:=by
 have:X.env.scope.kind=.function:=by rw[G.sc];exact beq_iff_eq.mp h
 unfold Env.blockKind;rw[this];rfl
def zBm{X:Cx}{sg:Sg}(G:SgOk X sg)(hk:(sg.sc.kind==ScopeKind.function)=true){el:Expr}{gs:List Comprehension}{scope:Scope}{vp px:Pos}{x:Str}{l:Nat}:swapsWith (.ListComp el gs scope vp) (some (.Name x px)) l X.env=pure (swB sg x px scope vp):=by
 show(pure (X.env.blockKind==.function&&X.env.kindOf x==some .local&&px.line==vp.line&&!(scope.names.any λ(n,k)=>n==x&&(k==.local||k==.cell))):Sem Bool)=_
 rw[QI G hk];unfold swB kIs Env.kindOf;rw[G.sc];simp
def sw_par0{env:Env}{x y:Str}{px py p p2:Pos}{a b:Expr}{kt k2:Nat}(hk:env.blockKind=.function)(hx:env.kindOf x=some .local)(hy:env.kindOf y=some .local)(hl:py.line=px.line)(hxy:(x==y)=false)(ha:zL a=false)(hb:zL b=false)(hf:[a,b].all (foldedForSure 8)=false)(hc:[a,b].all (constantsAlone 8)=false) :
  swappedStores [.Tuple [.Name x px,.Name y py] kt p] (.Tuple [a,b] k2 p2) env=pure (some [x,y]):=by
 have sa:∀e:Expr,(match e with | .Starred _ _=>true|_=>false)=zL e:=λe=>by cases e<;>rfl
 have e1:([Expr.Name x px,Expr.Name y py].filterMap fun
  | .Name id pos=>if env.kindOf id==some .local&&pos.line==px.line then some id else none|_=>none)=[x,y]:=by simp[hx,hy,hl]
 have e2:[x,y].eraseDups.length=2:=by
  have:y≠x:=λz=>by subst z;simp at hxy
  have h2:(y==x)=false:=by simpa using this
  simp[List.eraseDups,List.eraseDupsBy,List.eraseDupsBy.loop,h2]
 have e3:([a,b].any fun | .Starred ..=>true|_=>false)=false:=by
  simp only[List.any_cons,List.any_nil,Bool.or_false];rw[sa,sa,ha,hb];rfl
 show(if !(2==2||2==3)||2 != 2||env.blockKind != .function then pure none else if([a,b].any fun | .Starred ..=>true|_=>false)then pure none else
  (let names:=([Expr.Name x px,Expr.Name y py].filterMap fun
  | .Name id pos=>if env.kindOf id==some .local&&pos.line==px.line then some id else none|_=>none)
  if names.length != 2||names.eraseDups.length != names.length then pure none else if [a,b].all (foldedForSure 8)then pure none else if [a,b].all (constantsAlone 8)then(do unsupported "assign.tuple-of-constant-expressions:order-of-the-stores";pure (some names))else pure (some names)):Sem (Option (List Str)))=_
 rw[hk,e3,e1,hf,hc];simp[e2]
def sw_par{X:Cx}{sg:Sg}(G:SgOk X sg){i j:Nat}{x y:Str}{px py p p2:Pos}{a b:Expr}{kt k2:Nat}(h:QD sg i j x y px py a b=true):swappedStores [.Tuple [.Name x px,.Name y py] kt p] (.Tuple [a,b] k2 p2) X.env=pure (some [x,y]):=by
 unfold QD at h;simp only[Bool.and_eq_true,Bool.not_eq_true',beq_iff_eq,bne_iff_ne]at h;obtain⟨⟨⟨⟨⟨⟨⟨⟨⟨⟨⟨kk,_⟩,_⟩,_⟩,l1⟩,l2⟩,ln⟩,xy⟩,sa⟩,sb⟩,f1⟩,f2⟩:=h;exact sw_par0 (QI G (by rw[kk];rfl)) (jL G l1) (jL G l2) ln xy sa sb f1 f2
def zBn{X:Cx}{op:BoolOp}{vs:List Expr}{p:Pos}{m:MT}(h:TOk X (.BoolOp op vs p) m):WOk X (.BoolOp op vs p) m:=λwh=>h
def Wj{e:Expr}{env:Env}{cpos:Pos}(h:zL e=false):((backTo cpos (starEach (e::[]) env)).all (λx=>!x.1)&&(backToKw cpos (keywordEach [] env)).all (λx=>x.1.isSome)
   && decide ((e::([]:List Expr)).length+([]:List Keyword).length+(if([]:List Keyword).isEmpty then 0 else 1)<30))=true:=by
 rw[zF h];rfl
def zG{a b:Bool}(h:(a&&b)=true):a=true/\b=true:=by simpa using h
def nst{a:Bool}(h:(!a)=true):a=false:=by simpa using h
def Zn:bootBuiltins "ValueError"=some (.type "ValueError"):=by decide +kernel
mutual
theorem sE:∀(t:Ex) {X:Cx} {sg:Sg} {e:Expr},SgOk X sg->zb t sg e=true->EOk X e (dE sg.fs t)
 | .c d,X,sg,e,G,h=>by
  cases e with
  |Constant k w1 w2 =>
   replace h:(cIs d k)=true:=h;unfold cIs at h;split at h
   ·exact ok_non
   ·have:=(beq_iff_eq.mp h);subst this;exact ok_bl
   ·have:=(beq_iff_eq.mp h);subst this;exact ok_int
   ·have:=(beq_iff_eq.mp h);subst this;exact ok_str
   ·cases h
  |_=>exact nf h
 | .gl d,X,sg,e,G,h=>by
  cases e with
  |Name x w1 =>
   replace h:(glb sg x&&gIs sg x d)=true:=h;obtain⟨h1,h2⟩:=zG h;obtain⟨g1,g2⟩:=yX G h1;unfold gIs at h2;split at h2
   ·rename_i d' e
    have:=geq_of h2;subst this;obtain⟨u,v,q1,q2,q3⟩:=G.cs x d e;exact ok_glR g1 q1 q2 q3 g2
   ·cases h2
  |_=>exact nf h
 | .var i,X,sg,e,G,h=>by
  cases e with
  |Name x w1 =>
   replace h:(vis sg i x)=true:=h;exact ok_var i (ZL G h)
  |_=>exact nf h
 | .bin o a b,X,sg,e,G,h=>by
  cases e with
  |BinOp x op y w1 =>
   replace h:(op==o.op&&(zb a sg x&&zb b sg y))=true:=h;obtain⟨h1,h2⟩:=zG h;obtain⟨h2,h3⟩:=zG h2;have:=beq_iff_eq.mp h1;subst this;exact bin_of (sE a G h2) (sE b G h3)
  |_=>exact nf h
 | .cmp o a b,X,sg,e,G,h=>by
  cases e with
  |Compare x v1 v2 w1 =>
   cases v1 with
   |cons op v3 =>
    cases v3 with
    |nil =>
     cases v2 with
     |cons y v4 =>
      cases v4 with
      |nil =>
       replace h:(op==o.op&&yl y&&(zb a sg x&&zb b sg y))=true:=h;obtain⟨h1,h2⟩:=zG h;obtain⟨h1,h0⟩:=zG h1;obtain⟨h2,h3⟩:=zG h2;have:=beq_iff_eq.mp h1;subst this;exact cmp_of G h0 (sE a G h2) (sE b G h3)
      |_=>exact nf h
     |_=>exact nf h
    |_=>exact nf h
   |_=>exact nf h
  |_=>exact nf h
 | .chain o o' a b c,X,sg,e,G,h=>by
  cases e with
  |Compare x v5 v6 w1 =>
   cases v5 with
   |cons op v7 =>
    cases v7 with
    |cons op' v8 =>
     cases v8 with
     |nil =>
      cases v6 with
      |cons y v9 =>
       cases v9 with
       |cons z v10 =>
        cases v10 with
        |nil =>
         replace h:(op==o.op&&op'==o'.op&&o.isI&&o'.isI&&yl z&&(zb a sg x&&(zb b sg y&&zb c sg z)))=true:=h;obtain⟨h1,h2⟩:=zG h;obtain⟨h1,k5⟩:=zG h1;obtain⟨h1,k4⟩:=zG h1;obtain⟨h1,k3⟩:=zG h1;obtain⟨k1,k2⟩:=zG h1;obtain⟨h2,h3⟩:=zG h2;obtain⟨h3,h4⟩:=zG h3;have:=beq_iff_eq.mp k1;subst this;have:=beq_iff_eq.mp k2;subst this;exact zAZ (vv k3) (vv k4) (sE a G h2) (sE b G h3) (sE c G h4) (QE k5)
        |_=>exact nf h
       |_=>exact nf h
      |_=>exact nf h
     |_=>exact nf h
    |_=>exact nf h
   |_=>exact nf h
  |_=>exact nf h
 | .neg a,X,sg,e,G,h=>by
  cases e with
  |UnaryOp v11 x w1 =>
   cases v11 with
   |USub =>
    replace h:(zb a sg x)=true:=h;exact ok_neg (sE a G h)
   |_=>exact nf h
  |_=>exact nf h
 | .not a,X,sg,e,G,h=>by
  cases e with
  |UnaryOp v12 x w1 =>
   cases v12 with
   |Not =>
    replace h:(zb a sg x)=true:=h;exact ok_not (sE a G h)
   |_=>exact nf h
  |_=>exact nf h
 | .and a b,X,sg,e,G,h=>by
  cases e with
  |BoolOp v13 v14 p =>
   cases v13 with
   |And =>
    cases v14 with
    |cons x v15 =>
     cases v15 with
     |cons y r =>
      replace h:(zb a sg x&&_)=true:=h;obtain⟨h1,h2⟩:=zG h;cases r with
      |nil=>exact zBT (sE a G h1) (ok_one (sE b G h2))|cons z r'=>exact zBT (sE a G h1) (sE b G h2)
     |_=>exact nf h
    |_=>exact nf h
   |_=>exact nf h
  |_=>exact nf h
 | .ifx t a b,X,sg,e,G,h=>by
  cases e with
  |IfExp c x y w1 =>
   replace h:(chkT t sg c&&(zb a sg x&&zb b sg y))=true:=h;obtain⟨h1,h2⟩:=zG h;obtain⟨h2,h3⟩:=zG h2;exact ok_if (sT t G h1) (sE a G h2) (sE b G h3)
  |_=>exact nf h
 | .t as,X,sg,e,G,h=>by
  cases e with
  |Tuple es w1 w2 =>
   replace h:(chkA as sg es)=true:=h;exact ok_tup (sA as G h)
  |_=>exact nf h
 | .l as,X,sg,e,G,h=>by
  cases e with
  |List es w1 =>
   replace h:(chkA as sg es)=true:=h;exact ok_lst (sA as G h)
  |_=>exact nf h
 | .dic,X,sg,e,G,h=>by
  cases e with
  |Dict v19 v20 w1 =>
   cases v19 with
   |nil =>
    cases v20 with
    |nil =>
     replace h:(true)=true:=h;exact ok_dic pe_dicK
    |_=>exact nf h
   |_=>exact nf h
  |_=>exact nf h
 | .ix a b,X,sg,e,G,h=>by
  cases e with
  |Subscript x y w1 =>
   replace h:(Yw y&&(zb a sg x&&zb b sg y))=true:=h;obtain⟨h1,h2⟩:=zG h;obtain⟨h2,h3⟩:=zG h2;exact ok_ix ix_both ro_ix (JS h1) (sE a G h2) (sE b G h3)
  |_=>exact nf h
 | .ixO i b,X,sg,e,G,h=>by
  cases e with
  |Subscript v21 y w2 =>
   cases v21 with
   |Name x w1 =>
    replace h:(vis sg i x&&Yw y&&zb b sg y)=true:=h;obtain⟨h1,h2⟩:=zG h;obtain⟨h1,h3⟩:=zG h1;exact ok_ixO i (ZL G h1) (sE b G h2) (JS h3)
   |_=>exact nf h
  |_=>exact nf h
 | .lenO i,X,sg,e,G,h=>by
  cases e with
  |Call v22 v23 v24 w3 =>
   cases v22 with
   |Name f w1 =>
    cases v23 with
    |cons v25 v26 =>
     cases v25 with
     |Name x w2 =>
      cases v26 with
      |nil =>
       cases v24 with
       |nil =>
        replace h:(f == "len"&&glb sg "len"&&bIn sg "len"&&vis sg i x)=true:=h;obtain⟨h1,h2⟩:=zG h;obtain⟨h1,h3⟩:=zG h1;obtain⟨h1,h4⟩:=zG h1;have:=beq_iff_eq.mp h1;subst this;exact ok_lenO i (ZL G h2) (yX G h4).1 (w8 G h3)
       |_=>exact nf h
      |_=>exact nf h
     |_=>exact nf h
    |_=>exact nf h
   |_=>exact nf h
  |_=>exact nf h
 | .sl a l hh,X,sg,e,G,h=>by
  cases e with
  |Subscript x v27 w2 =>
   cases v27 with
   |Slice lo hi v28 w1 =>
    cases v28 with
    |none =>
     replace h:(zb a sg x&&(chkO l sg lo&&chkO hh sg hi))=true:=h;obtain⟨h1,h2⟩:=zG h;obtain⟨h2,h3⟩:=zG h2;exact ok_sl (sE a G h1) (sO l G h2) (sO hh G h3)
    |_=>exact nf h
   |_=>exact nf h
  |_=>exact nf h
 | .comp nl loc capn caps it tg tt el,X,sg,e,G,h=>by
  cases e with
  |ListComp elt v29 scope w1 =>
   cases v29 with
   |cons v30 v31 =>
    cases v30 with
    |mk target iter ifs v32 =>
     cases v32 with
     |ofNat v33 =>
      cases v33 with
      |zero =>
       cases v31 with
       |nil =>
        replace h:(sg.calm&&(QB sg nl loc capn caps scope&&yl iter&&((chkZ it target&&chkI it sg iter)&&(vo tg (W0 sg (loc++capn) scope) target&&(_&&zb el (W0 sg (loc++capn) scope) elt)))))=true:=h;obtain⟨hcm,h⟩:=zG h;obtain⟨h1,h2⟩:=zG h;obtain⟨h1,k9⟩:=zG h1;unfold QB at h1;obtain⟨h1,k7⟩:=zG h1;obtain⟨h1,k6⟩:=zG h1;obtain⟨h1,k5⟩:=zG h1;obtain⟨h1,k4⟩:=zG h1;obtain⟨h1,k3⟩:=zG h1;obtain⟨k1,k2⟩:=zG h1;obtain⟨q1,q2⟩:=zG h2;obtain⟨q0,q1⟩:=zG q1;obtain⟨q2,q3⟩:=zG q2;obtain⟨q3,q4⟩:=zG q3;have nd:(loc++capn).Nodup:=of_decide_eq_true k3;have kc:∀y∈scope.names,y.2=.cell->scope.names.lookup y.1=some .cell:=λy hy hc=>by
         have:=all_eq_true.mp k5 y hy;rw[hc]at this;simpa using this
        have I:∀cl C ex s H,SgOk (cxB X.nox (loc++capn) scope cl C ex s H) (W0 sg (loc++capn) scope):=λ_ _ _ _ _=>vq (jB G) nd kc
        refine no_E (ok_lc (X:=X.nox) loc capn (beq_iff_eq.mp k1) (λe s z=>z) (G.calm hcm) (beq_iff_eq.mp k2) (λy hy hl=>?_) (λy hy hc=>?_) (by rw[show X.env.kindOf=λn=>X.env.scope.names.lookup n from rfl,G.sc];exact k6) (QG (jB G) k7) (sI it (jB G) q1 q0) (g:=gOf X.K tg) (λcl C ex s H=>zAq (sg:=W0 sg (loc++capn) scope) hcm (I cl C ex s H) q2) (WB tg) (λcl C ex s H=>?_) (λcl C ex s H=>sE (sg:=W0 sg (loc++capn) scope) el (I cl C ex s H) q4) (wn k9))
        ·have:=all_eq_true.mp k4 y hy
         rw[hl]at this;simpa using this
        ·exact kc y hy hc
        ·cases ifs with
         |nil =>
          cases tt<;>first|(cases q3;done)|skip;exact Ge
         |cons c cs =>
          obtain⟨q3,q5⟩:=zG q3;have:=isEmpty_iff.mp q3;subst this;exact Gf (sT (sg:=W0 sg (loc++capn) scope) tt (I cl C ex s H) q5)
       |_=>exact nf h
      |_=>exact nf h
     |_=>exact nf h
   |_=>exact nf h
  |_=>exact nf h
 | .is T a,X,sg,e,G,h=>by
  cases e with
  |Call v34 v35 v36 w3 =>
   cases v34 with
   |Name f w1 =>
    cases v35 with
    |cons x v37 =>
     cases v37 with
     |cons v38 v39 =>
      cases v38 with
      |Name y w2 =>
       cases v39 with
       |nil =>
        cases v36 with
        |nil =>
         replace h:(f == "isinstance"&&y==T.nm&&glb sg "isinstance"&&bIn sg "isinstance"&&glb sg T.nm&&bIn sg T.nm&&!zL x&&zb a sg x)=true:=h;obtain⟨h1,h2⟩:=zG h;obtain⟨h1,k7⟩:=zG h1;obtain⟨h1,k6⟩:=zG h1;obtain⟨h1,k5⟩:=zG h1;obtain⟨h1,k4⟩:=zG h1;obtain⟨h1,k3⟩:=zG h1;obtain⟨k1,k2⟩:=zG h1;have:=beq_iff_eq.mp k1;subst this;have:=beq_iff_eq.mp k2;subst this;exact ok_is (kit_of _ T) (yX G k3).1 (w8 G k4) (yX G k5).1 (w8 G k6) (bt_of T) (sE a G h2) jU (nm_of T) (yX G k5).2 (nst k7)
        |_=>exact nf h
       |_=>exact nf h
      |_=>exact nf h
     |_=>exact nf h
    |_=>exact nf h
   |_=>exact nf h
  |_=>exact nf h
 | .cB b as,X,sg,e,G,h=>by
  cases e with
  |Call v40 v41 v42 w2 =>
   cases v40 with
   |Name f w1 =>
    cases v41 with
    |cons x es =>
     cases v42 with
     |nil =>
      replace h:(sg.calm&&(f==b.nm&&glb sg b.nm&&bIn sg b.nm&&yg (x::es)&&chkA as sg (x::es)))=true:=h;obtain⟨hcm,h⟩:=zG h;obtain⟨h1,h2⟩:=zG h;obtain⟨h1,k4⟩:=zG h1;obtain⟨h1,k3⟩:=zG h1;obtain⟨k1,k2⟩:=zG h1;have:=beq_iff_eq.mp k1;subst this;exact bi_of hcm G b (yX G k2).1 (w8 G k3) k4 (sA as G h2)
     |_=>exact nf h
    |_=>exact nf h
   |_=>exact nf h
  |_=>exact nf h
 | .call k as,X,sg,e,G,h=>by
  cases e with
  |Call v43 v44 v45 w2 =>
   cases v43 with
   |Name f w1 =>
    cases v44 with
    |cons x es =>
     cases v45 with
     |nil =>
      replace h:(glb sg f&&fIs sg k f&&fArg sg (gLen as) k&&yg (x::es)&&chkG as sg (x::es))=true:=h;obtain⟨h1,h2⟩:=zG h;obtain⟨h1,k4⟩:=zG h1;obtain⟨h1,k3⟩:=zG h1;obtain⟨k1,k2⟩:=zG h1;exact call_ok G k1 k2 k3 k4 (sG as G h2)
     |_=>exact nf h
    |_=>exact nf h
   |_=>exact nf h
  |_=>exact nf h
 | .isC cl y a,X,sg,e,G,h=>by
  cases e with
  |Call v200 v201 v202 w1 =>
   cases v200 with
   |Name f w2 =>
    cases v201 with
    |cons x v203 =>
     cases v203 with
     |cons v204 v205 =>
      cases v204 with
      |Name z w3 =>
       cases v205 with
       |nil =>
        cases v202 with
        |nil =>
         replace h:(f == "isinstance"&&z==y&&glb sg "isinstance"&&bIn sg "isinstance"&&glb sg y&&(cl==sg.cl&&sg.cl.contains y)&&!zL x&&zb a sg x)=true:=h;obtain⟨h,h2⟩:=zG h;obtain⟨h,k7⟩:=zG h;obtain⟨h,k6⟩:=zG h;obtain⟨h,k5⟩:=zG h;obtain⟨h,k4⟩:=zG h;obtain⟨h,k3⟩:=zG h;obtain⟨k1,k2⟩:=zG h;obtain⟨k10,k8⟩:=zG k6;have:=beq_iff_eq.mp k1;subst this;have:=beq_iff_eq.mp k2;subst this;have ecl:cl=sg.cl:=by simpa using k10
         subst ecl;have hy:z∈sg.cl:=by simpa using k8
         obtain⟨T,t1,t2,t3⟩:=G.cl (List.ne_nil_of_mem hy);obtain⟨Y,y1,y2,y3⟩:=t3 z hy;exact ok_isC (λc hc=>let ⟨C,c1,c2,_⟩:=t3 c hc;⟨C,c1,c2⟩) y1 y2 y3 (yX G k3).1 (w8 G k4) (yX G k5).1 (sE a G h2) jU (yX G k5).2 (nst k7)
        |_=>exact nf h
       |_=>exact nf h
      |_=>exact nf h
     |_=>exact nf h
    |_=>exact nf h
   |_=>exact nf h
  |_=>exact nf h
 | .isV cl a,X,sg,e,G,h=>by
  cases e with
  |Call v200 v201 v202 w1 =>
   cases v200 with
   |Name f w2 =>
    cases v201 with
    |cons x v203 =>
     cases v203 with
     |cons v204 v205 =>
      cases v204 with
      |Name z w3 =>
       cases v205 with
       |nil =>
        cases v202 with
        |nil =>
         replace h:(f == "isinstance"&&z == "ValueError"&&glb sg "isinstance"&&bIn sg "isinstance"&&glb sg "ValueError"&&bIn sg "ValueError"&&(cl==sg.cl&&!sg.cl.isEmpty)&&!zL x&&zb a sg x)=true:=h;obtain⟨h,h2⟩:=zG h;obtain⟨h,k7⟩:=zG h;obtain⟨h,k6⟩:=zG h;obtain⟨h,k9⟩:=zG h;obtain⟨h,k5⟩:=zG h;obtain⟨h,k4⟩:=zG h;obtain⟨h,k3⟩:=zG h;obtain⟨k1,k2⟩:=zG h;obtain⟨k10,k8⟩:=zG k6;have:=beq_iff_eq.mp k1;subst this;have:=beq_iff_eq.mp k2;subst this;have ecl:cl=sg.cl:=by simpa using k10
         subst ecl;obtain⟨T,t1,t2,t3⟩:=G.cl (λz=>by rw[z]at k8;cases k8);exact ok_isV (T:=T) (λc hc=>let ⟨C,c1,c2,_⟩:=t3 c hc;⟨C,c1,c2⟩) (yX G k3).1 (w8 G k4) (yX G k5).1 (w8 G k9) Zn (sE a G h2) jU (nst k7)
        |_=>exact nf h
       |_=>exact nf h
      |_=>exact nf h
     |_=>exact nf h
    |_=>exact nf h
   |_=>exact nf h
  |_=>exact nf h
 | .cnt a b,X,sg,e,G,h=>by
  cases e with
  |Call v200 v201 v202 cp =>
   cases v200 with
   |Attribute v206 m ap =>
    cases v206 with
    |Name x p =>
     cases v201 with
     |cons v v203 =>
      cases v203 with
      |nil =>
       cases v202 with
       |nil =>
        replace h:(m == "count"&&ap.endLine==cp.line&&!zL v&&(zb a sg (.Name x p)&&zb b sg v))=true:=h;obtain⟨h,h2⟩:=zG h;obtain⟨h2,h3⟩:=zG h2;obtain⟨h,k3⟩:=zG h;obtain⟨k1,k2⟩:=zG h;have:=beq_iff_eq.mp k1;subst this;exact ok_cnt (sE a G h2) (sE b G h3) rfl (nst k3) k2 (Wj (nst k3))
       |_=>exact nf h
      |_=>exact nf h
     |_=>exact nf h
    |_=>exact nf h
   |_=>exact nf h
  |_=>exact nf h
 | .cat a b,X,sg,e,G,h=>by
  cases e with
  |BinOp x op y w1 =>
   replace h:(op==.Add&&(zb a sg x&&zb b sg y))=true:=h;obtain⟨h1,h2⟩:=zG h;obtain⟨h2,h3⟩:=zG h2;have:=beq_iff_eq.mp h1;subst this;exact vA uM ro_cat (sE a G h2) (sE b G h3)
  |_=>exact nf h
 | .ixT a b,X,sg,e,G,h=>by
  cases e with
  |Subscript x y w1 =>
   replace h:(Yw y&&(zb a sg x&&zb b sg y))=true:=h;obtain⟨h1,h2⟩:=zG h;obtain⟨h2,h3⟩:=zG h2;exact ok_ix ix_str ro_ixT (JS h1) (sE a G h2) (sE b G h3)
  |_=>exact nf h
 | .joi a b,X,sg,e,G,h=>by
  cases e with
  |Call v200 v201 v202 cp =>
   cases v200 with
   |Attribute v206 m ap =>
    cases v206 with
    |Constant x y p =>
     cases v201 with
     |cons v v203 =>
      cases v203 with
      |nil =>
       cases v202 with
       |nil =>
        replace h:(m == "join"&&ap.endLine==cp.line&&!zL v&&(zb a sg (.Constant x y p)&&zb b sg v))=true:=h;obtain⟨h,h2⟩:=zG h;obtain⟨h2,h3⟩:=zG h2;obtain⟨h,k3⟩:=zG h;obtain⟨k1,k2⟩:=zG h;have:=beq_iff_eq.mp k1;subst this;exact ok_join (sE a G h2) (sE b G h3) rfl (nst k3) k2 (Wj (nst k3))
       |_=>exact nf h
      |_=>exact nf h
     |_=>exact nf h
    |_=>exact nf h
   |_=>exact nf h
  |_=>exact nf h
 | .spl a b,X,sg,e,G,h=>by
  cases e with
  |Call v200 v201 v202 cp =>
   cases v200 with
   |Attribute v206 m ap =>
    cases v206 with
    |Name x p =>
     cases v201 with
     |cons v v203 =>
      cases v203 with
      |nil =>
       cases v202 with
       |nil =>
        replace h:(m == "split"&&ap.endLine==cp.line&&!zL v&&(zb a sg (.Name x p)&&zb b sg v))=true:=h;obtain⟨h,h2⟩:=zG h;obtain⟨h2,h3⟩:=zG h2;obtain⟨h,k3⟩:=zG h;obtain⟨k1,k2⟩:=zG h;have:=beq_iff_eq.mp k1;subst this;exact zAp (sE a G h2) (sE b G h3) rfl (nst k3) k2 (Wj (nst k3))
       |_=>exact nf h
      |_=>exact nf h
     |_=>exact nf h
    |_=>exact nf h
   |_=>exact nf h
  |_=>exact nf h
 | .asc a,X,sg,e,G,h=>by
  cases e with
  |Call v200 v201 v202 cp =>
   cases v200 with
   |Attribute v206 m ap =>
    cases v206 with
    |Name x p =>
     cases v201 with
     |nil =>
      cases v202 with
      |nil =>
       replace h:(m == "isascii"&&ap.endLine==cp.line&&zb a sg (.Name x p))=true:=h;obtain⟨h,h2⟩:=zG h;obtain⟨k1,k2⟩:=zG h;have:=beq_iff_eq.mp k1;subst this;exact zAl (sE a G h2) rfl k2
      |_=>exact nf h
     |_=>exact nf h
    |_=>exact nf h
   |_=>exact nf h
  |_=>exact nf h
 | .dig a,X,sg,e,G,h=>by
  cases e with
  |Call v200 v201 v202 cp =>
   cases v200 with
   |Attribute v206 m ap =>
    cases v206 with
    |Name x p =>
     cases v201 with
     |nil =>
      cases v202 with
      |nil =>
       replace h:(m == "isdigit"&&ap.endLine==cp.line&&zb a sg (.Name x p))=true:=h;obtain⟨h,h2⟩:=zG h;obtain⟨k1,k2⟩:=zG h;have:=beq_iff_eq.mp k1;subst this;exact zAm (sE a G h2) rfl k2
      |_=>exact nf h
     |_=>exact nf h
    |_=>exact nf h
   |_=>exact nf h
  |_=>exact nf h
 | .idx a b,X,sg,e,G,h=>by
  cases e with
  |Call v200 v201 v202 cp =>
   cases v200 with
   |Attribute v206 m ap =>
    cases v206 with
    |Name x p =>
     cases v201 with
     |cons v v203 =>
      cases v203 with
      |nil =>
       cases v202 with
       |nil =>
        replace h:(m == "index"&&ap.endLine==cp.line&&!zL v&&(zb a sg (.Name x p)&&zb b sg v))=true:=h;obtain⟨h,h2⟩:=zG h;obtain⟨h2,h3⟩:=zG h2;obtain⟨h,k3⟩:=zG h;obtain⟨k1,k2⟩:=zG h;have:=beq_iff_eq.mp k1;subst this;exact ok_idx (sE a G h2) (sE b G h3) rfl (nst k3) k2 (Wj (nst k3))
       |_=>exact nf h
      |_=>exact nf h
     |_=>exact nf h
    |_=>exact nf h
   |_=>exact nf h
  |_=>exact nf h
theorem sT:∀(t:Tx) {X:Cx} {sg:Sg} {e:Expr},SgOk X sg->chkT t sg e=true->TOk X e (dT sg.fs t)
 | .tAnd a b,X,sg,e,G,h=>by
  cases e with
  |BoolOp v59 v60 p =>
   cases v59 with
   |And =>
    cases v60 with
    |cons x v61 =>
     cases v61 with
     |cons y r =>
      replace h:(chkT a sg x&&_)=true:=h;obtain⟨h1,h2⟩:=zG h;cases r with
      |nil=>exact tk_w (zBR (sT a G h1) (wk_and1 (sT b G h2)))|cons z r'=>exact tk_w (zBR (sT a G h1) (zBn (sT b G h2)))
     |_=>exact nf h
    |_=>exact nf h
   |_=>exact nf h
  |_=>exact nf h
 | .tOr a b,X,sg,e,G,h=>by
  cases e with
  |BoolOp v62 v63 p =>
   cases v62 with
   |Or =>
    cases v63 with
    |cons x v64 =>
     cases v64 with
     |cons y r =>
      replace h:(chkT a sg x&&_)=true:=h;obtain⟨h1,h2⟩:=zG h;cases r with
      |nil=>exact tk_w (wk_or (sT a G h1) (wk_or1 (sT b G h2)))|cons z r'=>exact tk_w (wk_or (sT a G h1) (zBn (sT b G h2)))
     |_=>exact nf h
    |_=>exact nf h
   |_=>exact nf h
  |_=>exact nf h
 | .tNot a,X,sg,e,G,h=>by
  cases e with
  |UnaryOp v65 x w1 =>
   cases v65 with
   |Not =>
    replace h:(chkT a sg x)=true:=h;exact tk_not (sT a G h)
   |_=>exact nf h
  |_=>exact nf h
 | .tE a,X,sg,e,G,h=>by
  obtain⟨h1,h2⟩:=zG h;rcases Bool.or_eq_true _ _ |>.mp h1 with h1|h1
  ·exact ok_test (sE a G h2) (test_of h1)
  ·cases a with
   |cmp o a b =>
    cases e with
    |Compare x v66 v67 w1 =>
     cases v66 with
     |cons op v68 =>
      cases v68 with
      |nil =>
       cases v67 with
       |cons y v69 =>
        cases v69 with
        |nil =>
         replace h2:(op==o.op&&yl y&&(zb a sg x&&zb b sg y))=true:=h2;obtain⟨h1,k1⟩:=zG h2;obtain⟨h1,h0⟩:=zG h1;obtain⟨k2,k3⟩:=zG k1;have:=beq_iff_eq.mp h1;subst this;exact cmpT_of G h0 (sE a G k2) (sE b G k3)
        |_=>exact absurd h2 Bool.false_ne_true
       |_=>exact absurd h2 Bool.false_ne_true
      |_=>exact absurd h2 Bool.false_ne_true
     |_=>exact absurd h2 Bool.false_ne_true
    |_=>exact absurd h2 Bool.false_ne_true
   |chain o o' a b c =>
    cases e with
    |Compare x v70 v71 w1 =>
     cases v70 with
     |cons op v72 =>
      cases v72 with
      |cons op' v73 =>
       cases v73 with
       |nil =>
        cases v71 with
        |cons y v74 =>
         cases v74 with
         |cons z v75 =>
          cases v75 with
          |nil =>
           replace h2:(op==o.op&&op'==o'.op&&o.isI&&o'.isI&&yl z&&(zb a sg x&&(zb b sg y&&zb c sg z)))=true:=h2;obtain⟨h1,j2⟩:=zG h2;obtain⟨h1,k5⟩:=zG h1;obtain⟨h1,k4⟩:=zG h1;obtain⟨h1,k3⟩:=zG h1;obtain⟨k1,k2⟩:=zG h1;obtain⟨j2,j3⟩:=zG j2;obtain⟨j3,j4⟩:=zG j3;have:=beq_iff_eq.mp k1;subst this;have:=beq_iff_eq.mp k2;subst this;exact Go (vv k3) (vv k4) (sE a G j2) (sE b G j3) (sE c G j4) (QE k5)
          |_=>exact absurd h2 Bool.false_ne_true
         |_=>exact absurd h2 Bool.false_ne_true
        |_=>exact absurd h2 Bool.false_ne_true
       |_=>exact absurd h2 Bool.false_ne_true
      |_=>exact absurd h2 Bool.false_ne_true
     |_=>exact absurd h2 Bool.false_ne_true
    |_=>exact absurd h2 Bool.false_ne_true
   |_=>cases h1
 | .tBor i a,X,sg,e,G,h=>ok_bor i (sT a G h)| .tTr,X,sg,e,G,h=>absurd h Bool.false_ne_true
theorem sA:∀(t:Ax) {X:Cx} {sg:Sg} {e:List Expr},SgOk X sg->chkA t sg e=true->AOk X e (dA sg.fs t)
 | .nil,X,sg,e,G,h=>by
  have:=isEmpty_iff.mp h;subst this;exact ak_nil
 | .cons a as,X,sg,e,G,h=>by
  cases e with
  |cons x r =>
   replace h:(!zL x&&(zb a sg x&&chkA as sg r))=true:=h;obtain⟨h1,h2⟩:=zG h;obtain⟨h2,h3⟩:=zG h2;exact ak_cons (sE a G h2) (sA as G h3) (nst h1)
  |_=>exact nf h
theorem sG:∀(t:Gx) {X:Cx} {sg:Sg} {e:List Expr},SgOk X sg->chkG t sg e=true->zBY X e (dG sg.fs t)
 | .nil,X,sg,e,G,h=>by
  have:=isEmpty_iff.mp h;subst this;exact ga_nil
 | .ev a as,X,sg,e,G,h=>by
  cases e with
  |cons x r =>
   replace h:(!zL x&&(zb a sg x&&chkG as sg r))=true:=h;obtain⟨h1,h2⟩:=zG h;obtain⟨h2,h3⟩:=zG h2;exact ga_ev (sE a G h2) (sG as G h3) (nst h1)
  |_=>exact nf h
 | .lend i as,X,sg,e,G,h=>by
  cases e with
  |cons v76 r =>
   cases v76 with
   |Name x w1 =>
    replace h:(vis sg i x&&chkG as sg r)=true:=h;obtain⟨h1,h2⟩:=zG h;exact ga_lend (ZL G h1) (sG as G h2)
   |_=>exact nf h
  |_=>exact nf h
theorem sO:∀(t:Ox) {X:Cx} {sg:Sg} {e:Option Expr},SgOk X sg->chkO t sg e=true->OOk X e (dO sg.fs t)
 | .oN,X,sg,e,G,h=>by
  cases e with
  |none=>exact oo_none|some e=>cases h
 | .oS a,X,sg,e,G,h=>by
  cases e with
  |none=>cases h|some e=>exact oo_some (sE a G h)
theorem sI:∀(t:Ix) {X:Cx} {sg:Sg} {tg e:Expr},SgOk X sg->chkI t sg e=true->chkZ t tg=true->IOk X tg e (dI sg.fs t)
 | .iL a,X,sg,tg,e,G,h,hz=>by
  exact io_list (sE a G h)
 | .iT a,X,sg,tg,e,G,h,hz=>by
  exact io_tup (sE a G h)
 | .iR1 as,X,sg,tg,e,G,h,hz=>by
  cases e with
  |Call v77 v78 v79 w2 =>
   cases v77 with
   |Name f w1 =>
    cases v78 with
    |cons x v80 =>
     cases v80 with
     |nil =>
      cases v79 with
      |nil =>
       replace h:(f == "range"&&glb sg "range"&&bIn sg "range"&&!zL x&&chkA as sg [x])=true:=h;obtain⟨h1,h2⟩:=zG h;obtain⟨h1,k4⟩:=zG h1;obtain⟨h1,k3⟩:=zG h1;obtain⟨k1,k2⟩:=zG h1;have:=beq_iff_eq.mp k1;subst this;exact io_r1 (yX G k2).1 (w8 G k3) (sA as G h2) (nst k4)
      |_=>exact nf h
     |_=>exact nf h
    |_=>exact nf h
   |_=>exact nf h
  |_=>exact nf h
end
def zAs{X:Cx}{sg:Sg}(G:SgOk X sg){i:Nat}{x:Str}{px spos:Pos}{nl:Nat}{loc capn:List Str}{caps:List Nat}{it:Ix}{tg:Tg}{tt:Tx}{el:Ex}{v:Expr}(hi:X.N[i]?=some x)(hx:Loc X.env.scope x)(hf:X.fn x=true\/X.env.scope.names.lookup x=some .local)
  (hsw:swapsWith v (some (.Name x px)) spos.line X.env=pure true) (h:zb (.comp nl loc capn caps it tg tt el) sg v=true):SOk X (.Assign [.Name x px] v spos) (sSet i (dE sg.fs (.comp nl loc capn caps it tg tt el))):=by
 cases v with
 |ListComp elt v86 scope w1 =>
  cases v86 with
  |cons v87 v88 =>
   cases v87 with
   |mk target iter ifs v89 =>
    cases v89 with
    |ofNat v90 =>
     cases v90 with
     |zero =>
      cases v88 with
      |nil =>
       replace h:(sg.calm&&(QB sg nl loc capn caps scope&&yl iter&&((chkZ it target&&chkI it sg iter)&&(vo tg (W0 sg (loc++capn) scope) target&&(_&&zb el (W0 sg (loc++capn) scope) elt)))))=true:=h;obtain⟨hcm,h⟩:=zG h;obtain⟨h1,h2⟩:=zG h;obtain⟨h1,k9⟩:=zG h1;unfold QB at h1;obtain⟨h1,k7⟩:=zG h1;obtain⟨h1,k6⟩:=zG h1;obtain⟨h1,k5⟩:=zG h1;obtain⟨h1,k4⟩:=zG h1;obtain⟨h1,k3⟩:=zG h1;obtain⟨k1,k2⟩:=zG h1;obtain⟨q1,q2⟩:=zG h2;obtain⟨q0,q1⟩:=zG q1;obtain⟨q2,q3⟩:=zG q2;obtain⟨q3,q4⟩:=zG q3;have nd:(loc++capn).Nodup:=of_decide_eq_true k3;have kc:∀y∈scope.names,y.2=.cell->scope.names.lookup y.1=some .cell:=λy hy hc=>by
        have:=all_eq_true.mp k5 y hy;rw[hc]at this;simpa using this
       have I:∀cl C ex s H,SgOk (cxB X.nox (loc++capn) scope cl C ex s H) (W0 sg (loc++capn) scope):=λ_ _ _ _ _=>vq (jB G) nd kc
       refine no_set▸no_S (sk_lc (X:=X.nox) loc capn G.nd hi hx hf (beq_iff_eq.mp k1) (λe s z=>z) (G.calm hcm) (beq_iff_eq.mp k2) (λy hy hl=>?_) (λy hy hc=>?_) (by rw[show X.env.kindOf=λn=>X.env.scope.names.lookup n from rfl,G.sc];exact k6) (QG (jB G) k7) (sI it (jB G) q1 q0) (g:=gOf X.K tg) (λcl C ex s H=>zAq (sg:=W0 sg (loc++capn) scope) hcm (I cl C ex s H) q2) (WB tg) (λcl C ex s H=>?_) (λcl C ex s H=>sE (sg:=W0 sg (loc++capn) scope) el (I cl C ex s H) q4) (wn k9) hsw)
       ·have:=all_eq_true.mp k4 y hy
        rw[hl]at this;simpa using this
       ·exact kc y hy hc
       ·cases ifs with
        |nil =>
         cases tt<;>first|(cases q3;done)|skip;exact Ge
        |cons c cs =>
         obtain⟨q3,q5⟩:=zG q3;have:=isEmpty_iff.mp q3;subst this;exact Gf (sT (sg:=W0 sg (loc++capn) scope) tt (I cl C ex s H) q5)
      |_=>exact nf h
     |_=>exact nf h
    |_=>exact nf h
  |_=>exact nf h
 |_=>exact nf h
mutual
theorem sS:∀(t:Sx) {X:Cx} {sg:Sg} {e:Stmt},SgOk X sg->chkS t sg e=true->SOk X e (dS sg.fs t)
 | .sIf t a b,X,sg,e,G,h=>by
  cases e with
  |If c x y w1 =>
   replace h:(chkT t sg c&&(chkB a sg x&&chkB b sg y))=true:=h;obtain⟨h1,h2⟩:=zG h;obtain⟨h2,h3⟩:=zG h2;exact sk_if (sT t G h1) (sB a G h2) (sB b G h3)
  |_=>exact nf h
 | .sSet i a,X,sg,e,G,h=>by
  cases e with
  |Assign v91 v w1 =>
   cases v91 with
   |cons v92 v93 =>
    cases v92 with
    |Name x px =>
     cases v93 with
     |nil =>
      replace h:(locd sg i x&&setOk sg x px a v&&zb a sg v)=true:=h;obtain⟨h1,h2⟩:=zG h;obtain⟨h1,h3⟩:=zG h1;obtain⟨q1,q2,q3⟩:=vK G h1;unfold setOk at h3;split at h3
      ·obtain⟨k1,k2⟩:=zG h3
       rename_i el gs scope vp;cases hb:swB sg _ _ scope vp with
       |false=>exact zBW G.nd q1 q2 (sE a G h2) (by rw[zBm G k1,hb]) q3
       |true =>
        rw[hb]at k2;cases a with
        |comp nl loc capn caps it tg tt el'=>exact zAs G q1 q2 q3 (by rw[zBm G k1,hb]) h2|_=>cases k2
      ·exact zBW G.nd q1 q2 (sE a G h2) (Zc h3) q3
     |_=>exact nf h
    |_=>exact nf h
   |_=>exact nf h
  |_=>exact nf h
 | .sAny,X,sg,e,G,h=>by
  exact sk_any
 | .sStar i j a,X,sg,e,G,h=>by
  cases e with
  |Assign v94 v w1 =>
   cases v94 with
   |cons v95 v96 =>
    cases v95 with
    |Tuple es k p =>
     cases es with
     |cons e1 es =>
      cases e1 with
      |Name x px =>
       cases es with
       |cons e2 es =>
        cases e2 with
        |Starred e3 ps =>
         cases e3 with
         |Name y py =>
          cases es with
          |nil =>
           cases v96 with
           |nil =>
            replace h:(sg.calm&&(vo.all2 sg [i,j] [.Name x px,.Name y py]&&QC v&&zb a sg v))=true:=h;obtain⟨hcm,h⟩:=zG h;obtain⟨h1,h2⟩:=zG h;obtain⟨k1,k2⟩:=zG h1;obtain⟨q1,q2,q3⟩:=Jf _ [i,j] G k1;exact sk_star (G.calm hcm) q1 (sE a G h2) zAr (swp_of k2)
           |_=>exact nf h
          |_=>exact nf h
         |_=>exact nf h
        |_=>exact nf h
       |_=>exact nf h
      |_=>exact nf h
     |_=>exact nf h
    |_=>exact nf h
   |_=>exact nf h
  |_=>exact nf h
 | .sPar i j as,X,sg,e,G,h=>by
  cases e with
  |Assign v97 v98 w5 =>
   cases v97 with
   |cons v99 v100 =>
    cases v99 with
    |Tuple v101 w1 w2 =>
     cases v101 with
     |cons v102 v103 =>
      cases v102 with
      |Name x px =>
       cases v103 with
       |cons v104 v105 =>
        cases v104 with
        |Name y py =>
         cases v105 with
         |nil =>
          cases v100 with
          |nil =>
           cases v98 with
           |Tuple v106 w3 w4 =>
            cases v106 with
            |cons a v107 =>
             cases v107 with
             |cons b v108 =>
              cases v108 with
              |nil =>
               replace h:(sg.calm&&(QD sg i j x y px py a b&&chkA as sg [a,b]))=true:=h;obtain⟨hcm,h⟩:=zG h;obtain⟨h1,h2⟩:=zG h;have h1':=h1;unfold QD at h1;simp only[Bool.and_eq_true,Bool.not_eq_true',beq_iff_eq,bne_iff_ne]at h1;obtain⟨⟨⟨⟨⟨⟨⟨⟨⟨⟨⟨_,n1⟩,n2⟩,n3⟩,l1⟩,l2⟩,_⟩,_⟩,_⟩,_⟩,_⟩,_⟩:=h1;exact jc (ps_par (G.calm hcm) G.nd (by rw[G.N];exact n1) (by rw[G.N];exact n2) n3 (jL G l1) (jL G l2) (sA as G h2) (sw_par G h1') (QH rfl)) λD O H=>zAb
              |_=>exact nf h
             |_=>exact nf h
            |_=>exact nf h
           |_=>exact nf h
          |_=>exact nf h
         |_=>exact nf h
        |_=>exact nf h
       |_=>exact nf h
      |_=>exact nf h
     |_=>exact nf h
    |_=>exact nf h
   |_=>exact nf h
  |_=>exact nf h
 | .sRet a,X,sg,e,G,h=>by
  cases e with
  |Return v109 w1 =>
   cases v109 with
   |some v =>
    replace h:(zb a sg v)=true:=h;exact sk_ret (sE a G h)
   |_=>exact nf h
  |_=>exact nf h
 | .sDrop a,X,sg,e,G,h=>by
  cases e with
  |Expr v w1 =>
   replace h:(wN v&&zb a sg v)=true:=h;obtain⟨h1,h2⟩:=zG h;exact sk_drop (sE a G h2) (Zc h1)
  |_=>exact nf h
 | .sIx i b a,X,sg,e,G,h=>by
  cases e with
  |Assign v110 v w3 =>
   cases v110 with
   |cons v111 v112 =>
    cases v111 with
    |Subscript v113 y w2 =>
     cases v113 with
     |Name x w1 =>
      cases v112 with
      |nil =>
       replace h:(vis sg i x&&Yw y&&wN v&&(zb b sg y&&zb a sg v))=true:=h;obtain⟨h1,h2⟩:=zG h;obtain⟨h1,h0⟩:=zG h1;obtain⟨h1,h4⟩:=zG h1;obtain⟨h2,h3⟩:=zG h2;exact zAN i (ZL G h1) (sE b G h2) (sE a G h3) (set_of h4) (QH h0)
      |_=>exact nf h
     |_=>exact nf h
    |_=>exact nf h
   |_=>exact nf h
  |_=>exact nf h
 | .sApp i a,X,sg,e,G,h=>by
  cases e with
  |Expr v114 w2 =>
   cases v114 with
   |Call v115 v116 v117 cp =>
    cases v115 with
    |Attribute v118 m ap =>
     cases v118 with
     |Name x w1 =>
      cases v116 with
      |cons v v119 =>
       cases v119 with
       |nil =>
        cases v117 with
        |nil =>
         replace h:(m == "append"&&ap.endLine==cp.line&&vis sg i x&&!zL v&&zb a sg v)=true:=h;obtain⟨h1,h2⟩:=zG h;obtain⟨h1,k4⟩:=zG h1;obtain⟨h1,k3⟩:=zG h1;obtain⟨k1,k2⟩:=zG h1;have:=beq_iff_eq.mp k1;subst this;exact sk_app i (ZL G k3) (sE a G h2) rfl (Wj (nst k4)) k2 (zF (nst k4)) rfl rfl
        |_=>exact nf h
       |_=>exact nf h
      |_=>exact nf h
     |_=>exact nf h
    |_=>exact nf h
   |_=>exact nf h
  |_=>exact nf h
 | .sForL a tg b,X,sg,e,G,h=>by
  cases e with
  |For t it body v120 w1 =>
   cases v120 with
   |nil =>
    replace h:(sg.calm&&(yl it&&vo tg sg t&&(zb a sg it&&chkB b sg body)))=true:=h;obtain⟨hcm,h⟩:=zG h;obtain⟨h1,h2⟩:=zG h;obtain⟨h1,h0⟩:=zG h1;obtain⟨h2,h3⟩:=zG h2;exact no_S (sk_forL (X:=X.nox) PassesOwn.never (G.calm hcm) (sE a (jB G) h2) (zAq hcm (jB G) h0) (WB tg) (sB b (jB G) h3) (wn h1))
   |_=>exact nf h
  |_=>exact nf h
 | .sForR1 as tg b,X,sg,e,G,h=>by
  cases e with
  |For t v122 body v123 w3 =>
   cases v122 with
   |Call v124 v125 v126 w2 =>
    cases v124 with
    |Name f w1 =>
     cases v125 with
     |cons x v127 =>
      cases v127 with
      |nil =>
       cases v126 with
       |nil =>
        cases v123 with
        |nil =>
         replace h:(sg.calm&&(f == "range"&&glb sg "range"&&bIn sg "range"&&!zL x&&vo tg sg t&&(chkA as sg [x]&&chkB b sg body)))=true:=h;obtain⟨hcm,h⟩:=zG h;obtain⟨h1,h2⟩:=zG h;obtain⟨h1,k5⟩:=zG h1;obtain⟨h1,k4⟩:=zG h1;obtain⟨h1,k3⟩:=zG h1;obtain⟨k1,k2⟩:=zG h1;obtain⟨h2,h3⟩:=zG h2;have:=beq_iff_eq.mp k1;subst this;exact no_S (zAP (X:=X.nox) PassesOwn.never (G.calm hcm) (yX (jB G) k2).1 (w8 (jB G) k3) (sA as (jB G) h2) (zAq hcm (jB G) k5) (WB tg) (sB b (jB G) h3) (nst k4) (wn rfl))
        |_=>exact nf h
       |_=>exact nf h
      |_=>exact nf h
     |_=>exact nf h
    |_=>exact nf h
   |_=>exact nf h
  |_=>exact nf h
 | .sRaise c,X,sg,e,G,h=>by
  cases e with
  |Raise v200 v201 w1 =>
   cases v200 with
   |some v202 =>
    cases v202 with
    |Call v203 v204 v205 w2 =>
     cases v203 with
     |Name x w3 =>
      cases v204 with
      |nil =>
       cases v205 with
       |nil =>
        cases v201 with
        |none =>
         replace h:(sg.calm&&(x==c&&glb sg c&&sg.rs.contains c))=true:=h;obtain⟨hcm,h⟩:=zG h;obtain⟨h,k3⟩:=zG h;obtain⟨k1,k2⟩:=zG h;have:=beq_iff_eq.mp k1;subst this;obtain⟨C,c1,c2⟩:=G.rs x (by simpa using k3);exact zAc (G.calm hcm) (yX G k2).1 c1 c2 (yX G k2).2
        |_=>exact nf h
       |_=>exact nf h
      |_=>exact nf h
     |_=>exact nf h
    |_=>exact nf h
   |_=>exact nf h
  |_=>exact nf h
 | .sTry cl b i hb,X,sg,e,G,h=>by
  cases e with
  |Try body v200 v201 v202 w1 =>
   cases v200 with
   |cons v203 v204 =>
    cases v203 with
    |ExceptHandler v205 v206 v207 w2 =>
     cases v205 with
     |some v208 =>
      cases v208 with
      |Name t w3 =>
       cases v206 with
       |some n =>
        cases v207 with
        |cons b0 suite =>
         cases v204 with
         |nil =>
          cases v201 with
          |nil =>
           cases v202 with
           |nil =>
            replace h:(t == "ThrowError"&&glb sg "ThrowError"&&(cl==sg.cl&&!sg.cl.isEmpty)&&sg.top&&(sg.N[i]?==some n&&kIs sg n .local)&&(chkB b sg body&&chkB hb {sg with calm:=false} (b0::suite)))=true:=h
            obtain⟨h,h2⟩:=zG h;obtain⟨h2,h3⟩:=zG h2;obtain⟨h,k5⟩:=zG h;obtain⟨h,k4⟩:=zG h;obtain⟨h,k3⟩:=zG h;obtain⟨k1,k2⟩:=zG h;obtain⟨k3,k6⟩:=zG k3;obtain⟨k5,k7⟩:=zG k5;have:=beq_iff_eq.mp k1;subst this;have ecl:cl=sg.cl:=by simpa using k3
            subst ecl;obtain⟨T,t1,t2,t3⟩:=G.cl (λz=>by rw[z]at k6;cases k6);exact sk_try (G.stk k4) G.nd (by rw[G.N];simpa using k5) (jL G k7) (yX G k2).1 (yX G k2).2 t1 t2 (λc hc=>let ⟨C,c1,c2,_⟩:=t3 c hc;⟨C,c1,c2⟩) (λpn E=>sB b (tr_ok G pn E) h2) (λa=>sB (sg:={sg with calm:=false}) hb (hd_ok G a) h3)
           |_=>exact nf h
          |_=>exact nf h
         |_=>exact nf h
        |_=>exact nf h
       |_=>exact nf h
      |_=>exact nf h
     |_=>exact nf h
   |_=>exact nf h
  |_=>exact nf h
theorem sB:∀(t:Bx) {X:Cx} {sg:Sg} {e:List Stmt},SgOk X sg->chkB t sg e=true->uc X e (dB sg.fs t)
 | .bNil,X,sg,e,G,h=>by
  have:=isEmpty_iff.mp h;subst this;exact sk_nil
 | .bOne a,X,sg,e,G,h=>by
  cases e with
  |cons s v135 =>
   cases v135 with
   |nil =>
    replace h:(chkS a sg s)=true:=h;exact sk_one (sS a G h)
   |_=>exact nf h
  |_=>exact nf h
 | .bSeq a b,X,sg,e,G,h=>by
  cases e with
  |cons s r =>
   replace h:(chkS a sg s&&chkB b sg r)=true:=h;obtain⟨h1,h2⟩:=zG h;exact sk_cons (sS a G h1) (sB b G h2)
  |_=>exact nf h
end
end
def ClOk(K:PySem.W.Frag)(mg:Str->Option Value)(cl rs:List Str):Prop :=
 (cl≠[]->∃T,mg "ThrowError"=some (.ref T)/\TCls K T/\∀c∈cl,∃C,mg c=some (.ref C)/\XCls K c C T/\C≠T)/\(∀c∈rs,∃C,mg c=some (.ref C)/\excIn K C VB "ValueError.__new__"=true)/\SmOk K
def def_ok{P:Program}{w:World}{K:PySem.W.Frag}{mg:Str->Option Value}{base:Heap}{x:Str}{st:Stmt}{ps N:List Str}{n lv:Nat}{cs:List (Str×D)}{fs:List FI}{bs:List Str}{c:Bool}{cl rs:List Str}(t:Bx)(T:j8 K mg x st ps)(S:FnScope N ps (zV st))(hn:N.length=n)
  (hcs:∀x d,cs.lookup x=some d->∃u v,mg x=some u/\zy v u/\∀H,Rep K mg H d v)
  (hfs:∀i∈fs,∃f fd ps,mg i.x=some (.ref f)/\keepIn K (.ref f)=true/\YG K fd ps []/\ps.length=i.n/\FnOkN (!i.wild) P w K mg base i.lv f fd ps (spM K mg i.n i.F))
  (hbs:∀x∈bs,mg x=none) (hcl:ClOk K mg cl rs) (h:chkB t ⟨N,zV st,true,cs,fs,bs,lv,c,cl,rs,[]⟩ (yZ st)=true):FOk P w K mg base c x (lv+1) ps (fnM n (dB fs t)):=by
 obtain⟨a,fd,hm,F,bnd⟩:=T;subst hn;refine⟨a,fd,hm,F.kp,bnd,fn_ok F S λcdv A outer s H E hd hr=>?_⟩;exact sB (sg:=⟨N,zV st,true,cs,fs,bs,lv,c,cl,rs,[]⟩) t ⟨rfl,rfl,λ_ _=>rfl,(λx h=>by cases h),id,hd,λ_=>⟨rfl,rfl⟩,S.nd,hcs,hfs,hbs,hr,hcl.1,hcl.2.1,hcl.2.2⟩ h
def zAt(K:PySem.W.Frag)(mg:Str->Option Value)(cs:List (Str×D)):Prop:=∀x d,cs.lookup x=some d->∃u v,mg x=some u/\zy v u/\∀H,Rep K mg H d v
def BsOk(mg:Str->Option Value)(bs:List Str):Prop:=∀x∈bs,mg x=none
def FsOk(P:Program)(w:World)(K:PySem.W.Frag)(mg:Str->Option Value)(base:Heap)(fs:List FI):Prop :=
 ∀i∈fs,∃f fd ps,mg i.x=some (.ref f)/\keepIn K (.ref f)=true/\YG K fd ps []/\ps.length=i.n/\FnOkN (!i.wild) P w K mg base i.lv f fd ps (spM K mg i.n i.F)
section
variable{P:Program}{w:World}{K:PySem.W.Frag}{mg:Str->Option Value}{base:Heap}
def cs_nil:zAt K mg []:=λx d h=>by cases h
def cs_put{x:Str}{d:D}{cs:List (Str×D)}(h:∃u v,mg x=some u/\zy v u/\∀H,Rep K mg H d v)(t:zAt K mg cs):zAt K mg ((x,d)::cs):=λy d' e=>by
 rw[lookup_cons]at e;cases hy:y==x with
 |true =>
  rw[hy]at e;cases e;have:y=x:=by simpa using hy
  subst this;exact h
 |false=>rw[hy]at e;exact t y d' e
def JT{x:Str}{i:Int}{cs:List (Str×D)}(h:∃t,mg x=some (.int i t))(t:zAt K mg cs):zAt K mg ((x,.int i)::cs):=by
 obtain⟨k,h⟩:=h;exact cs_put ⟨_,.int i,h,⟨_,rfl⟩,λH=>by simp only[Rep]⟩ t
def bs_nil:BsOk mg []:=λx h=>by cases h
def yz{x:Str}{bs:List Str}(h:mg x=none)(t:BsOk mg bs):BsOk mg (x::bs):=λy e=>by
 rcases mem_cons.mp e with e|e
 ·subst e;exact h
 ·exact t y e
def zo:FsOk P w K mg base []:=λx h=>by cases h
def zO{x:Str}{n lv:Nat}{F:MF}{fs:List FI}{ps:List Str}{wl:Bool}(h:FOk P w K mg base (!wl) x lv ps F)(hl:ps.length=n)(t:FsOk P w K mg base fs):FsOk P w K mg base (⟨x,n,lv,wl,F⟩::fs):=λi e=>by
 rcases mem_cons.mp e with e|e
 ·subst e
  subst hl;obtain⟨a,fd,h1,h2,h3,h4⟩:=h;exact⟨a,fd,ps,h1,h2,h3,rfl,h4⟩
 ·exact t i e
def def_at{x:Str}{st:Stmt}{ps N:List Str}{n lv:Nat}{cs:List (Str×D)}{fs:List FI}{bs:List Str}{cl rs:List Str}(t:Bx){a:Addr}{fd:FuncData}(F:Fun K x x st a fd)(S:FnScope N ps (zV st))(hn:N.length=n)
  (hcs:zAt K mg cs) (hfs:FsOk P w K mg base fs) (hbs:BsOk mg bs) (hcl:ClOk K mg cl rs) (h:chkB t ⟨N,zV st,true,cs,fs,bs,lv,true,cl,rs,[]⟩ (yZ st)=true):FnOk P w K mg base (CXx P w) (lv+1) a fd ps (spM K mg ps.length (fnM n (dB fs t))):=by
 subst hn;refine(fn_ok (c:=true) F S λcdv A outer s H E hd hr=>?_).fn;exact sB (sg:=⟨N,zV st,true,cs,fs,bs,lv,true,cl,rs,[]⟩) t ⟨rfl,rfl,λ_ _=>rfl,(λx h=>by cases h),id,hd,λ_=>⟨rfl,rfl⟩,S.nd,hcs,hfs,hbs,hr,hcl.1,hcl.2.1,hcl.2.2⟩ h
def scP(N P:List Str)(sc:Scope):Prop:=sc.kind=.function/\sc.isCoroutine=false/\sc.isGenerator=false/\N.Nodup/\N.take P.length=P/\(∀x∈P,sc.names.lookup x=some .local\/sc.names.lookup x=some .cell)/\∀y∈sc.names,y.2≠.free
instance scD (N P:List Str) (sc:Scope):Decidable (scP N P sc):=by unfold scP;infer_instance
def sc_of{N P:List Str}{sc:Scope}(h:scP N P sc):FnScope N P sc:=⟨h.1,h.2.1,h.2.2.1,h.2.2.2.1,h.2.2.2.2.1,h.2.2.2.2.2.1,h.2.2.2.2.2.2⟩
def zX{x:Str}{st:Stmt}{ps:List Str}{lv:Nat}{cs:List (Str×D)}{fs:List FI}{bs:List Str}{c:Bool}{cl rs:List Str}(t:Bx)(N:List Str)(T:j8 K mg x st ps)
  (hcs:zAt K mg cs) (hfs:FsOk P w K mg base fs) (hbs:BsOk mg bs) (hcl:ClOk K mg cl rs) (h:(decide (scP N ps (zV st))&&chkB t ⟨N,zV st,true,cs,fs,bs,lv,c,cl,rs,[]⟩ (yZ st))=true):FOk P w K mg base c x (lv+1) ps (fnM N.length (dB fs t)) :=
 def_ok t T (sc_of (of_decide_eq_true (Bool.and_eq_true_iff.mp h).1)) rfl hcs hfs hbs hcl (Bool.and_eq_true_iff.mp h).2
def def_atB{x:Str}{st:Stmt}{ps:List Str}{lv:Nat}{cs:List (Str×D)}{fs:List FI}{bs:List Str}{cl rs:List Str}(t:Bx)(N:List Str){a:Addr}{fd:FuncData}(F:Fun K x x st a fd)
  (hcs:zAt K mg cs) (hfs:FsOk P w K mg base fs) (hbs:BsOk mg bs) (hcl:ClOk K mg cl rs) (h:(decide (scP N ps (zV st))&&chkB t ⟨N,zV st,true,cs,fs,bs,lv,true,cl,rs,[]⟩ (yZ st))=true):FnOk P w K mg base (CXx P w) (lv+1) a fd ps (spM K mg ps.length (fnM N.length (dB fs t))) :=
 def_at t F (sc_of (of_decide_eq_true (Bool.and_eq_true_iff.mp h).1)) rfl hcs hfs hbs hcl (Bool.and_eq_true_iff.mp h).2
def QJ{c:Str}{C T:Addr}(h:xIn K c C T=true):XCls K c C T/\C≠T:=by
 unfold xIn at h;simp only[Bool.and_eq_true,beq_iff_eq,Bool.not_eq_true']at h;obtain⟨⟨⟨⟨⟨⟨⟨h1,h2⟩,h3⟩,h4⟩,h5⟩,h6⟩,h7⟩,h8⟩:=h;refine⟨⟨?_,h2,h3,h4,h5,h6,h7⟩,by simpa using h8⟩;cases e:clsIn K C with
 |none=>rw[e]at h1;cases h1
 |some cd =>
  rw[e]at h1;simp only[Bool.and_eq_true,beq_iff_eq]at h1;exact⟨cd,rfl,h1.1,h1.2⟩
def tcls_of{T:Addr}(h:tIn K T=true):TCls K T:=by
 unfold tIn at h;simp only[Bool.and_eq_true,beq_iff_eq]at h;obtain⟨h1,h2⟩:=h;refine⟨?_,h2⟩;cases e:clsIn K T with
 |none=>rw[e]at h1;cases h1|some cd=>rw[e]at h1;exact⟨cd,rfl,by simpa using h1⟩
def spLaw(K:PySem.W.Frag):Sp:=λvs H Q _=>∃(a:Addr) (ns:List Int),vs=[.ref a]/\SqL K H a (ns.map V.int)/\ns.length<=63/\∀H',Q (.bl true) H'
theorem Wk{H:Hp}:∀ns:List Int,Reps K mg H (ns.map D.int) (ns.map V.int)
 | []=>Reps.nil|n::ns=>Reps.cons (by simp only[Rep]) (Wk ns)
def law_imp{F:MF}(hm:∀ns:List Int,ns.length<=63->∃outs,F [.v (.l (ns.map D.int))]=.ok (.v (.bl true),outs))(vs:List V)(H:Hp)(Q:VK)(E:XK)(h:spLaw K vs H Q E):spM K mg 1 F vs H Q E:=by
 obtain⟨a,ns,rfl,hS,hl,k⟩:=h;obtain⟨outs,hF⟩:=hm ns hl;have em:∀b,¬Mo (λ_=>False) [(some (V.ref a),Slot.v (.l (ns.map D.int)))] b:=by
  intro b q;rcases q with q|q
  ·exact q
  ·rw[zS]at q;cases q
 have sm:JI H (Hm (Mo (λ_=>False) [(some (V.ref a),Slot.v (.l (ns.map D.int)))]) H):=λb o q=>zJ.mpr ⟨em b,q⟩
 refine⟨rfl,λ_=>False,[.v (.l (ns.map D.int))],rfl,⟨?_,?_,?_,?_⟩,?_⟩
 ·intro o d q
  have q':=mem_singleton.mp q
  cases q';refine⟨_,rfl,?_⟩;simp only[Rep];exact⟨a,_,rfl,sm.seq hS,Wk ns⟩
 ·intro o s ds q e
  have q':=mem_singleton.mp q
  cases q';cases e
 ·show(zu [(some (V.ref a),Slot.v (.l (ns.map D.int)))]).Nodup
  rw[zS];exact List.nodup_nil
 ·intro b q;cases q
 ·rw[hF]
  intro v H' _ fr _;obtain⟨v',e,r⟩:=fr.val (some v) (.bl true) mem_cons_self;cases e;simp only[Rep]at r;subst r;exact k H'
end
def jk{E:zQ}:zt [] E=[]:=rfl
def QK{ds:List D}{ss:List Slot}{s:Slot}{E:zQ}:zt (.par ds::ss) (s::E)=s::zt ss E:=rfl
def jl{d:D}{ss:List Slot}{s:Slot}{E:zQ}:zt (.v d::ss) (s::E)=.e::zt ss E:=rfl
theorem Wl{tg:MG}{tt:MT}{el:ME}(I:Nat->zQ->List D->Prop):∀(ds:List D) (k:Nat) (E:zQ) (acc:List D),I k E acc->acc.length+ds.length<=cap ->
  (∀i d,ds[i]?=some d->∀E acc,I (k+i) E acc->acc.length<cap->∃E1 E2 r E3,tg d E=.ok E1/\tt E1=.ok (true,E2)/\el E2=.ok (r,E3)/\I (k+i+1) E3 (acc++[r.d])) ->
  ∃res E',wu tg tt el ds E acc=.ok (res,E')/\I (k+ds.length) E' res
 | [],k,E,acc,h,hc,step=>⟨acc,E,rfl,h⟩
 |d::ds,k,E,acc,h,hc,step=>by
  simp only[length_cons]at hc;obtain⟨E1,E2,r,E3,h1,h2,h3,h4⟩:=step 0 d rfl E acc h (by omega);obtain⟨res,E',q1,q2⟩:=Wl I ds (k+1) E3 (acc++[r.d]) h4 (by simp;omega) λi d' e E acc h hl=>by
   have:=step (i+1) d' (by simpa using e) E acc (by rw[show k+(i+1)=k+1+i by omega];exact h) hl;rw[show k+(i+1)=k+1+i by omega]at this;exact this
  refine⟨res,E',?_,?_⟩
  ·simp only[wu,h1,h2,h3]
   rw[if_pos (by omega)];exact q1
  ·rw[length_cons,show k+(ds.length+1)=k+1+ds.length by omega];exact q2
theorem Jz{tg:MG}{body:MS}(I:Nat->zQ->Prop):∀(ds:List D) (k:Nat) (E:zQ),I k E ->
  (∀i d,ds[i]?=some d->∀E,I (k+i) E->∃E1 E2,tg d E=.ok E1/\body E1=.ok (.nx,E2)/\I (k+i+1) E2) ->
  ∃E',vD tg body ds E=.ok (.nx,E')/\I (k+ds.length) E'
 | [],k,E,h,step=>⟨E,rfl,h⟩
 |d::ds,k,E,h,step=>by
  obtain⟨E1,E2,h1,h2,h4⟩:=step 0 d rfl E h;obtain⟨E',q1,q2⟩:=Jz I ds (k+1) E2 h4 λi d' e E h=>by
   have:=step (i+1) d' (by simpa using e) E (by rw[show k+(i+1)=k+1+i by omega];exact h);rw[show k+(i+1)=k+1+i by omega]at this;exact this
  refine⟨E',?_,?_⟩
  ·simp only[vD,h1,h2]
   exact q1
  ·rw[length_cons,show k+(ds.length+1)=k+1+ds.length by omega];exact q2
theorem vw:∀(n:Nat) (lo:Int) (i:Nat) (d:D),(zW lo n)[i]?=some d->i<n/\d=.int (lo+i)
 |0,_,_,_,h=>by simp[zW]at h
 |n+1,lo,0,d,h=>by
  simp[zW]at h;exact⟨by omega,by rw[<- h];simp⟩
 |n+1,lo,i+1,d,h=>by
  simp only[zW,List.getElem?_cons_succ]at h;obtain⟨h1,h2⟩:=vw n (lo+1) i d h;refine⟨by omega,?_⟩;rw[h2];congr 1
  push_cast
  omega
theorem J0:∀(n:Nat) (lo:Int),(zW lo n).length=n
 |0,_=>rfl|n+1,lo=>by simp[zW,J0 n]
def wV:Slot->Bool
 | .par _=>false|_=>true
theorem vx:∀(vs:List D) (E:zQ),zH (vs.map AR.tmp) E=.ok (vs.map Slot.v,E)
 | [],_=>rfl|d::vs,E=>by simp only[map_cons,zH,vx vs E]
theorem vz:∀(vs:List D) (outs:List Slot) (E0 E:zQ),outs.length=vs.length->zI (vs.map AR.tmp) outs E0 E=.ok E
 | [],[],_,_,_=>rfl| [],_::_,_,_,h=>by cases h|_::_,[],_,_,h=>by cases h|d::vs,s::outs,E0,E,h=>by simp only[map_cons,zI];exact vz vs outs E0 E (by simpa using h)
theorem Wm{vs:List D}{tg:MG}{tt:MT}{el:ME}{nl:Nat}(pat:D->List DV.Slot)(f:D->Bool)(g:D->D):∀(ds:List D),
  (∀d∈ds,∀S:List DV.Slot,S.length=nl->(∀s∈S,wV s=true)->tg d (S++vs.map Slot.v)=.ok (pat d++vs.map Slot.v)) ->
  (∀d∈ds,(pat d).length=nl/\∀s∈pat d,wV s=true) ->
  (∀d∈ds,tt (pat d++vs.map Slot.v)=.ok (f d,pat d++vs.map Slot.v)) ->
  (∀d∈ds,f d=true->∃r,el (pat d++vs.map Slot.v)=.ok (r,pat d++vs.map Slot.v)/\r.d=g d) ->
  ∀(S:List DV.Slot) (acc:List D),S.length=nl->(∀s∈S,wV s=true)->acc.length+ds.length<=cap->∃S',S'.length=nl/\wu tg tt el ds (S++vs.map Slot.v) acc=.ok (acc++(ds.filter f).map g,S'++vs.map Slot.v)
 | [],_,_,_,_,S,acc,hS,_,_=>⟨S,hS,by simp[wu]⟩
 |d::ds,h1,h2,h3,h4,S,acc,hS,hn,hc=>by
  have m:=mem_cons_self (a:=d) (l:=ds);have r1:=h1 d m S hS hn;have r3:=h3 d m;have r2:=h2 d m;simp only[length_cons]at hc;have go:=Wm pat f g ds (λz hz=>h1 z (mem_cons_of_mem _ hz)) (λz hz=>h2 z (mem_cons_of_mem _ hz)) (λz hz=>h3 z (mem_cons_of_mem _ hz)) (λz hz=>h4 z (mem_cons_of_mem _ hz)) (pat d);cases hf:f d with
  |false =>
   rw[hf]at r3;obtain⟨S',l',e'⟩:=go acc r2.1 r2.2 (by omega);refine⟨S',l',?_⟩;simp only[wu,r1,r3,e',List.filter_cons,hf];simp
  |true =>
   rw[hf]at r3;obtain⟨r,r4,r5⟩:=h4 d m hf;obtain⟨S',l',e'⟩:=go (acc++[r.d]) r2.1 r2.2 (by simp;omega);refine⟨S',l',?_⟩;simp only[wu,r1,r3,r4];rw[if_pos (by omega),e',r5];simp[List.filter_cons,hf]
def zAu{vs:List D}{tg:MG}{tt:MT}{el:ME}{nl:Nat}{caps:List Nat}(pat:D->List DV.Slot)(f:D->Bool)(g:D->D)(ds:List D)
  (h1:∀d∈ds,∀S:List DV.Slot,S.length=nl->(∀s∈S,wV s=true)->tg d (S++vs.map Slot.v)=.ok (pat d++vs.map Slot.v))
  (h2:∀d∈ds,(pat d).length=nl/\∀s∈pat d,wV s=true)
  (h3:∀d∈ds,tt (pat d++vs.map Slot.v)=.ok (f d,pat d++vs.map Slot.v))
  (h4:∀d∈ds,f d=true->∃r,el (pat d++vs.map Slot.v)=.ok (r,pat d++vs.map Slot.v)/\r.d=g d) (hc:ds.length<=cap)
  {mi:MI} {E E1:zQ} (hi:mi E=.ok (ds,E1)) (hcap:wv E1 caps=.ok (vs.map AR.tmp)):Yz nl caps mi tg tt el E=.ok (.own ((ds.filter f).map g),E1):=by
 obtain⟨S',l',e'⟩:=Wm (vs:=vs) (tg:=tg) (tt:=tt) (el:=el) (nl:=nl) pat f g ds h1 h2 h3 h4 (replicate nl .e) [] (by simp) (λs hs=>by rw[(List.mem_replicate.mp hs).2];rfl) (by simpa using hc);simp only[Yz,hi,hcap,vx,e'];rw[vz vs _ _ _ (by rw[List.length_drop,zf];simp)];simp
def gN_ok1{a:D}{S:List DV.Slot}{R:List DV.Slot}(hS:S.length=1)(hn:∀s∈S,wV s=true):gN 0 a (S++R)=.ok ([.v a]++R):=by
 match S,hS,hn with
 | [x],_,hn =>
  have hx:=hn x (by simp);cases x<;>first|(cases hx;done)|rfl
theorem v0:∀(l:List Obj) (i:Nat) (as:List Addr) (a:Addr) (o:Obj),(Z9 l i as).lookup a=some o->∃j,a=i+j/\l[j]?=some o/\isFr o=false
 | [],_,_,a,o,e=>by cases e|_::_,_,[],a,o,e=>by cases e
 |x::os,i,b::as,a,o,e=>by
  have up:∀{as:List Addr},(Z9 os (i+1) as).lookup a=some o->∃j,a=i+j/\(x::os)[j]?=some o/\isFr o=false:=λe=>by
   obtain⟨j,h1,h2,h3⟩:=v0 os (i+1) _ a o e;exact⟨j+1,h1.trans ((Nat.add_assoc i 1 j).trans (congrArg (i+·) (Nat.add_comm 1 j))),by simpa using h2,h3⟩
  unfold Z9 at e;cases hb:Nat.beq i b with
  |false=>rw[hb]at e;exact up e
  |true =>
   rw[hb]at e;cases hf:isFr x with
   |true=>rw[hf]at e;exact up e
   |false =>
    rw[hf]at e;replace e:(match a==i with|true=>some x|false=>List.lookup a (Z9 os (i+1) as))=some o:=e
    cases ha:a==i with
    |true =>
     rw[ha]at e;cases e;exact⟨0,beq_iff_eq.mp ha,rfl,hf⟩
    |false=>rw[ha]at e;exact up e
def QL{h:Heap}(as:List Addr):(wW h as).In h:=λa o e=>by
 obtain⟨j,h1,h2,h3⟩:=v0 _ _ _ _ _ e;rw[Nat.zero_add]at h1;subst h1;have h4:h.objs[a]?=some o:=by rw[<- Array.getElem?_toList];exact h2
 unfold Heap.get?;rw[h4];obtain⟨c,d,dt,sl⟩:=o;cases dt<;>first|rfl|(cases h3)
def uA(as:List Addr)(α:Type)(L:PySem.W.Frag->α)(v:α):PySem.W.Hook :=
 ⟨α,λs=>L (wW s.heap as),λ_=>v,λ_ h=>∃K:PySem.W.Frag,K.In h/\L K=v,λ_ s e=>⟨_,QL as,e⟩,λ_ _ _ ⟨K,x,e⟩ k=>⟨K,x.keeps k,e⟩⟩
def zAv{K:PySem.W.Frag}{n:Str}{st:Stmt}(e:yG K n=yJ n st):∃(f:Addr) (oc:Value) (od:Option Addr) (kV dc pm:Value) (an:Option Addr) (cd ct:Value) (sl:Array (Option Value)),
  nsIn K mainGlobals n=some (some (.ref f))/\K.lookup f=some ⟨oc,od,.func (fnOf n n (wL st) (yZ st) (zV st) .none kV dc pm an cd ct),sl⟩/\codeIn K cd n=true/\keepIn K (.ref f)=true:=by
 unfold yG at e;split at e
 ·rename_i a ha
  split at e
  ·rename_i oc od fd sl hl
   have e:=Option.some.inj e;unfold fvOf at e;injection e with e1 e
   injection e with e2 e
   injection e with e3 e
   injection e with e4 e
   injection e with e5 e
   injection e with e6 e
   injection e with e7 e
   injection e with e8 e
   injection e with e9 e10
   obtain⟨k,p⟩:=zG e1;cases fd;simp only at e2 e3 e4 e5 e6 e7 e8 e9 e10;subst e2 e3 e4 e5 e6 e7 e8 e9 e10;exact⟨_,_,_,_,_,_,_,_,_,_,ha,hl,k,p⟩
  ·cases e
 ·cases e
def nth{α:Type}:List α->Nat->Option α
 | [],_=>none|a::_,0=>some a|_::l,n+1=>nth l n
def ix{α:Type}{l l':List α}(n:Nat)(h:l=l'):nth l n=nth l' n:=congrArg (λl=>nth l n) h
section
variable{K:PySem.W.Frag}{h:Heap}{mg:Str->Option Value}
def ar0{P:List Value->Prop}(h:P []):∀us:List Value,us.length=0->P us
 | [],_=>h
def ar1{P:List Value->Prop}(h:∀a:Value,P [a]):∀us:List Value,us.length=1->P us
 | [a],_=>h a
def ar2{P:List Value->Prop}(h:∀a b:Value,P [a,b]):∀us:List Value,us.length=2->P us
 | [a,b],_=>h a b
def ar3{P:List Value->Prop}(h:∀a b c:Value,P [a,b,c]):∀us:List Value,us.length=3->P us
 | [a,b,c],_=>h a b c
def ar4{P:List Value->Prop}(h:∀a b c d:Value,P [a,b,c,d]):∀us:List Value,us.length=4->P us
 | [a,b,c,d],_=>h a b c d
def ar5{P:List Value->Prop}(h:∀a b c d e:Value,P [a,b,c,d,e]):∀us:List Value,us.length=5->P us
 | [a,b,c,d,e],_=>h a b c d e
def ar6{P:List Value->Prop}(h:∀a b c d e f:Value,P [a,b,c,d,e,f]):∀us:List Value,us.length=6->P us
 | [a,b,c,d,e,f],_=>h a b c d e f
def ar7{P:List Value->Prop}(h:∀a b c d e f g:Value,P [a,b,c,d,e,f,g]):∀us:List Value,us.length=7->P us
 | [a,b,c,d,e,f,g],_=>h a b c d e f g
def yO{n:Str}{st:Stmt}{ps:List Str}(X:K.In h)(G:h.Ns mainGlobals mg)(e:some (yG K n)=some (yJ n st))
  (b:∀(kV doc pm:Value) (an:Option Addr) (cdv ct:Value) (us:List Value),us.length=ps.length->bindArgs (fnOf n n (wL st) (yZ st) (zV st) .none kV doc pm an cdv ct) ⟨us,[]⟩=pure (ps.zip us):=by intro _ _ _ _ _ _;first|exact ar1 (λ_=>rfl)|exact ar2 (λ_ _=>rfl)|exact ar3 (λ_ _ _=>rfl)|exact ar4 (λ_ _ _ _=>rfl)|exact ar5 (λ_ _ _ _ _=>rfl)|exact ar6 (λ_ _ _ _ _ _=>rfl)|exact ar7 (λ_ _ _ _ _ _ _=>rfl)|exact ar0 rfl):j8 K mg n st ps:=by
 obtain⟨f,oc,od,kV,dc,pm,an,cd,ct,sl,a,l,k,p⟩:=zAv (Option.some.inj e);exact⟨_,_,mg_of X G a,zBN (st:=st) l k p,(zBN (st:=st) l k p).binds b⟩
def uW{n:Str}{i:Int}(X:K.In h)(G:h.Ns mainGlobals mg)(e:some (JX K n)=some (some i)):∃t,mg n=some (.int i t):=by
 have e:=Option.some.inj e;unfold JX at e;split at e
 ·rename_i j t hj
  cases e;exact⟨_,mg_of X G hj⟩
 ·cases e
def YY{n:Str}(X:K.In h)(G:h.Ns mainGlobals mg)(e:some (jH K n)=some true):mg n=none:=by
 have e:=Option.some.inj e;unfold jH at e;split at e
 ·rename_i hj
  exact PySem.W.mg_none_of X G hj
 ·cases e
def vL{n:Str}{a:Addr}(X:K.In h)(G:h.Ns mainGlobals mg)(e:jx K n=some a):mg n=some (.ref a):=by
 unfold jx at e;split at e
 ·rename_i b hb
  cases e;exact mg_of X G hb
 ·cases e
def sm_at(e:ug K=true):SmOk K:=by
 unfold ug at e;cases h:K.lookup sysModules with
 |none=>rw[h]at e;cases e
 |some o =>
  rw[h]at e;dsimp only at e;cases hd:o.data with
  |dict es n=>exact⟨o,es,n,h,hd⟩|_=>rw[hd]at e;cases e
def cl_at{cl rs:List Str}(X:K.In h)(G:h.Ns mainGlobals mg)(e:zBF K cl rs=true):ClOk K mg cl rs:=by
 obtain⟨e,e3⟩:=zG e;obtain⟨e1,e2⟩:=zG e;refine⟨λhc=>?_,λc hc=>?_,sm_at e3⟩
 ·cases cl with
  |nil=>exact absurd rfl hc
  |cons c0 cs =>
   replace e1:(match jx K "ThrowError" with
    |some T=>tIn K T&&(c0::cs).all λc=>(match jx K c with|some C=>xIn K c C T|none=>false)
    |none=>false)=true:=e1
   cases hT:jx K "ThrowError" with
   |none=>rw[hT]at e1;cases e1
   |some T =>
    rw[hT]at e1;obtain⟨t1,t2⟩:=zG e1;refine⟨T,vL X G hT,tcls_of t1,λc hc=>?_⟩;have q:=all_eq_true.mp t2 c hc;cases hC:jx K c with
    |none=>rw[hC]at q;cases q
    |some C =>
     rw[hC]at q;exact⟨C,vL X G hC,(QJ q).1,(QJ q).2⟩
 ·have q:=all_eq_true.mp e2 c hc
  cases hC:jx K c with
  |none=>rw[hC]at q;cases q
  |some C =>
   rw[hC]at q;exact⟨C,vL X G hC,q⟩
end
def walkE{l:PySem.W.OpenLaw}{q:Program}{loose:List Str}{XP:(Str->Option Value)->Heap->Prop}{d:DefRec}{as:List Addr}{α:Type}{L:PySem.W.Frag->α}{v:α}{x:Str}{F:MF}(hm:∀ns:List Int,ns.length<=63->∃outs,F [.v (.l (ns.map D.int))]=.ok (.v (.bl true),outs))
  (hn:l.most=some 63) (hdf:d.params.defaults=[])
  (Gk:∀(w:World) (K:PySem.W.Frag) (mg:Str->Option Value) (fa:Addr) (h:Heap),K.In h->L K=v->h.Ns mainGlobals mg->mg d.name=some (.ref fa) ->
   ∃fd:FuncData,(∀(s:Shared) (u:Value),BindsTo s fd ⟨[u],[]⟩ [(x,u)])/\∀base:Heap,FnOk l.prog w K mg base (CXx l.prog w) 40 fa fd [x] (spM K mg 1 F)) :
  PySem.W.WalkO q loose XP (uA as α L v).says l.row.toRowW d [] (λf vs=>PySem.call f vs):=by
 refine Att.attach_call hn hdf λw s₀ s₁ mg mb fa o pm cd doc a vs ns G Y ho hd hcd hmg hobj hints hlen hg=>?_
 obtain⟨K,KX,e⟩:=Y;obtain⟨fd,hb,hF⟩:=Gk w K mg fa _ KX e G.T.g hmg;exact Q1 (sp:=spLaw K) (k:=40) KX G.T.g G.T.b G.T.builtins G.T.nolimit hg hobj hints (le_trans hlen (by decide)) ⟨rfl,rfl,by decide,by decide⟩ (λbase _ _=>(hF base).imp (law_imp hm)) hb (λH hO hS=>⟨a,ns,rfl,hS,hlen,λ_=>rfl⟩) λH e s' ⟨_,_,_,_,_,_,_,_,_,_,z⟩=>z
end DV
namespace My
open PySem L2 DV
def cs_:List (Str×D):=[("LEAST_SIGNS",.int 2),("LEAST_WEIGHT",.int 1),("MOST_FIGURES",.int 20),("MOST_SIGNS",.int 3),("MOST_THROWS",.int 20),("MOST_WEIGHT",.int 9)]
def bs_:List Str:=["ValueError","all","bool","int","isinstance","len","list","max","range","str","tuple"]
def ZM:Bx :=
  (.bOne (.sRet (.and (.is .int (.var 0)) (.not (.is .bool (.var 0))))))
def vM:List FI:=[]
def JU:MF:=fnM 1 (dB vM ZM)
def yE:Bx :=
  (.bOne (.sRet (.and (.call 0 (.ev (.var 0) .nil)) (.chain .le .le (.var 1) (.var 0) (.var 2)))))
def yP:List FI:=[⟨"is_whole",1,1,false,JU⟩]
def zZ:MF:=fnM 3 (dB yP yE)
def ZN:Bx :=
  (.bSeq (.sIf (.tOr (.tNot (.tE (.is .tuple (.var 0)))) (.tNot (.tE (.chain .le .le (.gl (.int 2)) (.cB .len (.cons (.var 0) .nil)) (.gl (.int 3)))))) (.bOne (.sRet (.c (.bl false)))) .bNil)
  (.bOne (.sRet (.cB .all (.cons (.comp 1 ["weight"] [] [] (.iT (.var 0)) (.n 0) .tTr (.call 0 (.ev (.var 0) (.ev (.gl (.int 1)) (.ev (.gl (.int 9)) .nil))))) .nil)))))
def wR:List FI:=[⟨"is_whole_within",3,2,false,zZ⟩]
def jM:MF:=fnM 1 (dB wR ZN)
def YZ:Bx :=
  (.bOne (.sRet (.call 0 (.ev (.var 0) (.ev (.c (.int 0)) (.ev (.bin .sub (.gl (.int 3)) (.c (.int 1))) .nil))))))
def Wn:List FI:=[⟨"is_whole_within",3,2,false,zZ⟩]
def jW:MF:=fnM 1 (dB Wn YZ)
def ZO:Bx :=
  (.bSeq (.sIf (.tOr (.tNot (.tE (.is .tuple (.var 0)))) (.tE (.cmp .gt (.cB .len (.cons (.var 0) .nil)) (.gl (.int 20))))) (.bOne (.sRet (.c (.bl false)))) .bNil)
  (.bOne (.sRet (.cB .all (.cons (.comp 1 ["sign"] [] [] (.iT (.var 0)) (.n 0) .tTr (.call 0 (.ev (.var 0) .nil))) .nil)))))
def Yb:List FI:=[⟨"sign_good",1,3,false,jW⟩]
def jv:MF:=fnM 1 (dB Yb ZO)
def w9:Bx :=
  (.bOne (.sRet (.and (.call 0 (.ev (.var 0) .nil)) (.cB .all (.cons (.comp 1 ["sign"] ["signs"] [1] (.iT (.var 0)) (.n 0) .tTr (.cmp .lt (.var 0) (.var 1))) .nil)))))
def wA:List FI:=[⟨"row_good",1,4,false,jv⟩]
def zx:MF:=fnM 2 (dB wA w9)
def ZP:Bx :=
  (.bOne (.sIf (.tNot (.tE (.call 0 (.ev (.var 0) .nil)))) (.bOne (.sRaise "NoDie")) .bNil))
def vN:List FI:=[⟨"die_good",1,3,false,jM⟩]
def ya:MF:=fnM 1 (dB vN ZP)
def JA:Bx :=
  (.bSeq (.sIf (.tOr (.tNot (.tE (.asc (.var 0)))) (.tOr (.tNot (.tE (.dig (.var 0)))) (.tE (.cmp .gt (.cB .lenT (.cons (.var 0) .nil)) (.gl (.int 20)))))) (.bOne (.sRet (.c .non))) .bNil)
  (.bSeq (.sIf (.tAnd (.tE (.cmp .eq (.ixT (.var 0) (.c (.int 0))) (.c (.str "0")))) (.tE (.cmp .ne (.var 0) (.c (.str "0"))))) (.bOne (.sRet (.c .non))) .bNil)
  (.bOne (.sRet (.cB .intT (.cons (.var 0) .nil))))))
def wB:List FI:=[]
def yo:MF:=fnM 1 (dB wB JA)
def wC:Bx :=
  (.bOne (.sRet (.cB .tuple (.cons (.comp 1 ["word"] [] [] (.iL (.var 0)) (.n 0) .tTr (.call 0 (.ev (.var 0) .nil))) .nil))))
def Yc:List FI:=[⟨"number_read",1,1,false,yo⟩]
def yd:MF:=fnM 1 (dB Yc wC)
def jm:Bx :=
  (.bOne (.sRet (.comp 1 ["number"] [] [] (.iT (.var 0)) (.n 0) .tTr (.cB .strT (.cons (.var 0) .nil)))))
def Jp:List FI:=[]
def yQ:MF:=fnM 1 (dB Jp jm)
def Jg:Bx :=
  (.bOne (.sRet (.joi (.c (.str " ")) (.bin .add (.l (.cons (.var 0) .nil)) (.call 0 (.ev (.var 1) .nil))))))
def Zo:List FI:=[⟨"numbers_shown",1,1,false,yQ⟩]
def yh:MF:=fnM 2 (dB Zo Jg)
def Yd:Bx :=
  (.bSeq (.sStar 2 3 (.spl (.var 1) (.c (.str " "))))
  (.bOne (.sRet (.ifx (.tE (.cmp .eq (.var 2) (.var 0))) (.call 0 (.ev (.var 3) .nil)) (.c .non)))))
def Wo:List FI:=[⟨"numbers_read",1,2,false,yd⟩]
def y0:MF:=fnM 4 (dB Wo Yd)
def wD:Bx :=
  (.bSeq (.sDrop (.call 2 (.ev (.var 0) .nil)))
  (.bSeq (.sIf (.tNot (.tE (.call 1 (.ev (.var 1) (.ev (.cB .len (.cons (.var 0) .nil)) .nil))))) (.bOne (.sRaise "NoRow")) .bNil)
  (.bOne (.sRet (.cat (.cat (.call 0 (.ev (.c (.str "die")) (.ev (.var 0) .nil))) (.c (.str "
"))) (.call 0 (.ev (.c (.str "row")) (.ev (.var 1) .nil))))))))
def Ye:List FI:=[⟨"line_shown",2,2,false,yh⟩,⟨"row_good_of",2,5,false,zx⟩,⟨"need_die",1,4,false,ya⟩]
def zz:MF:=fnM 2 (dB Ye wD)
def JB:Bx :=
  (.bSeq (.sIf (.tNot (.tE (.is .str (.var 0)))) (.bOne .sAny) .bNil)
  (.bSeq (.sSet 1 (.spl (.var 0) (.c (.str "
"))))
  (.bSeq (.sSet 2 (.call 1 (.ev (.c (.str "die")) (.ev (.ix (.var 1) (.c (.int 0))) .nil))))
  (.bSeq (.sIf (.tNot (.tE (.call 2 (.ev (.var 2) .nil)))) (.bOne .sAny) .bNil)
  (.bSeq (.sSet 3 (.ifx (.tE (.cmp .gt (.cB .len (.cons (.var 1) .nil)) (.c (.int 1)))) (.call 1 (.ev (.c (.str "row")) (.ev (.ix (.var 1) (.c (.int 1))) .nil))) (.c .non)))
  (.bSeq (.sIf (.tNot (.tE (.call 0 (.ev (.var 3) (.ev (.cB .len (.cons (.var 2) .nil)) .nil))))) (.bOne .sAny) .bNil)
  (.bSeq (.sIf (.tE (.cmp .gt (.cB .len (.cons (.var 1) .nil)) (.c (.int 2)))) (.bOne .sAny) .bNil)
  (.bOne (.sRet (.t (.cons (.var 2) (.cons (.var 3) .nil))))))))))))
def Y0:List FI:=[⟨"row_good_of",2,5,false,zx⟩,⟨"line_read",2,3,false,y0⟩,⟨"die_good",1,3,false,jM⟩]
def yp:MF:=fnM 4 (dB Y0 JB)
def jG:Bx :=
  (.bSeq (.sIf (.tE (.cmp .lt (.var 1) (.cB .len (.cons (.var 0) .nil)))) (.bOne (.sRet (.ix (.var 0) (.var 1)))) .bNil)
  (.bOne (.sRet (.c (.int 0)))))
def jn:List FI:=[]
def yI:MF:=fnM 2 (dB jn jG)
def wS:Bx :=
  (.bSeq (.sSet 0 (.bin .mod (.bin .add (.var 0) (.c (.int 7919))) (.c (.int 2147483647))))
  (.bOne (.sRet (.bin .mod (.bin .add (.bin .add (.bin .mul (.var 0) (.var 0)) (.bin .mul (.c (.int 48271)) (.var 0))) (.c (.int 12345))) (.c (.int 2147483629))))))
def Jh:List FI:=[]
def jX:MF:=fnM 1 (dB Jh wS)
def jY:Bx :=
  (.bSeq (.sSet 1 (.cB .max (.cons (.var 0) (.cons (.bin .sub (.c (.int 0)) (.var 0)) .nil))))
  (.bOne (.sRet (.l (.cons (.var 1) (.cons (.cB .int (.cons (.cmp .ge (.var 1) (.bin .pow (.c (.int 10)) (.c (.int 18)))) .nil)) (.cons (.bin .mod (.var 1) (.c (.int 1000003))) .nil)))))))
def wE:List FI:=[]
def yR:MF:=fnM 2 (dB wE jY)
def jZ:Bx :=
  (.bSeq (.sIf (.tE (.cmp .eq (.ixO 0 (.c (.int 1))) (.c (.int 1)))) (.bSeq (.sSet 2 (.bin .mod (.ixO 0 (.c (.int 0))) (.var 1)))
  (.bSeq (.sIx 0 (.c (.int 0)) (.bin .fdiv (.ixO 0 (.c (.int 0))) (.var 1)))
  (.bOne (.sRet (.var 2))))) .bNil)
  (.bSeq (.sIx 0 (.c (.int 2)) (.call 0 (.ev (.bin .add (.call 0 (.ev (.ixO 0 (.c (.int 2))) .nil)) (.c (.int 7))) .nil)))
  (.bOne (.sRet (.bin .mod (.bin .fdiv (.ixO 0 (.c (.int 2))) (.c (.int 64))) (.var 1))))))
def jo:List FI:=[⟨"_law_next",1,1,false,jX⟩]
def zE:MF:=fnM 3 (dB jo jZ)
def Ji:Bx :=
  (.bOne (.sRet (.and (.is .int (.var 0)) (.not (.is .bool (.var 0))))))
def Zq:List FI:=[]
def yL:MF:=fnM 1 (dB Zq Ji)
def wF:Bx :=
  (.bSeq (.sSet 1 (.l (.cons (.isC cl_ "NoDie" (.var 0)) (.cons (.isC cl_ "NoRow" (.var 0)) (.cons (.isC cl_ "NoNumber" (.var 0)) (.cons (.isC cl_ "NoLine" (.var 0)) .nil))))))
  (.bSeq (.sSet 1 (.bin .add (.var 1) (.l (.cons (.isC cl_ "NoMachine" (.var 0)) (.cons (.isC cl_ "NoPaper" (.var 0)) (.cons (.isC cl_ "NoText" (.var 0)) (.cons (.isC cl_ "TooGreat" (.var 0)) .nil)))))))
  (.bSeq (.sIf (.tOr (.tNot (.tE (.isV cl_ (.var 0)))) (.tE (.cmp .ne (.cnt (.var 1) (.c (.bl true))) (.c (.int 1))))) (.bOne (.sRet (.c (.str "other")))) .bNil)
  (.bOne (.sRet (.ix (.l (.cons (.c (.str "die")) (.cons (.c (.str "row")) (.cons (.c (.str "number")) (.cons (.c (.str "line")) (.cons (.c (.str "machine")) (.cons (.c (.str "paper")) (.cons (.c (.str "text")) (.cons (.c (.str "great")) .nil))))))))) (.idx (.var 1) (.c (.bl true)))))))))
def Yg:List FI:=[]
def z0:MF:=fnM 2 (dB Yg wF)
def wG:Bx :=
  (.bSeq (.sSet 1 (.call 0 (.ev (.var 0) .nil)))
  (.bSeq (.sIf (.tE (.cmp .eq (.var 1) (.c (.str "great")))) (.bOne .sAny) .bNil)
  (.bOne (.sRet (.t (.cons (.var 1) .nil))))))
def Yh:List FI:=[⟨"_law_kind_of",1,1,true,z0⟩]
def z1:MF:=fnM 2 (dB Yh wG)
def JC:Bx :=
  (.bSeq (.sSet 1 (.ix (.l (.cons (.c (.int 1)) (.cons (.c (.int 2)) (.cons (.c (.int 9)) (.cons (.c (.int 9)) .nil))))) (.call 0 (.lend 0 (.ev (.c (.int 4)) .nil)))))
  (.bSeq (.sSet 2 (.comp 1 ["_law_turn"] ["_law_pen","_law_most"] [0,1] (.iR1 (.cons (.bin .add (.c (.int 2)) (.call 0 (.lend 0 (.ev (.c (.int 2)) .nil)))) .nil)) (.n 0) .tTr (.bin .add (.c (.int 1)) (.call 0 (.lend 1 (.ev (.var 2) .nil))))))
  (.bSeq (.sIf (.tE (.cmp .eq (.call 0 (.lend 0 (.ev (.c (.int 6)) .nil))) (.c (.int 0)))) (.bOne (.sIx 2 (.call 0 (.lend 0 (.ev (.lenO 2) .nil))) (.c (.int 9)))) .bNil)
  (.bOne (.sRet (.cB .tuple (.cons (.var 2) .nil)))))))
def z6:List FI:=[⟨"_law_draw",2,2,false,zE⟩]
def yq:MF:=fnM 3 (dB z6 JC)
def JD:Bx :=
  (.bSeq (.sSet 2 (.call 0 (.lend 0 (.ev (.cB .len (.cons (.var 1) .nil)) .nil))))
  (.bSeq (.sSet 3 (.ix (.l (.cons (.c (.int 0)) (.cons (.c (.int 10)) (.cons (.neg (.c (.int 1))) (.cons (.c (.bl true)) (.cons (.c .non) (.cons (.c (.str "1")) (.cons (.t (.cons (.c (.int 1)) .nil)) (.cons (.bin .pow (.c (.int 10)) (.c (.int 30))) .nil))))))))) (.call 0 (.lend 0 (.ev (.c (.int 8)) .nil)))))
  (.bSeq (.sSet 4 (.l (.cons (.bin .add (.bin .add (.sl (.var 1) .oN (.oS (.var 2))) (.t (.cons (.var 3) .nil))) (.sl (.var 1) (.oS (.bin .add (.var 2) (.c (.int 1)))) .oN)) (.cons (.sl (.var 1) .oN (.oS (.c (.int 1)))) (.cons (.bin .add (.var 1) (.bin .mul (.t (.cons (.c (.int 1)) .nil)) (.bin .sub (.c (.int 4)) (.cB .len (.cons (.var 1) .nil))))) (.cons (.cB .list (.cons (.var 1) .nil)) (.cons (.t (.cons (.var 1) .nil)) (.cons (.c .non) (.cons (.c (.int 0)) (.cons .dic .nil))))))))))
  (.bOne (.sRet (.ix (.var 4) (.call 0 (.lend 0 (.ev (.c (.int 8)) .nil)))))))))
def wH:List FI:=[⟨"_law_draw",2,2,false,zE⟩]
def yr:MF:=fnM 5 (dB wH JD)
abbrev y4:Bx :=
  (.bSeq (.sSet 6 (.call 0 (.lend 0 (.ev (.var 1) .nil))))
  (.bSeq (.sIf (.tAnd (.tBor 3 (.tE (.cmp .ne (.var 3) (.l .nil)))) (.tE (.cmp .gt (.call 0 (.lend 0 (.ev (.var 4) .nil))) (.c (.int 0))))) (.bOne (.sSet 6 (.ixO 3 (.neg (.c (.int 1)))))) .bNil)
  (.bOne (.sApp 3 (.var 6)))))
def JE:Bx :=
  (.bSeq (.sSet 3 (.l .nil))
  (.bSeq (.sSet 4 (.bin .add (.c (.int 1)) (.call 0 (.lend 0 (.ev (.c (.int 4)) .nil)))))
  (.bSeq (.sForR1 (.cons (.call 0 (.lend 0 (.ev (.bin .add (.var 2) (.c (.int 1))) .nil))) .nil) (.n 5)
  y4)
  (.bOne (.sRet (.cB .tuple (.cons (.var 3) .nil)))))))
def zq:List FI:=[⟨"_law_draw",2,2,false,zE⟩]
def yt:MF:=fnM 7 (dB zq JE)
def JF:Bx :=
  (.bSeq (.sSet 2 (.call 0 (.lend 0 (.ev (.bin .add (.cB .len (.cons (.var 1) .nil)) (.c (.int 1))) .nil))))
  (.bSeq (.sSet 3 (.ix (.l (.cons (.c (.int 3)) (.cons (.neg (.c (.int 1))) (.cons (.c (.bl true)) (.cons (.c .non) (.cons (.c (.str "1")) (.cons (.t (.cons (.c (.int 1)) .nil)) (.cons (.bin .pow (.c (.int 10)) (.c (.int 30))) (.cons (.c (.bl false)) .nil))))))))) (.call 0 (.lend 0 (.ev (.c (.int 8)) .nil)))))
  (.bSeq (.sSet 4 (.l (.cons (.bin .add (.bin .add (.sl (.var 1) .oN (.oS (.var 2))) (.t (.cons (.var 3) .nil))) (.sl (.var 1) (.oS (.bin .add (.var 2) (.c (.int 1)))) .oN)) (.cons (.bin .add (.bin .add (.sl (.var 1) .oN (.oS (.var 2))) (.t (.cons (.var 3) .nil))) (.sl (.var 1) (.oS (.bin .add (.var 2) (.c (.int 1)))) .oN)) (.cons (.cB .list (.cons (.var 1) .nil)) (.cons (.t (.cons (.var 1) .nil)) (.cons (.bin .mul (.t (.cons (.c (.int 0)) .nil)) (.c (.int 21))) .nil)))))))
  (.bOne (.sRet (.ix (.bin .add (.var 4) (.l (.cons (.c .non) (.cons (.c (.int 0)) (.cons .dic (.cons (.c (.str "01")) .nil)))))) (.call 0 (.lend 0 (.ev (.c (.int 9)) .nil)))))))))
def wI:List FI:=[⟨"_law_draw",2,2,false,zE⟩]
def yu:MF:=fnM 5 (dB wI JF)
def wJ:Bx :=
  (.bOne (.sRet (.cat (.cat (.joi (.c (.str " ")) (.bin .add (.l (.cons (.c (.str "die")) .nil)) (.comp 1 ["_law_one"] [] [] (.iT (.var 0)) (.n 0) .tTr (.cB .strT (.cons (.var 0) .nil))))) (.c (.str "
"))) (.joi (.c (.str " ")) (.bin .add (.l (.cons (.c (.str "row")) .nil)) (.comp 1 ["_law_one"] [] [] (.iT (.var 1)) (.n 0) .tTr (.cB .strT (.cons (.var 0) .nil))))))))
def Yi:List FI:=[]
def ye:MF:=fnM 2 (dB Yi wJ)
def Yj:Bx :=
  (.bOne (.sTry cl_ (.bOne (.sRet (.call 0 (.ev (.var 0) (.ev (.var 1) .nil))))) 2
  (.bOne (.sRet (.call 1 (.ev (.var 2) .nil))))))
def Wp:List FI:=[⟨"throws_shown",2,6,false,zz⟩,⟨"_law_refused",1,2,true,z1⟩]
def zj:MF:=fnM 3 (dB Wp Yj)
def Jj:Bx :=
  (.bSeq (.sSet 2 (.call 3 (.ev (.var 0) (.ev (.var 1) .nil))))
  (.bSeq (.sIf (.tE (.cmp .ne (.call 2 (.ev (.var 0) (.ev (.var 1) .nil))) (.var 2))) (.bOne (.sRet (.c (.bl false)))) .bNil)
  (.bSeq (.sSet 3 (.call 1 (.ev (.var 2) .nil)))
  (.bSeq (.sIf (.tOr (.tNot (.tE (.is .tuple (.var 3)))) (.tOr (.tE (.cmp .ne (.var 3) (.t (.cons (.var 0) (.cons (.var 1) .nil))))) (.tNot (.tE (.cB .all (.cons (.comp 1 ["_law_one"] [] [] (.iT (.var 3)) (.n 0) .tTr (.is .tuple (.var 0))) .nil)))))) (.bOne (.sRet (.c (.bl false)))) .bNil)
  (.bOne (.sRet (.cB .all (.cons (.comp 1 ["_law_one"] [] [] (.iT (.bin .add (.ix (.var 3) (.c (.int 0))) (.ix (.var 3) (.c (.int 1))))) (.n 0) .tTr (.call 0 (.ev (.var 0) .nil))) .nil))))))))
def Zr:List FI:=[⟨"_law_whole",1,1,false,yL⟩,⟨"throws_read",1,6,false,yp⟩,⟨"_law_told",2,7,false,zj⟩,⟨"_law_text_of",2,1,false,ye⟩]
def yi:MF:=fnM 4 (dB Zr Jj)
abbrev Zs:Bx :=
  (.bSeq (.sSet 4 (.call 6 (.ev (.var 3) .nil)))
  (.bSeq (.sSet 1 (.call 5 (.lend 4 .nil)))
  (.bSeq (.sSet 2 (.call 4 (.lend 4 (.ev (.cB .len (.cons (.var 1) .nil)) (.ev (.c (.int 20)) .nil)))))
  (.bSeq (.sPar 5 6 (.cons (.call 3 (.lend 4 (.ev (.var 1) .nil))) (.cons (.call 2 (.lend 4 (.ev (.var 2) .nil))) .nil)))
  (.bSeq (.sIf (.tOr (.tNot (.tE (.call 1 (.ev (.var 1) (.ev (.var 2) .nil))))) (.tOr (.tE (.cmp .ne (.call 0 (.ev (.var 5) (.ev (.var 2) .nil))) (.t (.cons (.c (.str "die")) .nil)))) (.tE (.cmp .ne (.call 0 (.ev (.var 5) (.ev (.var 6) .nil))) (.t (.cons (.c (.str "die")) .nil)))))) (.bOne (.sRet (.c (.bl false)))) .bNil)
  (.bOne (.sIf (.tOr (.tE (.cmp .ne (.call 0 (.ev (.var 1) (.ev (.var 6) .nil))) (.t (.cons (.c (.str "row")) .nil)))) (.tE (.cmp .ne (.call 0 (.ev (.t (.cons (.c (.int 1)) (.cons (.c (.int 1)) .nil))) (.ev (.bin .add (.sl (.var 2) .oN (.oS (.c (.int 19)))) (.t (.cons (.c (.int 2)) .nil))) .nil))) (.t (.cons (.c (.str "row")) .nil))))) (.bOne (.sRet (.c (.bl false)))) .bNil)))))))
abbrev Zt:Bx :=
  (.bOne (.sIf (.tNot (.tE (.call 1 (.ev (.var 1) (.ev (.var 2) .nil))))) (.bOne (.sRet (.c (.bl false)))) .bNil))
def t_law:Bx :=
  (.bSeq (.sForL (.l (.cons (.t (.cons (.t (.cons (.c (.int 1)) (.cons (.c (.int 1)) .nil))) (.cons (.t .nil) .nil))) (.cons (.t (.cons (.t (.cons (.c (.int 9)) (.cons (.c (.int 9)) (.cons (.c (.int 9)) .nil)))) (.cons (.bin .mul (.t (.cons (.c (.int 2)) .nil)) (.c (.int 20))) .nil))) (.cons (.t (.cons (.t (.cons (.c (.int 1)) (.cons (.c (.int 9)) .nil))) (.cons (.t (.cons (.c (.int 0)) .nil)) .nil))) .nil)))) (.t [1,2])
  Zt)
  (.bSeq (.sForL (.bin .add (.l (.cons (.call 7 (.ev (.var 0) (.ev (.c (.int 0)) .nil))) .nil)) (.sl (.var 0) (.oS (.c (.int 1))) (.oS (.c (.int 10))))) (.n 3)
  Zs)
  (.bOne (.sRet (.c (.bl true))))))
def Jk:List FI:=[⟨"_law_told",2,7,false,zj⟩,⟨"_law_right",2,8,false,yi⟩,⟨"_law_no_row",2,3,false,yu⟩,⟨"_law_no_die",2,3,false,yr⟩,⟨"_law_row_of",3,3,false,yt⟩,⟨"_law_die_of",1,3,false,yq⟩,⟨"_law_pen_of",1,1,false,yR⟩,⟨"_law_cell_at",2,1,false,yI⟩]
def m_law:MF:=fnM 7 (dB Jk t_law)
structure Txt(K:PySem.W.Frag)(mg:Str->Option Value):Prop where
 n_ValueError:mg "ValueError"=none
 n_all:mg "all"=none
 n_bool:mg "bool"=none
 n_int:mg "int"=none
 n_isinstance:mg "isinstance"=none
 n_len:mg "len"=none
 n_list:mg "list"=none
 n_max:mg "max"=none
 n_range:mg "range"=none
 n_str:mg "str"=none
 n_tuple:mg "tuple"=none
 c_LEAST_SIGNS:∃t,mg "LEAST_SIGNS"=some (.int 2 t)
 c_LEAST_WEIGHT:∃t,mg "LEAST_WEIGHT"=some (.int 1 t)
 c_MOST_FIGURES:∃t,mg "MOST_FIGURES"=some (.int 20 t)
 c_MOST_SIGNS:∃t,mg "MOST_SIGNS"=some (.int 3 t)
 c_MOST_THROWS:∃t,mg "MOST_THROWS"=some (.int 20 t)
 c_MOST_WEIGHT:∃t,mg "MOST_WEIGHT"=some (.int 9 t)
 f_is_whole:j8 K mg "is_whole" ZB ["thing"]
 f_is_whole_within:j8 K mg "is_whole_within" jI ["thing","low","high"]
 f_die_good:j8 K mg "die_good" ZC ["thing"]
 f_sign_good:j8 K mg "sign_good" J3 ["thing"]
 f_row_good:j8 K mg "row_good" ZD ["thing"]
 f_row_good_of:j8 K mg "row_good_of" wX ["thing","signs"]
 f_need_die:j8 K mg "need_die" ZE ["thing"]
 f_number_read:j8 K mg "number_read" wY ["word"]
 f_numbers_read:j8 K mg "numbers_read" jy ["words"]
 f_numbers_shown:j8 K mg "numbers_shown" je ["numbers"]
 f_line_shown:j8 K mg "line_shown" JY ["word","numbers"]
 f_line_read:j8 K mg "line_read" J4 ["word","line"]
 f_throws_shown:j8 K mg "throws_shown" jz ["die","row"]
 f_throws_read:j8 K mg "throws_read" wZ ["text"]
 f__law_cell_at:j8 K mg "_law_cell_at" j0 ["_law_script","_law_k"]
 f__law_next:j8 K mg "_law_next" YA ["_law_seed"]
 f__law_pen_of:j8 K mg "_law_pen_of" wa ["_law_cell"]
 f__law_draw:j8 K mg "_law_draw" YB ["_law_pen","_law_many"]
 f__law_whole:j8 K mg "_law_whole" JZ ["_law_found"]
 f__law_kind_of:j8 K mg "_law_kind_of" j1 ["_law_e"]
 f__law_refused:j8 K mg "_law_refused" j5 ["_law_e"]
 f__law_die_of:j8 K mg "_law_die_of" wb ["_law_pen"]
 f__law_no_die:j8 K mg "_law_no_die" wc ["_law_pen","_law_die"]
 f__law_row_of:j8 K mg "_law_row_of" we ["_law_pen","_law_signs","_law_most"]
 f__law_no_row:j8 K mg "_law_no_row" wf ["_law_pen","_law_row"]
 f__law_text_of:j8 K mg "_law_text_of" j6 ["_law_die","_law_row"]
 f__law_told:j8 K mg "_law_told" YC ["_law_die","_law_row"]
 f__law_right:j8 K mg "_law_right" Ja ["_law_die","_law_row"]
 f_law:j8 K mg "law" s_law ["_law_script"]
 cl:ClOk K mg cl_ rs_
section
variable{P:Program}{w:World}{K:PySem.W.Frag}{mg:Str->Option Value}{base:Heap}
def yS(T:Txt K mg):zAt K mg cs_:=(JT T.c_LEAST_SIGNS (JT T.c_LEAST_WEIGHT (JT T.c_MOST_FIGURES (JT T.c_MOST_SIGNS (JT T.c_MOST_THROWS (JT T.c_MOST_WEIGHT cs_nil))))))
def yT(T:Txt K mg):BsOk mg bs_:=(yz T.n_ValueError (yz T.n_all (yz T.n_bool (yz T.n_int (yz T.n_isinstance (yz T.n_len (yz T.n_list (yz T.n_max (yz T.n_range (yz T.n_str (yz T.n_tuple bs_nil)))))))))))
def vO(T:Txt K mg):FOk P w K mg base true "is_whole" 1 ["thing"] JU:=zX ZM ["thing"] T.f_is_whole (yS T) zo (yT T) T.cl (by decide +kernel)
def jC(T:Txt K mg):FOk P w K mg base true "is_whole_within" 2 ["thing","low","high"] zZ:=zX yE ["thing","low","high"] T.f_is_whole_within (yS T) (zO (vO T) rfl zo) (yT T) T.cl (by decide +kernel)
def Yk(T:Txt K mg):FOk P w K mg base true "die_good" 3 ["thing"] jM:=zX ZN ["thing"] T.f_die_good (yS T) (zO (jC T) rfl zo) (yT T) T.cl (by decide +kernel)
def Wq(T:Txt K mg):FOk P w K mg base true "sign_good" 3 ["thing"] jW:=zX YZ ["thing"] T.f_sign_good (yS T) (zO (jC T) rfl zo) (yT T) T.cl (by decide +kernel)
def vP(T:Txt K mg):FOk P w K mg base true "row_good" 4 ["thing"] jv:=zX ZO ["thing"] T.f_row_good (yS T) (zO (Wq T) rfl zo) (yT T) T.cl (by decide +kernel)
def wK(T:Txt K mg):FOk P w K mg base true "row_good_of" 5 ["thing","signs"] zx:=zX w9 ["thing","signs"] T.f_row_good_of (yS T) (zO (vP T) rfl zo) (yT T) T.cl (by decide +kernel)
def vQ(T:Txt K mg):FOk P w K mg base true "need_die" 4 ["thing"] ya:=zX ZP ["thing"] T.f_need_die (yS T) (zO (Yk T) rfl zo) (yT T) T.cl (by decide +kernel)
def Y1(T:Txt K mg):FOk P w K mg base true "number_read" 1 ["word"] yo:=zX JA ["word"] T.f_number_read (yS T) zo (yT T) T.cl (by decide +kernel)
def Yl(T:Txt K mg):FOk P w K mg base true "numbers_read" 2 ["words"] yd:=zX wC ["words"] T.f_numbers_read (yS T) (zO (Y1 T) rfl zo) (yT T) T.cl (by decide +kernel)
def Jq(T:Txt K mg):FOk P w K mg base true "numbers_shown" 1 ["numbers"] yQ:=zX jm ["numbers"] T.f_numbers_shown (yS T) zo (yT T) T.cl (by decide +kernel)
def Zu(T:Txt K mg):FOk P w K mg base true "line_shown" 2 ["word","numbers"] yh:=zX Jg ["word","numbers"] T.f_line_shown (yS T) (zO (Jq T) rfl zo) (yT T) T.cl (by decide +kernel)
def Wr(T:Txt K mg):FOk P w K mg base true "line_read" 3 ["word","line"] y0:=zX Yd ["word","line","first","others"] T.f_line_read (yS T) (zO (Yl T) rfl zo) (yT T) T.cl (by decide +kernel)
def Ym(T:Txt K mg):FOk P w K mg base true "throws_shown" 6 ["die","row"] zz:=zX wD ["die","row"] T.f_throws_shown (yS T) (zO (Zu T) rfl (zO (wK T) rfl (zO (vQ T) rfl zo))) (yT T) T.cl (by decide +kernel)
def Y2(T:Txt K mg):FOk P w K mg base true "throws_read" 6 ["text"] yp:=zX JB ["text","lines","die","row"] T.f_throws_read (yS T) (zO (wK T) rfl (zO (Wr T) rfl (zO (Yk T) rfl zo))) (yT T) T.cl (by decide +kernel)
def Yn(T:Txt K mg):FOk P w K mg base true "_law_cell_at" 1 ["_law_script","_law_k"] yI:=zX jG ["_law_script","_law_k"] T.f__law_cell_at (yS T) zo (yT T) T.cl (by decide +kernel)
def Ws(T:Txt K mg):FOk P w K mg base true "_law_next" 1 ["_law_seed"] jX:=zX wS ["_law_seed"] T.f__law_next (yS T) zo (yT T) T.cl (by decide +kernel)
def Y3(T:Txt K mg):FOk P w K mg base true "_law_pen_of" 1 ["_law_cell"] yR:=zX jY ["_law_cell","_law_left"] T.f__law_pen_of (yS T) zo (yT T) T.cl (by decide +kernel)
def jD(T:Txt K mg):FOk P w K mg base true "_law_draw" 2 ["_law_pen","_law_many"] zE:=zX jZ ["_law_pen","_law_many","_law_found"] T.f__law_draw (yS T) (zO (Ws T) rfl zo) (yT T) T.cl (by decide +kernel)
def Zv(T:Txt K mg):FOk P w K mg base true "_law_whole" 1 ["_law_found"] yL:=zX Ji ["_law_found"] T.f__law_whole (yS T) zo (yT T) T.cl (by decide +kernel)
def Yo(T:Txt K mg):FOk P w K mg base false "_law_kind_of" 1 ["_law_e"] z0:=zX wF ["_law_e","_law_marks"] T.f__law_kind_of (yS T) zo (yT T) T.cl (by decide +kernel)
def Yp(T:Txt K mg):FOk P w K mg base false "_law_refused" 2 ["_law_e"] z1:=zX wG ["_law_e","_law_kind"] T.f__law_refused (yS T) (zO (Yo T) rfl zo) (yT T) T.cl (by decide +kernel)
def Y4(T:Txt K mg):FOk P w K mg base true "_law_die_of" 3 ["_law_pen"] yq:=zX JC ["_law_pen","_law_most","_law_found"] T.f__law_die_of (yS T) (zO (jD T) rfl zo) (yT T) T.cl (by decide +kernel)
def Y5(T:Txt K mg):FOk P w K mg base true "_law_no_die" 3 ["_law_pen","_law_die"] yr:=zX JD ["_law_pen","_law_die","_law_spot","_law_odd","_law_some"] T.f__law_no_die (yS T) (zO (jD T) rfl zo) (yT T) T.cl (by decide +kernel)
def Y6(T:Txt K mg):FOk P w K mg base true "_law_row_of" 3 ["_law_pen","_law_signs","_law_most"] yt:=zX JE ["_law_pen","_law_signs","_law_most","_law_found","_law_often","_law_turn","_law_sign"] T.f__law_row_of (yS T) (zO (jD T) rfl zo) (yT T) T.cl (by decide +kernel)
def Y7(T:Txt K mg):FOk P w K mg base true "_law_no_row" 3 ["_law_pen","_law_row"] yu:=zX JF ["_law_pen","_law_row","_law_spot","_law_odd","_law_some"] T.f__law_no_row (yS T) (zO (jD T) rfl zo) (yT T) T.cl (by decide +kernel)
def Yq(T:Txt K mg):FOk P w K mg base true "_law_text_of" 1 ["_law_die","_law_row"] ye:=zX wJ ["_law_die","_law_row"] T.f__law_text_of (yS T) zo (yT T) T.cl (by decide +kernel)
def Jl(T:Txt K mg):FOk P w K mg base true "_law_told" 7 ["_law_die","_law_row"] zj:=zX Yj ["_law_die","_law_row","_law_e"] T.f__law_told (yS T) (zO (Ym T) rfl (zO (Yp T) rfl zo)) (yT T) T.cl (by decide +kernel)
def Zw(T:Txt K mg):FOk P w K mg base true "_law_right" 8 ["_law_die","_law_row"] yi:=zX Jj ["_law_die","_law_row","_law_text","_law_found"] T.f__law_right (yS T) (zO (Zv T) rfl (zO (Y2 T) rfl (zO (Jl T) rfl (zO (Yq T) rfl zo)))) (yT T) T.cl (by decide +kernel)
end
def law_fd{P:Program}{w:World}{K:PySem.W.Frag}{mg:Str->Option Value}{fa:Addr}(hfa:mg "law"=some (.ref fa))(T:Txt K mg):∃fd:FuncData,(∀(s:Shared) (u:Value),BindsTo s fd ⟨[u],[]⟩ [("_law_script",u)])/\∀base:Heap,FnOk P w K mg base (CXx P w) 40 fa fd ["_law_script"] (spM K mg 1 m_law):=by
 obtain⟨a,fd,hm,F,bnd⟩:=T.f_law;have e:=hfa.symm.trans hm;cases e;refine⟨fd,?_,λbase=>(def_atB (P:=P) (w:=w) (base:=base) (fs:=Jk) (lv:=8) t_law ["_law_script","_law_die","_law_row","_law_cell","_law_pen","_law_bad","_law_odd"] F (yS T) (zO (Jl T) rfl (zO (Zw T) rfl (zO (Y7 T) rfl (zO (Y5 T) rfl (zO (Y6 T) rfl (zO (Y4 T) rfl (zO (Y3 T) rfl (zO (Yn T) rfl zo)))))))) (yT T) T.cl (by decide +kernel)).mono (by decide)⟩;obtain⟨oc,od,kV,doc,pm,an,cdv,ct,osl,rfl,lk,hcd⟩:=F.ex;exact λs u=>.of_eq rfl
end My
namespace DV
open PySem L2
section
variable{fs:List FI}{E E1 E2 E3:zQ}
def x_c{d:D}:dE fs (.c d) E=.ok (.v d,E):=by simp only[dE,eC]
def QM{d:D}:dE fs (.gl d) E=.ok (.v d,E):=by simp only[dE,eC]
def zD{i:Nat}{d:D}(h:E[i]?=some (.v d)):dE fs (.var i) E=.ok (.v d,E):=by simp only[dE,ub,h]
def Yr{i:Nat}{ds:List D}(h:E[i]?=some (.own ds))(h':E.set i (.v (.l ds))=E1):dE fs (.var i) E=.ok (.v (.l ds),E1):=by simp only[dE,ub,h,h']
def yj{o:Op2}{a b:_}{r1 r2 r:R}(h1:dE fs a E=.ok (r1,E1))(h2:dE fs b E1=.ok (r2,E2))(h3:o.f r1.d r2.d=some r):dE fs (.bin o a b) E=.ok (r,E2):=by simp only[dE,Jt,h1,h2,h3]
def y8{o:Cp}{a b:_}{r1 r2 r:R}(h1:dE fs a E=.ok (r1,E1))(h2:dE fs b E1=.ok (r2,E2))(h3:o.f r1.d r2.d=some r):dE fs (.cmp o a b) E=.ok (r,E2):=by simp only[dE,Jt,h1,h2,h3]
def Qk{a b:_}{r1 r2 r:R}(h1:dE fs a E=.ok (r1,E1))(h2:dE fs b E1=.ok (r2,E2))(h3:ixD r1.d r2.d=some r):dE fs (.ix a b) E=.ok (r,E2):=by simp only[dE,Jt,h1,h2,h3]
def Jr{b:Bi}{as:_}{rs:List R}{r:R}(h1:dA fs as E=.ok (rs,E1))(h2:b.f (rs.map R.d)=some r):dE fs (.cB b as) E=.ok (r,E1):=by simp only[dE,eCB,h1,h2]
def yb{as:_}{rs:List R}{ds:List D}(h1:dA fs as E=.ok (rs,E1))(h2:rs.map R.d=ds)(h3:ds.length<=cap):dE fs (.t as) E=.ok (.v (.t ds),E1):=by
 subst h2;simp only[dE,eTup,eCB,h1];rw[if_pos h3]
def JG{as:_}{rs:List R}{ds:List D}(h1:dA fs as E=.ok (rs,E1))(h2:rs.map R.d=ds)(h3:ds.length<=cap):dE fs (.l as) E=.ok (.own ds,E1):=by
 subst h2;simp only[dE,eLst,eCB,h1];rw[if_pos h3]
def x_sl{a l u:_}{r r':R}{lo hi:Option Int}{E3:zQ}(h1:dE fs a E=.ok (r,E1))(h2:dO fs l E1=.ok (lo,E2))(h3:dO fs u E2=.ok (hi,E3))(h4:slD r.d lo hi=some r'):dE fs (.sl a l u) E=.ok (r',E3):=by simp only[dE,eSl,h1,h2,h3,h4]
def z7{k:Nat}{a:_}{F:MF}{r r':R}{o:Slot}(h0:fiF fs k=F)(h1:dE fs a E=.ok (r,E1))(h2:F [.v r.d]=.ok (r',[o])):dE fs (.call k (.ev a .nil)) E=.ok (r',E1):=by
 subst h0;simp only[dE,dG,jd,zn,h1,zH,h2,zI]
def yB{k:Nat}{a b:_}{F:MF}{r r2 r':R}{o o2:Slot}(h0:fiF fs k=F)(h1:dE fs a E=.ok (r,E1))(h1':dE fs b E1=.ok (r2,E2))(h2:F [.v r.d,.v r2.d]=.ok (r',[o,o2])):dE fs (.call k (.ev a (.ev b .nil))) E=.ok (r',E2):=by
 subst h0;simp only[dE,dG,jd,zn,h1,h1',zH,h2,zI]
def QN{o o':Cp}{a b c:_}{i j k:Int}{E3:zQ}{v:Bool}(h1:dE fs a E=.ok (.v (.int i),E1))(h2:dE fs b E1=.ok (.v (.int j),E2))(h3:o.b i j=true)(h4:dE fs c E2=.ok (.v (.int k),E3))(h5:o'.b j k=v):dE fs (.chain o o' a b c) E=.ok (.v (.bl v),E3):=by
 subst h5;simp only[dE,wx,h1,h2,h4];rw[if_pos h3]
def zAw{o o':Cp}{a b c:_}{i j:Int}(h1:dE fs a E=.ok (.v (.int i),E1))(h2:dE fs b E1=.ok (.v (.int j),E2))(h3:o.b i j=false):dE fs (.chain o o' a b c) E=.ok (.v (.bl false),E2):=by
 simp only[dE,wx,h1,h2];rw[if_neg (by rw[h3];decide)]
def uB{k i:Nat}{a:_}{F:MF}{r r':R}{p p':List D}{o:Slot}(h0:fiF fs k=F)(hE:E[i]?=some (.own p))(h1:dE fs a E=.ok (r,E))(h2:F [.par p,.v r.d]=.ok (r',[.par p',o]))(h3:E.set i (.own p')=E1):dE fs (.call k (.lend i (.ev a .nil))) E=.ok (r',E1):=by
 subst h0 h3;have hi:i<E.length:=(List.getElem?_eq_some_iff.mp hE).1;have hs:(E.set i .e)[i]?=some .e:=by simp[hi]
 simp only[dE,dG,jd,zn,hE,jw,Bool.false_eq_true,if_false,h1,zH,Slot.list?,h2,zI,hs,Slot.put,set_set]
def zAx{k i:Nat}{a b:_}{F:MF}{r r2 r':R}{p p':List D}{o o2:Slot}(h0:fiF fs k=F)(hE:E[i]?=some (.own p))(h1:dE fs a E=.ok (r,E))(h1':dE fs b E=.ok (r2,E))(h2:F [.par p,.v r.d,.v r2.d]=.ok (r',[.par p',o,o2]))(h3:E.set i (.own p')=E1):dE fs (.call k (.lend i (.ev a (.ev b .nil)))) E=.ok (r',E1):=by
 subst h0 h3;have hi:i<E.length:=(List.getElem?_eq_some_iff.mp hE).1;have hs:(E.set i .e)[i]?=some .e:=by simp[hi]
 simp only[dE,dG,jd,zn,hE,jw,Bool.false_eq_true,if_false,h1,h1',zH,Slot.list?,h2,zI,hs,Slot.put,set_set]
def QO{k:Nat}{a b c:_}{F:MF}{r r2 r3 r':R}{o o2 o3:Slot}(h0:fiF fs k=F)(h1:dE fs a E=.ok (r,E1))(h1':dE fs b E1=.ok (r2,E2))(h1'':dE fs c E2=.ok (r3,E3))(h2:F [.v r.d,.v r2.d,.v r3.d]=.ok (r',[o,o2,o3])):dE fs (.call k (.ev a (.ev b (.ev c .nil)))) E=.ok (r',E3):=by
 subst h0;simp only[dE,dG,jd,zn,h1,h1',h1'',zH,h2,zI]
def yU{n:Nat}{body:MS}{ss o:List Slot}{r:R}(h:body (ss++replicate (n-ss.length) .e)=.ok (.ret r,E1))(ho:zt ss E1=o):fnM n body ss=.ok (r,o):=by
 subst ho;simp only[fnM,h]
def f_nx{n:Nat}{body:MS}{ss o:List Slot}(h:body (ss++replicate (n-ss.length) .e)=.ok (.nx,E1))(ho:zt ss E1=o):fnM n body ss=.ok (.v .non,o):=by
 subst ho;simp only[fnM,h]
def zP:dA fs .nil E=.ok ([],E):=by simp only[dA,aNil]
def zA{a as:_}{r:R}{rs:List R}(h1:dE fs a E=.ok (r,E1))(h2:dA fs as E1=.ok (rs,E2)):dA fs (.cons a as) E=.ok (r::rs,E2):=by simp only[dA,vB,h1,h2]
def o_N:dO fs .oN E=.ok (none,E):=by simp only[dO,oNone]
def o_S{a:_}{i:Int}(h:dE fs a E=.ok (.v (.int i),E1)):dO fs (.oS a) E=.ok (some i,E1):=by simp only[dO,zAJ,h]
def t_E{a:_}{b:Bool}(h:dE fs a E=.ok (.v (.bl b),E1)):dT fs (.tE a) E=.ok (b,E1):=by simp only[dT,tT,h]
def uf{a b:_}{c:Bool}(h1:dT fs a E=.ok (false,E1))(h2:dT fs b E1=.ok (c,E2)):dT fs (.tOr a b) E=.ok (c,E2):=by simp only[dT,tOrM,h1,h2]
def ja{a:_}{b c:Bool}(h1:dT fs a E=.ok (b,E1))(h2:(!b)=c):dT fs (.tNot a) E=.ok (c,E1):=by subst h2;simp only[dT,GR,h1]
def yw{i:Nat}{a:_}{r:R}(h1:dE fs a E=.ok (r,E1))(h2:JM i r E1=.ok E2):dS fs (.sSet i a) E=.ok (.nx,E2):=by simp only[dS,sSet,h1,h2]
def jN{t a b:_}{o:Out (Fl×zQ)}(h1:dT fs t E=.ok (false,E1))(h2:dB fs b E1=o):dS fs (.sIf t a b) E=o:=by subst h2;simp only[dS,sIf,h1]
def vR{t a b:_}{o:Out (Fl×zQ)}(h1:dT fs t E=.ok (true,E1))(h2:dB fs a E1=o):dS fs (.sIf t a b) E=o:=by subst h2;simp only[dS,sIf,h1]
def yV{a:_}{r:R}(h1:dE fs a E=.ok (r,E1)):dS fs (.sRet a) E=.ok (.ret r,E1):=by simp only[dS,sRet,h1]
def zBo{a:_}{r:R}(h1:dE fs a E=.ok (r,E1)):dS fs (.sDrop a) E=.ok (.nx,E1):=by simp only[dS,sDrop,h1]
def s_par{i j:Nat}{as:_}{r1 r2:R}(h1:dA fs as E=.ok ([r1,r2],E1))(h2:gNs [i,j] [r1.d,r2.d] E1=.ok E2):dS fs (.sPar i j as) E=.ok (.nx,E2):=by simp only[dS,sPar,h1,h2]
def zBp{a b:_}{tg:Tg}{r:R}{ds:List D}{p:Fl×zQ}(h1:dE fs a E=.ok (r,E1))(h2:r.d=.l ds)(h3:vD tg.m (dB fs b) ds E1=.ok p):dS fs (.sForL a tg b) E=.ok p:=by simp only[dS];exact QA (by simp only[sForL,h1,h2,h3])
def s_forR1{a b:_}{tg:Tg}{r:R}{j:Int}{p:Fl×zQ}(h1:dA fs a E=.ok ([r],E1))(h2:r.d=.int j)(hj:-1000000<=j/\j<=1000000)(h3:vD tg.m (dB fs b) (zW 0 j.toNat) E1=.ok p):dS fs (.sForR1 a tg b) E=.ok p:=by
 simp only[dS];refine QA ?_;simp only[sForR1,h1,h2];rw[if_pos ⟨by omega,by omega⟩,h3]
def i_L{a:_}{r:R}{ds:List D}(h1:dE fs a E=.ok (r,E1))(h2:r.d=.l ds):dI fs (.iL a) E=.ok (ds,E1):=by simp only[dI,iL,h1,h2]
def i_T{a:_}{r:R}{ds:List D}(h1:dE fs a E=.ok (r,E1))(h2:r.d=.t ds):dI fs (.iT a) E=.ok (ds,E1):=by simp only[dI,iT,h1,h2]
def i_R1{a:_}{r:R}{j:Int}(h1:dA fs a E=.ok ([r],E1))(h2:r.d=.int j)(hj:-1000000<=j/\j<=1000000):dI fs (.iR1 a) E=.ok (zW 0 j.toNat,E1):=by
 simp only[dI,iR1,h1,h2];rw[if_pos ⟨by omega,by omega⟩]
def jO:dB fs .bNil E=.ok (.nx,E):=by simp only[dB,sNil]
def zm{s:_}{o:Out (Fl×zQ)}(h:dS fs s E=o):dB fs (.bOne s) E=o:=by simp only[dB,h]
def za{s b:_}{o:Out (Fl×zQ)}(h:dS fs s E=.ok (.nx,E1))(h2:dB fs b E1=o):dB fs (.bSeq s b) E=o:=by simp only[dB,ud,h,h2]
def b_ret{s b:_}{r:R}(h:dS fs s E=.ok (.ret r,E1)):dB fs (.bSeq s b) E=.ok (.ret r,E1):=by simp only[dB,ud,h]
def b_exc{s b:_}{x:Exn}(h:dS fs s E=.exc x E1):dB fs (.bSeq s b) E=.exc x E1:=by simp only[dB,ud,h]
def s_dropX{a:_}{x:Exn}(h:dE fs a E=.exc x E1):dS fs (.sDrop a) E=.exc x E1:=by simp only[dS,sDrop,h]
def zBq{a:_}{x:Exn}(h:dE fs a E=.exc x E1):dS fs (.sRet a) E=.exc x E1:=by simp only[dS,sRet,h]
def QP{c:Str}:dS fs (.sRaise c) E=.exc ⟨c,true⟩ E:=by simp only[dS,DV.sRaise]
def zAy{k:Nat}{a:_}{F:MF}{r:R}{x:Exn}{o:List Slot}(h0:fiF fs k=F)(h1:dE fs a E=.ok (r,E1))(h2:F [.v r.d]=.exc x o):dE fs (.call k (.ev a .nil)) E=.exc ⟨x.cls,false⟩ E1:=by
 subst h0;simp only[dE,dG,jd,zn,h1,zH,h2,YT,if_true]
def zAz{k:Nat}{a b:_}{F:MF}{r r2:R}{x:Exn}{o:List Slot}(h0:fiF fs k=F)(h1:dE fs a E=.ok (r,E1))(h1':dE fs b E1=.ok (r2,E2))(h2:F [.v r.d,.v r2.d]=.exc x o):dE fs (.call k (.ev a (.ev b .nil))) E=.exc ⟨x.cls,false⟩ E2:=by
 subst h0;simp only[dE,dG,jd,zn,h1,h1',zH,h2,YT,if_true]
def s_tryO{cl:List Str}{b hb:_}{i:Nat}{p:Fl×zQ}(h:dB fs b E=.ok p):dS fs (.sTry cl b i hb) E=.ok p:=by simp only[dS,DV.sTry,h]
def zBr{cl:List Str}{b hb:_}{i:Nat}{c:Str}{r:R}(h:dB fs b E=.exc ⟨c,false⟩ E1)(hc:cl.contains c=true)(hp:JM i (.v (.exn c)) E1=.ok E2)(hh:dB fs hb E2=.ok (.ret r,E3)):dS fs (.sTry cl b i hb) E=.ok (.ret r,E3):=by
 simp only[dS,DV.sTry,h,hc,hp,hh,Bool.not_false,Bool.and_self,if_true]
def zk{d:D}:[d].length<=cap:=by simp only[List.length_singleton,cap];omega
def vS:([]:List D).length<=cap:=by simp only[length_nil,cap];omega
def jb{d e:D}:[d,e].length<=cap:=by simp only[length_cons,length_nil,cap];omega
def x_comp{nl:Nat}{xs ys:List Str}{caps:List Nat}{it tt el:_}{tg:Tg}{ds rs:List D}{vs:List D}(pat:D->List DV.Slot)(f:D->Bool)(g:D->D)(hi:dI fs it E=.ok (ds,E1))(hcap:wv E1 caps=.ok (vs.map AR.tmp))
  (h1:∀d∈ds,∀S:List DV.Slot,S.length=nl->(∀s∈S,wV s=true)->tg.m d (S++vs.map Slot.v)=.ok (pat d++vs.map Slot.v))
  (h2:∀d∈ds,(pat d).length=nl/\∀s∈pat d,wV s=true)
  (h3:∀d∈ds,dT fs tt (pat d++vs.map Slot.v)=.ok (f d,pat d++vs.map Slot.v))
  (h4:∀d∈ds,f d=true->∃r,dE fs el (pat d++vs.map Slot.v)=.ok (r,pat d++vs.map Slot.v)/\r.d=g d) (hc:ds.length<=cap) (hr:(ds.filter f).map g=rs):dE fs (.comp nl xs ys caps it tg tt el) E=.ok (.own rs,E1):=by
 subst hr;simp only[dE];exact G9 <| zAu pat f g ds h1 h2 h3 h4 hc hi hcap
def wT{xs ys:List Str}{caps:List Nat}{it el:_}{ds rs:List D}{vs:List D}(g:D->D)(hi:dI fs it E=.ok (ds,E1))(hcap:wv E1 caps=.ok (vs.map AR.tmp))
  (h4:∀d∈ds,∃r,dE fs el (.v d::vs.map Slot.v)=.ok (r,.v d::vs.map Slot.v)/\r.d=g d) (hc:ds.length<=cap) (hr:ds.map g=rs):dE fs (.comp 1 xs ys caps it (.n 0) .tTr el) E=.ok (.own rs,E1):=by
 refine x_comp (λd=>[.v d]) (λ_=>true) g hi hcap (λd hd S hS hn=>gN_ok1 hS hn) (λd hd=>⟨rfl,λs hs=>?_⟩) (λd hd=>?_) (λd hd _=>h4 d hd) hc ?_
 ·rw[mem_singleton]at hs;subst hs;rfl
 ·simp only[dT,zAV]
 ·rw[List.filter_eq_self.mpr (λ_ _=>rfl),hr]
end
end DV
namespace SM
open PySem L2 DV
def ends(w o k:Nat):Nat->List Nat
 |0=>1::replicate k 0|n+1=>(o*(ends w o k n).sum)::((ends w o k n).dropLast.map (w*·))
def U(w o k n:Nat):Nat:=(ends w o k n).sum
def F(w o k m:Nat):Nat->Nat
 |0=>0|r+1=>F w o k m r+w^r*o*U w o k (m-1-r)
def wt(die:List Nat)(row:List Nat):Nat:=row.foldl (λa x=>a*die.getD x 0) 1
def stp(s:Nat)(p:Nat×Nat)(x:Nat):Nat×Nat:=(max p.1 (if x=s then p.2+1 else 0),if x=s then p.2+1 else 0)
def stt(s:Nat)(row:List Nat):Nat×Nat:=row.foldl (stp s) (0,0)
def Die(die:List Nat):Prop:=(die.length=2\/die.length=3)/\∀x∈die,1<=x/\x<=9
def inner{die:List Nat}(hd:Die die){s:Nat}(hs:s<die.length)(k:Nat)(g:Nat->Nat)(r:List Nat) :
  ((List.range die.length).map λx=>if(stt s (r++[x])).1<=k then wt die (r++[x])*g (stt s (r++[x])).2 else 0).sum=if(stt s r).1<=k then wt die r*((die.sum-die.getD s 0)*g 0+if(stt s r).2+1<=k then die.getD s 0*g ((stt s r).2+1)else 0)else 0:=by
 have e1:∀x,stt s (r++[x])=stp s (stt s r) x:=λx=>by simp[stt]
 have e2:∀x,wt die (r++[x])=wt die r*die.getD x 0:=λx=>by simp[wt]
 simp only[e1,e2];generalize stt s r=p;generalize wt die r=t;obtain⟨m,h⟩:=p;have hm:∀a:Nat,max m (a+1)<=k↔m<=k/\a+1<=k:=λa=>by omega
 match die,hd with
 | [a,b],hd =>
  simp only[length_cons,length_nil]at hs;have:s=0\/s=1:=by omega
  rcases this with rfl|rfl<;>by_cases c1:m<=k<;>by_cases c2:h+1<=k<;>simp[List.range_succ,stp,hm,c1,c2,Nat.mul_add,Nat.mul_assoc]<;>omega
 | [a,b,c],hd =>
  simp only[length_cons,length_nil]at hs;have:s=0\/s=1\/s=2:=by omega
  have x1:a+(b+c)-b=a+c:=by omega
  have x2:a+(b+c)-c=a+b:=by omega
  rcases this with rfl|rfl|rfl<;>by_cases c1:m<=k<;>by_cases c2:h+1<=k<;>simp[List.range_succ,stp,hm,c1,c2,Nat.mul_add,Nat.add_mul,Nat.mul_assoc,x1,x2]<;>omega
 | [],hd=>simp[Die]at hd| [_],hd=>simp[Die]at hd|_::_::_::_::_,hd=>simp[Die]at hd
def tot(es:List (List Nat)):Nat:=(es.map List.sum).sum
def al(ws:List Nat)(k:Nat):Nat->List (List Nat)
 |0=>ws.map λw=>w::replicate (k-1) 0|n+1=>List.zipWith (λw e=>(w*(tot (al ws k n)-e.sum))::e.dropLast.map (w*·)) ws (al ws k n)
def A(ws:List Nat)(n k:Nat):Nat:=if n=0 then 1 else if k=0 then 0 else tot (al ws k (n-1))
end SM
namespace DV
open PySem L2
def smD:Nat->D->Prop
 |_,.non=>True|_,.bl _=>True|_,.dic=>True|_,.int i=>i.natAbs<2^100|_,.str x=>x="1"|n+1,.t ds=>ds.length<=21/\∀d∈ds,smD n d|n+1,.l ds=>ds.length<=21/\∀d∈ds,smD n d|_,_=>False
def rpB:Nat->Nat
 |0=>40|n+1=>21*(rpB n+2)+10
structure Rp(n:Nat)(x:PyData):Prop where
 sh:x.showable=true
 dp:x.depth<=n+2
 ln:x.shown.length<=rpB n
end DV
namespace TM
open PySem L2 DV PyProof.Rows
abbrev tD(a:List Int):D:=.t (a.map D.int)
section
variable{L:List (List Int)}
def gd(i:Nat)(h:i<L.length):(L.map tD).getD i .non=tD (L.getD i []):=by
 rw[getD_eq_getElem?_getD,getD_eq_getElem?_getD,List.getElem?_map,getElem?_eq_getElem h];rfl
end
def R1(l:List Nat):List Nat:=l.drop 1++l.take 1
def it(rs:List Nat):Nat->List Nat
 |0=>rs|t+1=>R1 (it rs t)
def zs(l:List Nat):List Int:=l.map λ(n:Nat)=>(n:Int)
end TM
namespace DV
open PySem L2
section
variable{fs:List FI}{E E1 E2 E3 E4 E5:zQ}
def QR{n:Nat}{body:MS}{ss o:List DV.Slot}{x:Exn}(h:body (ss++replicate (n-ss.length) .e)=.exc x E1)(ho:zt ss E1=o):fnM n body ss=.exc x o:=by
 subst ho;simp only[fnM,h]
def x_cX1{k:Nat}{a:_}{F:MF}{r:R}{z:Str}{y:Bool}{o:List DV.Slot}(h0:fiF fs k=F)(h1:dE fs a E=.ok (r,E1))(h2:F [.v r.d]=.exc ⟨z,y⟩ o):dE fs (.call k (.ev a .nil)) E=.exc ⟨z,false⟩ E1:=zAy h0 h1 h2
def x_cX2{k:Nat}{a b:_}{F:MF}{r r2:R}{z:Str}{y:Bool}{o:List DV.Slot}(h0:fiF fs k=F)(h1:dE fs a E=.ok (r,E1))(h1':dE fs b E1=.ok (r2,E2))(h2:F [.v r.d,.v r2.d]=.exc ⟨z,y⟩ o):dE fs (.call k (.ev a (.ev b .nil))) E=.exc ⟨z,false⟩ E2:=zAz h0 h1 h1' h2
def zp{k i:Nat}{a:_}{F:MF}{r r':R}{p p':List D}{o:DV.Slot}(h0:fiF fs k=F)(hE:E[i]?=some (.par p))(h1:dE fs a E=.ok (r,E))(h2:F [.par p,.v r.d]=.ok (r',[.par p',o]))(h3:E.set i (.par p')=E1):dE fs (.call k (.lend i (.ev a .nil))) E=.ok (r',E1):=by
 subst h0 h3;have hi:i<E.length:=(List.getElem?_eq_some_iff.mp hE).1;have hs:(E.set i .e)[i]?=some .e:=by simp[hi]
 simp only[dE,dG,jd,zn,hE,jw,Bool.false_eq_true,if_false,h1,zH,Slot.list?,h2,zI,hs,Slot.put,set_set]
def x_neg{a:_}{i:Int}(h:dE fs a E=.ok (.v (.int i),E1)):dE fs (.neg a) E=.ok (.v (.int (-i)),E1):=by simp only[dE,eNeg,h]
def x_and1{a b:_}{o:Out (R×zQ)}(h:dE fs a E=.ok (.v (.bl true),E1))(h1:dE fs b E1=o):dE fs (.and a b) E=o:=by subst h1;simp only[dE,zBS,h]
def zBs{a b:_}(h:dE fs a E=.ok (.v (.bl false),E1)):dE fs (.and a b) E=.ok (.v (.bl false),E1):=by simp only[dE,zBS,h]
def x_is{T:Ty}{a:_}{r:R}{t:String}{v:Bool}(h:dE fs a E=.ok (r,E1))(ht:tyD r.d=some t)(hv:Ze t T.s=v):dE fs (.is T a) E=.ok (.v (.bl v),E1):=by subst hv;simp only[dE,eIs,h,ht]
def zBt{t a b:_}{o:Out (R×zQ)}(h:dT fs t E=.ok (true,E1))(h1:dE fs a E1=o):dE fs (.ifx t a b) E=o:=by subst h1;simp only[dE,eIf,h]
def x_ixO{i:Nat}{b:_}{ds:List D}{k:Int}{d:D}(h:E[i]?=some (.own ds))(h1:dE fs b E=.ok (.v (.int k),E))(hx:atI ds k=some d):dE fs (.ixO i b) E=.ok (.v d,E):=by
 simp only[dE,eIxO,h,jw,Bool.false_eq_true,if_false,h1,ixS,hx]
def QS{a b:_}{o:Out (Bool×zQ)}(h1:dT fs a E=.ok (true,E1))(h2:dT fs b E1=o):dT fs (.tAnd a b) E=o:=by subst h2;simp only[dT,uR,h1]
def zBu{a b:_}(h1:dT fs a E=.ok (false,E1)):dT fs (.tAnd a b) E=.ok (false,E1):=by simp only[dT,uR,h1]
def s_app{i:Nat}{a:_}{r:R}{ds ds0:List D}(h0:E[i]?=some (.own ds0))(h1:dE fs a E=.ok (r,E1))(h2:E1[i]?=some (.own ds))(hl:ds.length<cap)(h3:E1.set i (.own (ds++[r.d]))=E2):dS fs (.sApp i a) E=.ok (.nx,E2):=by
 subst h3;simp only[dS,sApp,h0,Slot.list?,h1,h2,Slot.put];rw[if_pos hl]
end
def put_ok{i:Nat}{E:zQ}{s:DV.Slot}(r:R)(h:E[i]?=some s)(hs:wV s=true):JM i r E=.ok (E.set i r.slot):=by
 simp only[JM,h];cases s<;>first|rfl|(cases hs)
def uC{i:Nat}{E E1:zQ}{s:DV.Slot}{r:R}(h:E[i]?=some s)(hs:wV s=true)(e:E.set i r.slot=E1):JM i r E=.ok E1:=by
 rw[put_ok r h hs,e]
def ne_int(x y:Int):neG (.int x) (.int y)=some (.v (.bl (!decide (x=y)))):=by simp[neG,neF]
def eq_int(x y:Int):eqG (.int x) (.int y)=some (.v (.bl (decide (x=y)))):=by simp[eqG,eqF]
def eq_str(t:Str):eqG (.str t) (.str t)=some (.v (.bl true)):=by simp[eqG,eqF]
def ne_str(t:Str):neG (.str t) (.str t)=some (.v (.bl false)):=by simp[neG,neF]
def vT(a b:List D)(h:a.length+b.length<=100000):Z7 (.l a) (.l b)=some (.own (a++b)):=by
 simp only[Z7];rw[if_pos (by simp only[cap];omega)]
def wU(a b:List D)(h:a.length+b.length<=100000):Z7 (.t a) (.t b)=some (.v (.t (a++b))):=by
 simp only[Z7];rw[if_pos (by simp only[cap];omega)]
def rep_one(x:D)(k:Nat):(replicate k [x]).flatten=replicate k x:=by
 induction k with
 |zero=>rfl|succ k ih=>rw[replicate_succ,flatten_cons,ih,replicate_succ];rfl
def zA0(d:D)(n:Nat)(h:n<=1000):zAH (.t [d]) (.int n)=some (.v (.t (replicate n d))):=by
 simp only[zAH];rw[if_pos ⟨by omega,by omega,by simp only[List.length_singleton,Int.toNat_natCast,cap];omega⟩,Int.toNat_natCast,rep_one]
def mulG_of{x y:D}{r:R}(e:zAH x y=some r):mulG x y=some r:=by simp only[mulG,e]
def Zx(d:D)(n:Nat)(h:n<=1000):mulG (.t [d]) (.int n)=some (.v (.t (replicate n d))):=by
 exact mulG_of (zA0 d n h)
def at_nat{ds:List D}{k:Nat}{d:D}(h:ds[k]?=some d):atI ds (k:Int)=some d:=by
 obtain⟨hk,e⟩:=List.getElem?_eq_some_iff.mp h;have:(k:Int)<ds.length:=by omega
 simp[atI,ixN,this,h]
def atI_end(ds:List D)(d:D):atI (ds++[d]) (-1)=some d:=by
 have h1:¬(0:Int)<=-1:=by decide
 have h2:-(((ds++[d]).length:Nat):Int)<=-1:=by simp;omega
 have h3:(-1+(((ds++[d]).length:Nat):Int)).toNat=ds.length:=by simp;omega
 unfold atI ixN;rw[if_neg h1,if_pos h2,h3];simp
def ixD_lst(ds:List D)(i:Int):ixD (.l ds) (.int i)=(atI ds i).map .v:=rfl
def pick{ds:List D}{r:Int}(h0:0<=r)(h1:r<ds.length):∃d,d∈ds/\ixD (.l ds) (.int r)=some (.v d):=by
 obtain⟨k,rfl⟩:=Int.eq_ofNat_of_zero_le h0;have hk:k<ds.length:=by omega
 refine⟨ds[k],getElem_mem hk,?_⟩;rw[ixD_lst,at_nat (getElem?_eq_getElem hk)];rfl
theorem Wu(f:D->Bool):∀ds:List D,yk (ds.map λd=>D.bl (f d))=some (ds.map f)
 | []=>rfl|d::ds=>by simp only[map_cons,yk,Wu f ds];rfl
theorem all_map(f:D->Bool)(ds:List D):(ds.map f).all id=ds.all f:=by simp[List.all_map]
def uD{f:D->Bool}{ds:List D}{b:Bool}(h:ds.all f=b):allD [.l (ds.map λd=>D.bl (f d))]=some (.v (.bl b)):=by
 subst h;simp[allD,Wu,all_map]
def uE(ds:List D)(k:Nat)(h:k<=ds.length):Z8 ds (some (k:Int)) none=ds.drop k:=by
 unfold Z8;rw[HT.sIx_nat];simp only[HT.sIx];rw[show min k ds.length=k by omega,List.take_of_length_le (by simp)]
def pow30:powD (.int 10) (.int 30)=some (.v (.int (10^30))):=by
 simp[powD,Qi]
mutual
theorem zA1:∀(n:Nat) (d:D),eqb n d=true->deq d d=true
 |n,.non,_=>by simp[deq,eqV,flV]|n,.bl b,_=>by simp[deq,eqV,flV]|n,.int i,_=>by simp[deq,eqV,flV]|n,.str x,_=>by simp[deq,eqV,flV]|n+1,.t ds,h=>by simp only[deq];exact deqs_refl n ds (by simpa[eqb]using h)|n+1,.l ds,h=>by simp only[deq];exact deqs_refl n ds (by simpa[eqb]using h)|0,.t ds,h=>by simp[eqb]at h|0,.l ds,h=>by simp[eqb]at h|0,.fn _,h=>by simp[eqb]at h|0,.dic,h=>by simp[eqb]at h|0,.exn _,h=>by simp[eqb]at h|n+1,.fn _,h=>by simp[eqb]at h|n+1,.dic,h=>by simp[eqb]at h|n+1,.exn _,h=>by simp[eqb]at h
theorem deqs_refl:∀(n:Nat) (ds:List D),(∀d∈ds,eqb n d=true)->deqs ds ds=true
 |n,[],_=>by simp[deqs]
 |n,d::ds,h=>by
  simp only[deqs,Bool.and_eq_true];exact⟨zA1 n d (h d mem_cons_self),deqs_refl n ds λe he=>h e (mem_cons_of_mem _ he)⟩
end
def N(l:List Nat):List D:=l.map λn:Nat=>D.int (n:Int)
def yF(l:List Nat):(N l).length=l.length:=by simp[N]
def Zy{l:List Nat}{d:D}(h:d∈N l):∃n∈l,d=.int (n:Nat):=by
 obtain⟨n,hn,rfl⟩:=mem_map.mp h;exact⟨n,hn,rfl⟩
def zA2(a b:List Nat):N (a++b)=N a++N b:=by simp[N]
def N_rep(k n:Nat):N (replicate k n)=replicate k (.int (n:Nat)):=by simp[N]
section
variable{fs:List FI}{E E1 E2 E3 E4 E5 E6:zQ}
def t_bor{i:Nat}{t:_}{ds:List D}{b:Bool}(h:E[i]?=some (.own ds))(hb:(E.set i .e).all zBj=true)(h1:E.set i (.v (.l ds))=E1)(h2:dT fs t E1=.ok (b,E1)):dT fs (.tBor i t) E=.ok (b,E):=by
 subst h1;simp only[dT,zAg,h,hb,if_true,h2]
end
def ne_tups{a b:List D}(h1:∀d∈a,eqb 19 d=true)(h2:∀d∈b,eqb 19 d=true):neG (.t a) (.t b)=some (.v (.bl (!deqs a b))):=by
 have e:neF (.t a) (.t b)=none:=rfl;simp only[neG,e,eqDD];rw[if_pos ⟨by simp only[eqb,all_eq_true];exact h1,by simp only[eqb,all_eq_true];exact h2⟩];rfl
end DV
namespace TM
open PySem DV
theorem QT{c:Nat}:∀{a b s t:List Nat},c∉a->c∉b->a++c::s=b++c::t->a=b/\s=t
 | [],[],s,t,_,_,e=>⟨rfl,by simpa using e⟩
 | [],y::b,s,t,_,hb,e=>by
  simp only[nil_append,cons_append,List.cons.injEq]at e;exact absurd (e.1▸mem_cons_self) hb
 |x::a,[],s,t,ha,_,e=>by
  simp only[nil_append,cons_append,List.cons.injEq]at e;exact absurd (e.1▸mem_cons_self) ha
 |x::a,y::b,s,t,ha,hb,e=>by
  simp only[cons_append,List.cons.injEq]at e;obtain⟨h1,h2⟩:=QT (λz=>ha (mem_cons_of_mem _ z)) (λz=>hb (mem_cons_of_mem _ z)) e.2;exact⟨by rw[e.1,h1],h2⟩
def sg(c:Nat):Str:=⟨#[c]⟩
def QU(c:Nat)(x y:Str)(r:List Str):(Str.join (sg c) (x::y::r)).cps.toList=x.cps.toList++c::(Str.join (sg c) (y::r)).cps.toList:=by
 show((x.cps++#[c])++(Str.join (sg c) (y::r)).cps).toList=_
 simp
def QV{x y:Str}(h:x.cps.toList=y.cps.toList):x=y:=by
 obtain⟨a⟩:=x;obtain⟨b⟩:=y;have:a=b:=Array.toList_inj.mp h;rw[this]
theorem uF(c:Nat):∀{a b:List Str},a≠[]->b≠[]->(∀x∈a,c∉x.cps.toList)->(∀x∈b,c∉x.cps.toList)->Str.join (sg c) a=Str.join (sg c) b->a=b
 | [],_,h,_,_,_,_=>absurd rfl h|_,[],_,h,_,_,_=>absurd rfl h| [x],[y],_,_,_,_,e=>by rw[show x=y from e]
 | [x],y::z::r,_,_,h1,_,e=>by
  have e1:x.cps.toList=y.cps.toList++c::(Str.join (sg c) (z::r)).cps.toList:=by rw[<- QU];exact congrArg (λs:Str=>s.cps.toList) e
  exact absurd (by rw[e1];simp) (h1 x mem_cons_self)
 |x::w::q,[y],_,_,_,h2,e=>by
  have e1:y.cps.toList=x.cps.toList++c::(Str.join (sg c) (w::q)).cps.toList:=by rw[<- QU];exact(congrArg (λs:Str=>s.cps.toList) e).symm
  exact absurd (by rw[e1];simp) (h2 y mem_cons_self)
 |x::w::q,y::z::r,_,_,h1,h2,e=>by
  have e1:=congrArg (λs:Str=>s.cps.toList) e;simp only[QU]at e1;obtain⟨e2,e3⟩:=QT (h1 x mem_cons_self) (h2 y mem_cons_self) e1;rw[QV e2,uF c (cons_ne_nil _ _) (cons_ne_nil _ _) (λs hs=>h1 s (mem_cons_of_mem _ hs)) (λs hs=>h2 s (mem_cons_of_mem _ hs)) (QV e3)]
def ZQ(c:Nat){ws:List Str}(h0:ws≠[])(h:∀x∈ws,c∉x.cps.toList):Txt.split (Str.join (sg c) ws) (sg c)=ws:=by
 refine uF c (λz=>?_) h0 (StrLaws.split_free _ c) h (StrLaws.join_split _ _);have:=PyProof.Rows.split_pos (Str.join (sg c) ws) (sg c);rw[z]at this;exact absurd this (by simp)
def wd(n:Nat):Str:=⟨#[48+n]⟩
def zBv{n:Nat}(h:n<10):(Str.ofString (toString (n:Int)))=wd n :=
 (by decide +kernel:∀n:Nat,n<10->(Str.ofString (toString (n:Int)))=wd n) n h
def yW(w:Str)(l:List Nat):Str:=Str.join (sg 32) (w::l.map wd)
theorem uG(c:Nat):∀ws:List Str,(∀x∈ws,x.length<=3)->(Str.join (sg c) ws).length<=4*ws.length
 | [],_=>by show 0<=_;omega| [x],h=>by have:=h x mem_cons_self;show x.length<=_;simp;omega
 |x::y::r,h=>by
  have h1:=h x mem_cons_self;have h2:=uG c (y::r) λs hs=>h s (mem_cons_of_mem _ hs)
  have e:=congrArg length (QU c x y r);simp only[length_append,length_cons,Array.length_toList]at e;simp only[Str.length,length_cons]at *;omega
theorem Wv{c k:Nat}(hk:k≠c):∀ws:List Str,(∀x∈ws,k∉x.cps.toList)->k∉(Str.join (sg c) ws).cps.toList
 | [],_=>by show k∉(#[]:Array Nat).toList;simp| [x],h=>h x mem_cons_self
 |x::y::r,h=>by
  rw[QU];simp only[mem_append,mem_cons,not_or];exact⟨h x mem_cons_self,hk,Wv hk (y::r) λs hs=>h s (mem_cons_of_mem _ hs)⟩
structure Wd(w:Str):Prop where
 len:w.length<=3
 b:32∉w.cps.toList
 e:10∉w.cps.toList
def wd_wd{n:Nat}(h:n<10):Wd (wd n):=⟨by show 1<=3;omega,by show 32∉[48+n];simp;omega,by show 10∉[48+n];simp;omega⟩
def zA3{w:Str}{l:List Nat}(hw:Wd w)(h:∀n∈l,n<10):∀x∈w::l.map wd,Wd x:=λx hx=>by
 rcases mem_cons.mp hx with rfl|hx
 ·exact hw
 ·obtain⟨n,hn,rfl⟩:=mem_map.mp hx
  exact wd_wd (h n hn)
def uX{w:Str}{l:List Nat}(hw:Wd w)(h:∀n∈l,n<10):Txt.split (yW w l) (sg 32)=w::l.map wd :=
 ZQ 32 (cons_ne_nil _ _) λx hx=>(zA3 hw h x hx).b
def Ww{w:Str}{l:List Nat}(hw:Wd w)(h:∀n∈l,n<10):10∉(yW w l).cps.toList :=
 Wv (by decide) _ λx hx=>(zA3 hw h x hx).e
def JH{w:Str}{l:List Nat}(hw:Wd w)(h:∀n∈l,n<10):(yW w l).length<=4*(l.length+1):=by
 have:=uG 32 (w::l.map wd) λx hx=>(zA3 hw h x hx).len
 simpa[yW]using this
def uY{x y:Str}(hx:10∉x.cps.toList)(hy:10∉y.cps.toList):Txt.split (x++sg 10++y) (sg 10)=[x,y] :=
 ZQ 10 (ws:=[x,y]) (cons_ne_nil _ _) λs hs=>by
  rcases mem_cons.mp hs with rfl|hs
  ·exact hx
  ·rw[mem_singleton.mp hs];exact hy
def join_ok{w:Str}{l:List Nat}(hw:Wd w)(h:∀n∈l,n<10)(hl:l.length<=100):JoinOk (sg 32) (w::l.map wd)=true:=by
 unfold JoinOk;have:=StrLaws.joinFits (sep:=sg 32) (texts:=w::l.map wd) (B:=3) (λx hx=>(zA3 hw h x hx).len) (by
  have e:(sg 32).length=1:=rfl;rw[e];simp;omega)
 rw[this];rfl
def QW(w:Str)(l:List Nat):Txt.join (sg 32) (w::l.map wd)=yW w l:=StrLaws.glued_eq_join _ _
def ZR:Wd "die":=⟨by decide +kernel,by decide +kernel,by decide +kernel⟩
def ZS:Wd "row":=⟨by decide +kernel,by decide +kernel,by decide +kernel⟩
def sg32:((" ":String):Str)=sg 32:=by decide +kernel
def sg10:(("\n":String):Str)=sg 10:=by decide +kernel
end TM
namespace DV
open PySem L2
section
variable{fs:List FI}{E E1 E2 E3:zQ}
def zA4{a b:_}{r1 r2 r:R}(h1:dE fs a E=.ok (r1,E1))(h2:dE fs b E1=.ok (r2,E2))(h3:zBk r1.d r2.d=some r):dE fs (.cat a b) E=.ok (r,E2):=by simp only[dE,Jt,h1,h2,h3]
def x_ixT{a b:_}{r1 r2 r:R}(h1:dE fs a E=.ok (r1,E1))(h2:dE fs b E1=.ok (r2,E2))(h3:DV.ixT r1.d r2.d=some r):dE fs (.ixT a b) E=.ok (r,E2):=by simp only[dE,Jt,h1,h2,h3]
def x_joi{a b:_}{z:Str}{r2 r:R}(h1:dE fs a E=.ok (.v (.str z),E1))(h2:dE fs b E1=.ok (r2,E2))(h3:Wh (.str z) r2.d=some r):dE fs (.joi a b) E=.ok (r,E2):=by simp only[dE,Wg,h1,h2,h3]
def x_spl{a b:_}{z:Str}{r2 r:R}(h1:dE fs a E=.ok (.v (.str z),E1))(h2:dE fs b E1=.ok (r2,E2))(h3:w6 (.str z) r2.d=some r):dE fs (.spl a b) E=.ok (r,E2):=by simp only[dE,Wg,h1,h2,h3]
def x_asc{a:_}{z:Str}{b:Bool}(h1:dE fs a E=.ok (.v (.str z),E1))(h2:Txt.isascii z=b):dE fs (.asc a) E=.ok (.v (.bl b),E1):=by subst h2;simp only[dE,eUn,h1,R.d,ZK,Bool.false_eq_true,if_false]
def x_dig{a:_}{z:Str}{b:Bool}(h1:dE fs a E=.ok (.v (.str z),E1))(h2:Txt.isdigit z=b):dE fs (.dig a) E=.ok (.v (.bl b),E1):=by subst h2;simp only[dE,eUn,h1,R.d,ZK,if_true]
def s_star{i j:Nat}{a:_}{r:R}{z:Str}{ts:List Str}(h1:dE fs a E=.ok (r,E1))(hd:r.d=.l (.str z::ts.map D.str))(h2:JM i (.v (.str z)) E1=.ok E2)(h3:JM j (.own (ts.map D.str)) E2=.ok E3):dS fs (.sStar i j a) E=.ok (.nx,E3):=by
 simp only[dS,DV.sStar,h1,hd,JR,h2,h3]
def zA5{z:Str}{ts:List Str}(h:JoinOk z ts=true):Wh (.str z) (.l (ts.map D.str))=some (.v (.str (Txt.join z ts))):=by
 simp only[Wh,JR,Option.bind_some,h,if_true]
def Wx{z y:Str}(h:(y.length==0)=false)(hz:z.length<=1000):w6 (.str z) (.str y)=some (.own ((Txt.split z y).map D.str)):=by
 simp only[w6];rw[if_pos ⟨h,hz⟩]
def QX{x y:Str}(h:x.length+y.length<=1000):zBk (.str x) (.str y)=some (.v (.str (x++y))):=by
 simp only[zBk];rw[if_pos (le_trans h (by decide +kernel))]
end
end DV
namespace My
open PySem L2 DV SM
def isFn:D->Bool
 | .fn _=>true| .exn _=>true|_=>false
def isW:D->Bool
 | .int _=>true|_=>false
def Y8(lo hi:Int):D->Bool
 | .int i=>decide (lo<=i)&&decide (i<=hi)|_=>false
def okD:D->Prop
 | .t ds=>ds.length<=cap/\∀d∈ds,isFn d=false| .fn _=>False| .exn _=>False|_=>True
def ZT:D->Bool
 | .t ds=>decide (2<=ds.length)&&decide (ds.length<=3)&&ds.all (Y8 1 9)|_=>false
def uZ(d:D)(h:isFn d=false):JU [.v d]=.ok (.v (.bl (isW d)),[.e]):=by
 cases d<;>first|rfl|(cases h)
def jP(d:D)(lo hi:Int)(h:isFn d=false):zZ [.v d,.v (.int lo),.v (.int hi)]=.ok (.v (.bl (Y8 lo hi d)),[.e,.e,.e]):=by
 have e:=uZ d h;cases d with
 |int i =>
  simp[zZ,yE,yP,fnM,dB,dS,dE,dG,sRet,zBS,jd,zn,ub,zH,fiF,R.d,zI,wx,Cp.b,jl,jk,e,isW,Y8];by_cases h1:lo<=i<;>simp[h1,jl,jk]
 |_=>first|(cases h;done)|simp[zZ,yE,yP,fnM,dB,dS,dE,dG,sRet,zBS,jd,zn,ub,zH,fiF,R.d,zI,wx,Cp.b,jl,jk,e,isW,Y8]
def JV(d:D)(h:okD d):jM [.v d]=.ok (.v (.bl (ZT d)),[.e]):=by
 cases d with
 |t ds =>
  have t1:dT wR (.tNot (.tE (.is .tuple (.var 0)))) [.v (.t ds)]=.ok (false,[.v (.t ds)]):=ja (t_E (b:=true) rfl) rfl;have l1:dE wR (.cB .len (.cons (.var 0) .nil)) [.v (.t ds)]=.ok (.v (.int ds.length),[.v (.t ds)]):=Jr (zA (zD rfl) zP) rfl;by_cases h2:2<=ds.length
  ·have b1:Cp.le.b 2 (ds.length:Int)=true:=decide_eq_true (by omega)
   by_cases h3:ds.length<=3
   ·have b2:Cp.le.b (ds.length:Int) 3=true:=decide_eq_true (by omega)
    have e:ZT (.t ds)=ds.all (Y8 1 9):=by simp[ZT,h2,h3]
    rw[e];exact yU (za (jN (uf t1 (ja (t_E (QN QM l1 b1 QM b2)) rfl)) jO) (zm (yV (Jr (zA (wT (vs:=[]) (λd=>.bl (Y8 1 9 d)) (i_T (zD rfl) rfl) rfl (λd hd=>⟨_,QO rfl (zD rfl) QM QM (jP d 1 9 (h.2 d hd)),rfl⟩) h.1 rfl) zP) (uD rfl))))) rfl
   ·have b2:Cp.le.b (ds.length:Int) 3=false:=decide_eq_false (by omega)
    have e:ZT (.t ds)=false:=by simp[ZT,h3]
    rw[e];exact yU (b_ret (vR (uf t1 (ja (t_E (QN QM l1 b1 QM b2)) rfl)) (zm (yV x_c)))) rfl
  ·have b1:Cp.le.b 2 (ds.length:Int)=false:=decide_eq_false (by omega)
   have e:ZT (.t ds)=false:=by simp[ZT,h2]
   rw[e];exact yU (b_ret (vR (uf t1 (ja (t_E (zAw QM l1 b1)) rfl)) (zm (yV x_c)))) rfl
 |fn x=>cases h|exn x=>cases h|_=>rfl
def nxt(s:Int):Int:=((s+7919)%2147483647*((s+7919)%2147483647)+48271*((s+7919)%2147483647)+12345)%2147483629
def vU(s:Int):jX [.v (.int s)]=.ok (.v (.int (nxt s)),[.e]):=by
 have h1:0<=(s+7919)%2147483647:=Int.emod_nonneg _ (by decide);have h2:(s+7919)%2147483647<2147483647:=Int.emod_lt_of_pos _ (by decide);have h3:-18446744073709551616<(s+7919)%2147483647/\(s+7919)%2147483647<18446744073709551616:=by omega
 simp[jX,wS,Jh,fnM,dB,dS,dE,sRet,ud,sSet,JM,R.slot,ub,eC,R.d,Op2.f,jl,jk,Jt,mulG,zAH,Z7,modD,Qi,nxt,h3]
def Pen(p:List D):Prop:=∃l f s:Int,p=[.int l,.int f,.int s]
def zU(p:List D)(hp:Pen p)(m:Int)(h0:0<m)(h1:m<1073741824):∃r p',zE [.par p,.v (.int m)]=.ok (.v (.int r),[.par p',.e])/\0<=r/\r<m/\Pen p':=by
 obtain⟨l,f,s,rfl⟩:=hp;by_cases hf:f=1
 ·refine⟨l%m,[.int (l/m),.int f,.int s],?_,Int.emod_nonneg _ (by omega),Int.emod_lt_of_pos _ h0,_,_,_,rfl⟩
  simp[zE,jZ,jo,fnM,dB,dS,dE,dG,dT,sRet,sIf,ud,sNil,sSet,JM,R.slot,jd,zn,ub,eC,zH,fiF,R.d,zI,Cp.f,Op2.f,jl,jk,QK,tT,Jt,eqG,eqF,eIxO,jw,ixS,atI,ixN,hf,modD,zAG,Qi,h0,h1,YN,Slot.list?,Slot.put]
 ·refine⟨nxt (nxt s+7)/64%m,[.int l,.int f,.int (nxt (nxt s+7))],?_,Int.emod_nonneg _ (by omega),Int.emod_lt_of_pos _ h0,_,_,_,rfl⟩
  simp[zE,jZ,jo,fnM,dB,dS,dE,dG,dT,sRet,sIf,ud,sNil,sSet,JM,R.slot,jd,zn,ub,eC,zH,fiF,R.d,zI,Cp.f,Op2.f,jl,jk,QK,tT,Jt,eqG,eqF,eIxO,jw,ixS,atI,ixN,hf,modD,zAG,Z7,Qi,h0,h1,YN,Slot.list?,Slot.put,vU]
def Zz(c:Int):∃p,yR [.v (.int c)]=.ok (.own p,[.e])/\Pen p:=by
 refine⟨[.int (if 0-c > c then 0-c else c),.int (if decide (10^18<=(if 0-c > c then 0-c else c))=true then 1 else 0),.int ((if 0-c > c then 0-c else c)%1000003)],?_,_,_,_,rfl⟩;simp[yR,jY,wE,fnM,dB,dS,dE,dA,sRet,ud,sSet,JM,R.slot,ub,eC,R.d,Cp.f,Op2.f,Bi.f,jl,jk,Jt,eCB,vB,aNil,eLst,maxG,maxD,subD,zAE,intF,geD,powD,modD,Qi,cap]
def Y9(ns:List Int):∃c,yI [.v (.l (ns.map .int)),.v (.int 0)]=.ok (.v (.int c),[.e,.e]):=by
 cases ns with
 |nil=>exact⟨0,rfl⟩
 |cons n ns => 
  refine⟨n,?_⟩;have:(0:Int)<ns.length+1:=by omega
  simp[yI,jG,jn,fnM,dB,dS,dE,dT,dA,sRet,sIf,ud,ub,eC,R.d,Cp.f,Bi.f,jl,jk,tT,Jt,eCB,vB,aNil,lenD,ltD,zAE,ixD,atI,ixN,this]
abbrev O1:List DV.Slot:=[.e]
abbrev O2:List DV.Slot:=[.e,.e]
def Z0(a b:Nat):Z7 (.int a) (.int b)=some (.v (.int ((a+b:Nat):Int))):=by simp[Z7]
def sub_nn{a b:Nat}(h:b<=a):subD (.int (a:Int)) (.int (b:Int))=some (.v (.int ((a-b:Nat):Int))):=by
 simp only[subD,zAE];rw[Int.ofNat_sub h]
def zBw(a b:Nat):gtD (.int (a:Int)) (.int (b:Int))=some (.v (.bl (decide (b<a)))):=by
 show some (R.v (D.bl (decide ((b:Int)<a))))=_
 congr 3;simp
theorem QY:∀{l:List Nat} {x:Nat},x∈l->x<=l.sum
 |a::l,x,h=>by
  rw[List.sum_cons];rcases mem_cons.mp h with rfl|h
  ·omega
  ·have:=QY h;omega
end My
namespace My
open PySem L2 DV TM
def Ys:D->Bool
 | .t ds=>decide (ds.length<=20)&&ds.all (Y8 0 2)|_=>false
def vV(d:D)(h:isFn d=false):jW [.v d]=.ok (.v (.bl (Y8 0 2 d)),[.e]) :=
 yU (zm (yV (QO (F:=zZ) rfl (zD rfl) x_c (yj QM x_c rfl) (jP d 0 2 h)))) rfl
def ua(d:D)(h:okD d):jv [.v d]=.ok (.v (.bl (Ys d)),[.e]):=by
 cases d with
 |t ds =>
  have g:=zBw ds.length 20;have l1:dE Yb (.cB .len (.cons (.var 0) .nil)) [.v (.t ds)]=.ok (.v (.int ds.length),[.v (.t ds)]):=Jr (zA (zD rfl) zP) rfl;by_cases c:ds.length<=20
  ·have e:Ys (.t ds)=ds.all (Y8 0 2):=by simp[Ys,c]
   rw[decide_eq_false (by omega)]at g;rw[e];exact yU (za (jN (uf (ja (t_E (b:=true) rfl) rfl) (t_E (y8 l1 QM g))) jO) (zm (yV (Jr (zA (wT (vs:=[]) (λd=>.bl (Y8 0 2 d)) (i_T (zD rfl) rfl) rfl (λd hd=>⟨_,z7 (F:=jW) rfl (zD rfl) (vV d (h.2 d hd)),rfl⟩) h.1 rfl) zP) (uD rfl))))) rfl
  ·have e:Ys (.t ds)=false:=by simp[Ys,c]
   rw[decide_eq_true (by omega)]at g;rw[e];exact yU (b_ret (vR (uf (ja (t_E (b:=true) rfl) rfl) (t_E (y8 l1 QM g))) (zm (yV x_c)))) rfl
 |fn x=>cases h|exn x=>cases h|_=>rfl
structure Row(rs:List Nat):Prop where
 len:rs.length<=20
 le:∀x∈rs,x<=2
abbrev yY(rs:List Nat):D:=.t (N rs)
def zA6{l:List Nat}:∀d∈N l,isFn d=false:=λd hd=>by
 obtain⟨n,_,rfl⟩:=Zy hd;rfl
def zBx{rs:List Nat}(h:Row rs):okD (yY rs):=⟨by rw[yF];simp[cap];have:=h.len;omega,zA6⟩
def row_B{rs:List Nat}(h:Row rs):Ys (yY rs)=true:=by
 have a:(N rs).all (Y8 0 2)=true:=by
  rw[all_eq_true];intro d hd;obtain⟨x,hx,rfl⟩:=Zy hd;have:=h.le x hx;simp[Y8];omega
 simp only[Ys,yF,a,decide_eq_true h.len,Bool.and_self]
def N_drop(l:List Nat)(t:Nat):(N l).drop t=N (l.drop t):=by simp[N,map_drop]
def N_take(l:List Nat)(t:Nat):(N l).take t=N (l.take t):=by simp[N,map_take]
def QZ(ds:List D)(t:Nat)(h:t<=ds.length):Z8 ds none (some (t:Int))=ds.take t:=by
 unfold Z8;have h1:HT.sIx ds.length 0 none=0:=rfl;rw[HT.sIx_nat,h1];simp[Nat.min_eq_left h]
def cut_toL(ds:List D)(t:Nat)(h:ds.length<t):Z8 ds none (some (t:Int))=ds:=by
 unfold Z8;have h1:HT.sIx ds.length 0 none=0:=rfl;rw[HT.sIx_nat,h1,show min t ds.length=ds.length by omega];simp
def Qa(ds:List D)(k:Nat)(h:ds.length<k):Z8 ds (some (k:Int)) none=[]:=by
 unfold Z8;rw[HT.sIx_nat];simp only[HT.sIx];rw[show min k ds.length=ds.length by omega];simp
def sl_f(rs:List Nat)(t:Nat):slD (yY rs) (some (t:Int)) none=some (.v (yY (rs.drop t))):=by
 simp only[slD];by_cases h:t<=rs.length
 ·rw[uE _ t (by rw[yF];exact h),N_drop]
 ·rw[Qa _ t (by rw[yF];omega),List.drop_of_length_le (by omega)];rfl
def sl_t(rs:List Nat)(t:Nat):slD (yY rs) none (some (t:Int))=some (.v (yY (rs.take t))):=by
 simp only[slD];by_cases h:t<=rs.length
 ·rw[QZ _ t (by rw[yF];exact h),N_take]
 ·rw[cut_toL _ t (by rw[yF];omega),List.take_of_length_le (by omega)]
def add_row{a b:List Nat}(h:a.length+b.length<=1000):Z7 (yY a) (yY b)=some (.v (yY (a++b))):=by
 rw[wU _ _ (by simp only[yF];omega),<- zA2]
def len_row(rs:List Nat):lenD [yY rs]=some (.v (.int (rs.length:Nat))):=by simp only[lenD,yF]
def zA7:z0 [.v (.exn "NoRow")]=.ok (.v (.str "row"),[.e]):=rfl
abbrev rm:D:=.t [.str "row"]
def ref_row:z1 [.v (.exn "NoRow")]=.ok (.v rm,[.e]) :=
 yU (za (yw (z7 (F:=z0) rfl (zD rfl) zA7) rfl) (za (jN (t_E (y8 (zD rfl) x_c rfl)) jO) (zm (yV (yb (zA (zD rfl) zP) rfl zk))))) rfl
def vW(i:Int):yL [.v (.int i)]=.ok (.v (.bl true),[.e]):=rfl
def eqb_L(l:List Nat):eqb 20 (.l (N l))=true:=by
 simp only[eqb,all_eq_true];intro d hd;obtain⟨k,_,rfl⟩:=Zy hd;rfl
def ne_nil(l:List Nat):neG (.l (N l)) (.l [])=some (.v (.bl (!decide (l=[])))):=by
 cases l with
 |nil=>rfl
 |cons a l =>
  have e:neF (.l (N (a::l))) (.l [])=none:=rfl;simp only[neG,e,eqDD];rw[if_pos ⟨eqb_L _,rfl⟩];rfl
def gt_0(n:Nat):gtD (.int (n:Nat)) (.int 0)=some (.v (.bl (decide (0<n)))):=zBw n 0
def pen_bor{p:List D}(hp:Pen p):nols p=true:=by obtain⟨a,b,c,rfl⟩:=hp;rfl
abbrev RW(p:List D)(s m:Nat)(l:List Nat)(o:Nat)(s5 s6:DV.Slot):zQ:=[.par p,.v (.int s),.v (.int m),.own (N l),.v (.int o),s5,s6]
def zA8{p:List D}(hp:Pen p){s m:Nat}(hs:0<s/\s<=3)(l:List Nat)(hl:∀x∈l,x<s)(hn:l.length<=20){o:Nat}(ho:0<o/\o<=4)(s5 s6:DV.Slot)(h6:wV s6=true)(h5:zBj s5=true) :
  ∃p' x t6,dB zq y4 (RW p s m l o s5 s6)=.ok (.nx,RW p' s m (l++[x]) o s5 t6)/\Pen p'/\x<s/\wV t6=true:=by
 obtain⟨r,p1,e1,l1,u1,hp1⟩:=zU p hp (s:Nat) (by omega) (by omega);obtain⟨r,rfl⟩:=Int.eq_ofNat_of_zero_le l1;have a1:dS zq (.sSet 6 (.call 0 (.lend 0 (.ev (.var 1) .nil)))) (RW p s m l o s5 s6)=.ok (.nx,RW p1 s m l o s5 (.v (.int (r:Nat)))):=yw (zp (F:=zE) rfl rfl (zD rfl) e1 rfl) (uC rfl h6 rfl);have app:∀(p:List D) (x:Nat),dS zq (.sApp 3 (.var 6)) (RW p s m l o s5 (.v (.int (x:Nat))))=.ok (.nx,RW p s m (l++[x]) o s5 (.v (.int (x:Nat)))):=λp x=>by
  have e:N (l++[x])=N l++[.int (x:Nat)]:=zA2 l [x];show _=Out.ok (Fl.nx,[DV.Slot.par p,.v (.int s),.v (.int m),.own (N (l++[x])),.v (.int o),s5,.v (.int (x:Nat))]);rw[e];exact s_app rfl (zD rfl) rfl (by rw[yF];simp[cap];omega) rfl
 have ne:=ne_nil l;have bb:((RW p1 s m l o s5 (.v (.int (r:Nat)))).set 3 .e).all zBj=true:=by
  show [DV.Slot.par p1,.v (.int s),.v (.int m),.e,.v (.int o),s5,.v (.int (r:Nat))].all zBj=true
  have b0:zBj (.par p1)=true:=pen_bor hp1;rw[all_eq_true];intro x hx;simp only[mem_cons,mem_nil_iff,or_false]at hx;rcases hx with rfl|rfl|rfl|rfl|rfl|rfl|rfl<;>first|rfl|assumption
 have tb:dT zq (.tBor 3 (.tE (.cmp .ne (.var 3) (.l .nil)))) (RW p1 s m l o s5 (.v (.int (r:Nat))))=.ok (!decide (l=[]),RW p1 s m l o s5 (.v (.int (r:Nat)))) :=
  t_bor rfl bb rfl (t_E (y8 (zD rfl) (JG zP rfl vS) ne))
 by_cases c:l=[]
 ·rw[decide_eq_true c]at tb
  exact⟨p1,r,.v (.int (r:Nat)),za a1 (za (jN (zBu tb) jO) (zm (app p1 r))),hp1,by omega,rfl⟩
 ·rw[decide_eq_false c]at tb
  obtain⟨q,p2,e2,l2,u2,hp2⟩:=zU p1 hp1 (o:Nat) (by omega) (by omega);obtain⟨q,rfl⟩:=Int.eq_ofNat_of_zero_le l2;have g:=gt_0 q;have tq:dT zq (.tE (.cmp .gt (.call 0 (.lend 0 (.ev (.var 4) .nil))) (.c (.int 0)))) (RW p1 s m l o s5 (.v (.int (r:Nat))))=.ok (decide (0<q),RW p2 s m l o s5 (.v (.int (r:Nat)))):=t_E (y8 (zp (F:=zE) rfl rfl (zD rfl) e2 rfl) x_c g);by_cases d:0<q
  ·rw[decide_eq_true d]at tq
   obtain⟨k,y,rfl⟩:∃k y,l=k++[y]:=⟨l.dropLast,l.getLast c,(List.dropLast_concat_getLast c).symm⟩;have al:atI (N (k++[y])) (-1)=some (.int (y:Nat)):=by rw[zA2];exact atI_end _ _
   exact⟨p2,y,.v (.int (y:Nat)),za a1 (za (vR (QS tb tq) (zm (yw (x_ixO rfl (x_neg x_c) al) rfl))) (zm (app p2 y))),hp2,hl y (by simp),rfl⟩
  ·rw[decide_eq_false d]at tq
   exact⟨p2,r,.v (.int (r:Nat)),za a1 (za (jN (QS tb tq) jO) (zm (app p2 r))),hp2,by omega,rfl⟩
def zA9(p:List D)(hp:Pen p){s m:Nat}(hs:0<s/\s<=3)(hm:m<=20):∃rs p',yt [.par p,.v (.int s),.v (.int m)]=.ok (.v (yY rs),[.par p',.e,.e])/\Pen p'/\rs.length<=m/\∀x∈rs,x<s:=by
 obtain⟨a,p1,e1,l1,u1,hp1⟩:=zU p hp 4 (by decide) (by decide);obtain⟨a,rfl⟩:=Int.eq_ofNat_of_zero_le l1;have ad:Z7 (.int 1) (.int (a:Nat))=some (.v (.int ((1+a:Nat):Int))):=Z0 1 a;obtain⟨n,p2,e2,l2,u2,hp2⟩:=zU p1 hp1 ((m:Int)+1) (by omega) (by omega);obtain⟨n,rfl⟩:=Int.eq_ofNat_of_zero_le l2;obtain⟨E',f1,p3,l,s5,s6,hE,hp3,hl,hx,h5,h6,h5'⟩:=Jz (tg:=gN 5) (body:=dB zq y4) (λi E=>∃p l s5 s6,E=RW p s m l (1+a) s5 s6/\Pen p/\l.length=i/\(∀x∈l,x<s)/\wV s5=true/\wV s6=true/\zBj s5=true) (DV.zW 0 n) 0 (RW p2 s m [] (1+a) .e .e) ⟨p2,[],.e,.e,rfl,hp2,rfl,(λx h=>by cases h),rfl,rfl,rfl⟩ (λi d q E ⟨p,l,s5,s6,hE,hp,hl,hx,h5,h6,h5'⟩=>by
  obtain⟨hi,rfl⟩:=vw _ _ _ _ q;obtain⟨p',x,t6,e,hp',hxs,ht⟩:=zA8 hp (m:=m) hs l hx (by omega) (o:=1+a) (by omega) (.v (.int (0+(i:Int)))) s6 h6 rfl;refine⟨RW p s m l (1+a) (.v (.int (0+(i:Int)))) s6,_,?_,e,p',l++[x],_,t6,rfl,hp',by simp[hl],λy hy=>?_,rfl,ht,rfl⟩
  ·subst hE;cases s5<;>first|rfl|(cases h5)
  ·rcases mem_append.mp hy with hy|hy
   ·exact hx y hy
   ·rw[mem_singleton]at hy;subst hy;exact hxs)
 rw[J0]at hl;subst hE;refine⟨l,p3,?_,hp3,by omega,hx⟩;exact yU (za (yw (JG zP rfl vS) rfl) (za (yw (yj x_c (zp (F:=zE) rfl rfl x_c e1 rfl) ad) rfl) (za (s_forR1 (j:=(n:Int)) (zA (zp (F:=zE) rfl rfl (yj (zD rfl) x_c rfl) e2 rfl) zP) rfl ⟨by omega,by omega⟩ (by rw[Int.toNat_natCast];exact f1)) (zm (yV (Jr (zA (Yr rfl rfl) zP) rfl)))))) rfl
def odr8:List D:=[.int 3,.int (-1),.bl true,.non,.str "1",.t [.int 1],.int (10^30),.bl false]
def odr8_ok:∀d∈odr8,isFn d=false/\Y8 0 2 d=false:=by
 intro d hd;simp only[odr8,mem_cons,mem_nil_iff,or_false]at hd;rcases hd with rfl|rfl|rfl|rfl|rfl|rfl|rfl|rfl<;>exact⟨rfl,by simp[Y8]⟩
def zBA(p:List D)(hp:Pen p){rs:List Nat}(h:Row rs):∃d p',yu [.par p,.v (yY rs)]=.ok (.v d,[.par p',.e])/\Pen p'/\okD d/\Ys d=false:=by
 have hl:=h.len;obtain⟨k,p1,e1,l1,u1,hp1⟩:=zU p hp ((rs.length:Int)+1) (by omega) (by omega);obtain⟨k,rfl⟩:=Int.eq_ofNat_of_zero_le l1;obtain⟨r,p2,e2,l2,u2,hp2⟩:=zU p1 hp1 8 (by decide) (by decide);obtain⟨x,hx,hi⟩:=pick (ds:=odr8) l2 u2;have ox:=odr8_ok x hx;obtain⟨q,p3,e3,l3,u3,hp3⟩:=zU p2 hp2 9 (by decide) (by decide);have c1:=sl_t rs k;have c2:=sl_f rs (k+1);have c3:=wU (N (rs.take k)) [x] (by simp[yF];omega);have c4:=wU (N (rs.take k)++[x]) (N (rs.drop (k+1))) (by simp[yF];omega);have ak:Z7 (.int (k:Nat)) (.int 1)=some (.v (.int ((k+1:Nat):Int))):=Z0 k 1;have m4:=Zx (.int 0) 21 (by omega);have b1:okD (.t (N (rs.take k)++[x]++N (rs.drop (k+1))))/\Ys (.t (N (rs.take k)++[x]++N (rs.drop (k+1))))=false:=by
  constructor
  ·refine⟨by simp[yF,cap];omega,λd hd=>?_⟩
   simp only[mem_append,mem_singleton]at hd;rcases hd with(hd|rfl)|hd
   ·exact zA6 d hd
   ·exact ox.1
   ·exact zA6 d hd
  ·simp[Ys,ox.2]
 generalize N (rs.take k)++[x]++N (rs.drop (k+1))=bt at b1 c4;have b2:okD (.t [yY rs])/\Ys (.t [yY rs])=false:=⟨⟨zk,λd hd=>by rw[mem_singleton]at hd;subst hd;rfl⟩,rfl⟩;have b3:okD (.t (replicate 21 (.int 0)))/\Ys (.t (replicate 21 (.int 0)))=false:=⟨⟨by simp[cap],λd hd=>by rw[List.eq_of_mem_replicate hd];rfl⟩,by simp[Ys]⟩;have c5:=vT [.t bt,.t bt,.l (N rs),.t [yY rs],.t (replicate 21 (.int 0))] [.non,.int 0,.dic,.str "01"] (by simp);obtain⟨d,hd,hg⟩:=pick (ds:=[.t bt,.t bt,.l (N rs),.t [yY rs],.t (replicate 21 (.int 0)),.non,.int 0,.dic,.str "01"]) l3 u3;have c50:[D.t bt,.t bt,.l (N rs),.t [yY rs],.t (replicate 21 (.int 0))].length<=cap:=by simp only[length_cons,length_nil,cap];omega
 refine⟨d,p3,?_,hp3,?_⟩
 ·have bd:∀E:zQ,E[1]?=some (.v (yY rs))->E[2]?=some (.v (.int (k:Nat)))->E[3]?=some (.v x)->dE wI (.bin .add (.bin .add (.sl (.var 1) .oN (.oS (.var 2))) (.t (.cons (.var 3) .nil))) (.sl (.var 1) (.oS (.bin .add (.var 2) (.c (.int 1)))) .oN)) E=.ok (.v (.t bt),E):=λE g1 g2 g3 =>
   yj (yj (x_sl (zD g1) o_N (o_S (zD g2)) c1) (yb (zA (zD g3) zP) rfl zk) c3) (x_sl (zD g1) (o_S (yj (zD g2) x_c ak)) o_N c2) c4
  refine yU (E1:=[.par p3,.v (yY rs),.v (.int (k:Nat)),.v x,.v (.l [.t bt,.t bt,.l (N rs),.t [yY rs],.t (replicate 21 (.int 0))])]) ?_ rfl;refine za (yw (zp (F:=zE) rfl rfl (yj (Jr (zA (zD rfl) zP) (len_row rs)) x_c rfl) e1 rfl) rfl) ?_;refine za (yw (Qk (JG (ds:=odr8) (zA x_c (zA (x_neg x_c) (zA x_c (zA x_c (zA x_c (zA (yb (zA x_c zP) rfl zk) (zA (yj x_c x_c pow30) (zA x_c zP)))))))) rfl (by simp[odr8,cap])) (zp (F:=zE) rfl rfl x_c e2 rfl) hi) rfl) ?_;refine za (yw (JG (zA (bd _ rfl rfl rfl) (zA (bd _ rfl rfl rfl) (zA (Jr (zA (zD rfl) zP) rfl) (zA (yb (zA (zD rfl) zP) rfl zk) (zA (yj (r1:=.v (.t [.int 0])) (r2:=.v (.int ((21:Nat):Int))) (yb (zA x_c zP) rfl zk) x_c m4) zP))))) rfl c50) rfl) ?_;exact zm (yV (Qk (yj (Yr rfl rfl) (JG (zA x_c (zA x_c (zA rfl (zA x_c zP)))) rfl (by simp[cap])) c5) (zp (F:=zE) rfl rfl x_c e3 rfl) hg))
 ·simp only[mem_cons,mem_nil_iff,or_false]at hd
  rcases hd with rfl|rfl|rfl|rfl|rfl|rfl|rfl|rfl|rfl
  ·exact b1
  ·exact b1
  ·exact⟨trivial,rfl⟩
  ·exact b2
  ·exact b3
  all_goals exact⟨trivial,rfl⟩
def Qb{a b c:D}:[a,b,c].length<=cap:=by simp only[length_cons,length_nil,cap];omega
end My
namespace My
open PySem L2 DV SM
def ZU(d:D)(h:okD d)(hb:ZT d=true):ya [.v d]=.ok (.v .non,[.e]):=by
 have e:=JV d h;rw[hb]at e;exact f_nx (zm (jN (ja (t_E (z7 rfl (zD rfl) e)) rfl) jO)) rfl
end My
namespace SM
end SM
namespace My
open PySem L2 DV SM
abbrev y6(die:List Nat):D:=.t (N die)
def Qc{die:List Nat}(h:Die die):okD (y6 die):=⟨by rw[yF];rcases h.1 with e|e<;>rw[e]<;>simp[cap],zA6⟩
def die_B{die:List Nat}(h:Die die):ZT (y6 die)=true:=by
 have hl:2<=die.length/\die.length<=3:=by rcases h.1 with e|e<;>omega
 have ha:(N die).all (Y8 1 9)=true:=by
  rw[all_eq_true];intro d hd;obtain⟨x,hx,rfl⟩:=Zy hd;have:=h.2 x hx;simp[Y8];omega
 simp only[ZT,yF,ha,decide_eq_true hl.1,decide_eq_true hl.2,Bool.and_self]
theorem Wy{c:Nat}:∀{l:List Nat},(∀x∈l,1<=x/\x<=c)->l.length<=l.sum/\l.sum<=l.length*c
 | [],_=>by simp
 |a::l,h=>by
  have h1:=h a mem_cons_self;have ih:=Wy (l:=l) (λx hx=>h x (mem_cons_of_mem _ hx));rw[List.sum_cons,length_cons,Nat.succ_mul];omega
structure DS(die:List Nat)(s:Nat):Prop where
 ok:Die die
 lt:s<die.length
namespace DS
variable{die:List Nat}{s:Nat}
def S27(h:DS die s):2<=die.sum/\die.sum<=27:=by
 have:=Wy h.ok.2;rcases h.ok.1 with e|e<;>rw[e]at this<;>omega
def get(h:DS die s):die[s]?=some (die.getD s 0):=by
 rw[getD_eq_getElem?_getD,getElem?_eq_getElem h.lt];rfl
def le(h:DS die s):die.getD s 0<=die.sum:=QY (mem_of_getElem? h.get)
def wo'(h:DS die s):die.getD s 0+(die.sum-die.getD s 0)=die.sum:=by have:=h.le;omega
end DS
def JW(die:List Nat):lenD [y6 die]=some (.v (.int die.length)):=by simp only[lenD,yF]
abbrev dw(die:List Nat)(s:Nat):Nat:=die.getD s 0
abbrev dr(die:List Nat)(s:Nat):Nat:=die.sum-die.getD s 0
end My
namespace DV
open PySem L2
def s_ix{fs:List FI}{E E1 E2 E3:zQ}{i:Nat}{a b:_}{r:R}{s0:DV.Slot}{k:Int}{ds:List D}{j:Nat}(hs:E[i]?=some s0)(hs':jw (some s0)=false)(h1:dE fs a E=.ok (r,E1))(h2:dE fs b E1=.ok (.v (.int k),E2))(h3:E2[i]?=some (.own ds))(h4:ixN ds.length k=some j)(h5:E2.set i (.own (ds.set j r.d))=E3):dS fs (.sIx i b a) E=.ok (.nx,E3):=by
 subst h5;simp only[dS,YN,hs,hs',Bool.false_eq_true,if_false,h1,h2,h3,Slot.list?,h4,Slot.put]
def x_lenO{fs:List FI}{E:zQ}{i:Nat}{ds:List D}(h:E[i]?=some (.own ds)):dE fs (.lenO i) E=.ok (.v (.int ds.length),E):=by simp only[dE,GX,h]
end DV
namespace My
open PySem L2 DV SM
def N_set(l:List Nat)(j x:Nat):(N l).set j (.int (x:Nat))=N (l.set j x):=by simp[N,List.map_set]
def Z3(p:List D)(hp:Pen p):∃die p',yq [.par p]=.ok (.v (y6 die),[.par p'])/\Pen p'/\Die die:=by
 obtain⟨r1,p1,e1,l1,u1,hp1⟩:=zU p hp 4 (by decide) (by decide);have ht:∃t:Nat,ixD (.l [.int 1,.int 2,.int 9,.int 9]) (.int r1)=some (.v (.int (t:Nat)))/\0<t/\t<=9:=by
  have:r1=0\/r1=1\/r1=2\/r1=3:=by omega
  rcases this with rfl|rfl|rfl|rfl
  ·exact⟨1,rfl,by decide,by decide⟩
  ·exact⟨2,rfl,by decide,by decide⟩
  ·exact⟨9,rfl,by decide,by decide⟩
  ·exact⟨9,rfl,by decide,by decide⟩
 obtain⟨t,ht,t0,t1⟩:=ht;obtain⟨r2,p2,e2,l2,u2,hp2⟩:=zU p1 hp1 2 (by decide) (by decide);obtain⟨q2,rfl⟩:=Int.eq_ofNat_of_zero_le l2;obtain⟨res,E',h1,h2,s,p3,l,hE,hs,hp3,hl,hn⟩:=Wl (tg:=gN 0) (tt:=zAV) (el:=dE z6 (.bin .add (.c (.int 1)) (.call 0 (.lend 1 (.ev (.var 2) .nil))))) (λk E acc=>acc.length=k/\∃s p l,E=[s,.par p,.v (.int (t:Nat))]/\wV s=true/\Pen p/\acc=N l/\∀x∈l,1<=x/\x<=9) (DV.zW 0 (2+q2)) 0 [.e,.par p2,.v (.int (t:Nat))] [] ⟨rfl,.e,p2,[],rfl,rfl,hp2,rfl,λx hx=>by cases hx⟩ (by rw[J0];simp[cap];omega)
  (λi d e E acc ⟨ha,s,p,l,hE,hs,hp,hl,hn⟩ hlt=>by
   obtain⟨r,p',e',l',u',hp'⟩:=zU p hp (t:Nat) (by omega) (by omega);obtain⟨r,rfl⟩:=Int.eq_ofNat_of_zero_le l';refine⟨[.v d,.par p,.v (.int (t:Nat))],[.v d,.par p,.v (.int (t:Nat))],.v (.int ((1+r:Nat):Int)),[.v d,.par p',.v (.int (t:Nat))],?_,rfl,?_,by simp[ha],.v d,p',l++[1+r],rfl,rfl,hp',?_,?_⟩
   ·subst hE;cases s<;>first|rfl|(cases hs)
   ·exact yj x_c (zp (F:=zE) rfl rfl (zD rfl) e' rfl) (Z0 1 r)
   ·rw[hl];simp[N,R.d]
   ·intro x hx
    rcases mem_append.mp hx with hx|hx
    ·exact hn x hx
    ·simp at hx;omega)
 subst hE;have cp:dE z6 (.comp 1 ["_law_turn"] ["_law_pen","_law_most"] [0,1] (.iR1 (.cons (.bin .add (.c (.int 2)) (.call 0 (.lend 0 (.ev (.c (.int 2)) .nil)))) .nil)) (.n 0) .tTr (.bin .add (.c (.int 1)) (.call 0 (.lend 1 (.ev (.var 2) .nil))))) [.par p1,.v (.int (t:Nat)),.e]=.ok (.own (N l),[.par p3,.v (.int (t:Nat)),.e]):=by
  have hi:=i_R1 (fs:=z6) (E:=[.par p1,.v (.int (t:Nat)),.e]) (E1:=[.par p2,.v (.int (t:Nat)),.e]) (a:=.cons (.bin .add (.c (.int 2)) (.call 0 (.lend 0 (.ev (.c (.int 2)) .nil)))) .nil) (zA (yj x_c (zp (F:=zE) rfl rfl x_c e2 rfl) (Z0 2 q2)) zP) (j:=((2+q2:Nat):Int)) rfl ⟨by omega,by omega⟩;rw[show(((2+q2:Nat):Int)).toNat=2+q2 by omega]at hi;simp only[dE]at h1 ⊢;refine G9 ?_;simp only[Tg.m,dT];rw[<- hl];simp[Yz,hi,wv,Slot.list?,zH,h1,zt,zI,Slot.put]
 have hl2:l.length=2+q2:=by
  have:=congrArg length hl;rw[yF]at this;rw[<- this,h2,J0];omega
 obtain⟨r4,p4,e4,l4,u4,hp4⟩:=zU p3 hp3 6 (by decide) (by decide);have q:=eq_int r4 0;by_cases c:r4=0
 ·rw[decide_eq_true c]at q
  obtain⟨r5,p5,e5,l5,u5,hp5⟩:=zU p4 hp4 (l.length:Int) (by omega) (by omega);obtain⟨j,rfl⟩:=Int.eq_ofNat_of_zero_le l5;have ix:ixN (N l).length (j:Int)=some j:=by
   have:(j:Int)<((N l).length:Nat):=by rw[yF];exact u5
   unfold ixN;rw[if_pos (by omega)];simp[this]
  refine⟨l.set j 9,p5,?_,hp5,by rw[List.length_set];omega,λx hx=>?_⟩
  ·have lo:dE z6 (.lenO 2) [.par p4,.v (.int (t:Nat)),.own (N l)]=.ok (.v (.int (l.length:Nat)),[.par p4,.v (.int (t:Nat)),.own (N l)]):=by
    have:=x_lenO (fs:=z6) (E:=[.par p4,.v (.int (t:Nat)),.own (N l)]) (i:=2) rfl;rw[yF]at this;exact this
   exact yU (za (yw (Qk (JG (zA x_c (zA x_c (zA x_c (zA x_c zP)))) rfl (by simp[cap])) (zp (F:=zE) rfl rfl x_c e1 rfl) ht) rfl) (za (yw cp rfl) (za (vR (t_E (y8 (zp (F:=zE) rfl rfl x_c e4 rfl) x_c q)) (zm (s_ix rfl rfl x_c (zp (F:=zE) rfl rfl lo e5 rfl) rfl ix (by rw[show(R.v (D.int 9)).d=.int ((9:Nat):Int)from rfl,N_set])))) (zm (yV (Jr (zA (Yr rfl rfl) zP) rfl)))))) rfl
  ·rcases List.mem_or_eq_of_mem_set hx with hx|rfl
   ·exact hn x hx
   ·omega
 ·rw[decide_eq_false c]at q
  refine⟨l,p4,?_,hp4,by omega,hn⟩;exact yU (za (yw (Qk (JG (zA x_c (zA x_c (zA x_c (zA x_c zP)))) rfl (by simp[cap])) (zp (F:=zE) rfl rfl x_c e1 rfl) ht) rfl) (za (yw cp rfl) (za (jN (t_E (y8 (zp (F:=zE) rfl rfl x_c e4 rfl) x_c q)) jO) (zm (yV (Jr (zA (Yr rfl rfl) zP) rfl)))))) rfl
def odd8:List D:=[.int 0,.int 10,.int (-1),.bl true,.non,.str "1",.t [.int 1],.int (10^30)]
def odd8_ok:∀d∈odd8,isFn d=false/\Y8 1 9 d=false:=by
 intro d hd;simp only[odd8,mem_cons,mem_nil_iff,or_false]at hd;rcases hd with rfl|rfl|rfl|rfl|rfl|rfl|rfl|rfl<;>exact⟨rfl,by simp[Y8]⟩
end My
namespace SM
open PySem L2 DV
end SM
namespace My
open PySem L2 DV SM
def Big_is:Big=2^4000:=by unfold Big;exact rfl
abbrev tp(a b:Nat):Nat:=a/a.gcd b
abbrev bt(a b:Nat):Nat:=b/a.gcd b
abbrev PP:=Nat×Nat
def Le(p q:PP):Prop:=p.1*q.2<=q.1*p.2
def Le.refl(p:PP):Le p p:=le_refl _
def Le.trans{p q r:PP}(hq:0<q.2)(h1:Le p q)(h2:Le q r):Le p r:=by
 obtain⟨a,b⟩:=p;obtain⟨c,d⟩:=q;obtain⟨e,f⟩:=r;unfold Le at *;dsimp only at *;have e1:=Nat.mul_le_mul_right f h1;have e2:=Nat.mul_le_mul_right b h2;apply Nat.le_of_mul_le_mul_right (c:=d) _ hq;have q1:a*f*d=a*d*f:=by grind
 have q2:e*b*d=e*d*b:=by grind
 have q3:c*b*f=c*f*b:=by grind
 rw[q1,q2];rw[q3]at e1;exact le_trans e1 e2
structure OkL(L:List PP):Prop where
 ne:L≠[]
 pos:∀p∈L,0<p.2
 l1:∀p∈L,p.1<Big
 l2:∀p∈L,p.2<Big
def p2{x:Nat}(h:x<4000):2^x<Big:=by rw[Big_is];exact Nat.pow_lt_pow_right (by decide) h
def n_mul{a b m n:Nat}(h1:a<2^m)(h2:b<2^n):a*b<2^(m+n):=by
 rw[Nat.pow_add];exact Nat.mul_lt_mul'' h1 h2
structure Wt(k c:Nat)(A:List Nat)(Q:Nat):Prop where
 len:A.length=k
 pos:∀a∈A,0<a
 lt:∀a∈A,a<2^c
 q0:0<Q
 ql:Q<2^c
def Mv(w o:Nat)(A:List Nat):List Nat:=(A.drop 1++[0]).map λa=>w*a+o*A.getD 0 0
def Mv_len{w o k:Nat}{A:List Nat}(h:A.length=k)(hk:1<=k):(Mv w o A).length=k:=by simp[Mv];omega
section
variable{die:List Nat}{s:Nat}
def dr_pos(h:DS die s):0<dr die s:=by
 have hl:=h.lt;have hd:=h.ok.1;have ha:=h.ok.2;have h1:∀i,i<die.length->1<=die.getD i 0:=λi hi=>(ha _ (mem_of_getElem? (by rw[getD_eq_getElem?_getD,getElem?_eq_getElem hi];rfl))).1
 match die,hd,hl with
 | [a,b],_,hl =>
  have:=h1 0 (by simp);have:=h1 1 (by simp);have:s=0\/s=1:=by simp at hl;omega
  rcases this with rfl|rfl<;>simp[dr]at*<;> omega
 | [a,b,c],_,hl =>
  have:=h1 0 (by simp);have:=h1 1 (by simp);have:=h1 2 (by simp);have:s=0\/s=1\/s=2:=by simp at hl;omega
  rcases this with rfl|rfl|rfl<;>simp[dr]at*<;> omega
def S5(h:DS die s):die.sum<2^5:=by have:=h.S27;omega
def S0(h:DS die s):0<die.sum:=by have:=h.S27;omega
def Wt.head{k c Q:Nat}{A:List Nat}(h:Wt k c A Q)(hk:1<=k):A.getD 0 0∈A/\A[0]?=some (A.getD 0 0):=by
 have e:A[0]?=some (A.getD 0 0):=by rw[getD_eq_getElem?_getD,getElem?_eq_getElem (by have:=h.len;omega)];rfl
 exact⟨mem_of_getElem? e,e⟩
def Wt.step(h:DS die s){k c Q:Nat}{A:List Nat}(W:Wt k c A Q)(hk:1<=k):Wt k (c+5) (Mv (dw die s) (dr die s) A) (die.sum*Q) where
 len:=Mv_len W.len hk
 pos:=λa ha=>by
  obtain⟨x,_,rfl⟩:=mem_map.mp ha;have:=Nat.mul_pos (dr_pos h) (W.pos _ (W.head hk).1);omega
 lt:=λa ha=>by
  obtain⟨x,hx,rfl⟩:=mem_map.mp ha;have x1:x<2^c:=by
   rcases mem_append.mp hx with hx|hx
   ·exact W.lt x (List.mem_of_mem_drop hx)
   ·rw[mem_singleton]at hx;subst hx;exact Nat.pow_pos (by decide)
  have x2:=W.lt _ (W.head hk).1;have S:=S5 h;have e:dw die s+dr die s=die.sum:=h.wo';rw[Nat.pow_add];have m1:dw die s*x<=dw die s*(2^c-1):=Nat.mul_le_mul_left _ (by omega);have m2:dr die s*A.getD 0 0<=dr die s*(2^c-1):=Nat.mul_le_mul_left _ (by omega);have m3:dw die s*(2^c-1)+dr die s*(2^c-1)=die.sum*(2^c-1):=by rw[<- Nat.add_mul,e]
  have m4:die.sum*(2^c-1)<=(2^5-1)*(2^c-1):=Nat.mul_le_mul_right _ (by omega);have p:0<2^c:=Nat.pow_pos (by decide);have m5:(2^5-1)*(2^c-1)<2^c*2^5:=by omega
  omega
 q0:=Nat.mul_pos (S0 h) W.q0
 ql:=by rw[Nat.add_comm];exact n_mul (S5 h) W.ql
end
def n_die(d:D)(h:okD d)(hb:ZT d=false):ya [.v d]=.exc ⟨"NoDie",true⟩ O1:=by
 have e:=JV d h;rw[hb]at e;exact QR (zm (vR (ja (t_E (z7 rfl (zD rfl) e)) rfl) (zm QP))) rfl
def Z4(p:List D)(hp:Pen p){die:List Nat}(h:Die die):∃d p',yr [.par p,.v (y6 die)]=.ok (.v d,[.par p',.e])/\Pen p'/\okD d/\ZT d=false:=by
 have hl:die.length=2\/die.length=3:=h.1;obtain⟨k,p1,e1,l1,u1,hp1⟩:=zU p hp (die.length:Int) (by omega) (by omega);obtain⟨k,rfl⟩:=Int.eq_ofNat_of_zero_le l1;have hk:k<die.length:=by omega
 obtain⟨r,p2,e2,l2,u2,hp2⟩:=zU p1 hp1 8 (by decide) (by decide);obtain⟨x,hx,hi⟩:=pick (ds:=odd8) l2 u2;have ox:=odd8_ok x hx;obtain⟨q,p3,e3,l3,u3,hp3⟩:=zU p2 hp2 8 (by decide) (by decide);have c1:slD (y6 die) none (some (k:Int))=some (.v (.t ((N die).take k))):=by
  simp only[slD];rw[QZ _ k (by rw[yF];omega)]
 have c2:slD (y6 die) (some ((k:Int)+1)) none=some (.v (.t ((N die).drop (k+1)))):=by
  simp only[slD];rw[show(k:Int)+1=((k+1:Nat):Int)by omega,uE _ (k+1) (by rw[yF];omega)]
 have c5:slD (y6 die) none (some 1)=some (.v (.t ((N die).take 1))):=by
  simp only[slD];rw[show(1:Int)=((1:Nat):Int)by rfl,QZ _ 1 (by rw[yF];omega)]
 have c3:=wU ((N die).take k) [x] (by simp[yF];omega);have c4:=wU ((N die).take k++[x]) ((N die).drop (k+1)) (by simp[yF];omega);have s4:subD (.int 4) (.int (die.length:Nat))=some (.v (.int ((4-die.length:Nat):Int))):=sub_nn (a:=4) (by omega);have m4:=Zx (.int 1) (4-die.length) (by omega);have c6:=wU (N die) (replicate (4-die.length) (.int 1)) (by simp[yF];omega);have b1:okD (.t ((N die).take k++[x]++(N die).drop (k+1)))/\ZT (.t ((N die).take k++[x]++(N die).drop (k+1)))=false:=by
  constructor
  ·refine⟨by simp[yF,cap];omega,λd hd=>?_⟩
   simp only[mem_append,mem_singleton]at hd;rcases hd with(hd|rfl)|hd
   ·exact zA6 d (List.mem_of_mem_take hd)
   ·exact ox.1
   ·exact zA6 d (List.mem_of_mem_drop hd)
  ·simp[ZT,ox.2]
 generalize (N die).take k++[x]++(N die).drop (k+1)=bt at b1 c4;have b2:okD (.t ((N die).take 1))/\ZT (.t ((N die).take 1))=false:=by
  constructor
  ·exact⟨by simp[yF,cap];omega,λd hd=>zA6 d (List.mem_of_mem_take hd)⟩
  ·have:¬2<=((N die).take 1).length:=by simp;omega
   simp only[ZT,decide_eq_false this,Bool.false_and]
 have b3:okD (.t (N die++replicate (4-die.length) (.int 1)))/\ZT (.t (N die++replicate (4-die.length) (.int 1)))=false:=by
  constructor
  ·refine⟨by simp[yF,cap];omega,λd hd=>?_⟩
   rcases mem_append.mp hd with hd|hd
   ·exact zA6 d hd
   ·rw[List.eq_of_mem_replicate hd];rfl
  ·have:¬(N die++replicate (4-die.length) (D.int 1)).length<=3:=by simp[yF];omega
   simp only[ZT,decide_eq_false this,Bool.and_false,Bool.false_and]
 have b4:okD (.t [y6 die])/\ZT (.t [y6 die])=false:=⟨⟨zk,λd hd=>by rw[mem_singleton]at hd;subst hd;rfl⟩,rfl⟩;obtain⟨d,hd,hg⟩:=pick (ds:=[.t bt,.t ((N die).take 1),.t (N die++replicate (4-die.length) (.int 1)),.l (N die),.t [y6 die],.non,.int 0,.dic]) l3 u3;refine⟨d,p3,?_,hp3,?_⟩
 ·have lj:dE wH (.l (.cons (.bin .add (.bin .add (.sl (.var 1) .oN (.oS (.var 2))) (.t (.cons (.var 3) .nil))) (.sl (.var 1) (.oS (.bin .add (.var 2) (.c (.int 1)))) .oN)) (.cons (.sl (.var 1) .oN (.oS (.c (.int 1)))) (.cons (.bin .add (.var 1) (.bin .mul (.t (.cons (.c (.int 1)) .nil)) (.bin .sub (.c (.int 4)) (.cB .len (.cons (.var 1) .nil))))) (.cons (.cB .list (.cons (.var 1) .nil)) (.cons (.t (.cons (.var 1) .nil)) (.cons (.c .non) (.cons (.c (.int 0)) (.cons .dic .nil))))))))) [.par p2,.v (y6 die),.v (.int (k:Int)),.v x,.e]=.ok (.own [.t bt,.t ((N die).take 1),.t (N die++replicate (4-die.length) (.int 1)),.l (N die),.t [y6 die],.non,.int 0,.dic],[.par p2,.v (y6 die),.v (.int (k:Int)),.v x,.e]) :=
   JG (zA (yj (yj (x_sl (zD rfl) o_N (o_S (zD rfl)) c1) (yb (zA (zD rfl) zP) rfl zk) c3) (x_sl (zD rfl) (o_S (yj (zD rfl) x_c rfl)) o_N c2) c4) (zA (x_sl (zD rfl) o_N (o_S x_c) c5) (zA (yj (zD rfl) (yj (r1:=.v (.t [.int 1])) (r2:=.v (.int ((4-die.length:Nat):Int))) (yb (zA x_c zP) rfl zk) (yj x_c (Jr (zA (zD rfl) zP) (JW die)) s4) m4) c6) (zA (Jr (zA (zD rfl) zP) rfl) (zA (yb (zA (zD rfl) zP) rfl zk) (zA x_c (zA x_c (zA rfl zP)))))))) rfl (by simp[cap])
  exact yU (za (yw (zp (F:=zE) rfl rfl (Jr (zA (zD rfl) zP) (JW die)) e1 rfl) rfl) (za (yw (Qk (JG (ds:=odd8) (zA x_c (zA x_c (zA (x_neg x_c) (zA x_c (zA x_c (zA x_c (zA (yb (zA x_c zP) rfl zk) (zA (yj x_c x_c pow30) zP)))))))) rfl (by simp[odd8,cap])) (zp (F:=zE) rfl rfl x_c e2 rfl) hi) rfl) (za (yw lj rfl) (zm (yV (Qk (Yr rfl rfl) (zp (F:=zE) rfl rfl x_c e3 rfl) hg)))))) rfl
 ·simp only[mem_cons,mem_nil_iff,or_false]at hd
  rcases hd with rfl|rfl|rfl|rfl|rfl|rfl|rfl|rfl
  ·exact b1
  ·exact b2
  ·exact b3
  ·exact⟨trivial,rfl⟩
  ·exact b4
  all_goals exact⟨trivial,rfl⟩
def zBB:z0 [.v (.exn "NoDie")]=.ok (.v (.str "die"),[.e]):=rfl
abbrev nm:D:=.t [.str "number"]
abbrev dm:D:=.t [.str "die"]
def ref_die:z1 [.v (.exn "NoDie")]=.ok (.v dm,[.e]) :=
 yU (za (yw (z7 (F:=z0) rfl (zD rfl) zBB) rfl) (za (jN (t_E (y8 (zD rfl) x_c rfl)) jO) (zm (yV (yb (zA (zD rfl) zP) rfl zk))))) rfl
def GM{d:D}(h:smD 3 d)(hl:∀ds,d≠.t ds):∃t,tyD d=some t/\Ze t Ty.tuple.s=false:=by
 cases d with
 |t ds=>exact absurd rfl (hl ds)|fn x=>simp[smD]at h|exn x=>simp[smD]at h|_=>exact⟨_,rfl,rfl⟩
def ival:D->Int
 | .int i=>i|_=>0
def rgB(m:Nat):D->Bool
 | .t ds=>Ys (.t ds)&&ds.all λd=>decide (ival d<m)|_=>false
def zBC{lo hi:Int}{d:D}(h:Y8 lo hi d=true):∃i:Int,d=.int i/\lo<=i/\i<=hi:=by
 cases d with
 |int i=>simp only[Y8,Bool.and_eq_true,decide_eq_true_eq]at h;exact⟨i,rfl,h.1,h.2⟩|_=>cases h
def e_rgo(d:D)(h:okD d)(m:Nat):zx [.v d,.v (.int (m:Nat))]=.ok (.v (.bl (rgB m d)),O2):=by
 have c1:dE wA (.call 0 (.ev (.var 0) .nil)) [.v d,.v (.int (m:Nat))]=.ok (.v (.bl (Ys d)),[.v d,.v (.int (m:Nat))]):=z7 (F:=jv) rfl (zD rfl) (ua d h);cases d with
 |t ds =>
  cases hb:Ys (.t ds)with
  |false =>
   rw[hb]at c1;have:rgB m (.t ds)=false:=by show(Ys (.t ds)&&_)=false;rw[hb];rfl
   rw[this];exact yU (zm (yV (zBs c1))) rfl
  |true =>
   rw[hb]at c1;have:rgB m (.t ds)=ds.all λd=>decide (ival d<m):=by show(Ys (.t ds)&&_)=_;rw[hb];rfl
   rw[this];have hin:∀x∈ds,∃i:Int,x=.int i:=λx hx=>by
    have:ds.all (Y8 0 2)=true:=by
     simp only[Ys,Bool.and_eq_true]at hb;exact hb.2
    obtain⟨i,e,_⟩:=zBC (all_eq_true.mp this x hx);exact⟨i,e⟩
   exact yU (zm (yV (x_and1 c1 (Jr (zA (wT (vs:=[.int (m:Nat)]) (λd=>.bl (decide (ival d<m))) (i_T (zD rfl) rfl) rfl (λd hd=>by
    obtain⟨i,rfl⟩:=hin d hd;exact⟨_,y8 (zD rfl) (zD rfl) (show ltD (.int i) (.int (m:Int))=some (.v (.bl (decide (i<(m:Int)))))from rfl),rfl⟩) h.1 rfl) zP) (uD rfl))))) rfl
 |fn x=>cases h|exn x=>cases h|_=>exact yU (zm (yV (zBs c1))) rfl
end My
namespace My
open PySem L2 DV SM TM
def eq_strs(a b:Str):eqG (.str a) (.str b)=some (.v (.bl (decide (a=b)))):=by simp[eqG,eqF]
def wd0:(("0":String):Str)=wd 0:=by decide +kernel
def wd_inj{a b:Nat}(h:wd a=wd b):a=b:=by
 have:(48+a)=48+b:=by
  have e:=congrArg (λs:Str=>s.cps.toList) h;simpa[wd]using e
 omega
def asc_wd{n:Nat}(h:n<10):Txt.isascii (wd n)=true:=(by decide +kernel:∀n,n<10->Txt.isascii (wd n)=true) n h
def dig_wd{n:Nat}(h:n<10):Txt.isdigit (wd n)=true:=(by decide +kernel:∀n,n<10->Txt.isdigit (wd n)=true) n h
def len_wd(n:Nat):DV.lenT [.str (wd n)]=some (.v (.int 1)):=by
 simp only[DV.lenT];rw[if_pos (by show 1<=sizeLine;decide +kernel)];rfl
def ix_wd(n:Nat):DV.ixT (.str (wd n)) (.int 0)=some (.v (.str (wd n))):=by
 simp only[DV.ixT];rw[if_pos (by show 1<=sizeLine;decide +kernel)];rfl
def int_wd{n:Nat}(h:n<10):DV.intT [.str (wd n)]=some (.v (.int (n:Nat))):=by
 have e:=PySem.W.KIN.num_reads (n:=(n:Int)) (by omega) (by omega);rw[zBv h]at e;simp only[DV.intT];rw[if_pos (by show 1<=640;decide),e];rfl
def str_wd{n:Nat}(h:n<10):strF [.int (n:Nat)]=some (.v (.str (wd n))):=by
 simp only[strF];rw[if_pos,zBv h];have:(n:Int).natAbs=n:=by omega
 rw[this];exact Nat.lt_of_le_of_lt (Nat.log2_le_self n) (by omega)
def Z5{n:Nat}(h:n<10):yo [.v (.str (wd n))]=.ok (.v (.int (n:Nat)),O1):=by
 have t2:dT wB (.tAnd (.tE (.cmp .eq (.ixT (.var 0) (.c (.int 0))) (.c (.str "0")))) (.tE (.cmp .ne (.var 0) (.c (.str "0"))))) [.v (.str (wd n))]=.ok (false,[.v (.str (wd n))]):=by
  by_cases h0:n=0
  ·subst h0
   exact QS (t_E (y8 (x_ixT (zD rfl) x_c (ix_wd 0)) x_c (show eqG (.str (wd 0)) (.str "0")=some (.v (.bl true))by rw[wd0];exact eq_str _))) (t_E (y8 (zD rfl) x_c (show neG (.str (wd 0)) (.str "0")=some (.v (.bl false))by rw[wd0];exact ne_str _)))
  ·exact zBu (t_E (y8 (x_ixT (zD rfl) x_c (ix_wd n)) x_c (show eqG (.str (wd n)) (.str "0")=some (.v (.bl false))by rw[wd0,eq_strs,decide_eq_false λz=>h0 (wd_inj z)])))
 exact yU (za (jN (uf (ja (t_E (x_asc (zD rfl) (asc_wd h))) rfl) (uf (ja (t_E (x_dig (zD rfl) (dig_wd h))) rfl) (t_E (y8 (Jr (zA (zD rfl) zP) (len_wd n)) QM rfl)))) jO) (za (jN t2 jO) (zm (yV (Jr (zA (zD rfl) zP) (int_wd h)))))) rfl
abbrev wdD(l:List Nat):List D:=(l.map wd).map D.str
def Qd(l:List Nat):(wdD l).length=l.length:=by simp
def unw:D->D
 | .str z=>.int ((z.cps.toList.headD 0:Int)-48)|d=>d
def inw:D->D
 | .int i=>.str (wd i.toNat)|d=>d
def zBy(n:Nat):unw (.str (wd n))=.int (n:Nat):=by
 show D.int (((48+n:Nat):Int)-48)=_
 congr 1;omega
theorem zBz:∀l:List Nat,(wdD l).map unw=N l
 | []=>rfl
 |n::l=>by
  show unw (.str (wd n))::(wdD l).map unw=.int (n:Nat)::N l
  rw[zBy,zBz l]
theorem N_inw:∀l:List Nat,(N l).map inw=wdD l
 | []=>rfl
 |n::l=>by
  show inw (.int (n:Nat))::(N l).map inw=.str (wd n)::wdD l
  rw[N_inw l];rfl
def small{l:List Nat}(hl:l.length<=20):(N l).length<=cap/\(wdD l).length<=cap:=by rw[yF,Qd];simp only[cap];omega
def ZA{l:List Nat}(hl:l.length<=20)(h:∀n∈l,n<10):yd [.v (.l (wdD l))]=.ok (.v (.t (N l)),O1) :=
 yU (zm (yV (Jr (zA (wT (vs:=[]) unw (i_L (zD rfl) rfl) rfl (λd hd=>by
  obtain⟨z,hz,rfl⟩:=mem_map.mp hd;obtain⟨n,hn,rfl⟩:=mem_map.mp hz;exact⟨_,z7 (F:=yo) rfl (zD rfl) (Z5 (h n hn)),(zBy n).symm⟩) (small hl).2 (zBz l)) zP) rfl))) rfl
def shown{fs:List FI}{E E1:zQ}{xs:List Str}{a:_}{l:List Nat}(hl:l.length<=20)(h:∀n∈l,n<10)(he:dE fs a E=.ok (.v (.t (N l)),E1))(hc:wv E1 []=.ok (([]:List D).map AR.tmp)) :
  dE fs (.comp 1 xs [] [] (.iT a) (.n 0) .tTr (.cB .strT (.cons (.var 0) .nil))) E=.ok (.own (wdD l),E1) :=
 wT (vs:=[]) inw (i_T he rfl) hc (λd hd=>by
  obtain⟨n,hn,rfl⟩:=Zy hd;exact⟨_,Jr (zA (zD rfl) zP) (str_wd (h n hn)),rfl⟩) (small hl).1 (N_inw l)
def Yt{l:List Nat}(hl:l.length<=20)(h:∀n∈l,n<10):yQ [.v (.t (N l))]=.ok (.own (wdD l),O1) :=
 yU (zm (yV (shown hl h (zD rfl) rfl))) rfl
def Z6{w:Str}{l:List Nat}(hl:l.length<=20):Z7 (.l [.str w]) (.l (wdD l))=some (.own ((w::l.map wd).map D.str)):=by
 rw[vT _ _ (by rw[Qd];simp;omega)];rfl
def Yu{w:Str}{l:List Nat}(hw:Wd w)(hl:l.length<=20)(h:∀n∈l,n<10):Wh (.str " ") (.l ((w::l.map wd).map D.str))=some (.v (.str (yW w l))):=by
 rw[sg32,zA5 (join_ok hw h (by omega)),QW]
def Jm{w:Str}{l:List Nat}(hw:Wd w)(hl:l.length<=20)(h:∀n∈l,n<10):yh [.v (.str w),.v (.t (N l))]=.ok (.v (.str (yW w l)),O2) :=
 yU (zm (yV (x_joi x_c (yj (JG (zA (zD rfl) zP) rfl zk) (z7 (F:=yQ) rfl (zD rfl) (Yt hl h)) (Z6 hl)) (Yu hw hl h)))) rfl
def zBD{w:Str}{l:List Nat}(hw:Wd w)(hl:l.length<=20)(h:∀n∈l,n<10):w6 (.str (yW w l)) (.str " ")=some (.own (.str w::wdD l)):=by
 rw[sg32,Wx rfl (by have:=JH hw h;omega),uX hw h];rfl
def Yv{w:Str}{l:List Nat}(hw:Wd w)(hl:l.length<=20)(h:∀n∈l,n<10):y0 [.v (.str w),.v (.str (yW w l))]=.ok (.v (.t (N l)),O2) :=
 yU (za (s_star (z:=w) (ts:=l.map wd) (x_spl (zD rfl) x_c (zBD hw hl h)) rfl rfl rfl) (zm (yV (zBt (t_E (y8 (zD rfl) (zD rfl) (eq_str w))) (z7 (F:=yd) rfl (Yr rfl rfl) (ZA hl h)))))) rfl
def txt(die row:List Nat):Str:=yW "die" die++sg 10++yW "row" row
structure DR(die row:List Nat):Prop where
 d:Die die
 l:row.length<=20
 r:∀x∈row,x<die.length
section
variable{die row:List Nat}
def DR.d3(h:DR die row):die.length<=3:=by rcases h.d.1 with e|e<;>omega
def DR.rw(h:DR die row):Row row:=⟨h.l,λx hx=>by have:=h.r x hx;have:=h.d3;omega⟩
def DR.w(h:DR die row):∀n∈die,n<10:=λn hn=>by have:=h.d.2 n hn;omega
def DR.s(h:DR die row):∀n∈row,n<10:=λn hn=>by have:=h.rw.le n hn;omega
def rg_ok(h:DR die row):rgB die.length (yY row)=true:=by
 show(Ys (yY row)&&_)=true
 rw[row_B h.rw,Bool.true_and];refine all_eq_true.mpr λd hd=>?_
 obtain⟨n,hn,rfl⟩:=Zy hd;have:=h.r n hn;exact decide_eq_true (show((n:Nat):Int)<(die.length:Nat)by omega)
def J2(h:DR die row):zBk (.str (yW "die" die)) (.str "\n")=some (.v (.str (yW "die" die++sg 10)))/\zBk (.str (yW "die" die++sg 10)) (.str (yW "row" row))=some (.v (.str (txt die row))):=by
 have h1:=JH ZR h.w;have h2:=JH ZS h.s;have h3:=h.d3;have h4:=h.l;have e1:(sg 10).length=1:=rfl;have e2:(yW "die" die++sg 10).length=(yW "die" die).length+1:=by
  show((yW "die" die).cps++#[10]).size=(yW "die" die).cps.size+1
  simp
 exact⟨by rw[sg10];exact QX (by omega),QX (by omega)⟩
def txt_len(h:DR die row):(txt die row).length<=1000:=by
 have h1:=JH ZR h.w;have h2:=JH ZS h.s;have h3:=h.d3;have h4:=h.l;have:(txt die row).length=(yW "die" die).length+1+(yW "row" row).length:=by
  show(((yW "die" die).cps++#[10])++(yW "row" row).cps).size=(yW "die" die).cps.size+1+(yW "row" row).cps.size
  simp
 omega
def e_shown(h:DR die row):zz [.v (y6 die),.v (yY row)]=.ok (.v (.str (txt die row)),O2) :=
 yU (za (zBo (z7 (F:=ya) rfl (zD rfl) (ZU _ (Qc h.d) (die_B h.d)))) (za (jN (ja (t_E (yB (F:=zx) rfl (zD rfl) (Jr (zA (zD rfl) zP) (JW die)) (rg_ok h▸e_rgo (yY row) (zBx h.rw) die.length))) rfl) jO) (zm (yV (zA4 (zA4 (yB (F:=yh) rfl x_c (zD rfl) (Jm ZR (by have:=h.d3;omega) h.w)) x_c (J2 h).1) (yB (F:=yh) rfl x_c (zD rfl) (Jm ZS h.l h.s)) (J2 h).2))))) rfl
def Qe(h:DR die row):ye [.v (y6 die),.v (yY row)]=.ok (.v (.str (txt die row)),O2) :=
 yU (zm (yV (zA4 (zA4 (x_joi x_c (yj (JG (zA x_c zP) rfl zk) (shown (by have:=h.d3;omega) h.w (zD rfl) rfl) (Z6 (by have:=h.d3;omega))) (Yu ZR (by have:=h.d3;omega) h.w)) x_c (J2 h).1) (x_joi x_c (yj (JG (zA x_c zP) rfl zk) (shown h.l h.s (zD rfl) rfl) (Z6 h.l)) (Yu ZS h.l h.s)) (J2 h).2))) rfl
def txt_cut(h:DR die row):w6 (.str (txt die row)) (.str "\n")=some (.own [.str (yW "die" die),.str (yW "row" row)]):=by
 rw[sg10,Wx rfl (txt_len h)];unfold txt;rw[uY (Ww ZR h.w) (Ww ZS h.s)];rfl
def e_read(h:DR die row):yp [.v (.str (txt die row))]=.ok (.v (.t [y6 die,yY row]),O1):=by
 have g:=e_rgo (yY row) (zBx h.rw) die.length;rw[rg_ok h]at g;have d:=JV (y6 die) (Qc h.d);rw[die_B h.d]at d;have c:=txt_cut h;have r1:=Yv ZR (by have:=h.d3;omega:die.length<=20) h.w;have r2:=Yv ZS h.l h.s;generalize yW "die" die=l1 at c r1;generalize yW "row" row=l2 at c r2;refine yU (E1:=[.v (.str (txt die row)),.v (.l [.str l1,.str l2]),.v (y6 die),.v (yY row)]) (za (E1:=[.v (.str (txt die row)),.e,.e,.e]) (jN (ja (t_E (x_is (zD rfl) rfl rfl)) rfl) jO) ?_) rfl;refine za (E1:=[.v (.str (txt die row)),.own [.str l1,.str l2],.e,.e]) (yw (x_spl (zD rfl) x_c c) rfl) ?_;refine za (E1:=[.v (.str (txt die row)),.v (.l [.str l1,.str l2]),.v (y6 die),.e]) (yw (yB (F:=y0) rfl x_c (Qk (r2:=.v (.int 0)) (r:=.v (.str l1)) (Yr rfl rfl) x_c rfl) r1) rfl) ?_;refine za (E1:=[.v (.str (txt die row)),.v (.l [.str l1,.str l2]),.v (y6 die),.e]) (jN (ja (t_E (z7 (F:=jM) rfl (zD rfl) d)) rfl) jO) ?_;refine za (E1:=[.v (.str (txt die row)),.v (.l [.str l1,.str l2]),.v (y6 die),.v (yY row)]) (yw (zBt (t_E (y8 (Jr (zA (zD rfl) zP) rfl) x_c rfl)) (yB (F:=y0) rfl x_c (Qk (r2:=.v (.int 1)) (r:=.v (.str l2)) (zD rfl) x_c rfl) r2)) rfl) ?_;refine za (E1:=[.v (.str (txt die row)),.v (.l [.str l1,.str l2]),.v (y6 die),.v (yY row)]) (jN (ja (t_E (yB (F:=zx) rfl (zD rfl) (Jr (zA (zD rfl) zP) (JW die)) g)) rfl) jO) ?_;refine za (E1:=[.v (.str (txt die row)),.v (.l [.str l1,.str l2]),.v (y6 die),.v (yY row)]) (jN (t_E (y8 (Jr (zA (zD rfl) zP) rfl) x_c rfl)) jO) ?_;exact zm (yV (yb (zA (zD rfl) (zA (zD rfl) zP)) rfl jb))
def e_told(h:DR die row):zj [.v (y6 die),.v (yY row)]=.ok (.v (.str (txt die row)),O2) :=
 yU (zm (s_tryO (zm (yV (yB (F:=zz) rfl (zD rfl) (zD rfl) (e_shown h)))))) rfl
def uH(d e:D)(h:okD d)(hb:ZT d=false):zj [.v d,.v e]=.ok (.v dm,O2) :=
 yU (zm (zBr (zm (zBq (x_cX2 (F:=zz) rfl (zD rfl) (zD rfl) (QR (b_exc (s_dropX (x_cX1 (F:=ya) rfl (zD rfl) (n_die d h hb)))) rfl)))) rfl rfl (zm (yV (z7 (F:=z1) rfl (zD rfl) ref_die))))) rfl
def uI(hd:Die die)(e:D)(h:okD e)(hb:rgB die.length e=false):zj [.v (y6 die),.v e]=.ok (.v rm,O2) :=
 yU (zm (zBr (zm (zBq (x_cX2 (F:=zz) rfl (zD rfl) (zD rfl) (QR (za (zBo (z7 (F:=ya) rfl (zD rfl) (ZU _ (Qc hd) (die_B hd)))) (b_exc (vR (ja (t_E (yB (F:=zx) rfl (zD rfl) (Jr (zA (zD rfl) zP) (JW die)) (hb▸e_rgo e h die.length))) rfl) (zm QP)))) rfl)))) rfl rfl (zm (yV (z7 (F:=z1) rfl (zD rfl) ref_row))))) rfl
end
section
variable{die row:List Nat}
def eqb_two(a b:List Nat):eqb 20 (.t [.t (N a),.t (N b)])=true:=by
 simp only[eqb,all_cons,List.all_nil,Bool.and_true,Bool.and_eq_true];exact⟨all_eq_true.mpr λd hd=>by obtain⟨n,_,rfl⟩:=Zy hd;rfl,all_eq_true.mpr λd hd=>by obtain⟨n,_,rfl⟩:=Zy hd;rfl⟩
def ne_tup(ds:List D)(h:eqb 20 (.t ds)=true):neG (.t ds) (.t ds)=some (.v (.bl false)):=by
 have h1:∀d∈ds,eqb 19 d=true:=by simp only[eqb]at h;exact all_eq_true.mp h
 rw[ne_tups h1 h1,deqs_refl 19 ds h1];rfl
def Qf{l:List Nat}:∀d∈N l,∃r,yL [.v d]=.ok (r,O1)/\r.d=.bl true:=λd hd=>by
 obtain⟨n,_,rfl⟩:=Zy hd;exact⟨_,vW _,rfl⟩
def Qg(h:DR die row):yi [.v (y6 die),.v (yY row)]=.ok (.v (.bl true),O2):=by
 have t:=e_told h;have x:=Qe h;have r:=e_read h;have hl:=h.l;have h3:=h.d3;have ad:Z7 (y6 die) (yY row)=some (.v (.t (N die++N row))):=wU _ _ (by rw[yF,yF];omega);generalize txt die row=z at t x r;refine yU (E1:=[.v (y6 die),.v (yY row),.v (.str z),.v (.t [y6 die,yY row])]) (za (E1:=[.v (y6 die),.v (yY row),.v (.str z),.e]) (yw (yB (F:=ye) rfl (zD rfl) (zD rfl) x) rfl) ?_) rfl;refine za (E1:=[.v (y6 die),.v (yY row),.v (.str z),.e]) (jN (t_E (y8 (yB (F:=zj) rfl (zD rfl) (zD rfl) t) (zD rfl) (ne_str z))) jO) ?_;refine za (E1:=[.v (y6 die),.v (yY row),.v (.str z),.v (.t [y6 die,yY row])]) (yw (z7 (F:=yp) rfl (zD rfl) r) rfl) ?_;refine za (E1:=[.v (y6 die),.v (yY row),.v (.str z),.v (.t [y6 die,yY row])]) (jN (uf (ja (t_E (x_is (zD rfl) rfl rfl)) rfl) (uf (t_E (y8 (zD rfl) (yb (zA (zD rfl) (zA (zD rfl) zP)) rfl jb) (ne_tup _ (eqb_two die row)))) (ja (t_E (Jr (zA (wT (vs:=[]) (λd=>.bl ((λ_=>true) d)) (i_T (zD rfl) rfl) rfl (λd hd=>by
  rcases mem_cons.mp hd with rfl|hd
  ·exact⟨_,x_is (zD rfl) rfl rfl,rfl⟩
  ·rw[mem_singleton.mp hd];exact⟨_,x_is (zD rfl) rfl rfl,rfl⟩) jb rfl) zP) (show allD [.l [.bl true,.bl true]]=some (.v (.bl true))from rfl))) rfl))) jO) ?_
 exact zm (yV (Jr (zA (wT (vs:=[]) (λd=>.bl ((λ_=>true) d)) (i_T (yj (Qk (r2:=.v (.int 0)) (r:=.v (y6 die)) (zD rfl) x_c rfl) (Qk (r2:=.v (.int 1)) (r:=.v (yY row)) (zD rfl) x_c rfl) ad) rfl) rfl (λd hd=>by
  rcases mem_append.mp hd with hd|hd
  ·obtain⟨r,e1,e2⟩:=Qf d hd;exact⟨r,z7 (F:=yL) rfl (zD rfl) e1,e2⟩
  ·obtain⟨r,e1,e2⟩:=Qf d hd;exact⟨r,z7 (F:=yL) rfl (zD rfl) e1,e2⟩) (by rw[length_append,yF,yF];simp only[cap];omega) rfl) zP) (uD (f:=λ_=>true) (b:=true) (all_eq_true.mpr λ_ _=>rfl))))
end
def zBE{fs:List FI}{E E1:zQ}{k i:Nat}{F:MF}{r':R}{p p':List D}(h0:fiF fs k=F)(hE:E[i]?=some (.own p))(h2:F [.par p]=.ok (r',[.par p']))(h3:E.set i (.own p')=E1):dE fs (.call k (.lend i .nil)) E=.ok (r',E1):=by
 subst h0 h3;have hi:i<E.length:=(List.getElem?_eq_some_iff.mp hE).1;have hs:(E.set i .e)[i]?=some .e:=by simp[hi]
 simp only[dE,dG,jd,zn,hE,jw,Bool.false_eq_true,if_false,zH,Slot.list?,h2,zI,hs,Slot.put,set_set]
abbrev E7(v s1 s2 s3 s4 s5 s6:DV.Slot):zQ:=[v,s1,s2,s3,s4,s5,s6]
def P7:List D:=[.t [y6 [1,1],yY []],.t [y6 [9,9,9],.t (replicate 20 (.int 2))],.t [y6 [1,9],yY [0]]]
def P7_ok:∀d∈P7,∃die row,d=.t [y6 die,yY row]/\DR die row:=by
 intro d hd;simp only[P7,mem_cons,mem_nil_iff,or_false]at hd;rcases hd with rfl|rfl|rfl
 ·exact⟨[1,1],[],rfl,⟨.inl rfl,by decide⟩,by decide,by decide⟩
 ·exact⟨[9,9,9],replicate 20 2,by simp only[yY,N_rep];rfl,⟨.inr rfl,by decide⟩,by decide,by decide⟩
 ·exact⟨[1,9],[0],rfl,⟨.inl rfl,by decide⟩,by decide,by decide⟩
def first7(v:DV.Slot):∃t1 t2,DV.vD (gT [1,2]) (dB Jk Zt) P7 (E7 v .e .e .e .e .e .e)=.ok (.nx,E7 v t1 t2 .e .e .e .e)/\wV t1=true/\wV t2=true:=by
 obtain⟨E',f1,t1,t2,hE,q1,q2⟩:=Jz (tg:=gT [1,2]) (body:=dB Jk Zt) (λ_ E=>∃t1 t2,E=E7 v t1 t2 .e .e .e .e/\wV t1=true/\wV t2=true) P7 0 (E7 v .e .e .e .e .e .e) ⟨_,_,rfl,rfl,rfl⟩ (λi d q E ⟨t1,t2,hE,q1,q2⟩=>by
  obtain⟨die,row,rfl,h⟩:=P7_ok d (mem_of_getElem? q);refine⟨E7 v (.v (y6 die)) (.v (yY row)) .e .e .e .e,E7 v (.v (y6 die)) (.v (yY row)) .e .e .e .e,?_,?_,_,_,rfl,rfl,rfl⟩
  ·subst hE
   cases t1<;>first|(cases q1;done)|(cases t2<;>first|rfl|(cases q2))
  ·exact zm (jN (ja (t_E (yB (F:=yi) rfl (zD rfl) (zD rfl) (Qg h))) rfl) jO))
 subst hE;exact⟨t1,t2,f1,q1,q2⟩
def In7(v:D)(E:zQ):Prop:=∃s1 s2 s3 s4 s5 s6,E=E7 (.v v) s1 s2 s3 s4 s5 s6/\wV s1=true/\wV s2=true/\wV s3=true/\wV s4=true/\wV s5=true/\wV s6=true
def rg_no{n:Nat}{d:D}(h:Ys d=false):rgB n d=false:=by
 cases d with
 |t ds=>show(Ys (.t ds)&&_)=false;rw[h];rfl|_=>rfl
def two_ok{row:List Nat}(hr:Row row):okD (yY (row.take 19++[2]))/\rgB 2 (yY (row.take 19++[2]))=false:=by
 refine⟨⟨by rw[yF];simp[cap];omega,zA6⟩,?_⟩;show(Ys _&&(N (row.take 19++[2])).all λd=>decide (ival d<((2:Nat):Int)))=false;rw[zA2,List.all_append];have:((N [2]).all λd=>decide (ival d<((2:Nat):Int)))=false:=by decide
 rw[this];simp
def cell7(v:D)(c:Int)(s1 s2 s4 s5 s6:DV.Slot)(h1:wV s1=true)(h2:wV s2=true)(h4:wV s4=true)(h5:wV s5=true)(h6:wV s6=true) :
  ∃E',dB Jk Zs (E7 (.v v) s1 s2 (.v (.int c)) s4 s5 s6)=.ok (.nx,E')/\In7 v E':=by
 obtain⟨p0,e0,hp0⟩:=Zz c;obtain⟨die,p1,e1,hp1,hd⟩:=Z3 p0 hp0;have hdl:die.length=2\/die.length=3:=hd.1;obtain⟨row,p2,e2,hp2,rl,rx⟩:=zA9 p1 hp1 (s:=die.length) (m:=20) (by omega) (by omega);have h:DR die row:=⟨hd,rl,rx⟩;obtain⟨bd,p3,e3,hp3,k3,z3⟩:=Z4 p2 hp2 hd;obtain⟨br,p4,e4,hp4,k4,z4⟩:=zBA p3 hp3 h.rw;obtain⟨o5,z5⟩:=two_ok h.rw;have t5:=uI (die:=[1,1]) ⟨.inl rfl,by decide⟩ _ o5 z5;have ad:Z7 (yY (row.take 19)) (.t [.int 2])=some (.v (yY (row.take 19++[2]))):=add_row (b:=[2]) (by simp;omega);refine⟨E7 (.v v) (.v (y6 die)) (.v (yY row)) (.v (.int c)) (.own p4) (.v bd) (.v br),?_,_,_,_,_,_,_,rfl,rfl,rfl,rfl,rfl,rfl,rfl⟩;refine za (E1:=E7 (.v v) s1 s2 (.v (.int c)) (.own p0) s5 s6) (yw (z7 (F:=yR) rfl (zD rfl) e0) (uC rfl h4 rfl)) ?_;refine za (E1:=E7 (.v v) (.v (y6 die)) s2 (.v (.int c)) (.own p1) s5 s6) (yw (zBE (F:=yq) rfl rfl e1 rfl) (uC rfl h1 rfl)) ?_;refine za (E1:=E7 (.v v) (.v (y6 die)) (.v (yY row)) (.v (.int c)) (.own p2) s5 s6) (yw (zAx (F:=yt) rfl rfl (Jr (zA (zD rfl) zP) (JW die)) x_c e2 rfl) (uC rfl h2 rfl)) ?_;refine za (E1:=E7 (.v v) (.v (y6 die)) (.v (yY row)) (.v (.int c)) (.own p4) (.v bd) (.v br)) (s_par (r1:=.v bd) (r2:=.v br) (zA (uB (F:=yr) rfl rfl (zD rfl) e3 rfl) (zA (uB (F:=yu) rfl rfl (zD rfl) e4 rfl) zP)) ?_) ?_
 ·cases s5<;>first|(cases h5;done)|(cases s6<;>first|rfl|(cases h6))
 refine za (jN (uf (ja (t_E (yB (F:=yi) rfl (zD rfl) (zD rfl) (Qg h))) rfl) (uf (t_E (y8 (yB (F:=zj) rfl (zD rfl) (zD rfl) (uH _ _ k3 z3)) (yb (zA x_c zP) rfl zk) rfl)) (t_E (y8 (yB (F:=zj) rfl (zD rfl) (zD rfl) (uH _ _ k3 z3)) (yb (zA x_c zP) rfl zk) rfl)))) jO) ?_;exact zm (jN (uf (t_E (y8 (yB (F:=zj) rfl (zD rfl) (zD rfl) (uI hd _ k4 (rg_no z4))) (yb (zA x_c zP) rfl zk) rfl)) (t_E (y8 (yB (F:=zj) rfl (yb (ds:=[.int 1,.int 1]) (zA x_c (zA x_c zP)) rfl jb) (yj (x_sl (zD rfl) o_N (o_S x_c) (sl_t row 19)) (yb (zA x_c zP) rfl zk) ad) t5) (yb (zA x_c zP) rfl zk) rfl))) jO)
def math70(ns:List Int)(hns:ns.length<=63):∃outs,m_law [.v (.l (ns.map D.int))]=.ok (.v (.bl true),outs):=by
 obtain⟨c,e2⟩:=Y9 ns;have hcut:Z8 (ns.map D.int) (some 1) (some 10)=((ns.drop (HT.sIx ns.length 0 (some 1))).take (HT.sIx ns.length ns.length (some 10)-HT.sIx ns.length 0 (some 1))).map D.int:=by
  unfold Z8;simp[map_drop,map_take]
 generalize hk:(ns.drop (HT.sIx ns.length 0 (some 1))).take (HT.sIx ns.length ns.length (some 10)-HT.sIx ns.length 0 (some 1))=k at hcut;have hkl:k.length<=63:=by rw[<- hk];simp;omega
 have c1:slD (.l (ns.map D.int)) (some 1) (some 10)=some (.own (k.map D.int)):=by simp only[slD,hcut]
 have c2:=vT [.int c] (k.map D.int) (by simp;omega);generalize hv:D.l (ns.map D.int)=v at e2 c1;obtain⟨w1,w2,f0,g1,g2⟩:=first7 (.v v);obtain⟨E',f1,u1,u2,u3,u4,u5,u6,hE,_⟩:=Jz (tg:=gN 3) (body:=dB Jk Zs) (λ_ E=>In7 v E) ([.int c]++k.map D.int) 0 (E7 (.v v) w1 w2 .e .e .e .e) ⟨_,_,_,_,_,_,rfl,g1,g2,rfl,rfl,rfl,rfl⟩
  (λi d q E ⟨s1,s2,s3,s4,s5,s6,hE,h1,h2,h3,h4,h5,h6⟩=>by
   obtain⟨x,rfl⟩:∃x:Int,d=.int x:=by
    have:=mem_of_getElem? q;rcases mem_append.mp this with m|m
    ·exact⟨c,mem_singleton.mp m⟩
    ·obtain⟨x,_,rfl⟩:=mem_map.mp m;exact⟨x,rfl⟩
   obtain⟨E2,f1,f2⟩:=cell7 v x s1 s2 s4 s5 s6 h1 h2 h4 h5 h6;refine⟨E7 (.v v) s1 s2 (.v (.int x)) s4 s5 s6,E2,?_,f1,f2⟩;subst hE;cases s3<;>first|rfl|(cases h3))
 subst hE;have m4:=Zx (.int 2) 20 (by omega);have tw:dE Jk (.bin .mul (.t (.cons (.c (.int 2)) .nil)) (.c (.int 20))) (E7 (.v v) .e .e .e .e .e .e)=.ok (.v (.t (replicate 20 (.int 2))),E7 (.v v) .e .e .e .e .e .e):=yj (r1:=.v (.t [.int 2])) (r2:=.v (.int ((20:Nat):Int))) (yb (zA x_c zP) rfl zk) x_c m4;refine⟨_,yU (r:=.v (.bl true)) (E1:=E7 (.v v) u1 u2 u3 u4 u5 u6) ?_ rfl⟩;show dB Jk (.bSeq (.sForL _ _ Zt) (.bSeq (.sForL _ _ Zs) (.bOne _))) (E7 (.v v) .e .e .e .e .e .e)=_;exact za (zBp (JG (ds:=P7) (zA (yb (zA (yb (zA x_c (zA x_c zP)) rfl jb) (zA (yb zP rfl vS) zP)) rfl jb) (zA (yb (zA (yb (zA x_c (zA x_c (zA x_c zP))) rfl Qb) (zA tw zP)) rfl jb) (zA (yb (zA (yb (zA x_c (zA x_c zP)) rfl jb) (zA (yb (zA x_c zP) rfl zk) zP)) rfl jb) zP))) rfl (by simp[P7,cap])) rfl f0) (za (zBp (yj (JG (zA (yB (F:=yI) rfl (zD rfl) x_c e2) zP) rfl zk) (x_sl (zD rfl) (o_S x_c) (o_S x_c) c1) c2) rfl f1) (zm (yV x_c)))
end My
namespace My
open PySem L2 DV
def txt_lk{K:PySem.W.Frag}{h:Heap}{mg:Str->Option Value}(X:K.In h)(G:h.Ns mainGlobals mg)(e:YD K=wants):Txt K mg :=
 have e1:=congrArg (λx:lkT=>x.1) e;have e2:=congrArg (λx:lkT=>x.2.1) e;have e3:=congrArg (λx:lkT=>x.2.2.1) e
 {n_ValueError:=YY X G (ix 0 e3),n_all:=YY X G (ix 1 e3),n_bool:=YY X G (ix 2 e3),n_int:=YY X G (ix 3 e3),n_isinstance:=YY X G (ix 4 e3),n_len:=YY X G (ix 5 e3),n_list:=YY X G (ix 6 e3),n_max:=YY X G (ix 7 e3),n_range:=YY X G (ix 8 e3),n_str:=YY X G (ix 9 e3),n_tuple:=YY X G (ix 10 e3),c_LEAST_SIGNS:=uW X G (ix 0 e2),c_LEAST_WEIGHT:=uW X G (ix 1 e2),c_MOST_FIGURES:=uW X G (ix 2 e2),c_MOST_SIGNS:=uW X G (ix 3 e2),c_MOST_THROWS:=uW X G (ix 4 e2),c_MOST_WEIGHT:=uW X G (ix 5 e2),f_is_whole:=yO X G (ix 0 e1),f_is_whole_within:=yO X G (ix 1 e1),f_die_good:=yO X G (ix 2 e1),f_sign_good:=yO X G (ix 3 e1),f_row_good:=yO X G (ix 4 e1),f_row_good_of:=yO X G (ix 5 e1),f_need_die:=yO X G (ix 6 e1),f_number_read:=yO X G (ix 7 e1),f_numbers_read:=yO X G (ix 8 e1),f_numbers_shown:=yO X G (ix 9 e1),f_line_shown:=yO X G (ix 10 e1),f_line_read:=yO X G (ix 11 e1),f_throws_shown:=yO X G (ix 12 e1),f_throws_read:=yO X G (ix 13 e1),f__law_cell_at:=yO X G (ix 14 e1),f__law_next:=yO X G (ix 15 e1),f__law_pen_of:=yO X G (ix 16 e1),f__law_draw:=yO X G (ix 17 e1),f__law_whole:=yO X G (ix 18 e1),f__law_kind_of:=yO X G (ix 19 e1),f__law_refused:=yO X G (ix 20 e1),f__law_die_of:=yO X G (ix 21 e1),f__law_no_die:=yO X G (ix 22 e1),f__law_row_of:=yO X G (ix 23 e1),f__law_no_row:=yO X G (ix 24 e1),f__law_text_of:=yO X G (ix 25 e1),f__law_told:=yO X G (ix 26 e1),f__law_right:=yO X G (ix 27 e1),f_law:=yO X G (ix 28 e1),cl:=cl_at X G (congrArg (λx:lkT=>x.2.2.2) e)}
end My
end
open PySem PySem.W PyProof.Rows
set_option maxRecDepth 100000 in
set_option maxHeartbeats 0 in
theorem PySem.Challenge.cw_throwruns_k70_throws_written_holds : PySem.Challenge.rw_throwruns_k70_throws_written.Holds := by
 w_on;refine holds_law My.hz λsaid=>?_
 refine holds_open (q:=My.q) (loose:=My.ls) (Xt:=λs=>xlAt My.q [] s&&recOk (RowW.records (OpenLaw.row PySem.Challenge.rw_throwruns_k70_throws_written).toRowW) s) (XP:=XL My.q []) (Yf:=λs=>My.YD (DV.wW s.heap My.as)) (Ya:=λ_=>My.wants) (YP:=(DV.uA My.as My.lkT My.YD My.wants).says) (N:=5946) My.hl (DV.uA My.as My.lkT My.YD My.wants).of (DV.uA My.as My.lkT My.YD My.wants).keeps (λs e=>xl_of s (Bool.and_eq_true_iff.mp e).1) XL.keeps (by rfl) (by rfl) (by rfl) (λs e=>recFacts_of (Bool.and_eq_true_iff.mp e).2) ?h4 ?h5 ?h6 ⟨rfl,rfl,rfl,rfl,rfl,by decide +kernel⟩ ?hw ?hc
 case h4=>rfl
 case h5=>first|assumption|decide +kernel
 case h6=>decide +kernel
 case hw=>w_witness2
 case hc=>exact DV.walkE (l:=PySem.Challenge.rw_throwruns_k70_throws_written) (x:="_law_script") My.math70 rfl rfl λw K mg fa h KX e G hmg=>My.law_fd hmg (My.txt_lk KX G e)
