import PyProof.Rows.All
import KE.KFromBytes
import KE.KSortTup
import KE.KIsAll
import KE.KIntText
import PyProof.StrCalls2
import PyProof.CollectIter
import PyProof.StrLawsTight
import PyProof.StrLawsJoin
import PyProof.InstStoreFacts
import PyProof.InstSpecial
import PyProof.FString
import OpenK.KCls
import PyProof.ListStr
import PyProof.StrReplace2
import PyProof.StrWalks
import PyProof.StrOps2
import PyProof.StrCalls6
import KE.IntTextLaws
import PyProof.StrLawsIn
import PyProof.StrLawsReplace
import PyProof.Rows.StrItems
import PySem.Challenge.RW_throwruns_k71_texts_that_write_none
set_option Elab.async false
set_option linter.all false
set_option genSizeOf false
set_option genSizeOfSpec false
set_option genInjectivity false
set_option maxRecDepth 100000
set_option maxHeartbeats 0
def DV.nf{P:Prop}(h:false=true):P:=absurd h Bool.false_ne_true
open List (mem_filter filterMap_cons mem_cons_self mem_cons_of_mem mem_cons mem_append mem_append_left getElem?_set_self getElem?_set_ne mem_filterMap mem_append_right append_nil nodup_cons of_mem_zip replicate length length_take mem_of_getElem? length_append length_map size_toArray filterMap_map length_drop all_cons any_cons reverse_cons replicate_succ flatten_cons foldl append_assoc map_cons forIn_cons sublist_cons_self nodup_append nil_append perm_append_comm sublist_append_right cons_append length_cons perm_middle zip_cons_cons lookup_cons all_eq_true mem_nil_iff getD_eq_getElem?_getD getElem?_eq_getElem getElem_toArray getElem_mem mem_map lookup mem_singleton isEmpty_iff filter_cons set_set length_nil cons_ne_nil mem_of_mem_drop map_id map_take map_drop map_append)
open Nat (lt_of_lt_of_le lt_irrefl ne_of_lt le_trans le_refl zero_le mul_comm not_lt le_succ)
open PySem.W (nsIn clsIn typeIn findIn specialIn takesIn codeIn keepIn fnOf excIn readsIn findCls instObj methodObj hideAll hideAll_get of_hideAll plainGet emptyDict mroIn cellsFrom_some codeRec_of callWith_K looks_findIn looks_mroIn kitOne kitCls looks_clsIn kia_one isNs_of_in mg_of)
open PySem.Heap (lt_size get?_push_of_some get?_push_size size_push)
noncomputable section
def qA:=@PySem.Heap.get?_push_of_some
def qB:=@PySem.wpAny_bind
def qC:=@PySem.wpAny_pure
def qD:=@List.mem_cons_of_mem
def qE:=@List.mem_cons_self
def qF:=@Bool.false_ne_true
def qG:=@List.getElem?_eq_some_iff
def qJ:=@Option.some.inj
def qK:=@List.mem_append_right
abbrev qH:=PySem.W.Frag
namespace L2
open PySem
def jy(s:Stmt):Arguments:=match s with
 | .FunctionDef _ a _ _ _ _ _ _ _ _=>a|_=>{posonlyargs:=[],args:=[],vararg:=none,kwonlyargs:=[],kw_defaults:=[],kwarg:=none,defaults:=[]}
def yW(s:Stmt):List Stmt:=match s with
 | .FunctionDef _ _ b _ _ _ _ _ _ _=>b|_=>[]
def zT(s:Stmt):Scope:=match s with
 | .FunctionDef _ _ _ _ _ _ sc _ _ _=>sc|_=>{kind:=.function,names:=[],isGenerator:=false,isCoroutine:=false}
end L2
namespace DV
open PySem L2
def yt(c:Str):List Str:=if c == "TooGreat" then ["many","most"]else if c == "NoText" then ["row"]else []
abbrev VB:List Value:=[.type "ValueError",.type "Exception",.type "BaseException",.type "object"]
def uV(K:qH)(C f:Addr):Bool:=match K.lookup C with
 |some ⟨.type "type",_,.cls cd,sl⟩=>(match cd.mro,sl.toList with
  | .ref C'::bm,[_,_,_,_,some (.builtin n),_]=>(C'==C&&n == "ValueError.__new__")&&(!cd.hasDel&&PySem.W.tailIn K VB bm)&&(PySem.W.nsOkIn K cd.ns&&nsIn K cd.ns "__init__" == some (some (.ref f)))|_,_=>false)
 |_=>false
def initSt:Stmt->Stmt
 | .ClassDef _ _ _ (b::_) _ _ _ _ _ _ _=>b|s=>s
def xIn(K:qH)(c:Str)(C T:Addr):Bool:=(match clsIn K C with|some cd=>cd.name==c&&cd.mro==[.ref C,.ref T,.type "ValueError",.type "Exception",.type "BaseException",.type "object"]|none=>false)
 && typeIn K (.ref C)==some (.type "type")&&findIn K (.ref C) "__getattribute__" == some (some (.builtin "BaseException.__getattribute__"))&&findIn K (.ref C) "__getattr__" == some none
 && findIn K (.ref C) "__class__" == some (some (.builtin "object.__class__"))&&specialIn K (.builtin "object.__class__") "__get__" == some (some (.builtin "getset_descriptor.__get__"))&&takesIn K (.builtin "object.__class__")==some true&&!(C==T)
def tIn(K:qH)(T:Addr):Bool:=(match clsIn K T with|some cd=>cd.mro==(.ref T::VB)|none=>false)&&typeIn K (.ref T)==some (.type "type")
def isFr:Obj->Bool
 |⟨_,_,.freed,_⟩=>true|_=>false
def vC:List Obj->Nat->List Addr->qH
 | [],_,_=>[]|_::_,_,[]=>[]
 |o::os,i,a::as=>match Nat.beq i a with
  |true=>(match isFr o with
   |true=>vC os (i+1) as|false=>(i,o)::vC os (i+1) as)
  |false=>vC os (i+1) (a::as)
def Ja(h:Heap)(as:List Addr):qH:=vC h.objs.toList 0 as
def FvT:Type:=Bool×Str×Str×Arguments×FuncBody×Scope×Addr×List (Str×Addr)×Value×Addr
def fvOf(b:Bool)(fd:FuncData):FvT:=(b,fd.name,fd.qualname,fd.params,fd.body,fd.scope,fd.globals,fd.closure,fd.defaults,fd.builtins)
def ya(K:qH)(n:Str):Option FvT:=match nsIn K mainGlobals n with
 |some (some (.ref a))=>(match K.lookup a with
  |some ⟨_,_,.func fd,_⟩=>some (fvOf (codeIn K fd.code n&&keepIn K (.ref a)) fd)|_=>none)
 |_=>none
def yf(n:Str)(st:Stmt):Option FvT:=some (fvOf true (fnOf n n (jy st) (yW st) (zT st) .none .none .none .none none .none .none))
def Yc(K:qH)(n:Str):Option Int:=match nsIn K mainGlobals n with
 |some (some (.int i _))=>some i|_=>none
def jX(K:qH)(n:Str):Bool:=match nsIn K mainGlobals n with
 |some none=>true|_=>false
def wK(K:qH)(n:Str):Option Addr:=match nsIn K mainGlobals n with
 |some (some (.ref a))=>some a|_=>none
def Qk(K:qH):Bool:=match K.lookup sysModules with
 |some o=>(match o.data with | .dict _ _=>true|_=>false)
 |none=>false
def zDc(K:qH)(cl rs:List Str):Bool :=
 (cl.isEmpty||(match wK K "ThrowError" with
  |some T=>tIn K T&&cl.all λc=>(match wK K c with|some C=>xIn K c C T|none=>false)
  |none=>false)) &&
 (rs.all λc=>(match wK K c with|some C=>excIn K C VB "ValueError.__new__" |none=>false))&&Qk K
def iOk(K:qH)(c:Str)(C T f:Addr)(cd:ClassData):Bool :=
 (keepIn K (.ref C)&&uV K C f&&typeIn K (.ref f)==some (.type "function")&&keepIn K (.ref f)) &&
 (readsIn K T (.type "type")&&specialIn K (.ref T) "__getattribute__" == some (some (.builtin "type.__getattribute__"))&&(match findCls K (.ref T) (.type "type") "__init__" with|some (.val (.builtin b))=>b == "ValueError.__init__" |_=>false)) &&
 (cd.mro==.ref C::.ref T::VB&&cd.hasDict&&findIn K (.ref C) "__setattr__" == some (some (.builtin "object.__setattr__"))&&(yt c).all λn=>findIn K (.ref C) n==some none)
def iview(K:qH)(c q:Str):Option FvT:=match wK K c,wK K "ThrowError" with
 |some C,some T=>(match clsIn K C with
  |some cd=>(match nsIn K cd.ns "__init__" with
   |some (some (.ref f))=>(match K.lookup f with
    |some ⟨_,_,.func fd,_⟩=>some (fvOf (codeIn K fd.code q&&iOk K c C T f cd) fd)|_=>none)
   |_=>none)
  |none=>none)
 |_,_=>none
def iwant(q:Str)(st:Stmt):Option FvT:=some (fvOf true (fnOf "__init__" q (jy st) (yW st) (zT st) .none .none .none .none none .none .none))
end DV
namespace My
open PySem L2 DV
def top(i:Nat):Stmt:=PySem.Challenge.pw_throwruns_k71_texts_that_write_none.main.body.getD i (.Pass ⟨0,0,0,0⟩)
abbrev WL:Stmt:=top 11
abbrev jn:Stmt:=top 12
abbrev WM:Stmt:=top 19
abbrev ZG:Stmt:=top 20
abbrev WN:Stmt:=top 21
abbrev Jb:Stmt:=top 22
abbrev Jd:Stmt:=top 25
abbrev wz:Stmt:=top 26
abbrev ZH:Stmt:=top 27
abbrev Je:Stmt:=top 28
abbrev w4:Stmt:=top 30
abbrev ZI:Stmt:=top 31
abbrev Jf:Stmt:=top 32
abbrev ZJ:Stmt:=top 33
abbrev Yd:Stmt:=top 34
abbrev w6:Stmt:=top 35
abbrev Jg:Stmt:=top 36
abbrev Jh:Stmt:=top 37
abbrev w8:Stmt:=top 38
abbrev Ye:Stmt:=top 39
abbrev wS:Stmt:=top 40
abbrev w9:Stmt:=top 41
abbrev ZK:Stmt:=top 42
abbrev JA:Stmt:=top 43
abbrev Ji:Stmt:=top 44
abbrev Yg:Stmt:=top 45
abbrev Yh:Stmt:=top 46
abbrev s_law:Stmt:=top 47
def cl_:List Str:=["NoDie","NoRow","NoNumber","NoLine","NoMachine","NoPaper","NoText","TooGreat"]
def rs_:List Str:=["NoDie","NoRow","NoNumber","NoLine","NoMachine","NoPaper"]
abbrev GI:Stmt:=initSt (top 8)
def lkT:Type:=List (Option FvT)×List (Option Int)×List Bool×Bool
def ZL(K:qH):lkT:=([ya K "is_whole",ya K "is_whole_within",ya K "die_good",ya K "sign_good",ya K "row_good",ya K "row_good_of",ya K "number_read",ya K "numbers_read",ya K "line_read",ya K "throws_read",ya K "_law_cell_at",ya K "_law_next",ya K "_law_pen_of",ya K "_law_draw",ya K "_law_whole",ya K "_law_kind_of",ya K "_law_die_of",ya K "_law_row_of",ya K "_law_text_of",ya K "_law_value",ya K "_law_signs_of",ya K "_law_odd_row",ya K "_law_told",ya K "_law_numbers",ya K "_law_due_of",ya K "_law_right",ya K "_law_wrong",ya K "law",iview K "NoText" "NoText.__init__"],[Yc K "LEAST_SIGNS",Yc K "LEAST_WEIGHT",Yc K "MOST_FIGURES",Yc K "MOST_SIGNS",Yc K "MOST_THROWS",Yc K "MOST_WEIGHT"],[jX K "ValueError",jX K "all",jX K "bool",jX K "int",jX K "isinstance",jX K "len",jX K "list",jX K "max",jX K "range",jX K "repr",jX K "str",jX K "tuple"],zDc K cl_ rs_)
def wants:lkT:=([yf "is_whole" WL,yf "is_whole_within" jn,yf "die_good" WM,yf "sign_good" ZG,yf "row_good" WN,yf "row_good_of" Jb,yf "number_read" Jd,yf "numbers_read" wz,yf "line_read" ZH,yf "throws_read" Je,yf "_law_cell_at" w4,yf "_law_next" ZI,yf "_law_pen_of" Jf,yf "_law_draw" ZJ,yf "_law_whole" Yd,yf "_law_kind_of" w6,yf "_law_die_of" Jg,yf "_law_row_of" Jh,yf "_law_text_of" w8,yf "_law_value" Ye,yf "_law_signs_of" wS,yf "_law_odd_row" w9,yf "_law_told" ZK,yf "_law_numbers" JA,yf "_law_due_of" Ji,yf "_law_right" Yg,yf "_law_wrong" Yh,yf "law" s_law,iwant "NoText.__init__" GI],[some 2,some 1,some 20,some 3,some 20,some 9],[true,true,true,true,true,true,true,true,true,true,true,true],true)
def q0:Program:=PySem.Challenge.pw_throwruns_k71_texts_that_write_none
def isLaw:Stmt->Bool
 | .FunctionDef f ..=>f == "law"|_=>false
def q:Program:={q0 with main:={q0.main with body:=q0.main.body.filter isLaw}}
def nameOf:Stmt->List Str
 | .FunctionDef f ..=>[f]| .ClassDef f ..=>[f]| .Assign [.Name x _] _ _=>[x]|_=>[]
def ls:List Str:=(q0.main.body.flatMap nameOf).filter (· != "law")
def as:List Addr:=[1,2,3,15,22,23,24,25,28,35,36,37,40,47,48,49,52,59,60,61,64,71,72,73,76,83,84,85,88,95,96,97,100,107,109,110,112,113,114,115,116,119,126,128,129,131,132,133,134,135,138,140,141,143,144,145,147,148,150,151,152,155,156,157,159,160,162,163,164,167,168,169,172,173,174,176,177,179,180,181,184,185,186,188,189,191,192,193,195,196,198,199,200,202,203,205,206,207,209,210,212,213,214,216,217,219,220,221,223,224,226,227,228,230,231,233,234,235,237,238,240,241,242,245,246,247,249,250,252,253,254,257,258,259,262,263,264,266,267,269,270,271,273,274,276,277,278,280,281,283,284,285,288,289,290,293,294,295,298,299,300,302,303,305,306,307,309,310,312,313]
end My
section
open PySem PySem.W PyProof.Rows
theorem My.hz:OpenLaw.wellSaid PySem.Challenge.rw_throwruns_k71_texts_that_write_none=true:=by decide +kernel
theorem My.h2{α β γ:Type}{o:Option α}{f:α->β}{g:α->γ}{b:β}{c:γ}(h1:o.map f=some b)(h2:o.map g=some c):o.map (λs=>(f s,g s))=some (b,c):=by
 cases o with
 |none=>cases h1|some s=>cases h1;cases h2;rfl
theorem My.hu:∀(w:World) (os:OsState),(topFrom treeTable (OpenLaw.row PySem.Challenge.rw_throwruns_k71_texts_that_write_none).toRowW.prog w 5880 ⟨boot_heap w.params,#[],boot_drawn,boot_toks,os⟩).map (λs=>openSeen My.q My.ls (importedModules (OpenLaw.row PySem.Challenge.rw_throwruns_k71_texts_that_write_none).toRowW.prog.main.body) (λs=>xlAt My.q [] s&&recOk (RowW.records (OpenLaw.row PySem.Challenge.rw_throwruns_k71_texts_that_write_none).toRowW) s) true s)=some (openGood My.q My.ls):=by
 intro w os
 kernel_rfl
theorem My.h4{α γ:Type}{o:Option α}{g:α->List γ}{w:List γ}(n:Nat)(ha:o.map (λs=>(g s).take n)=some (w.take n))(hb:o.map (λs=>(g s).drop n)=some (w.drop n)):o.map g=some w:=by
 cases o with
 |none=>cases ha|some s=>exact congrArg some ((List.take_append_drop n (g s)).symm.trans ((congr (congrArg HAppend.hAppend (qJ ha)) (qJ hb)).trans (List.take_append_drop n w)))
theorem My.h5{α γ δ:Type}{o:Option α}{g:α->γ×δ}{w:γ×δ}(ha:o.map (λs=>(g s).1)=some w.1)(hc:o.map (λs=>(g s).2)=some w.2):o.map g=some w:=by
 cases o with
 |none=>cases ha|some s=>exact congrArg some (Prod.ext (qJ ha) (qJ hc))
theorem My.hv0:∀(w:World) (os:OsState),(topFrom treeTable (OpenLaw.row PySem.Challenge.rw_throwruns_k71_texts_that_write_none).toRowW.prog w 5880 ⟨boot_heap w.params,#[],boot_drawn,boot_toks,os⟩).map (λs=>((My.ZL (DV.Ja s.heap My.as)).1.take 20))=some (My.wants.1.take 20):=by
 intro w os
 kernel_rfl
theorem My.hv1:∀(w:World) (os:OsState),(topFrom treeTable (OpenLaw.row PySem.Challenge.rw_throwruns_k71_texts_that_write_none).toRowW.prog w 5880 ⟨boot_heap w.params,#[],boot_drawn,boot_toks,os⟩).map (λs=>((My.ZL (DV.Ja s.heap My.as)).1.drop 20))=some (My.wants.1.drop 20):=by
 intro w os
 kernel_rfl
theorem My.hvc:∀(w:World) (os:OsState),(topFrom treeTable (OpenLaw.row PySem.Challenge.rw_throwruns_k71_texts_that_write_none).toRowW.prog w 5880 ⟨boot_heap w.params,#[],boot_drawn,boot_toks,os⟩).map (λs=>(My.ZL (DV.Ja s.heap My.as)).2)=some My.wants.2:=by
 intro w os
 kernel_rfl
theorem My.hv(w:World)(os:OsState):(topFrom treeTable (OpenLaw.row PySem.Challenge.rw_throwruns_k71_texts_that_write_none).toRowW.prog w 5880 ⟨boot_heap w.params,#[],boot_drawn,boot_toks,os⟩).map (λs=>My.ZL (DV.Ja s.heap My.as))=some My.wants:=My.h5 (My.h4 20 (My.hv0 w os) (My.hv1 w os)) (My.hvc w os)
theorem My.ht:∀(w:World) (os:OsState),(topFrom treeTable (OpenLaw.row PySem.Challenge.rw_throwruns_k71_texts_that_write_none).toRowW.prog w 5880 ⟨boot_heap w.params,#[],boot_drawn,boot_toks,os⟩).map (λs=>(openSeen My.q My.ls (importedModules (OpenLaw.row PySem.Challenge.rw_throwruns_k71_texts_that_write_none).toRowW.prog.main.body) (λs=>xlAt My.q [] s&&recOk (RowW.records (OpenLaw.row PySem.Challenge.rw_throwruns_k71_texts_that_write_none).toRowW) s) true s,My.ZL (DV.Ja s.heap My.as)))=some (openGood My.q My.ls,My.wants):=λw os=>My.h2 (My.hu w os) (My.hv w os)
theorem My.ho:opening (OpenLaw.row PySem.Challenge.rw_throwruns_k71_texts_that_write_none).toRowW.prog=plainProg (OpenLaw.row PySem.Challenge.rw_throwruns_k71_texts_that_write_none).toRowW.prog.main.scope.names:=by kernel_rfl
theorem My.hf:∀s,fenceModules? (OpenLaw.row PySem.Challenge.rw_throwruns_k71_texts_that_write_none).toRowW.prog s=some s:=by
 intro s
 kernel_rfl
theorem My.hl:LeftO (OpenLaw.row PySem.Challenge.rw_throwruns_k71_texts_that_write_none).toRowW.prog My.q My.ls (λs=>xlAt My.q [] s&&recOk (RowW.records (OpenLaw.row PySem.Challenge.rw_throwruns_k71_texts_that_write_none).toRowW) s) (λs=>My.ZL (DV.Ja s.heap My.as)) (λ_=>My.wants) 5880:=by
 intro w;obtain⟨s,hs,hv⟩:=Option.map_eq_some_iff.mp (boot_open My.ho (N:=5880) rfl My.hf w);unfold openEnds;rw[hs];obtain⟨h,g,d,t,os⟩:=s;have h1:h=boot_heap w.params:=congrArg Prod.fst hv;have h2:g=#[]:=congrArg (λx=>x.2.1) hv;have h3:d=boot_drawn:=congrArg (λx=>x.2.2.1) hv;have h4:t=boot_toks:=congrArg (λx=>x.2.2.2) hv;subst h1;subst h2;subst h3;subst h4;exact My.ht w os
end
namespace L2
open PySem PySem.Spec PyProof.Rows
abbrev Key:=Sum Int Str
def keyIs:Key->Value->Bool
 | .inl k,v=>Value.isInt k v| .inr x,v=>Value.isStrOf x v
def keyH(w:World):Key->Int
 | .inl k=>hashInt k| .inr x=>hashStr w x
def yG:∀{k:Key} {v:Value},keyIs k v=true->(∃i t,k=Sum.inl i/\v=Value.int i t)\/(∃x t,k=Sum.inr x/\v=Value.str x t)
 | .inl i,v,h=>by
  obtain⟨t,e⟩:=Value.isInt_shape (k:=i) (v:=v) h;exact .inl ⟨i,t,rfl,e⟩
 | .inr x,v,h=>by
  obtain⟨t,e⟩:=Value.isStrOf_shape (x:=x) (v:=v) h;exact .inr ⟨x,t,rfl,e⟩
def key_ll(a b:Int):decide ((Sum.inl a:Key)=Sum.inl b)=(a==b):=by
 by_cases e:a=b
 ·subst e;simp
 ·have h:¬(Sum.inl a:Key)=Sum.inl b:=λq=>e (Sum.inl.inj q)
  rw[decide_eq_false h];exact(beq_eq_false_iff_ne.mpr e).symm
def key_rr(a b:Str):decide ((Sum.inr a:Key)=Sum.inr b)=decide (a=b):=by
 by_cases e:a=b
 ·subst e;simp
 ·have h:¬(Sum.inr a:Key)=Sum.inr b:=λq=>e (Sum.inr.inj q)
  rw[decide_eq_false h,decide_eq_false e]
def key_lr(a:Int)(b:Str):decide ((Sum.inl a:Key)=Sum.inr b)=false:=decide_eq_false (λq=>nomatch q)
def key_rl(a:Str)(b:Int):decide ((Sum.inr a:Key)=Sum.inl b)=false:=decide_eq_false (λq=>nomatch q)
def uW(prog:Program)(w:World):PySem.KeyKind prog w Key where
 is:=keyIs
 hash:=keyH w
 inj:=λv a b ha hb=>by
  rcases yG ha with⟨i,t,rfl,rfl⟩|⟨x,t,rfl,rfl⟩
  ·rcases yG hb with⟨j,u,rfl,e⟩|⟨y,u,rfl,e⟩
   ·injection e with e1 _;rw[e1]
   ·exact nomatch e
  ·rcases yG hb with⟨j,u,rfl,e⟩|⟨y,u,rfl,e⟩
   ·exact nomatch e
   ·injection e with e1 _;rw[e1]
 byValue:=λk v h=>by
  rcases yG h with⟨i,t,rfl,rfl⟩|⟨x,t,rfl,rfl⟩<;>rfl
 pyHash:=λhv h=>by
  rcases yG hv with⟨i,t,rfl,rfl⟩|⟨x,t,rfl,rfl⟩
  ·exact wpAny_pyHash_int h
  ·exact wpAny_pyHash_str h
 eqBool:=λhu hv h=>by
  rcases yG hu with⟨i,t,rfl,rfl⟩|⟨x,t,rfl,rfl⟩
  ·rcases yG hv with⟨j,u,rfl,rfl⟩|⟨y,u,rfl,rfl⟩
   ·rw[key_ll]at h;exact wpAny_eqBool_int h
   ·rw[key_lr]at h;exact SeqAt.EqAt.int_str i t y u _ _ _ _ h
  ·rcases yG hv with⟨j,u,rfl,rfl⟩|⟨y,u,rfl,rfl⟩
   ·rw[key_rl]at h;exact SeqAt.EqAt.str_int x t j u _ _ _ _ h
   ·rw[key_rr]at h;exact wpAny_eqBool_str h
 «strs»:=λk x t v h=>by
  rcases yG h with⟨i,u,rfl,e⟩|⟨y,u,rfl,e⟩
  ·exact nomatch e
  ·injection e with e1 _
   subst e1;cases v<;>rfl
set_option genInjectivity true in
inductive V where
 |non|bl (b:Bool)|int (i:Int)|str (x:Str)|byt (b:Array UInt8)|flt (b:UInt64)|ref (a:Addr)|ty (n:String)
 deriving DecidableEq
def z9:V->Value->Prop
 | .non,u=>u=Value.none| .bl b,u=>u=Value.bool b| .int i,u=>∃t,u=Value.int i t| .str x,u=>∃t,u=Value.str x t| .byt b,u=>∃t,u=Value.bytes b t| .flt b,u=>∃t,u=Value.float b t| .ref a,u=>u=Value.ref a| .ty n,u=>u=Value.type n
abbrev zn:List V->List Value->Prop:=Paired z9
theorem zn.length{xs:List V}{us:List Value}(r:zn xs us):xs.length=us.length:=Paired.length r
theorem zn.get:∀{xs:List V} {us:List Value} {i:Nat} {x:V},zn xs us->xs[i]?=some x->∃u,us[i]?=some u/\z9 x u
 |_,_,_,_,.nil,e=>by simp at e|_,_,0,_,.cons r _,e=>by simp at e;subst e;exact⟨_,rfl,r⟩
 |_,_,i+1,x,.cons _ t,e=>by
  obtain⟨u,h1,h2⟩:=zn.get (i:=i) (x:=x) t (by simpa using e);exact⟨u,by simpa using h1,h2⟩
theorem zn.set{x:V}{u:Value}(r:z9 x u):∀{xs:List V} {us:List Value} (i:Nat),zn xs us->zn (xs.set i x) (us.set i u)
 |_,_,_,.nil=>.nil|_,_,0,.cons _ t=>.cons r t|_,_,i+1,.cons q t=>.cons q (zn.set r i t)
theorem zn.append:∀{xs ys:List V} {us ws:List Value},zn xs us->zn ys ws->zn (xs++ys) (us++ws)
 |_,_,_,_,.nil,s=>s|_,_,_,_,.cons r t,s=>.cons r (zn.append t s)
theorem zn.take:∀{xs:List V} {us:List Value} (n:Nat),zn xs us->zn (xs.take n) (us.take n)
 |_,_,0,_=>.nil|_,_,_+1,.nil=>.nil|_,_,n+1,.cons r t=>.cons r (zn.take n t)
theorem zn.drop:∀{xs:List V} {us:List Value} (n:Nat),zn xs us->zn (xs.drop n) (us.drop n)
 |_,_,0,r=>r|_,_,_+1,.nil=>.nil|_,_,n+1,.cons _ t=>zn.drop n t
def RelO:Option V->Option Value->Prop
 |some v,some u=>z9 v u|none,none=>True|_,_=>False
def KV{κ:Type}:List (κ×V)->List (κ×Value)->Prop:=Paired λ(p:κ×V) (q:κ×Value)=>p.1=q.1/\z9 p.2 q.2
def kV:Key->V
 | .inl i=>.int i| .inr x=>.str x
inductive HO where
 /-- a list -/
 |l (xs:List V)
 /-- a tuple (never changes) -/
 |t (xs:List V)
 /-- a dict whose keys are ints and texts; one whose keys are tuples of ints and texts (the empty one is both) -/
 |dK (kvs:List (Key×V))|dT (kvs:List (List Key×V))
 /-- a set of ints: its members,its size -/
 |set (S:Int->Bool) (n:Nat)
 /-- an instance of the class at C,its dict at dx,its attributes -/
 |ins (C dx:Addr) (fs:List (Str×V))
 /-- the dict of the instance at x -/
 |own (x:Addr)
 /-- the dict of an exception -/
 |xd (fs:List (Str×V))
 /-- a bound method,f of x -/
 |met (f x:Addr)
 /-- a range object lo,lo+1,.. below hi -/
 |rng (lo hi:Int)
 /-- a thing that is known to the object (the script; a dict while a loop walks it): read,never written while it is so -/
 |frz (o:Obj) (u:HO)
 /-- a code object's table -/
 |tbl (ps:Array Value)
 /-- any other thing,by what is true of its one object (a def of one's own: SetO a S n:=HO.ext fun h=>..) -/
 |ext (φ:Heap->Prop)
abbrev Hp:=Addr->Option HO
def upd(H:Hp)(a:Addr)(o:HO):Hp:=λb=>if b=a then some o else H b
def zU{H:Hp}{a:Addr}{o:HO}:upd H a o a=some o:=by unfold upd;rw[if_pos rfl]
def zH{H:Hp}{a b:Addr}{o:HO}(h:b≠a):upd H a o b=H b:=by unfold upd;rw[if_neg h]
def yR{H:Hp}{a b:Addr}{o:HO}(h:H a=some o)(h':H b=none):a≠b:=by
 intro e;subst e;rw[h]at h';cases h'
section
variable(P:Program)(w:World)
def yJ(H:Hp)(h:Heap)(a:Addr):HO->Prop
 | .l xs=>xs.length<=sizeLine/\∃(its:List Value) (n:Nat),zn xs its/\h.get? a=some {cls:=.type "list",data:=.seq its.toArray n}| .t xs=>xs.length<=sizeLine/\∃its:List Value,zn xs its/\IsTup h a its.toArray| .dK kvs=>kvs.length<=sizeLine/\(a==sysModules)=false/\∃vs,KV kvs vs/\h.DictOf (uW P w) a vs
 | .dT kvs=>kvs.length<=sizeLine/\(a==sysModules)=false/\∃xs:List (List Key×Addr×Value),
   Paired (λ(p:List Key×V) (q:List Key×Addr×Value)=>p.1=q.1/\H q.2.1=some (.t (p.1.map kV))/\z9 p.2 q.2.2) kvs xs /\
   ∃o es ep,h.get? a=some o/\o.ExactDict/\o.data=.dict es ep/\es.toList=xs.map (entryOfKey (tupleKind (uW P w)))/\(xs.map (·.1)).Nodup
 | .set S n=>h.SetOf (intKind P w) a S n
 | .ins C dx fs=>H dx=some (.own a)/\fs.length<=1000/\dx≠a/\h.get? a=some (instObj C dx) /\
   ∃mA,h.Ns1 dx mA/\(∀f,RelO (fs.lookup f) (mA f))/\PySem.Within mA (fs.map (·.1))
 | .own _=>∃o,h.get? a=some o| .xd fs=>∃mA,h.Ns1 a mA/\∀f,RelO (fs.lookup f) (mA f)| .rng lo hi=>∃t u v,h.get? a=some {cls:=.type "range",data:=.fields #[.int lo t,.int hi u,.int 1 v]}| .frz o u=>h.get? a=some o/\yJ H h a u| .tbl ps=>h.get? a=some {cls:=.none,data:=.fields ps}| .met f x=>h.get? a=some (methodObj (.ref f) (.ref x))| .ext φ=>φ h/\(∃o,h.get? a=some o)/\∀h1 h2:Heap,φ h1->(∀o,h1.get? a=some o->h2.get? a=some o)->φ h2
def HOk(H:Hp)(h:Heap):Prop:=∀a o,H a=some o->yJ P w H h a o
end
section
variable{P:Program}{w:World}{H H':Hp}{h h':Heap}{a:Addr}{o:HO}
theorem yJ.lt(x:yJ P w H h a o):a<h.objs.size:=by
 cases o with
 |l xs=>obtain⟨_,_,_,_,e⟩:=x;exact lt_size e|t xs=>obtain⟨_,_,_,p⟩:=x;exact p.lt|dK kvs=>obtain⟨_,_,_,_,o,_,_,e,_⟩:=x;exact lt_size e|dT kvs=>obtain⟨_,_,_,_,o,_,_,e,_⟩:=x;exact lt_size e|set S n=>obtain⟨o,_,_,_,e,_⟩:=x;exact lt_size e|ins C dx fs=>obtain⟨_,_,_,e,_⟩:=x;exact lt_size e|own y=>obtain⟨_,e⟩:=x;exact lt_size e|xd fs=>obtain⟨_,⟨_,_,_,e,_⟩,_⟩:=x;exact lt_size e|rng lo hi=>obtain⟨_,_,_,e⟩:=x;exact lt_size e|frz ob u=>obtain⟨e,_⟩:=x;exact lt_size e|tbl ps=>exact lt_size (show h.get? a=some _ from x)|met f y=>exact lt_size (show h.get? a=some _ from x)|ext φ=>obtain⟨_,⟨_,e⟩,_⟩:=x;exact lt_size e
theorem Paired.mapP{α β:Type}{F G:α->β->Prop}:∀{l₁:List α} {l₂:List β},Paired F l₁ l₂->(∀a b,F a b->G a b)->Paired G l₁ l₂
 |_,_,.nil,_=>.nil|_,_,.cons r t,f=>.cons (f _ _ r) (Paired.mapP t f)
def yJ.stay(x:yJ P w H h a o)(k:∀b u,(b=a\/H b=some (.own a))->h.get? b=some u->h'.get? b=some u)
  (ho:∀b,H b=some (.own a)->H' b=some (.own a)) (ht:∀b xs,H b=some (.t xs)->H' b=some (.t xs)):yJ P w H' h' a o:=by
 induction o with
 |l xs=>obtain⟨z,its,n,r,e⟩:=x;exact⟨z,its,n,r,k _ _ (.inl rfl) e⟩|t xs=>obtain⟨z,its,r,ob,e,c⟩:=x;exact⟨z,its,r,ob,k _ _ (.inl rfl) e,c⟩|dK kvs=>obtain⟨z,y,vs,r,ob,es,ep,e,c⟩:=x;exact⟨z,y,vs,r,ob,es,ep,k _ _ (.inl rfl) e,c⟩
 |dT kvs =>
  obtain⟨z,y,xs,r,ob,es,ep,e,c⟩:=x;exact⟨z,y,xs,Paired.mapP r λp q z=>⟨z.1,ht _ _ z.2.1,z.2.2⟩,ob,es,ep,k _ _ (.inl rfl) e,c⟩
 |set S n=>obtain⟨ob,es,ep,t,e,c⟩:=x;exact⟨ob,es,ep,t,k _ _ (.inl rfl) e,c⟩
 |ins C dx fs =>
  obtain⟨d,z,ne,e,mA,⟨od,es,ep,e2,c⟩,r⟩:=x;exact⟨ho _ d,z,ne,k _ _ (.inl rfl) e,mA,⟨od,es,ep,k _ _ (.inr d) e2,c⟩,r⟩
 |own y=>obtain⟨ob,e⟩:=x;exact⟨ob,k _ _ (.inl rfl) e⟩|xd fs=>obtain⟨mA,⟨od,es,ep,e,c⟩,r⟩:=x;exact⟨mA,⟨od,es,ep,k _ _ (.inl rfl) e,c⟩,r⟩|rng lo hi=>obtain⟨t,u,v,e⟩:=x;exact⟨t,u,v,k _ _ (.inl rfl) e⟩|frz ob u ih=>obtain⟨e,q⟩:=x;exact⟨k _ _ (.inl rfl) e,ih q⟩
 |tbl ps =>
  have e:h.get? a=some {cls:=.none,data:=.fields ps}:=x;show h'.get? a=some {cls:=.none,data:=.fields ps};exact k a _ (.inl rfl) e
 |met f y =>
  have e:h.get? a=some (methodObj (.ref f) (.ref y)):=x;show h'.get? a=some (methodObj (.ref f) (.ref y));exact k a _ (.inl rfl) e
 |ext φ=>obtain⟨p,⟨o,e⟩,st⟩:=x;exact⟨st _ _ p λo q=>k _ _ (.inl rfl) q,⟨o,k _ _ (.inl rfl) e⟩,st⟩
theorem HOk.lt(x:HOk P w H h)(e:H a=some o):a<h.objs.size:=(x a o e).lt
def HOk.fresh(x:HOk P w H h)(e:h.objs.size<=a):H a=none:=by
 cases q:H a with
 |none=>rfl|some u=>exact absurd (lt_of_lt_of_le (x.lt q) e) (lt_irrefl _)
def HOk.kept(x:HOk P w H h)(k:∀b u,h.get? b=some u->h'.get? b=some u):HOk P w H h':=λa o e =>
 (x a o e).stay (λb u _ q=>k b u q) (λ_ q=>q) λ_ _ q=>q
def HOk.laid(x:HOk P w H h)(k:∀b u,h.get? b=some u->h'.get? b=some u)(hp:h.objs.size<=a)(new:yJ P w (upd H a o) h' a o):HOk P w (upd H a o) h':=λb u e=>by
 have hn:=x.fresh hp;by_cases hb:b=a
 ·subst hb;rw[zU]at e;cases e;exact new
 ·rw[zH hb]at e
  exact(x b u e).stay (λc v _ q=>k c v q) (λc q=>by rw[zH (yR q hn)];exact q) λc xs q=>by rw[zH (yR q hn)];exact q
end
def Rd(H:Hp)(a:Addr)(u:HO):Prop:=H a=some u\/∃o,H a=some (.frz o u)
def Rd.of{H:Hp}{a:Addr}{u:HO}(h:H a=some u):Rd H a u:=.inl h
def Rd.ok{P:Program}{w:World}{H:Hp}{h:Heap}{a:Addr}{u:HO}(r:Rd H a u)(x:HOk P w H h):yJ P w H h a u:=by
 rcases r with r|⟨o,r⟩
 ·exact x a u r
 ·obtain⟨_,q⟩:=x a _ r
  exact q
def Mut:Option HO->Prop
 |some (.l _)=>True|some (.dK _)=>True|some (.dT _)=>True|some (.set _ _)=>True|some (.ins _ _ _)=>True|some (.ext _)=>True|_=>False
section
variable{P:Program}{w:World}{H:Hp}{h h':Heap}{x e:Addr}{o':HO}
def HOk.write(ok:HOk P w H h)(mu:Mut (H x))(he:e=x\/H e=some (.own x))(k:∀b u,b≠e->h.get? b=some u->h'.get? b=some u)(heo:∃u,h'.get? e=some u)
  (new:yJ P w (upd H x o') h' x o'):HOk P w (upd H x o') h':=λb u q=>by
 have nown:∀c y,H c=some (.own y)->c≠x:=λc y r z=>by subst z;rw[r]at mu;exact mu
 have ntup:∀c xs,H c=some (.t xs)->c≠x:=λc xs r z=>by subst z;rw[r]at mu;exact mu
 by_cases hb:b=x
 ·subst hb;rw[zU]at q;cases q;exact new
 ·rw[zH hb]at q
  by_cases hbe:b=e
  ·have q':H b=some (.own x):=by
    rcases he with z|z
    ·exact absurd (hbe.trans z) hb
    ·rw[hbe];exact z
   rw[q]at q';cases q';obtain⟨v,hv⟩:=heo;exact⟨v,by rw[hbe];exact hv⟩
  ·refine(ok b u q).stay (λc v hc r=>k c v ?_ r) (λc r=>by rw[zH (nown c b r)];exact r) λc xs r=>by rw[zH (ntup c xs r)];exact r
   rcases hc with rfl|hc
   ·exact hbe
   ·rintro rfl
    rcases he with z|z
    ·exact nown c b hc z
    ·rw[hc]at z;cases z;exact hb rfl
end
structure Un(fs ex:List Addr)(H H':Hp)(h h':Heap):Prop where
 keep:∀b o,h.get? b=some o->H b=none->b∉fs->b∉ex->h'.get? b=some o
 slot:∀b o,h.get? b=some o->H b=none->b∈fs->b∉ex->∃sl,h'.get? b=some {o with slots:=sl}
 free:∀b o,h.get? b=some o->H b=none->b∉ex->H' b=none
 there:∀b o,h.get? b=some o->b∉ex->∃o',h'.get? b=some o'
 tups:∀b xs,H b=some (.t xs)->H' b=some (.t xs)
 frzs:∀b o u,H b=some (.frz o u)->H' b=some (.frz o u)
 tbls:∀b ps,H b=some (.tbl ps)->∃more,H' b=some (.tbl (ps++more))
section
variable{fs fs' ex ex':List Addr}{H H1 H2:Hp}{h h1 h2 h':Heap}{a x e:Addr}{o:HO}
def Un.any(u:Un fs ex H H1 h h1){b:Addr}{ob:Obj}(q:h.get? b=some ob)(n:H b=none)(hx:b∉ex):∃sl,h1.get? b=some {ob with slots:=sl}:=by
 by_cases hb:b∈fs
 ·exact u.slot b ob q n hb hx
 ·exact⟨ob.slots,u.keep b ob q n hb hx⟩
def Un.trans(a:Un fs ex H H1 h h1)(b:Un fs ex H1 H2 h1 h2):Un fs ex H H2 h h2 where
 keep:=λc ob q n hc hx=>b.keep c ob (a.keep c ob q n hc hx) (a.free c ob q n hx) hc hx
 slot:=λc ob q n hc hx=>by
  obtain⟨sl,e1⟩:=a.slot c ob q n hc hx;obtain⟨sl',e2⟩:=b.slot c _ e1 (a.free c ob q n hx) hc hx;exact⟨sl',e2⟩
 free:=λc ob q n hx=>by
  obtain⟨o',e1⟩:=a.there c ob q hx;exact b.free c o' e1 (a.free c ob q n hx) hx
 there:=λc ob q hx=>by
  obtain⟨o',e1⟩:=a.there c ob q hx;exact b.there c o' e1 hx
 tups:=λc xs q=>b.tups c xs (a.tups c xs q)
 frzs:=λc ob xs q=>b.frzs c ob xs (a.frzs c ob xs q)
 tbls:=λc ps q=>by
  obtain⟨m1,e1⟩:=a.tbls c ps q;obtain⟨m2,e2⟩:=b.tbls c _ e1;exact⟨m1++m2,by rw[e2,Array.append_assoc]⟩
def Un.kept(k:∀b u,h.get? b=some u->h'.get? b=some u):Un fs ex H H h h' :=
 ⟨λb ob q _ _ _=>k b ob q,λb ob q _ _ _=>⟨ob.slots,k b ob q⟩,λ_ _ _ n _=>n,λb ob q _=>⟨ob,k b ob q⟩,λ_ _ q=>q,λ_ _ _ q=>q,λ_ ps q=>⟨#[],by rw[q];simp⟩⟩
def Un.refl:Un fs ex H H h h:=Un.kept λ_ _ q=>q
def Un.laid(k:∀b u,h.get? b=some u->h'.get? b=some u)(hp:h.objs.size<=a)(hn:H a=none):Un fs ex H (upd H a o) h h' where
 keep:=λb u q _ _ _=>k b u q
 slot:=λb u q _ _ _=>⟨u.slots,k b u q⟩
 free:=λb u q n _=>by rw[zH (ne_of_lt (lt_of_lt_of_le (lt_size q) hp))];exact n
 there:=λb u q _=>⟨u,k b u q⟩
 tups:=λb xs q=>by rw[zH (yR q hn)];exact q
 frzs:=λb u xs q=>by rw[zH (yR q hn)];exact q
 tbls:=λb ps q=>⟨#[],by rw[zH (yR q hn),q];simp⟩
def Un.write(mu:Mut (H x))(he:e=x\/H e=some (.own x))(k:∀b u,b≠e->h.get? b=some u->h'.get? b=some u)(heo:∃u,h'.get? e=some u):Un fs ex H (upd H x o) h h':=by
 have hx:∀b,H b=none->b≠x:=λb n z=>by subst z;rw[n]at mu;exact mu
 have hb:∀b,H b=none->b≠e:=λb n z=>by
  subst z;rcases he with r|r
  ·exact hx b n r
  ·rw[n]at r;cases r
 have hm:∀b u,H b=some u->¬Mut (some u)->b≠x:=λb u q nm z=>by subst z;rw[q]at mu;exact nm mu
 refine⟨λb u q n _ _=>k b u (hb b n) q,λb u q n _ _=>⟨u.slots,k b u (hb b n) q⟩,λb u q n _=>by rw[zH (hx b n)];exact n,λb u q _=>?_,
  λb xs q=>by rw[zH (hm b _ q λz=>z)];exact q,λb u xs q=>by rw[zH (hm b _ q λz=>z)];exact q,λb ps q=>⟨#[],by rw[zH (hm b _ q λz=>z),q];simp⟩⟩
 by_cases hbe:b=e
 ·subst hbe;exact heo
 ·exact⟨u,k b u hbe q⟩
def Un.mono(u:Un fs ex H H1 h h1)(hs:∀b∈fs,b∈fs')(hx:∀b∈ex,b∈ex'):Un fs' ex' H H1 h h1 :=
 ⟨λb ob q n hb he=>u.keep b ob q n (λz=>hb (hs b z)) λz=>he (hx b z),λ_ _ q n _ he=>u.any q n λz=>he (hx _ z),λb ob q n he=>u.free b ob q n λz=>he (hx b z),λb ob q he=>u.there b ob q λz=>he (hx b z),u.tups,u.frzs,u.tbls⟩
end
def trk(h:Heap)(H:Hp):List Addr:=(List.range h.objs.size).filter λa=>(H a).isSome
def zB5(h:Heap)(H:Hp):Heap:=hideAll h (trk h H)
def Ql(h:Heap)(H:Hp):(zB5 h H).objs.size=h.objs.size:=PySem.W.hideAll_size _ _
def zB6{h:Heap}{H:Hp}{b:Addr}{o:Obj}(e:h.get? b=some o)(n:H b=none):(zB5 h H).get? b=some o :=
 hideAll_get _ e λhm=>by
  have q:(H b).isSome=true:=(mem_filter.mp hm).2;rw[n]at q;simp at q
def of_hidT{h:Heap}{H:Hp}{b:Addr}{o:Obj}(e:(zB5 h H).get? b=some o):h.get? b=some o/\H b=none:=by
 have e':h.get? b=some o:=of_hideAll (trk h H) e;refine⟨e',?_⟩;cases q:H b with
 |none=>rfl
 |some x =>
  have hm:b∈trk h H:=mem_filter.mpr ⟨List.mem_range.mpr (lt_size e'),by simp[q]⟩;have z:(zB5 h H).get? b=none:=PySem.W.hideAll_none (trk h H) hm;rw[z]at e;cases e
def allNews(g h:Heap)(L:Addr):List (Addr×Obj):=(List.range h.objs.size).filterMap λa=>if a=L\/(g.get? a).isSome=true then none else(h.get? a).map λo=>(a,o)
def jW(g h:Heap)(L d:Addr):List (Addr×Obj):=(allNews g h L).filter λp=>decide (p.1≠d)
structure Mod(K:qH)(mg:Str->Option Value)(base:Heap):Prop where
 kin:K.In base
 glob:base.Ns mainGlobals mg
 blt:∃mb,base.Ns builtinsNs mb/\∀x:Str,x≠"__name__"->mb x=bootBuiltins x
 nolimit:base.NoLimit
structure Cx where
 prog:Program
 w:World
 K:qH
 mg:Str->Option Value
 base:Heap
 A:Around
 N:List Str
 s₀:Shared
 H₀:Hp
 env:Env
 outer:List Env
 stack:List Env
 ex:List Addr
 fn:Str->Bool
 calm:Bool
 pn:List (Addr×Obj)
 xe:Value->Shared->Prop
def frs(l:List Env):List Addr:=l.filterMap (·.frame)
abbrev Cx.fs(X:Cx):List Addr:=frs X.outer
def Vis(sc:Scope)(x:Str):Prop:=sc.names.lookup x=some .local\/sc.names.lookup x=some .cell\/sc.names.lookup x=some .free
def Loc(sc:Scope)(x:Str):Prop:=sc.names.lookup x=some .local\/sc.names.lookup x=some .cell
def Look(env:Env)(h:Heap)(m:Str->Option Value)(x:Str)(u:Value):Prop :=
 (env.kindOf x=some .local/\m x=some u)\/((env.kindOf x=some .cell\/env.kindOf x=some .free)/\∃c,env.cells.lookup x=some c/\h.IsCell c (some u))
structure Cx.Ok(X:Cx):Prop where
 mod:Mod X.K X.mg X.base
 kind:X.env.scope.kind=.function
 glob:X.env.globals=mainGlobals
 blt:X.env.builtins=builtinsNs
 above:X.s₀.heap.objs.size<=X.env.locals
 inj:∀x y c,X.env.cells.lookup x=some c->X.env.cells.lookup y=some c->x=y
 has:∀x,(X.env.kindOf x=some .cell\/X.env.kindOf x=some .free)->∃c,X.env.cells.lookup x=some c
 cab:∀x c,X.fn x=true->X.env.cells.lookup x=some c->X.s₀.heap.objs.size<=c
 hd:X.calm=true->X.A.handled=none
 frames:X.A.frames=some X.stack
 stk:X.stack=X.outer\/(X.stack=X.env::X.outer/\X.env.frame=some X.env.locals)
 exf:∀b∈X.ex,b≠X.env.locals/\∀x c,X.env.cells.lookup x=some c->c≠b
 bs:∀b o,X.base.get? b=some o->X.s₀.heap.get? b=some o/\X.H₀ b=none
 bsz:X.base.objs.size<=X.s₀.heap.objs.size
 noex:∀b o,X.base.get? b=some o->b∉X.ex
 exfs:∀b∈X.ex,b∉X.fs
 funs:X.s₀.heap.FunFrames X.base X.outer
 frf:∀b∈X.fs,X.H₀ b=none
structure Inv(X:Cx)(pins:List (Addr×Obj))(O:List (Option V))(H:Hp)(s:Shared):Prop where
 ok:X.Ok
 os:s.os=X.s₀.os
 bare:AllBare s.gens
 base:Un X.fs X.ex X.H₀ H X.s₀.heap s.heap
 loc:∃m,s.heap.Ns X.env.locals m/\∀(i:Nat) (x:Str) (v:V),X.N[i]?=some x->O[i]?=some (some v)->Vis X.env.scope x->∃u,z9 v u/\Look X.env s.heap m x u
 cell:∀x c,X.env.cells.lookup x=some c->∃v,s.heap.IsCell c v
 free:H X.env.locals=none
 freeC:∀x c,X.env.cells.lookup x=some c->H c=none
 pin:∀p∈X.pn++pins,s.heap.get? p.1=some p.2/\H p.1=none/\p.1≠X.env.locals/\p.1∉X.fs/\∀v,p.2.data≠.cell v
 hok:HOk X.prog X.w H s.heap
 len:O.length=X.N.length
section
variable{X:Cx}{pins:List (Addr×Obj)}{O:List (Option V)}{H H':Hp}{s:Shared}{h':Heap}
def Cx.Ok.nofr(ok:X.Ok){b:Addr}{o:Obj}(e:X.base.get? b=some o):b∉X.fs:=λhb=>by
 have:=(ok.funs.mem hb).1;rw[e]at this;cases this
theorem Inv.bs(I:Inv X pins O H s):∀b o,X.base.get? b=some o->s.heap.get? b=some o/\H b=none:=λb o e =>
 ⟨I.base.keep b o (I.ok.bs b o e).1 (I.ok.bs b o e).2 (I.ok.nofr e) (I.ok.noex b o e),I.base.free b o (I.ok.bs b o e).1 (I.ok.bs b o e).2 (I.ok.noex b o e)⟩
def Inv.bk(I:Inv X pins O H s):∀b o,X.base.get? b=some o->s.heap.get? b=some o:=λb o e=>(I.bs b o e).1
theorem Inv.mod(I:Inv X pins O H s):Mod X.K X.mg X.base:=I.ok.mod
def Inv.kIn(I:Inv X pins O H s):X.K.In s.heap:=I.ok.mod.kin.keeps I.bk
theorem Inv.nolimit(I:Inv X pins O H s):s.heap.NoLimit:=I.ok.mod.nolimit.keeps I.bk
def Inv.fr(I:Inv X pins O H s):∃m,Fr X.base X.env.locals s.heap m :=
 let ⟨m,hn,_⟩:=I.loc
 ⟨m,hn,I.bk,le_trans I.ok.bsz I.ok.above⟩
theorem Inv.lt(I:Inv X pins O H s):X.env.locals<s.heap.objs.size:=let ⟨_,hn,_⟩:=I.loc;hn.lt
def Inv.sz(I:Inv X pins O H s):X.s₀.heap.objs.size<=s.heap.objs.size:=le_trans I.ok.above (Nat.le_of_lt I.lt)
def Inv.nofs(I:Inv X pins O H s){a:Addr}(h:s.heap.objs.size<=a):a∉X.fs:=λhb=>by
 obtain⟨_,o,ho,_⟩:=I.ok.funs.mem hb;exact absurd (lt_of_lt_of_le (lt_size ho) (le_trans I.sz h)) (lt_irrefl _)
def Inv.cne(I:Inv X pins O H s):∀x c,X.env.cells.lookup x=some c->c≠X.env.locals:=λx c e z=>by
 obtain⟨v,o,ho,hd⟩:=I.cell x c e;obtain⟨m,⟨o',es,ep,ho',hd',_⟩,_⟩:=I.loc;rw[z,ho']at ho;cases ho;rw[hd']at hd;cases hd
theorem Inv.funs(I:Inv X pins O H s):s.heap.FunFrames X.base X.outer:=by
 have all:∀(l:List Env),(∀b∈frs l,b∈X.fs)->X.s₀.heap.FunFrames X.base l->s.heap.FunFrames X.base l:=by
  intro l
  induction l with
  |nil=>intro _ _;trivial
  |cons env r ih =>
   intro hs hl;obtain⟨hk,⟨L,o,hf,hn,ho,hd⟩,hr⟩:=hl;have hL:L∈X.fs:=hs L (by unfold frs;rw[filterMap_cons,hf];exact qE);obtain⟨sl,e⟩:=I.base.slot L o ho (I.ok.frf L hL) hL λz=>I.ok.exfs L z hL
   exact⟨hk,⟨L,_,hf,hn,e,hd⟩,ih (λb hb=>hs b (by unfold frs;rw[filterMap_cons,hf];exact qD _ hb)) hr⟩
 exact all X.outer (λ_ hb=>hb) I.ok.funs
theorem Inv.stack(I:Inv X pins O H s):s.heap.FunFrames X.base X.stack:=by
 rcases I.ok.stk with e|⟨e,hf⟩
 ·rw[e];exact I.funs
 ·rw[e]
  obtain⟨m,hn,_⟩:=I.loc;refine .cons (by rw[I.ok.kind];decide) hf hn ?_ I.funs;exact Heap.get?_none_of_le (le_trans I.ok.bsz I.ok.above)
def Inv.stkSub(I:Inv X pins O H s):∀b∈frs X.stack,b∈X.env.locals::X.fs:=λb hb=>by
 rcases I.ok.stk with e|⟨e,hf⟩
 ·rw[e]at hb;exact qD _ hb
 ·rw[e]at hb
  unfold frs at hb;rw[filterMap_cons,hf]at hb;exact hb
def Inv.stkFree(I:Inv X pins O H s):∀b∈frs X.stack,H b=none:=λb hb=>by
 rcases mem_cons.mp (I.stkSub b hb)with e|hb
 ·rw[e];exact I.free
 ·obtain⟨_,o,ho,_⟩:=I.ok.funs.mem hb
  exact I.base.free b o ho (I.ok.frf b hb) λz=>I.ok.exfs b z hb
def Inv.step{g':Array GenState}{t':Nat}{d':Drawn}{ch:List Addr}(I:Inv X pins O H s)
  (hch:∀b∈ch,(b∈X.ex\/X.s₀.heap.objs.size<=b)/\b≠X.env.locals/\(∀x c,X.env.cells.lookup x=some c->c≠b)/\∀p∈X.pn++pins,p.1≠b)
  (keep:∀b o,b≠X.env.locals->b∉X.fs->b∉ch->s.heap.get? b=some o->H b=none->h'.get? b=some o)
  (slot:∀b o,b≠X.env.locals->b∈X.fs->b∉ch->s.heap.get? b=some o->H b=none->∃sl,h'.get? b=some {o with slots:=sl}) (free:∀b o,b∉ch->s.heap.get? b=some o->H b=none->H' b=none)
  (there:∀b o,b∉ch->s.heap.get? b=some o->∃o',h'.get? b=some o')
  (tups:∀b xs,H b=some (.t xs)->H' b=some (.t xs)) (frzs:∀b o u,H b=some (.frz o u)->H' b=some (.frz o u)) (tbls:∀b ps,H b=some (.tbl ps)->∃more,H' b=some (.tbl (ps++more)))
  (ns:∀m,s.heap.Ns X.env.locals m->h'.Ns X.env.locals m) (hok:HOk X.prog X.w H' h') (hg:AllBare g') :
  Inv X pins O H' {s with heap:=h',gens:=g',drawn:=d',toks:=t'}:=by
 have neL:∀b o,X.s₀.heap.get? b=some o->b≠X.env.locals:=λb o e=>ne_of_lt (lt_of_lt_of_le (lt_size e) I.ok.above)
 have neC:∀b o,X.s₀.heap.get? b=some o->b∉X.ex->b∉ch:=λb o e hx hb=>by
  rcases(hch b hb).1 with z|z
  ·exact hx z
  ·exact absurd (lt_of_lt_of_le (lt_size e) z) (lt_irrefl _)
 have cellK:∀x c,X.env.cells.lookup x=some c->∀v,s.heap.IsCell c v->h'.IsCell c v:=λx c e v ⟨o,ho,hd⟩=>by
  have nch:c∉ch:=λz=>(hch c z).2.2.1 x c e rfl
  by_cases hc:c∈X.fs
  ·obtain⟨sl,q⟩:=slot c o (I.cne x c e) hc nch ho (I.freeC x c e)
   exact⟨_,q,hd⟩
  ·exact⟨o,keep c o (I.cne x c e) hc nch ho (I.freeC x c e),hd⟩
 refine⟨I.ok,I.os,hg,⟨λb o e n hb hx=>?_,λb o e n hb hx=>?_,λb o e n hx=>?_,λb o e hx=>?_,λb xs e=>tups b xs (I.base.tups b xs e),λb o xs e=>frzs b o xs (I.base.frzs b o xs e),λb ps e=>?_⟩,?_,λx c e=>?_,?_,λx c e=>?_,λp hp=>?_,hok,I.len⟩
 ·exact keep b o (neL b o e) hb (neC b o e hx) (I.base.keep b o e n hb hx) (I.base.free b o e n hx)
 ·obtain⟨sl,e1⟩:=I.base.slot b o e n hb hx
  obtain⟨sl',e2⟩:=slot b _ (neL b o e) hb (neC b o e hx) e1 (I.base.free b o e n hx);exact⟨sl',e2⟩
 ·obtain⟨o',e1⟩:=I.base.there b o e hx
  exact free b o' (neC b o e hx) e1 (I.base.free b o e n hx)
 ·obtain⟨o',e1⟩:=I.base.there b o e hx
  exact there b o' (neC b o e hx) e1
 ·obtain⟨m1,e1⟩:=I.base.tbls b ps e
  obtain⟨m2,e2⟩:=tbls b _ e1;exact⟨m1++m2,by rw[e2,Array.append_assoc]⟩
 ·obtain⟨m,hn,hl⟩:=I.loc
  refine⟨m,ns m hn,λi x v e1 e2 e3=>?_⟩;obtain⟨u,r,l⟩:=hl i x v e1 e2 e3;refine⟨u,r,?_⟩;rcases l with l|⟨k,c,e,z⟩
  ·exact .inl l
  ·exact .inr ⟨k,c,e,cellK x c e _ z⟩
 ·obtain⟨v,z⟩:=I.cell x c e
  exact⟨v,cellK x c e v z⟩
 ·obtain⟨m,⟨o,_,_,ho,_⟩,_⟩:=I.loc
  exact free _ o (λz=>(hch _ z).2.1 rfl) ho I.free
 ·obtain⟨v,o,ho,hd⟩:=I.cell x c e
  exact free c o (λz=>(hch c z).2.2.1 x c e rfl) ho (I.freeC x c e)
 ·obtain⟨e,n,ne,nf,d⟩:=I.pin p hp
  have nch:p.1∉ch:=λz=>(hch p.1 z).2.2.2 p hp rfl
  exact⟨keep p.1 p.2 ne nf nch e n,free p.1 p.2 nch e n,ne,nf,d⟩
def Inv.un{t':Nat}(I:Inv X pins O H s)(u:Un X.fs [] H H' s.heap h')(hok:HOk X.prog X.w H' h'):Inv X pins O H' {s with heap:=h',toks:=t'}:=by
 obtain⟨m,⟨o,es,ep,ho,r⟩,_⟩:=id I.loc;obtain⟨sl,hL⟩:=u.any ho I.free (by simp);exact I.step (g':=s.gens) (d':=s.drawn) (ch:=[]) (λ_ z=>nomatch z) (λb o _ hb _ e n=>u.keep b o e n hb (by simp)) (λb o _ hb _ e n=>u.slot b o e n hb (by simp)) (λb o _ e n=>u.free b o e n (by simp)) (λb o _ e=>u.there b o e (by simp)) u.tups u.frzs u.tbls (λm' hm=>by
  obtain⟨o',es',ep',ho',r'⟩:=hm;rw[ho]at ho';cases ho';exact⟨_,es',ep',hL,r'⟩) hok I.bare
def Inv.call{g':Array GenState}{t':Nat}{d':Drawn}{ch:List Addr}(I:Inv X pins O H s)(u:Un (frs X.stack) ch H H' s.heap h')(hok:HOk X.prog X.w H' h')(hg:AllBare g')
  (hch:∀b∈ch,(b∈X.ex\/X.s₀.heap.objs.size<=b)/\b≠X.env.locals/\(∀x c,X.env.cells.lookup x=some c->c≠b)/\∀p∈X.pn++pins,p.1≠b) :
  Inv X pins O H' {s with heap:=h',gens:=g',drawn:=d',toks:=t'}:=by
 obtain⟨m,⟨o,es,ep,ho,r⟩,_⟩:=id I.loc;obtain⟨sl,hL⟩:=u.any ho I.free λz=>(hch _ z).2.1 rfl
 exact I.step (ch:=ch) hch (λb o hL hb hc e n=>u.keep b o e n (λz=>(mem_cons.mp (I.stkSub b z)).elim hL hb) hc) (λb o _ _ hc e n=>u.any e n hc) (λb o hc e n=>u.free b o e n hc) (λb o hc e=>u.there b o e hc) u.tups u.frzs u.tbls (λm' hm=>by
  obtain⟨o',es',ep',ho',r'⟩:=hm;rw[ho]at ho';cases ho';exact⟨_,es',ep',hL,r'⟩) hok hg
def Inv.turned{t':Nat}{it:Addr}(I:Inv X pins O H s)(k:∀b o,b≠it->s.heap.get? b=some o->h'.get? b=some o)(hn:H it=none)(hL:it≠X.env.locals)
  (h1:it∈X.ex\/X.s₀.heap.objs.size<=it) (h2:∀x c,X.env.cells.lookup x=some c->c≠it) (h3:∀p∈X.pn++pins,p.1≠it):Inv X pins O H {s with heap:=h',toks:=t'}:=by
 have nit:∀b u,H b=some u->b≠it:=λb u e z=>by rw[z,hn]at e;cases e
 refine I.step (g':=s.gens) (d':=s.drawn) (ch:=[it]) (λb hb=>?_) (λb o _ _ hc e _=>k b o (λz=>hc (by simp[z])) e) (λb o _ _ hc e _=>⟨o.slots,k b o (λz=>hc (by simp[z])) e⟩) (λ_ _ _ _ n=>n)
  (λb o hc e=>⟨o,k b o (λz=>hc (by simp[z])) e⟩) (λ_ _ e=>e) (λ_ _ _ e=>e) (λb ps e=>⟨#[],by rw[e];simp⟩) (λm hm=>?_) (λb u e=>?_) I.bare
 ·have e:b=it:=by simpa using hb
  subst e;exact⟨h1,hL,h2,h3⟩
 ·obtain⟨o,es,ep,ho,r⟩:=hm
  exact⟨o,es,ep,k _ o (Ne.symm hL) ho,r⟩
 ·refine(I.hok b u e).stay (λc v hc q=>k c v ?_ q) (λ_ q=>q) λ_ _ q=>q
  rcases hc with z|z
  ·rw[z];exact nit b u e
  ·exact nit c _ z
def Inv.tok(I:Inv X pins O H s)(t:Nat):Inv X pins O H {s with toks:=t}:=I.un (h':=s.heap) (t':=t) Un.refl I.hok
theorem Inv.kept{t':Nat}(I:Inv X pins O H s)(k:∀b u,s.heap.get? b=some u->h'.get? b=some u):Inv X pins O H {s with heap:=h',toks:=t'}:=I.un (Un.kept k) (I.hok.kept k)
theorem Inv.laid{a:Addr}{o:HO}{t':Nat}(I:Inv X pins O H s)(k:∀b u,s.heap.get? b=some u->h'.get? b=some u)(hp:s.heap.objs.size<=a)(new:yJ X.prog X.w (upd H a o) h' a o) :
  Inv X pins O (upd H a o) {s with heap:=h',toks:=t'}:=I.un (Un.laid k hp (I.hok.fresh hp)) (I.hok.laid k hp new)
theorem Inv.write{x e:Addr}{o:HO}{t':Nat}(I:Inv X pins O H s)(mu:Mut (H x))(he:e=x\/H e=some (.own x))(k:∀b u,b≠e->s.heap.get? b=some u->h'.get? b=some u)(heo:∃u,h'.get? e=some u)
  (new:yJ X.prog X.w (upd H x o) h' x o):Inv X pins O (upd H x o) {s with heap:=h',toks:=t'}:=I.un (Un.write mu he k heo) (I.hok.write mu he k heo new)
def Inv.weak{O':List (Option V)}(I:Inv X pins O H s)(hl:O'.length=O.length)(w:∀(i:Nat) v,O'[i]?=some (some v)->O[i]?=some (some v)):Inv X pins O' H s :=
 ⟨I.ok,I.os,I.bare,I.base,let ⟨m,hn,hl'⟩:=I.loc;⟨m,hn,λi x v e1 e2 e3=>hl' i x v e1 (w i v e2) e3⟩,I.cell,I.free,I.freeC,I.pin,I.hok,hl.trans I.len⟩
def Inv.pins_of{pins':List (Addr×Obj)}(I:Inv X pins O H s)(h:∀p∈pins',s.heap.get? p.1=some p.2/\H p.1=none/\p.1≠X.env.locals/\p.1∉X.fs/\∀v,p.2.data≠.cell v):Inv X pins' O H s :=
 ⟨I.ok,I.os,I.bare,I.base,I.loc,I.cell,I.free,I.freeC,λp hp=>(mem_append.mp hp).elim (λz=>I.pin p (mem_append_left _ z)) (h p),I.hok,I.len⟩
def Wf{N:List Str}(hN:N.Nodup){i j:Nat}{x:Str}(a:N[i]?=some x)(b:N[j]?=some x):i=j:=by
 obtain⟨h1,e1⟩:=qG.mp a;obtain⟨h2,e2⟩:=qG.mp b;exact(List.getElem_inj hN).mp (e1.trans e2.symm)
def vD{M:Model}{A:Around}{E:Value->Shared->Prop}{i:Nat}{x:Str}{v:V}{u:Value}{Q:Unit->Shared->Prop}(I:Inv X pins O H s)(hN:X.N.Nodup)(hi:X.N[i]?=some x)(hx:Loc X.env.scope x)(r:z9 v u)
  (h:∀s',Inv X pins (O.set i (some v)) H s'->(∃a,Heap.SameBut a s.heap s'.heap/\(a=X.env.locals\/X.env.cells.lookup x=some a))->Q () s') (hf:X.fn x=true\/X.env.scope.names.lookup x=some .local:=by first|exact .inl rfl|exact .inr rfl|assumption):wpAny M A (storeName X.env x u) Q E s:=by
 obtain⟨m,hn,hl⟩:=id I.loc;have hcls:(X.env.scope.kind==.class||(X.env.scope.kind==.module&&X.env.locals != X.env.globals))=false:=by rw[I.ok.kind];rfl
 have hiO:i<O.length:=by rw[I.len];exact(qG.mp hi).1
 have cne:=I.cne;have tracked:∀{a:Addr} {h':Heap},(∃o,s.heap.get? a=some o/\H a=none)->Heap.SameBut a s.heap h'->HOk X.prog X.w H h':=λ{a h'} ha hs b ob e=>by
  obtain⟨_,_,hfree⟩:=ha;refine(I.hok b ob e).stay (λc w' hc q=>(hs.2 c ?_).trans q) (λ_ q=>q) λ_ _ q=>q
  rintro rfl
  rcases hc with rfl|hc
  ·rw[hfree]at e;cases e
  ·rw[hfree]at hc;cases hc
 rcases hx with hk|hk
 ·refine wpAny_storeName_local hk hn (λh' hn' hs=>?_) hcls
  obtain⟨oL,_,_,hoL,_⟩:=id hn;refine h _ ⟨I.ok,I.os,I.bare,⟨λb o e n hb hx=>?_,λb o e n hb hx=>?_,I.base.free,λb o e hx=>?_,I.base.tups,I.base.frzs,I.base.tbls⟩,⟨_,hn',λj y v' e1 e2 e3=>?_⟩,λy c e=>?_,I.free,I.freeC,λp hp=>?_,tracked ⟨oL,hoL,I.free⟩ hs,by simpa using I.len⟩ ⟨_,hs,.inl rfl⟩
  ·exact(hs.2 b (ne_of_lt (lt_of_lt_of_le (lt_size e) I.ok.above))).trans (I.base.keep b o e n hb hx)
  ·obtain⟨sl,e1⟩:=I.base.slot b o e n hb hx
   exact⟨sl,(hs.2 b (ne_of_lt (lt_of_lt_of_le (lt_size e) I.ok.above))).trans e1⟩
  ·obtain⟨o',e1⟩:=I.base.there b o e hx
   exact⟨o',(hs.2 b (ne_of_lt (lt_of_lt_of_le (lt_size e) I.ok.above))).trans e1⟩
  ·by_cases hj:j=i
   ·subst hj
    rw[hi]at e1;cases e1;rw[getElem?_set_self hiO]at e2;cases e2;exact⟨u,r,.inl ⟨hk,by simp⟩⟩
   ·rw[getElem?_set_ne (Ne.symm hj)]at e2
    obtain⟨u',r',q⟩:=hl j y v' e1 e2 e3;refine⟨u',r',?_⟩;rcases q with⟨k,e⟩|⟨k,c,e,z⟩
    ·refine .inl ⟨k,?_⟩
     have:y≠x:=λe=>hj (Wf hN e1 (e▸hi))
     simp[this,e]
    ·exact .inr ⟨k,c,e,z.sameBut hs (cne y c e)⟩
  ·obtain⟨w',z⟩:=I.cell y c e
   exact⟨w',z.sameBut hs (cne y c e)⟩
  ·obtain⟨e,n,ne,nf,d⟩:=I.pin p hp
   exact⟨(hs.2 p.1 ne).trans e,n,ne,nf,d⟩
 ·have hfn:X.fn x=true:=by
   rcases hf with z|z
   ·exact z
   ·rw[z]at hk;cases hk
  obtain⟨c,hc⟩:=I.ok.has x (.inl hk);obtain⟨w',z⟩:=I.cell x c hc;refine wpAny_storeName_cell I.ok.kind hk hc z (λh' hc' hs=>?_);obtain⟨oc,hoc,hocd⟩:=id z;refine h {s with heap:=h'} ⟨I.ok,I.os,I.bare,⟨λb o e n hb hx=>?_,λb o e n hb hx=>?_,I.base.free,λb o e hx=>?_,I.base.tups,I.base.frzs,I.base.tbls⟩,⟨m,hn.sameBut hs (Ne.symm (cne x c hc)),λj y v' e1 e2 e3=>?_⟩,λy c' e=>?_,I.free,I.freeC,λp hp=>?_,tracked ⟨oc,hoc,I.freeC x c hc⟩ hs,by simpa using I.len⟩ ⟨c,hs,.inr hc⟩
  ·exact(hs.2 b (ne_of_lt (lt_of_lt_of_le (lt_size e) (I.ok.cab x c hfn hc)))).trans (I.base.keep b o e n hb hx)
  ·obtain⟨sl,e1⟩:=I.base.slot b o e n hb hx
   exact⟨sl,(hs.2 b (ne_of_lt (lt_of_lt_of_le (lt_size e) (I.ok.cab x c hfn hc)))).trans e1⟩
  ·obtain⟨o',e1⟩:=I.base.there b o e hx
   exact⟨o',(hs.2 b (ne_of_lt (lt_of_lt_of_le (lt_size e) (I.ok.cab x c hfn hc)))).trans e1⟩
  ·by_cases hj:j=i
   ·subst hj
    rw[hi]at e1;cases e1;rw[getElem?_set_self hiO]at e2;cases e2;exact⟨u,r,.inr ⟨.inl hk,c,hc,hc'⟩⟩
   ·rw[getElem?_set_ne (Ne.symm hj)]at e2
    obtain⟨u',r',q⟩:=hl j y v' e1 e2 e3;refine⟨u',r',?_⟩;rcases q with q|⟨k,c',e,z'⟩
    ·exact .inl q
    ·refine .inr ⟨k,c',e,z'.sameBut hs ?_⟩
     rintro rfl
     exact hj (Wf hN e1 (I.ok.inj _ _ _ e hc▸hi))
  ·by_cases hcc:c'=c
   ·subst hcc;exact⟨_,hc'⟩
   ·obtain⟨w2,z2⟩:=I.cell y c' e
    exact⟨w2,z2.sameBut hs hcc⟩
  ·obtain⟨e,n,ne,nf,d⟩:=I.pin p hp
   refine⟨(hs.2 p.1 ?_).trans e,n,ne,nf,d⟩;intro q;rw[q,hoc]at e;have q':oc=p.2:=qJ e;exact d w' (by rw[<- q'];exact hocd)
def Y5{M:Model}{A:Around}{E:Value->Shared->Prop}{i:Nat}{x:Str}{v:V}{u:Value}{Q:Unit->Shared->Prop}(I:Inv X pins O H s)(hN:X.N.Nodup)(hi:X.N[i]?=some x)(hx:Loc X.env.scope x)(r:z9 v u)
  (h:∀s',Inv X pins (O.set i (some v)) H s'->Q () s') (hf:X.fn x=true\/X.env.scope.names.lookup x=some .local:=by first|exact .inl rfl|exact .inr rfl|assumption):wpAny M A (storeName X.env x u) Q E s :=
 vD I hN hi hx r (λs' I' _=>h s' I') hf
def Inv.call'{s':Shared}{ch:List Addr}(I:Inv X pins O H s)(ho:s'.os=s.os)(u:Un (frs X.stack) ch H H' s.heap s'.heap)(hok:HOk X.prog X.w H' s'.heap)(hg:AllBare s'.gens)
  (hch:∀b∈ch,(b∈X.ex\/X.s₀.heap.objs.size<=b)/\b≠X.env.locals/\(∀x c,X.env.cells.lookup x=some c->c≠b)/\∀p∈X.pn++pins,p.1≠b):Inv X pins O H' s':=by
 obtain⟨h',g',d',t',o'⟩:=s';have e:o'=s.os:=ho;subst e;exact I.call (g':=g') (t':=t') (d':=d') u hok hg hch
end
abbrev XK:=Value->Option Addr->Hp->Prop
abbrev St:=List (Option V)
abbrev VK:=V->Hp->Prop
abbrev TE:=St->Hp->VK->Prop
abbrev TT:=St->Hp->(Bool->Hp->Prop)->Prop
abbrev TA:=St->Hp->(List V->Hp->Prop)->Prop
structure Ends where
 nx:St->Hp->Prop
 rt:VK
 bk:St->Hp->Prop:=λ_ _=>False
 ct:St->Hp->Prop:=λ_ _=>False
abbrev TS:=Ends->St->Hp->Prop
def EP(X:Cx)(pins:List (Addr×Obj))(O:St)(Q:VK)(u:Value)(s':Shared):Prop:=∃v H',Inv X pins O H' s'/\z9 v u/\Q v H'
def TP(X:Cx)(pins:List (Addr×Obj))(O:St)(Q:Bool->Hp->Prop)(b:Bool)(s':Shared):Prop:=∃H',Inv X pins O H' s'/\Q b H'
def AP(X:Cx)(pins:List (Addr×Obj))(O:St)(Q:List V->Hp->Prop)(us:List Value)(s':Shared):Prop:=∃vs H',Inv X pins O H' s'/\zn vs us/\Q vs H'
def SP(X:Cx)(pins:List (Addr×Obj))(D:Ends)(f:Flow)(s':Shared):Prop :=
 match f with
 | .next=>∃O' H',Inv X pins O' H' s'/\D.nx O' H'| .brk=>∃O' H',Inv X pins O' H' s'/\D.bk O' H'| .cont=>∃O' H',Inv X pins O' H' s'/\D.ct O' H'| .ret u=>∃v O' H',Inv X pins O' H' s'/\z9 v u/\D.rt v H'
def PE(X:Cx)(e:Expr)(t:TE):Prop :=
 ∀(pins:List (Addr×Obj)) (s:Shared) (O:St) (H:Hp) (Q:VK),Inv X pins O H s->t O H Q->wpAny (model X.prog X.w) X.A (eval e X.env) (EP X pins O Q) X.xe s
def PT(X:Cx)(e:Expr)(t:TT):Prop :=
 ∀(pins:List (Addr×Obj)) (s:Shared) (O:St) (H:Hp) (Q:Bool->Hp->Prop),Inv X pins O H s->t O H Q->wpAny (model X.prog X.w) X.A (isTrue e X.env (eval e X.env)) (TP X pins O Q) X.xe s
def PW(X:Cx)(e:Expr)(t:TT):Prop :=
 ∀(whole:Sem Value) (pins:List (Addr×Obj)) (s:Shared) (O:St) (H:Hp) (Q:Bool->Hp->Prop),Inv X pins O H s->t O H Q->wpAny (model X.prog X.w) X.A (isTrue e X.env whole) (TP X pins O Q) X.xe s
def PW.pt{X:Cx}{e:Expr}{t:TT}(h:PW X e t):PT X e t:=h _
def PA(X:Cx)(es:List Expr)(t:TA):Prop :=
 ∀(pos:Pos) (pins:List (Addr×Obj)) (s:Shared) (O:St) (H:Hp) (Q:List V->Hp->Prop),Inv X pins O H s->t O H Q->wpAny (model X.prog X.w) X.A (spliced (backTo pos (starEach es X.env))) (AP X pins O Q) X.xe s
def PS(X:Cx)(st:Stmt)(t:TS):Prop :=
 ∀(pins:List (Addr×Obj)) (s:Shared) (O:St) (H:Hp) (D:Ends),Inv X pins O H s->t D O H->wpAny (model X.prog X.w) X.A (exec st X.env) (SP X pins D) X.xe s
def PSs(X:Cx)(st:List Stmt)(t:TS):Prop :=
 ∀(pins:List (Addr×Obj)) (s:Shared) (O:St) (H:Hp) (D:Ends),Inv X pins O H s->t D O H->wpAny (model X.prog X.w) X.A (execs st X.env) (SP X pins D) X.xe s
def thn{α:Type}{t:Sem α}{Q Q':α->Shared->Prop}{M:Model}{A:Around}{E:Value->Shared->Prop}{s:Shared}(h:wpAny M A t Q E s)(hQ:∀a s,Q a s->Q' a s):wpAny M A t Q' E s:=wpAny_mono h hQ λ_ _ x=>x
section
variable{X:Cx}
def bin{a b:Expr}{ta tb:TE}(ha:PE X a ta)(hb:PE X b tb){pins:List (Addr×Obj)}{s:Shared}{O:St}{H:Hp}{R:V->V->Hp->Prop}(I:Inv X pins O H s)(h:ta O H λx H1=>tb O H1 λy H2=>R x y H2)
  {α:Type} {Q:α->Shared->Prop} {f:Value->Value->Sem α}
  (hf:∀v u s2 x y H2,Inv X pins O H2 s2->z9 x v->z9 y u->R x y H2->wpAny (model X.prog X.w) X.A (f v u) Q X.xe s2) :
  wpAny (model X.prog X.w) X.A (eval a X.env) (λv s₁=>wpAny (model X.prog X.w) X.A (eval b X.env) (λu s₂=>wpAny (model X.prog X.w) X.A (f v u) Q X.xe s₂) X.xe s₁) X.xe s:=by
 refine thn (ha pins s O H _ I h) λv s1 ⟨x,H1,I1,r1,q1⟩=>?_
 refine thn (hb pins s1 O H1 _ I1 q1) λu s2 ⟨y,H2,I2,r2,q2⟩=>?_
 exact hf v u s2 x y H2 I2 r1 r2 q2
def Z5(i:Nat):TE:=λO H Q=>∃v,O[i]?=some (some v)/\Q v H
def tC(v:V):TE:=λ_ H Q=>Q v H
def zDd{i:Nat}{x:Str}{pos:Pos}(hN:X.N[i]?=some x)(hv:Vis X.env.scope x)(hd:(x==("__debug__":Str))=false:=by decide)(hcd:(x==("__classdict__":Str))=false:=by decide):PE X (.Name x pos) (Z5 i):=by
 intro pins s O H Q I h;obtain⟨v,e,h⟩:=h;obtain⟨m,hn,hl⟩:=I.loc;obtain⟨u,r,l⟩:=hl i x v hN e hv;have fin:EP X pins O Q u s:=⟨v,H,I,r,h⟩;rcases l with⟨hk,hm⟩|⟨hk,c,hc,hcell⟩
 ·exact wpAny_Name (wpAny_loadName_local I.ok.kind hk hn hm fin) hd
 ·rcases hk with hk|hk
  ·exact wpAny_Name (wpAny_loadName_cell I.ok.kind hk hc hcell fin) hd
  ·exact wpAny_Name (wpAny_loadName_free I.ok.kind hk hc hcell fin hcd) hd
def vE{i j pos}:PE X (.Constant (.int i) j pos) (tC (.int i)):=λ_ _ _ H _ I h=>wpAny_Constant_int ⟨.int i,H,I.tok _,⟨_,rfl⟩,h⟩
def pe_bl{b j pos}:PE X (.Constant (.bool b) j pos) (tC (.bl b)):=λ_ _ _ H _ I h=>Constant_bool ⟨.bl b,H,I,rfl,h⟩
def pe_non{j pos}:PE X (.Constant .none j pos) (tC .non):=λ_ _ _ H _ I h=>Constant_none ⟨.non,H,I,rfl,h⟩
def zDe{x j pos}:PE X (.Constant (.str x) j pos) (tC (.str x)):=λ_ _ _ H _ I h=>Calls.Constant_str ⟨.str x,H,I.tok _,⟨_,rfl⟩,h⟩
def Gl(X:Cx)(x:Str):Prop:=X.env.kindOf x=some .globalImplicit
def YI{E:Value->Shared->Prop}{pins:List (Addr×Obj)}{s:Shared}{O:St}{H:Hp}{x:Str}{u:Value}{pos:Pos}{Q:Value->Shared->Prop}(I:Inv X pins O H s)(hg:Gl X x)(hm:X.mg x=some u)(h:Q u s)
  (hd:(x==("__debug__":Str))=false:=by decide):wpAny (model X.prog X.w) X.A (eval (.Name x pos) X.env) Q E s :=
 Calls.Name_function_global I.ok.kind hg (Calls.loadGlobal_global (by rw[I.ok.glob];exact I.mod.glob.keeps I.bk) hm h) hd
def vF{E:Value->Shared->Prop}{pins:List (Addr×Obj)}{s:Shared}{O:St}{H:Hp}{x:Str}{u:Value}{pos:Pos}{Q:Value->Shared->Prop}(I:Inv X pins O H s)(hg:Gl X x)(hm:X.mg x=none)(hv:bootBuiltins x=some u)(h:Q u s)
  (hn:x≠"__name__":=by decide) (hd:(x==("__debug__":Str))=false:=by decide):wpAny (model X.prog X.w) X.A (eval (.Name x pos) X.env) Q E s:=by
 obtain⟨mb,h1,h2⟩:=I.mod.blt;exact Calls.Name_function_global I.ok.kind hg (Calls.loadGlobal_builtin (by rw[I.ok.glob];exact I.mod.glob.keeps I.bk) hm (by rw[I.ok.blt];exact h1.keeps I.bk) ((h2 x hn).trans hv) h) hd
def Qm{x:Str}{v:V}{u:Value}{pos:Pos}(hg:Gl X x)(hm:X.mg x=some u)(r:z9 v u)(hd:(x==("__debug__":Str))=false:=by decide):PE X (.Name x pos) (tC v) :=
 λ_ _ _ H _ I h=>YI I hg hm ⟨v,H,I,r,h⟩ hd
def Qn{x:Str}{v:V}{u:Value}{pos:Pos}(hg:Gl X x)(hm:X.mg x=none)(hv:bootBuiltins x=some u)(r:z9 v u)(hn:x≠"__name__":=by decide)(hd:(x==("__debug__":Str))=false:=by decide):PE X (.Name x pos) (tC v) :=
 λ_ _ _ H _ I h=>vF I hg hm hv ⟨v,H,I,r,h⟩ hn hd
variable{a b:Expr}{ta tb:TE}{pos:Pos}
def tB(t:TE):TT:=λO H Q=>t O H λx H1=>∃c,x=.bl c/\Q c H1
def pt_val{e:Expr}{t:TE}(h:PE X e t)(he:∀whole,isTrue e X.env whole=(do let v <- whole;standAt e.pos;holding [v] (truthy v)):=by intro _;rfl):PT X e (tB t):=by
 intro pins s O H Q I hw;refine isTrue_plain (thn (h pins s O H _ I hw) λv s1 ⟨x,H1,I1,r1,q1⟩=>?_) (he _);obtain⟨d,rfl,q⟩:=q1;cases r1;exact wpAny_truthy_bool ⟨H1,I1,q⟩
variable{tA tB':TT}{jW:List Expr}
def tAnd(t u:TT):TT:=λO H Q=>t O H λc H1=>if c=true then u O H1 Q else Q false H1
def tOr(t u:TT):TT:=λO H Q=>t O H λc H1=>if c=true then Q true H1 else u O H1 Q
def tNot(t:TT):TT:=λO H Q=>t O H λc H1=>Q (!c) H1
def pw_and1(ha:PT X a tA):PW X (.BoolOp .And [a] pos) tA:=by
 intro wh pins s O H Q I h;refine isTrue_and (thn (ha pins s O H Q I h) λc s1 e=>?_);cases c with
 |true=>exact isTrue_and_nil e|false=>exact e
def pw_or1(ha:PT X a tA):PW X (.BoolOp .Or [a] pos) tA:=by
 intro wh pins s O H Q I h;refine isTrue_or (thn (ha pins s O H Q I h) λc s1 e=>?_);cases c with
 |false=>exact isTrue_or_nil e|true=>exact e
def pw_and(ha:PT X a tA)(hb:PW X (.BoolOp .And (b::jW) pos) tB'):PW X (.BoolOp .And (a::b::jW) pos) (tAnd tA tB'):=by
 intro wh pins s O H Q I h;refine isTrue_and (thn (ha pins s O H _ I h) λc s1 ⟨H1,I1,q1⟩=>?_);cases c with
 |true=>exact hb wh pins s1 O H1 Q I1 q1|false=>exact⟨H1,I1,q1⟩
def pw_or(ha:PT X a tA)(hb:PW X (.BoolOp .Or (b::jW) pos) tB'):PW X (.BoolOp .Or (a::b::jW) pos) (tOr tA tB'):=by
 intro wh pins s O H Q I h;refine isTrue_or (thn (ha pins s O H _ I h) λc s1 ⟨H1,I1,q1⟩=>?_);cases c with
 |true=>exact⟨H1,I1,q1⟩|false=>exact hb wh pins s1 O H1 Q I1 q1
def pt_not(ha:PT X a tA):PT X (.UnaryOp .Not a pos) (tNot tA):=by
 intro pins s O H Q I h;exact isTrue_not (ha pins s O H (λc H1=>Q (!c) H1) I h)
def tAndV(ta tb:TE):TE:=λO H Q=>ta O H λx H1=>∃c,x=.bl c/\if c=true then tb O H1 Q else Q (.bl false) H1
def tNotV(ta:TE):TE:=λO H Q=>ta O H λx H1=>∃c,x=.bl c/\Q (.bl (!c)) H1
def pe_one{op}{t:TE}(h:PE X a t):PE X (.BoolOp op [a] pos) t:=λpins s O H Q I hw=>BoolOp_one (h pins s O H Q I hw)
def pe_and(ha:PE X a ta)(hb:PE X (.BoolOp .And (b::jW) pos) tb):PE X (.BoolOp .And (a::b::jW) pos) (tAndV ta tb):=by
 intro pins s O H Q I h;refine BoolOp_and (thn (ha pins s O H _ I h) λv s1 ⟨x,H1,I1,r1,q1⟩=>?_);obtain⟨c,rfl,q1⟩:=q1;cases r1;refine wpAny_truthy_bool ?_;cases c with
 |true=>exact hb pins s1 O H1 Q I1 q1|false=>exact⟨.bl false,H1,I1,rfl,q1⟩
def pe_not(ha:PE X a ta):PE X (.UnaryOp .Not a pos) (tNotV ta):=by
 intro pins s O H Q I h;refine UnaryOp_ (thn (ha pins s O H _ I h) λv s1 ⟨x,H1,I1,r1,q1⟩=>?_);obtain⟨c,rfl,q1⟩:=q1;cases r1;exact not_of (wpAny_truthy_bool ⟨.bl (!c),H1,I1,rfl,q1⟩)
def tIf(t:TT)(ta tb:TE):TE:=λO H Q=>t O H λc H1=>if c=true then ta O H1 Q else tb O H1 Q
def zB7{c:Expr}(hc:PT X c tA)(ha:PE X a ta)(hb:PE X b tb):PE X (.IfExp c a b pos) (tIf tA ta tb):=by
 intro pins s O H Q I h;refine wpAny_IfExp (thn (hc pins s O H _ I h) λd s1 ⟨H1,I1,q1⟩=>?_);cases d with
 |true=>exact ha pins s1 O H1 Q I1 q1|false=>exact hb pins s1 O H1 Q I1 q1
end
def SqL(K:qH)(H:Hp)(a:Addr)(xs:List V):Prop :=
 Rd H a (.l xs) \/
  ∃(o:Obj) (its:Array Value) (n:Nat),K.lookup a=some o/\o.cls=.type "list"/\o.dict=none/\o.data=.seq its n/\its.size<=sizeLine/\zn xs its.toList
def SqT(K:qH)(H:Hp)(a:Addr)(xs:List V):Prop :=
 Rd H a (.t xs) \/
  ∃(o:Obj) (its:Array Value) (n:Nat),K.lookup a=some o/\o.cls=.type "tuple"/\o.data=.seq its n/\its.size<=sizeLine/\zn xs its.toList
def absV:Value->Option V
 | .none=>some .non| .bool b=>some (.bl b)| .int i _=>some (.int i)| .str x _=>some (.str x)| .bytes b _=>some (.byt b)| .float b _=>some (.flt b)| .ref a=>some (.ref a)| .type n=>some (.ty n)|_=>none
def z9.abs{x:V}{u:Value}(r:z9 x u):absV u=some x:=by
 cases x with
 |non=>cases r;rfl|bl _=>cases r;rfl|int _=>obtain⟨t,rfl⟩:=r;rfl|str _=>obtain⟨t,rfl⟩:=r;rfl|byt _=>obtain⟨t,rfl⟩:=r;rfl|flt _=>obtain⟨t,rfl⟩:=r;rfl|ref _=>cases r;rfl|ty _=>cases r;rfl
theorem z9.inj{x y:V}{u:Value}(r:z9 x u)(q:z9 y u):x=y:=qJ (r.abs.symm.trans q.abs)
theorem zn.inj:∀{xs ys:List V} {us:List Value},zn xs us->zn ys us->xs=ys
 |_,_,_,.nil,.nil=>rfl|_,_,_,.cons r t,.cons r' t'=>by rw[r.inj r',zn.inj t t']
section
variable{X:Cx}{pins:List (Addr×Obj)}{O:St}{H:Hp}{s:Shared}{a:Addr}{xs ys:List V}
def SqL.of{K:qH}(h:H a=some (.l xs)):SqL K H a xs:=.inl (.inl h)
def SqT.of{K:qH}(h:H a=some (.t xs)):SqT K H a xs:=.inl (.inl h)
def Inv.list(I:Inv X pins O H s)(h:SqL X.K H a xs):∃its:List Value,zn xs its/\PlainL s.heap a its.toArray/\xs.length<=sizeLine:=by
 rcases h with h|⟨o,its,n,hk,hc,hd,hs,hz,r⟩
 ·obtain⟨z,its,n,r,e⟩:=h.ok I.hok
  exact⟨its,r,⟨_,n,e,rfl,rfl,rfl⟩,z⟩
 ·refine⟨its.toList,r,⟨o,n,I.kIn a o hk,hc,hd,by simpa using hs⟩,?_⟩
  have e:=r.length;simp only[Array.length_toList]at e;omega
def Inv.tuple(I:Inv X pins O H s)(h:SqT X.K H a xs):∃its:List Value,zn xs its/\IsTup s.heap a its.toArray/\xs.length<=sizeLine:=by
 rcases h with h|⟨o,its,n,hk,hc,hs,hz,r⟩
 ·obtain⟨z,its,r,p⟩:=h.ok I.hok
  exact⟨its,r,p,z⟩
 ·refine⟨its.toList,r,⟨o,I.kIn a o hk,hc,n,by simpa using hs⟩,?_⟩
  have e:=r.length;simp only[Array.length_toList]at e;omega
def Inv.list_inj(I:Inv X pins O H s)(h:SqL X.K H a xs)(h':SqL X.K H a ys):xs=ys:=by
 obtain⟨its,r,⟨o,n,e,_,_,d⟩,_⟩:=I.list h;obtain⟨its',r',⟨o',n',e',_,_,d'⟩,_⟩:=I.list h';rw[e]at e';cases e';rw[d]at d';injection d' with d1 _
 have:its=its':=by simpa using congrArg Array.toList d1
 subst this;exact r.inj r'
def Inv.tuple_inj(I:Inv X pins O H s)(h:SqT X.K H a xs)(h':SqT X.K H a ys):xs=ys:=by
 obtain⟨its,r,⟨o,e,_,n,d⟩,_⟩:=I.tuple h;obtain⟨its',r',⟨o',e',_,n',d'⟩,_⟩:=I.tuple h';rw[e]at e';cases e';rw[d]at d';injection d' with d1 _
 have:its=its':=by simpa using congrArg Array.toList d1
 subst this;exact r.inj r'
end
abbrev Cx.wish(X:Cx)(E:Value->Shared->Prop):Cx:={X with xe:=E}
abbrev Cx.nox(X:Cx):Cx:=X.wish λ_ _=>False
theorem Cx.Ok.wish{X:Cx}(ok:X.Ok)(E:Value->Shared->Prop):(X.wish E).Ok :=
 ⟨ok.mod,ok.kind,ok.glob,ok.blt,ok.above,ok.inj,ok.has,ok.cab,ok.hd,ok.frames,ok.stk,ok.exf,ok.bs,ok.bsz,ok.noex,ok.exfs,ok.funs,ok.frf⟩
def Cx.Ok.unwish{X:Cx}{E:Value->Shared->Prop}(ok:(X.wish E).Ok):X.Ok :=
 ⟨ok.mod,ok.kind,ok.glob,ok.blt,ok.above,ok.inj,ok.has,ok.cab,ok.hd,ok.frames,ok.stk,ok.exf,ok.bs,ok.bsz,ok.noex,ok.exfs,ok.funs,ok.frf⟩
section
variable{X:Cx}{pins:List (Addr×Obj)}{O:St}{H:Hp}{s:Shared}{E:Value->Shared->Prop}
theorem Inv.wish(I:Inv X pins O H s)(E:Value->Shared->Prop):Inv (X.wish E) pins O H s:=⟨I.ok.wish E,I.os,I.bare,I.base,I.loc,I.cell,I.free,I.freeC,I.pin,I.hok,I.len⟩
theorem Inv.unwish(I:Inv (X.wish E) pins O H s):Inv X pins O H s:=⟨I.ok.unwish,I.os,I.bare,I.base,I.loc,I.cell,I.free,I.freeC,I.pin,I.hok,I.len⟩
theorem SP.unwish{D:Ends}{f:Flow}{s':Shared}(h:SP (X.wish E) pins D f s'):SP X pins D f s':=by
 cases f with
 |next=>obtain⟨O',H',I,q⟩:=h;exact⟨O',H',I.unwish,q⟩|brk=>obtain⟨O',H',I,q⟩:=h;exact⟨O',H',I.unwish,q⟩|cont=>obtain⟨O',H',I,q⟩:=h;exact⟨O',H',I.unwish,q⟩|ret u=>obtain⟨v,O',H',I,r,q⟩:=h;exact⟨v,O',H',I.unwish,r,q⟩
theorem PE.nox{e:Expr}{t:TE}(h:PE X.nox e t):PE X e t:=λpins s O H Q I hw =>
 wpAny_mono (h pins s O H Q (I.wish _) hw) (λ_ _ ⟨v,H',I',r,q⟩=>⟨v,H',I'.unwish,r,q⟩) λ_ _ z=>False.elim z
theorem PT.nox{e:Expr}{t:TT}(h:PT X.nox e t):PT X e t:=λpins s O H Q I hw =>
 wpAny_mono (h pins s O H Q (I.wish _) hw) (λ_ _ ⟨H',I',q⟩=>⟨H',I'.unwish,q⟩) λ_ _ z=>False.elim z
theorem PSs.nox{st:List Stmt}{t:TS}(h:PSs X.nox st t):PSs X st t:=λpins s O H D I hw =>
 wpAny_mono (h pins s O H D (I.wish _) hw) (λ_ _ q=>q.unwish) λ_ _ z=>False.elim z
end
section
variable{X:Cx}{st:Stmt}{jW:List Stmt}{t u:TS}{e:Expr}{te:TE}{pos:Pos}
def tNext:TS:=λD O H=>D.nx O H
def tSeq(t u:TS):TS:=λD O H=>t {D with nx:=u D} O H
def pss_nil:PSs X [] tNext:=λ_ _ O H _ I h=>wpAny_execs_nil ⟨O,H,I,h⟩
def Y6(h1:PS X st t)(h2:PSs X jW u):PSs X (st::jW) (tSeq t u):=by
 intro pins s O H D I h;refine wpAny_execs_cons (thn (h1 pins s O H {D with nx:=u D} I h) λf s1 q=>?_)
 cases f with
 |next =>
  obtain⟨O',H',I',q⟩:=q;exact h2 pins s1 O' H' D I' q
 |ret v=>exact q|brk=>exact q|cont=>exact q
def uX(h1:PS X st t):PSs X [st] t:=by
 intro pins s O H D I h;refine wpAny_execs_cons (thn (h1 pins s O H D I h) λf s1 q=>?_);cases f with
 |next=>exact wpAny_execs_nil q|ret v=>exact q|brk=>exact q|cont=>exact q
def Inv.quiet{pins:List (Addr×Obj)}{O:St}{H:Hp}{s:Shared}(I:Inv X pins O H s):interactive X.env=false:=by simp[interactive,I.ok.kind]
def tDrop(te:TE):TS:=λD O H=>te O H λ_ H1=>D.nx O H1
def Qo(he:PE X e te)(hs:swapsWith e none pos.line X.env=pure false:=by rfl):PS X (.Expr e pos) (tDrop te):=by
 intro pins s O H D I h;exact wpAny_Expr_any (thn (he pins s O H _ I h) λv s1 ⟨x,H1,I1,r1,q1⟩=>⟨O,H1,I1,q1⟩) I.quiet hs
def tRet(te:TE):TS:=λD O H=>te O H D.rt
def ps_ret(he:PE X e te):PS X (.Return (some e) pos) (tRet te):=by
 intro pins s O H D I h;exact wpAny_Return_some (thn (he pins s O H _ I h) λv s1 ⟨x,H1,I1,r1,q1⟩=>⟨x,O,H1,I1,r1,q1⟩)
def tIfS(c:TT)(t u:TS):TS:=λD O H=>c O H λb H1=>if b=true then t D O H1 else u D O H1
def ps_if{c:Expr}{a b:List Stmt}{tc:TT}(hc:PT X c tc)(ha:PSs X a t)(hb:PSs X b u):PS X (.If c a b pos) (tIfS tc t u):=by
 intro pins s O H D I h;refine wpAny_If (thn (hc pins s O H _ I h) λd s1 ⟨H1,I1,q1⟩=>?_);cases d with
 |true=>exact ha pins s1 O H1 D I1 q1|false=>exact hb pins s1 O H1 D I1 q1
def tNever:TS:=λ_ _ _=>False
def zB8:PS X st tNever:=λ_ _ _ _ _ _ h=>h.elim
end
abbrev TG:=V->St->Hp->(St->Hp->Prop)->Prop
abbrev TGs:=List V->St->Hp->(St->Hp->Prop)->Prop
def PG(X:Cx)(target:Expr)(t:TG):Prop :=
 ∀(pins:List (Addr×Obj)) (s:Shared) (O:St) (H:Hp) (v:V) (u:Value) (Q:St->Hp->Prop),Inv X pins O H s->z9 v u->t v O H Q ->
  wpAny (model X.prog X.w) X.A (assign target X.env u) (λ_ s'=>∃O' H',Inv X pins O' H' s'/\Q O' H') X.xe s
def PGs(X:Cx)(ts:List Expr)(t:TGs):Prop :=
 ∀(pins:List (Addr×Obj)) (s:Shared) (O:St) (H:Hp) (vs:List V) (us:List Value) (Q:St->Hp->Prop),Inv X pins O H s->zn vs us->t vs O H Q ->
  wpAny (model X.prog X.w) X.A (assignInOrder ((assignEach ts X.env).map (·.2)) us) (λ_ s'=>∃O' H',Inv X pins O' H' s'/\Q O' H') X.xe s
abbrev TSet:=V->V->V->Hp->(Hp->Prop)->Prop
def PSet(X:Cx)(t:TSet):Prop :=
 ∀(pins:List (Addr×Obj)) (s:Shared) (O:St) (H:Hp) (o i v:V) (ov iv u:Value) (Q:Hp->Prop),Inv X pins O H s->z9 o ov->z9 i iv->z9 v u->t o i v H Q ->
  wpAny (model X.prog X.w) X.A (setItem ov iv u) (λ_ s'=>∃H',Inv X pins O H' s'/\Q H') X.xe s
section
variable{X:Cx}{pos:Pos}
def uY(i:Nat):TG:=λv O H Q=>Q (O.set i (some v)) H
def Qp{i:Nat}{x:Str}(hN:X.N.Nodup)(hi:X.N[i]?=some x)(hx:Loc X.env.scope x)(hf:X.fn x=true\/X.env.scope.names.lookup x=some .local:=by first|exact .inl rfl|exact .inr rfl|assumption):PG X (.Name x pos) (uY i):=by
 intro pins s O H v u Q I r h;exact wpAny_assign_Name (Y5 I hN hi hx r (λs' I'=>⟨_,H,I',h⟩) hf)
def gNil:TGs:=λvs O H Q=>vs=[]/\Q O H
def gCons(t:TG)(u:TGs):TGs:=λvs O H Q=>∃v r,vs=v::r/\t v O H λO' H'=>u r O' H' Q
def pgs_nil:PGs X [] gNil:=by
 intro pins s O H vs us Q I r h;obtain⟨e,h⟩:=h;subst e;cases r;exact assignInOrder_nil ⟨O,H,I,h⟩
def zB9{e:Expr}{es:List Expr}{t:TG}{u:TGs}(h1:PG X e t)(h2:PGs X es u)
  (hs:(assignEach (e::es) X.env).map (·.2)=assign e X.env::(assignEach es X.env).map (·.2):=by rfl):PGs X (e::es) (gCons t u):=by
 intro pins s O H vs us Q I r h;obtain⟨v,vr,e1,h⟩:=h;subst e1;cases r with
 |cons r rr =>
  rw[hs];refine assignInOrder_cons (thn (h1 pins s O H _ _ _ I r h) λ_ s1 ⟨O1,H1,I1,q1⟩=>?_);exact h2 pins s1 O1 H1 _ _ Q I1 rr q1
def gTup(K:qH)(n:Nat)(t:TGs):TG:=λv O H Q=>∃a xs,v=.ref a/\SqT K H a xs/\xs.length=n/\t xs O H Q
def pg_tup{es:List Expr}{k:Nat}{t:TGs}{n:Nat}(hc:X.calm=true)(h:PGs X es t)
  (hn:(assignEach es X.env).length=n:=by rfl) (hst:(assignEach es X.env).findIdx? (·.1)=none:=by rfl):PG X (.Tuple es k pos) (gTup X.K n t):=by
 intro pins s O H v u Q I r hw;obtain⟨a,xs,e1,hq,hl,hw⟩:=hw;subst e1;cases r;obtain⟨its,rv,ht,hz⟩:=I.tuple hq;refine assign_Tuple_tuple (I.ok.hd hc) ht (by simp[hn,<- hl,rv.length]) hst λh' hx=>?_
 have I1:Inv X pins O H {s with heap:=h'}:=I.kept (t':=s.toks) λb o e=>hx b o (ne_of_lt (lt_size e)) e
 exact h pins _ O H xs _ Q I1 (by simpa using rv) hw
def gSub(to ti:TE)(t:TSet):TG:=λv O H Q=>to O H λo H1=>ti O H1 λi H2=>t o i v H2 λH3=>Q O H3
def pg_sub{o i:Expr}{to ti:TE}{t:TSet}(ho:PE X o to)(hi:PE X i ti)(hs:PSet X t)
  (ha:∀v,assign (.Subscript o i pos) X.env v=(do
   let ov <- holding [v] (eval o X.env)
   let iv <- holding [v,ov] (eval i X.env)
   standAt pos
   holding [v,ov,iv] (setItem ov iv v)
   release [v,ov,iv] []):=by intro _;rfl):PG X (.Subscript o i pos) (gSub to ti t):=by
 intro pins s O H v u Q I r h;rw[ha];refine qB (wpAny_holding (thn (ho pins s O H _ I h) λov s1 ⟨x,H1,I1,r1,q1⟩=>?_));refine qB (wpAny_holding (thn (hi pins s1 O H1 _ I1 q1) λiv s2 ⟨y,H2,I2,r2,q2⟩=>?_));refine qB (wpAny_standAt (qB (wpAny_holding (thn (hs pins s2 O H2 x y v ov iv u _ I2 r1 r2 r q2) λ_ s3 ⟨H3,I3,q3⟩=>?_))));exact wpAny_release ⟨O,H3,I3,q3⟩
def tAsg(te:TE)(g:TG):TS:=λD O H=>te O H λx H1=>g x O H1 D.nx
def zDf{tg e:Expr}{te:TE}{g:TG}(he:PE X e te)(hg:PG X tg g)(hs:swapsWithSole [tg] e pos.line X.env=pure false:=by rfl)(hw:swappedStores [tg] e X.env=pure none:=by rfl)
  (h1:(assignEach [tg] X.env).map (·.2)=[assign tg X.env]:=by rfl):PS X (.Assign [tg] e pos) (tAsg te g):=by
 intro pins s O H D I h;refine wpAny_Assign_stores (thn (he pins s O H _ I h) λv s1 ⟨x,H1,I1,r1,q1⟩=>?_) hs hw;rw[h1];exact thn (hg pins s1 O H1 x v _ I1 r1 q1) λ_ s2 q=>q
def ps_set{i:Nat}{x:Str}{e:Expr}{te:TE}{pos':Pos}(hN:X.N.Nodup)(hi:X.N[i]?=some x)(hx:Loc X.env.scope x)(he:PE X e te)(hs:swapsWith e (some (.Name x pos')) pos.line X.env=pure false:=by rfl)(hf:X.fn x=true\/X.env.scope.names.lookup x=some .local:=by first|exact .inl rfl|exact .inr rfl|assumption) :
  PS X (.Assign [.Name x pos'] e pos) (tAsg te (uY i)):=by
 intro pins s O H D I h;refine wpAny_Assign_Name (thn (he pins s O H _ I h) λv s1 ⟨y,H1,I1,r1,q1⟩=>?_) hs;exact Y5 I1 hN hi hx r1 (λs2 I2=>⟨_,H1,I2,q1⟩) hf
end
structure It where
 go:Nat->Hp->Prop
 yld:Nat->Hp->V->Hp->Prop
 stop:Nat->Hp->Prop
def zDg(X:Cx)(pins:List (Addr×Obj))(H:Hp)(b:Addr):Prop :=
 H b=none/\b≠X.env.locals/\b∉X.fs/\(b∈X.ex\/X.s₀.heap.objs.size<=b)/\(∀x c,X.env.cells.lookup x=some c->c≠b)/\∀p∈X.pn++pins,p.1≠b
def Inv.fpOk{X:Cx}{pins:List (Addr×Obj)}{O:St}{H H':Hp}{s:Shared}{b:Addr}(I:Inv X pins O H s)(hb:s.heap.objs.size<=b)(hn:H' b=none):zDg X pins H' b:=by
 refine⟨hn,Nat.ne_of_gt (lt_of_lt_of_le I.lt hb),I.nofs hb,.inr (le_trans I.sz hb),λx c e z=>?_,λp hp z=>?_⟩
 ·obtain⟨v,q⟩:=I.cell x c e
  exact absurd (lt_of_lt_of_le q.lt (by rw[z];exact hb)) (lt_irrefl _)
 ·exact absurd (lt_of_lt_of_le (lt_size (I.pin p hp).1) (by rw[z];exact hb)) (lt_irrefl _)
structure Turn(P:Program)(w:World)(K:qH)(tg:Expr)(J:It)(fp:List Addr)(it:Addr)(tn:Nat->Heap->Prop):Prop where
 mem:it∈fp
 obj:∀i h,tn i h->∀b∈fp,∃o,h.get? b=some o/\∀v,o.data≠.cell v
 keep:∀i h h',tn i h->(∀b∈fp,∀o,h.get? b=some o->h'.get? b=some o)->tn i h'
 item:∀(X:Cx),X.prog=P->X.w=w->X.K=K->X.calm=true->∀(i:Nat) (pins:List (Addr×Obj)) (s:Shared) (O:St) (H:Hp) (E:Value->Shared->Prop),Inv X pins O H s->(∀b∈fp,zDg X pins H b)->tn i s.heap->J.go i H ->
  wpAny (model P w) X.A (pyNext (.ref it)) (λr s1=>∃u,r=some u /\
   wpAny (model P w) X.A (letOwnedTupleGo tg (.ref it) u) (λ_ s2=>∃x H',Inv X pins O H' s2/\z9 x u/\J.yld i H x H'/\tn (i+1) s2.heap/\∀b∈fp,H' b=none) E s1) E s
 done:∀(X:Cx),X.prog=P->X.w=w->X.K=K->X.calm=true->∀(i:Nat) (pins:List (Addr×Obj)) (s:Shared) (O:St) (H:Hp) (E:Value->Shared->Prop),Inv X pins O H s->(∀b∈fp,zDg X pins H b)->tn i s.heap->J.stop i H ->
  wpAny (model P w) X.A (pyNext (.ref it)) (λr s1=>r=none/\Inv X pins O H s1) E s
 self:∀(A:Around) (i:Nat) (s:Shared) (Q:Value->Shared->Prop) (E:Value->Shared->Prop),tn i s.heap->Q (.ref it) s->wpAny (model P w) A (pyIter (.ref it)) Q E s
abbrev TI:=St->Hp->(It->Hp->Prop)->Prop
def PIE(X:Cx)(pins:List (Addr×Obj))(O:St)(tg:Expr)(R:It->Hp->Prop)(itv:Value)(s2:Shared):Prop :=
 ∃(it:Addr) (fp:List Addr) (tn:Nat->Heap->Prop) (J:It) (H':Hp),itv=.ref it/\Inv X pins O H' s2/\Turn X.prog X.w X.K tg J fp it tn/\tn 0 s2.heap/\(∀b∈fp,zDg X pins H' b)/\R J H'
def PI(X:Cx)(tg iter:Expr)(wi:TI):Prop :=
 ∀(pins:List (Addr×Obj)) (s:Shared) (O:St) (H:Hp) (R:It->Hp->Prop),Inv X pins O H s->wi O H R ->
  wpAny (model X.prog X.w) X.A (eval iter X.env) (λv s1=>wpAny (model X.prog X.w) X.A (pyIter v) (PIE X pins O tg R) X.xe s1) X.xe s
def Wg{M:Model}{A:Around}{E:Value->Shared->Prop}{s:Shared}{tg:Expr}{it:Addr}{u:Value}{o:Obj}{n:String}{vs:Array Value}{Q:Unit->Shared->Prop}(ho:s.heap.get? it=some o)(hc:o.cls=.type n)(hd:o.data=.fields vs)
  (hn:["enumerate","zip","dict_itemiterator","dict_reverseitemiterator","odict_iterator","itertools.zip_longest","itertools.pairwise"].contains n=false) (hQ:Q () s):wpAny M A (letOwnedTupleGo tg (.ref it) u) Q E s:=by
 unfold letOwnedTupleGo
 cases tg<;>first
  |exact qC hQ
  | (cases u<;>first
    |exact qC hQ
    | (refine qB (wpAny_load ho ?_)
       rw[hc,hd];show wpAny M A (if(["enumerate","zip","dict_itemiterator","dict_reverseitemiterator","odict_iterator","itertools.zip_longest","itertools.pairwise"].contains n&&vs[0]?==some (rawInt _))=true then _ else _) Q E s;rw[if_neg (by intro h;rw[hn,Bool.false_and]at h;cases h)];exact qC hQ))
def Itl(K:qH)(a:Addr):It :=
 ⟨λi H=>∃xs x,SqL K H a xs/\xs[i]?=some x,λi H x H'=>H'=H/\∀xs,SqL K H a xs->xs[i]?=some x,λi H=>∃xs,SqL K H a xs/\xs.length<=i⟩
def Itt(K:qH)(a:Addr):It :=
 ⟨λi H=>∃xs x,SqT K H a xs/\xs[i]?=some x,λi H x H'=>H'=H/\∀xs,SqT K H a xs->xs[i]?=some x,λi H=>∃xs,SqT K H a xs/\xs.length<=i⟩
def Itr(lo:Int)(n:Nat):It:=⟨λi _=>i<n,λi H x H'=>H'=H/\x=.int (lo+i),λi _=>n<=i⟩
def Qq{P:Program}{w:World}{K:qH}{tg:Expr}(a it:Addr):Turn P w K tg (Itl K a) [it] it (λi h=>h.IsListIter it a i) where
 mem:=by simp
 obj:=λi h st b hb=>by
  have e:b=it:=by simpa using hb
  subst e;obtain⟨o,e,c,d⟩:=st;exact⟨o,e,λv z=>by rw[d]at z;cases z⟩
 keep:=λi h h' st k=>st.at λo e=>k it (by simp) o e
 item:=by
  intro X hP hw hK hc i pins s O H E I hf st hg;subst hP hw hK;obtain⟨xs,x,hq,hx⟩:=hg;obtain⟨its,rv,p,hz⟩:=I.list hq;obtain⟨u,hu,ru⟩:=rv.get hx;obtain⟨f0,f1,f2,f3,f4,f5⟩:=hf it (by simp);refine wpAny_pyNext_list_item st p.isList (x:=u) (by simpa using hu) λh' st' sb=>?_
  have I1:Inv X pins O H {s with heap:=h'}:=I.turned (t':=s.toks) (λb o hb e=>(sb.2 b hb).trans e) f0 f1 f3 f4 f5
  obtain⟨o,e,c,d⟩:=id st';exact⟨u,rfl,Wg (s:={s with heap:=h'}) e c d (by decide) ⟨x,H,I1,ru,⟨rfl,λys hy=>by rw[I.list_inj hy hq];exact hx⟩,st',λb hb=>(hf b hb).1⟩⟩
 done:=by
  intro X hP hw hK hc i pins s O H E I hf st hg;subst hP hw hK;obtain⟨xs,hq,hx⟩:=hg;obtain⟨its,rv,p,hz⟩:=I.list hq;obtain⟨f0,f1,f2,f3,f4,f5⟩:=hf it (by simp);have hl:=rv.length;exact wpAny_pyNext_list_end (I.ok.hd hc) st p.isList (by simp;omega) λh' eb=>⟨rfl,I.turned (t':=s.toks) (λb o hb e=>eb b o hb e) f0 f1 f3 f4 f5⟩
 self:=λ_ _ _ _ _ st h=>wpAny_pyIter_listiter st h
def QC{P:Program}{w:World}{K:qH}{tg:Expr}(a it:Addr):Turn P w K tg (Itt K a) [it] it (λi h=>h.IsTupleIter it a i) where
 mem:=by simp
 obj:=λi h st b hb=>by
  have e:b=it:=by simpa using hb
  subst e;obtain⟨o,e,c,d⟩:=st;exact⟨o,e,λv z=>by rw[d]at z;cases z⟩
 keep:=λi h h' st k=>st.at λo e=>k it (by simp) o e
 item:=by
  intro X hP hw hK hc i pins s O H E I hf st hg;subst hP hw hK;obtain⟨xs,x,hq,hx⟩:=hg;obtain⟨its,rv,p,hz⟩:=I.tuple hq;obtain⟨u,hu,ru⟩:=rv.get hx;obtain⟨f0,f1,f2,f3,f4,f5⟩:=hf it (by simp);refine wpAny_pyNext_tuple_item st (show s.heap.IsTuple a its.toArray from p) (x:=u) (by simpa using hu) λh' st' sb=>?_
  have I1:Inv X pins O H {s with heap:=h'}:=I.turned (t':=s.toks) (λb o hb e=>(sb.2 b hb).trans e) f0 f1 f3 f4 f5
  obtain⟨o,e,c,d⟩:=id st';exact⟨u,rfl,Wg (s:={s with heap:=h'}) e c d (by decide) ⟨x,H,I1,ru,⟨rfl,λys hy=>by rw[I.tuple_inj hy hq];exact hx⟩,st',λb hb=>(hf b hb).1⟩⟩
 done:=by
  intro X hP hw hK hc i pins s O H E I hf st hg;subst hP hw hK;obtain⟨xs,hq,hx⟩:=hg;obtain⟨its,rv,p,hz⟩:=I.tuple hq;obtain⟨f0,f1,f2,f3,f4,f5⟩:=hf it (by simp);have hl:=rv.length;exact wpAny_pyNext_tuple_end (I.ok.hd hc) st (show s.heap.IsTuple a its.toArray from p) (by simp;omega) λh' eb=>⟨rfl,I.turned (t':=s.toks) (λb o hb e=>eb b o hb e) f0 f1 f3 f4 f5⟩
 self:=λ_ _ _ _ _ st h=>wpAny_pyIter_tupleiter st h
def QD{P:Program}{w:World}{K:qH}{tg:Expr}(it:Addr)(lo:Int)(n:Nat):Turn P w K tg (Itr lo n) [it] it (λi h=>IsRangeIter h it (lo+(i:Nat)*1) ((n:Int)-(i:Nat)) 1) where
 mem:=by simp
 obj:=λi h st b hb=>by
  have e:b=it:=by simpa using hb
  subst e;exact⟨_,st,λv z=>by
   have z':Data.fields _=Data.cell v:=z;cases z'⟩
 keep:=λi h h' st k=>k it (by simp) _ st
 item:=by
  intro X hP hw hK hc i pins s O H E I hf st hg;subst hP hw hK;obtain⟨f0,f1,f2,f3,f4,f5⟩:=hf it (by simp);have W:=Walks.range (prog:=X.prog) (w:=X.w) (I.ok.hd hc) it lo 1 n;refine W.item i s _ _ hg st λv h' tk hv st' kk=>?_
  obtain⟨t,rfl⟩:=hv;have I1:Inv X pins O H {s with heap:=h',toks:=tk}:=I.turned (λb o hb e=>kk b o (by simpa using hb) e) f0 f1 f3 f4 f5
  refine⟨_,rfl,Wg (s:={s with heap:=h',toks:=tk}) (n:="range_iterator") st' rfl rfl (by decide) ⟨.int (lo+i),H,I1,⟨t,?_⟩,⟨rfl,rfl⟩,st',λb hb=>(hf b hb).1⟩⟩
  rw[Int.mul_one]
 done:=by
  intro X hP hw hK hc i pins s O H E I hf st hg;subst hP hw hK;obtain⟨f0,f1,f2,f3,f4,f5⟩:=hf it (by simp);exact wpAny_pyNext_range_end (I.ok.hd hc) st (by have:n<=i:=hg;omega) λh' eb=>⟨rfl,I.turned (t':=s.toks) (λb o hb e=>eb b o hb e) f0 f1 f3 f4 f5⟩
 self:=λ_ _ _ _ _ st h=>wpAny_pyIter_rangeiter st h
section
variable{X:Cx}{tg:Expr}
def iList(K:qH)(tl:TE):TI:=λO H R=>tl O H λx H1=>∃a,x=.ref a/\(∃xs,SqL K H1 a xs)/\R (Itl K a) H1
def iTup(K:qH)(tl:TE):TI:=λO H R=>tl O H λx H1=>∃a,x=.ref a/\(∃xs,SqT K H1 a xs)/\R (Itt K a) H1
def Qr{l:Expr}{tl:TE}(hl:PE X l tl):PI X tg l (iList X.K tl):=by
 intro pins s O H R I h;refine thn (hl pins s O H _ I h) λv s1 ⟨x,H1,I1,r1,q1⟩=>?_
 obtain⟨a,e,⟨xs,hq⟩,q⟩:=q1;subst e;cases r1;obtain⟨its,rv,p,hz⟩:=I1.list hq;refine wpAny_pyIter_list p.isList ?_;refine⟨s1.heap.objs.size,[s1.heap.objs.size],_,_,H1,rfl,I1.kept (t':=s1.toks) λb o e=>qA _ e,Qq a _,⟨_,get?_push_size _ rfl,rfl,rfl⟩,λb hb=>?_,q⟩;have e:b=s1.heap.objs.size:=by simpa using hb
 subst e;exact I1.fpOk (le_refl _) (I1.hok.fresh (le_refl _))
def pi_tup{l:Expr}{tl:TE}(hl:PE X l tl):PI X tg l (iTup X.K tl):=by
 intro pins s O H R I h;refine thn (hl pins s O H _ I h) λv s1 ⟨x,H1,I1,r1,q1⟩=>?_
 obtain⟨a,e,⟨xs,hq⟩,q⟩:=q1;subst e;cases r1;obtain⟨its,rv,p,hz⟩:=I1.tuple hq;refine wpAny_pyIter_tuple (show s1.heap.IsTuple a its.toArray from p) ?_;refine⟨s1.heap.objs.size,[s1.heap.objs.size],_,_,H1,rfl,I1.kept (t':=s1.toks) λb o e=>qA _ e,QC a _,⟨_,get?_push_size _ rfl,rfl,rfl⟩,λb hb=>?_,q⟩;have e:b=s1.heap.objs.size:=by simpa using hb
 subst e;exact I1.fpOk (le_refl _) (I1.hok.fresh (le_refl _))
def zCA{pins:List (Addr×Obj)}{O:St}{H:Hp}{s:Shared}{R:It->Hp->Prop}{E:Value->Shared->Prop}{lo hi:Int}{t u v:Tok}{tk:Nat}(I:Inv X pins O H s)(h1:-(2^62)<=lo)(h2:lo<2^62)(h3:-(2^62)<=hi)(h4:hi<2^62)
  (q:R (Itr lo (hi-lo).toNat) H):wpAny (model X.prog X.w) X.A (pyIter (.ref s.heap.objs.size)) (PIE X pins O tg R) E {s with heap:=s.heap.push {cls:=.type "range",data:=.fields #[.int lo t,.int hi u,.int 1 v]},toks:=tk}:=by
 refine wpAny_pyIter_range (IsRange.new ..) (small_one h1 h2 h3 h4) ?_;have I1:Inv X pins O H {s with heap:=s.heap.push {cls:=.type "range",data:=.fields #[.int lo t,.int hi u,.int 1 v]},toks:=tk}:=I.kept λb o e=>qA _ e
 refine⟨(s.heap.push {cls:=.type "range",data:=.fields #[.int lo t,.int hi u,.int 1 v]}).objs.size,[(s.heap.push {cls:=.type "range",data:=.fields #[.int lo t,.int hi u,.int 1 v]}).objs.size],_,_,H,rfl,
  I1.kept (t':=tk) λb o e=>qA _ e,QD _ lo (hi-lo).toNat,?_,λb hb=>?_,q⟩
 ·have e1:lo+((0:Nat):Int)*1=lo:=by simp
  have e2:(((hi-lo).toNat:Nat):Int)-((0:Nat):Int)=Builtin.Range.rangeSize lo hi 1:=by rw[rangeSize_one];split<;>omega
  show IsRangeIter _ _ (lo+((0:Nat):Int)*1) ((((hi-lo).toNat:Nat):Int)-((0:Nat):Int)) 1
  rw[e1,e2];exact get?_push_size _ rfl
 ·have e:b=(s.heap.push {cls:=.type "range",data:=.fields #[.int lo t,.int hi u,.int 1 v]}).objs.size:=by simpa using hb
  subst e;exact I1.fpOk (le_refl _) (I1.hok.fresh (le_refl _))
def iRng1(ta:TA):TI:=λO H R=>ta O H λvs H1=>∃j:Int,vs=[.int j]/\-(2^62)<=j/\j<2^62/\R (Itr 0 j.toNat) H1
def vG{a:Expr}{ta:TA}{p pos:Pos}(hg:Gl X "range")(hm:X.mg "range"=none)(ha:PA X [a] ta)(hs:starEach [a] X.env=[(false,eval a X.env)]:=by rfl):PI X tg (.Call (.Name "range" p) [a] [] pos) (iRng1 ta):=by
 intro pins s O H R I h;refine Call_ (vF I hg hm boot_range (PyProof.Rows.callWith_type1 (thn (ha pos pins s O H _ I h) λus s1 ⟨vs,H1,I1,r1,q1⟩=>?_) hs rfl));obtain⟨j,e,q1,q2,q⟩:=q1;subst e;cases r1 with
 |cons r rr =>
  cases rr;obtain⟨t,rfl⟩:=r;exact call_range_1 (zCA I1 (by omega) (by omega) q1 q2 (by simpa using q))
def tFor(wi:TI)(g:TG)(tb:TS):TS:=λD O H=>wi O H λJ H1=>∃W:Nat->Nat->St->Hp->Prop,(∃m,W 0 m O H1)/\∀i m O H,W i m O H ->
 (J.stop i H/\D.nx O H)\/(J.go i H/\∃N:St->Hp->Prop,(∀O' H',N O' H'->∃m',m'<m/\W (i+1) m' O' H')/\∀x H',J.yld i H x H'->g x O H' λO2 H2=>tb {D with nx:=N,ct:=N,bk:=D.nx} O2 H2)
def vH(fp:List Addr)(h:Heap):List (Addr×Obj):=fp.filterMap λb=>(h.get? b).map λo=>(b,o)
def wg{fp:List Addr}{h:Heap}{b:Addr}{o:Obj}(hb:b∈fp)(e:h.get? b=some o):(b,o)∈vH fp h:=mem_filterMap.mpr ⟨b,hb,by rw[e];rfl⟩
def Qs{fp:List Addr}{h:Heap}{p:Addr×Obj}(hp:p∈vH fp h):p.1∈fp/\h.get? p.1=some p.2:=by
 obtain⟨b,hb,e⟩:=mem_filterMap.mp hp;cases q:h.get? b with
 |none=>rw[q]at e;cases e
 |some o =>
  rw[q]at e;have e':(b,o)=p:=qJ e;subst e';exact⟨hb,q⟩
def Inv.pinned{pins:List (Addr×Obj)}{O:St}{H:Hp}{s:Shared}{fp:List Addr}(I:Inv X pins O H s)(hf:∀b∈fp,zDg X pins H b)(ho:∀b∈fp,∃o,s.heap.get? b=some o/\∀v,o.data≠.cell v):Inv X (pins++vH fp s.heap) O H s :=
 I.pins_of λp hp=>(mem_append.mp hp).elim (λz=>I.pin p (qK _ z)) λz=>by
  obtain⟨hb,e⟩:=Qs z;obtain⟨f0,f1,f2,_⟩:=hf p.1 hb;obtain⟨o,e',d⟩:=ho p.1 hb;rw[e]at e';cases e';exact⟨e,f0,f1,f2,d⟩
def Inv.unpinned{pins pl:List (Addr×Obj)}{O:St}{H:Hp}{s:Shared}(I:Inv X (pins++pl) O H s):Inv X pins O H s:=I.pins_of λp hp=>I.pin p (qK _ (mem_append_left _ hp))
def zDh{iter:Expr}{body:List Stmt}{wi:TI}{g:TG}{tb:TS}{pos:Pos}(hp:PassesOwn (model X.prog X.w) X.A X.env X.xe)(hc:X.calm=true)(hi:PI X tg iter wi)(hg:PG X tg g)(hb:PSs X body tb)
  (hs:∀x,foldedSetIterable iter X.env x=pure x:=by intro _;rfl):PS X (.For tg iter body [] pos) (tFor wi g tb):=by
 intro pins s O H D I h;refine wpAny_For (thn (hi pins s O H _ I h) λv s1 h1=>thn h1 λitv s2 h2=>?_) hs;obtain⟨it,fp,tn,J,H2,e,I2,T,st2,f2,W,⟨m0,w0⟩,turn⟩:=h2;subst e
 -- what stays true of the iterator's objects through the loop
 have stat:∀{H':Hp},(∀b∈fp,H' b=none)->∀b∈fp,zDg X pins H' b:=λhn b hb=>⟨hn b hb,(f2 b hb).2⟩
 refine codeAny_forLoop_any (λn s'=>∃i O' H',Inv X pins O' H' s'/\tn i s'.heap/\(∀b∈fp,H' b=none)/\W i n O' H') ?_ m0 ⟨0,O,H2,I2,st2,λb hb=>(f2 b hb).1,w0⟩
 rintro n s3 ⟨i,O3,H3,I3,st3,fr3,w3⟩
 rcases turn i n O3 H3 w3 with⟨stop,qn⟩|⟨go,N,hN,step⟩
 ·refine wpAny_passesOwn hp (thn (T.done X rfl rfl rfl hc i pins s3 O3 H3 X.xe I3 (stat fr3) st3 stop) λr s4 ⟨hr,I4⟩=>?_)
  subst hr;exact wpAny_execs_nil ⟨O3,H3,I4,qn⟩
 ·refine wpAny_passesOwn hp (thn (T.item X rfl rfl rfl hc i pins s3 O3 H3 X.xe I3 (stat fr3) st3 go) λr s4 ⟨u,hr,h4⟩=>?_)
  subst hr;refine wpAny_passesOwn hp (thn h4 λ_ s5 ⟨x,H5,I5,r5,y5,st5,fr5⟩=>?_);have I5':=I5.pinned (stat fr5) (T.obj _ _ st5);refine wpAny_passesOwn hp (thn (hg _ s5 O3 H5 x u _ I5' r5 (step x H5 y5)) λ_ s6 ⟨O6,H6,I6,q6⟩=>?_);refine wpAny_passesOwn hp (thn (hb _ s6 O6 H6 _ I6 q6) λf s7 q7=>?_);have again:∀{O7:St} {H7:Hp},Inv X (pins++vH fp s5.heap) O7 H7 s7->N O7 H7->∃m,m<n/\∃i O' H',Inv X pins O' H' s7/\tn i s7.heap/\(∀b∈fp,H' b=none)/\W i m O' H':=λ{O7 H7} I7 n7=>by
   obtain⟨m',hm,w7⟩:=hN O7 H7 n7;refine⟨m',hm,i+1,O7,H7,I7.unpinned,T.keep _ _ _ st5 λb hb o e=>(I7.pin (b,o) (qK _ (qK _ (wg hb e)))).1,λb hb=>?_,w7⟩;obtain⟨o,e,d⟩:=T.obj _ _ st5 b hb;exact(I7.pin (b,o) (qK _ (qK _ (wg hb e)))).2.1
  cases f with
  |next=>obtain⟨O7,H7,I7,n7⟩:=q7;exact again I7 n7|cont=>obtain⟨O7,H7,I7,n7⟩:=q7;exact again I7 n7|brk=>obtain⟨O7,H7,I7,q7⟩:=q7;exact⟨O7,H7,I7.unpinned,q7⟩|ret v=>obtain⟨x7,O7,H7,I7,r7,q7⟩:=q7;exact⟨x7,O7,H7,I7.unpinned,r7,q7⟩
end
def zCB{K:qH}{a:Addr}{xs:List V}{g:TG}{tb:TS}{D:Ends}{O:St}{H:Hp}(Pv:Nat->St->Hp->Prop)(h0:Pv 0 O H)(hl:∀i O H,i<=xs.length->Pv i O H->SqL K H a xs)
  (hs:∀i x O H,xs[i]?=some x->Pv i O H->g x O H λO2 H2=>tb {D with nx:=Pv (i+1),ct:=Pv (i+1),bk:=D.nx} O2 H2) (hd:∀O H,Pv xs.length O H->D.nx O H) :
  ∃W:Nat->Nat->St->Hp->Prop,(∃m,W 0 m O H)/\∀i m O H,W i m O H ->
   ((Itl K a).stop i H/\D.nx O H)\/((Itl K a).go i H/\∃N:St->Hp->Prop,(∀O' H',N O' H'->∃m',m'<m/\W (i+1) m' O' H')/\∀x H',(Itl K a).yld i H x H'->g x O H' λO2 H2=>tb {D with nx:=N,ct:=N,bk:=D.nx} O2 H2):=by
 refine⟨λi m O H=>m=xs.length-i/\i<=xs.length/\Pv i O H,⟨xs.length,by simp,zero_le _,h0⟩,?_⟩
 rintro i m O H ⟨rfl,hi,p⟩
 have q:=hl i O H hi p;by_cases hlt:i<xs.length
 ·refine .inr ⟨⟨xs,xs[i],q,by simp[hlt]⟩,Pv (i+1),λO' H' p'=>⟨xs.length-(i+1),by omega,rfl,hlt,p'⟩,λx H' y=>?_⟩
  obtain⟨e,y⟩:=y;subst e;exact hs i x O _ (y xs q) p
 ·have e:i=xs.length:=by omega
  subst e;exact .inl ⟨⟨xs,q,le_refl _⟩,hd O H p⟩
def Qt{lo:Int}{n:Nat}{g:TG}{tb:TS}{D:Ends}{O:St}{H:Hp}(Pv:Nat->St->Hp->Prop)(h0:Pv 0 O H)
  (hs:∀i O H,i<n->Pv i O H->g (.int (lo+i)) O H λO2 H2=>tb {D with nx:=Pv (i+1),ct:=Pv (i+1),bk:=D.nx} O2 H2) (hd:∀O H,Pv n O H->D.nx O H) :
  ∃W:Nat->Nat->St->Hp->Prop,(∃m,W 0 m O H)/\∀i m O H,W i m O H ->
   ((Itr lo n).stop i H/\D.nx O H)\/((Itr lo n).go i H/\∃N:St->Hp->Prop,(∀O' H',N O' H'->∃m',m'<m/\W (i+1) m' O' H')/\∀x H',(Itr lo n).yld i H x H'->g x O H' λO2 H2=>tb {D with nx:=N,ct:=N,bk:=D.nx} O2 H2):=by
 refine⟨λi m O H=>m=n-i/\i<=n/\Pv i O H,⟨n,by simp,zero_le _,h0⟩,?_⟩
 rintro i m O H ⟨rfl,hi,p⟩
 by_cases hlt:i<n
 ·refine .inr ⟨hlt,Pv (i+1),λO' H' p'=>⟨n-(i+1),by omega,rfl,hlt,p'⟩,λx H' y=>?_⟩
  obtain⟨e,y⟩:=y;subst e y;exact hs i O _ hlt p
 ·have e:i=n:=by omega
  subst e;exact .inl ⟨le_refl _,hd O H p⟩
abbrev R2:=V->V->Hp->VK->Prop
def OpR(X:Cx)(f:Value->Value->Sem Value)(r:R2):Prop :=
 ∀(pins:List (Addr×Obj)) (s:Shared) (O:St) (H:Hp) (x y:V) (v u:Value) (Q:VK),Inv X pins O H s->z9 x v->z9 y u->r x y H Q ->
  wpAny (model X.prog X.w) X.A (f v u) (EP X pins O Q) X.xe s
def UnR(X:Cx)(f:Value->Sem Value)(r:V->Hp->VK->Prop):Prop :=
 ∀(pins:List (Addr×Obj)) (s:Shared) (O:St) (H:Hp) (x:V) (v:Value) (Q:VK),Inv X pins O H s->z9 x v->r x H Q ->
  wpAny (model X.prog X.w) X.A (f v) (EP X pins O Q) X.xe s
def jp(X:Cx)(f:Value)(r:List V->Hp->VK->Prop):Prop :=
 ∀(pins:List (Addr×Obj)) (s:Shared) (O:St) (H:Hp) (xs:List V) (us:List Value) (Q:VK),Inv X pins O H s->zn xs us->r xs H Q ->
  wpAny (model X.prog X.w) X.A (call f us) (EP X pins O Q) X.xe s
def tOp(r:R2)(ta tb:TE):TE:=λO H Q=>ta O H λx H1=>tb O H1 λy H2=>r x y H2 Q
def tUn(r:V->Hp->VK->Prop)(ta:TE):TE:=λO H Q=>ta O H λx H1=>r x H1 Q
def rI(C:Int->Int->Prop)(g:Int->Int->V):R2:=λx y H Q=>∃i j,x=.int i/\y=.int j/\C i j/\Q (g i j) H
def rI0(g:Int->Int->V):R2:=λx y H Q=>∃i j,x=.int i/\y=.int j/\Q (g i j) H
def rU(g:Int->V):V->Hp->VK->Prop:=λx H Q=>∃i,x=.int i/\Q (g i) H
section
variable{X:Cx}{a b c:Expr}{ta tb tc:TE}{pos:Pos}
def binT(ha:PE X a ta)(hb:PE X b tb){pins:List (Addr×Obj)}{s:Shared}{O:St}{H:Hp}{R:V->V->Hp->Prop}(I:Inv X pins O H s)
  (h:ta O H λx H1=>tb O H1 λy H2=>R x y H2) {Q:Value->Shared->Prop} {f:Value->Value->Sem Value}
  (hf:∀v u s2 x y H2,Inv X pins O H2 s2->z9 x v->z9 y u->R x y H2->wpAny (model X.prog X.w) X.A (f v u) Q X.xe s2) :
  wpAny (model X.prog X.w) X.A (eval a X.env) (λv s₁=>wpAny (model X.prog X.w) X.A (eval b X.env) (λu s₂=>wpAny (model X.prog X.w) X.A (f v u) Q X.xe s₂) X.xe s₁) X.xe s:=by
 refine thn (ha pins s O H _ I h) λv s1 ⟨x,H1,I1,r1,q1⟩=>?_
 refine thn (hb pins s1 O H1 _ I1 q1) λu s2 ⟨y,H2,I2,r2,q2⟩=>?_
 exact hf v u s2 x y H2 I2 r1 r2 q2
def pe_op{op:Operator}{r:R2}(ho:OpR X (binaryOp op) r)(ha:PE X a ta)(hb:PE X b tb):PE X (.BinOp a op b pos) (tOp r ta tb):=by
 intro pins s O H Q I h;exact wpAny_BinOp (binT ha hb I h λv u s2 x y H2 I2 rx ry q=>ho pins s2 O H2 x y v u Q I2 rx ry q)
def pe_un{op:UnaryOp}{r:V->Hp->VK->Prop}(ho:UnR X (unaryOp op) r)(ha:PE X a ta):PE X (.UnaryOp op a pos) (tUn r ta):=by
 intro pins s O H Q I h;exact UnaryOp_ (thn (ha pins s O H _ I h) λv s1 ⟨x,H1,I1,r1,q1⟩=>ho pins s1 O H1 x v Q I1 r1 q1)
def opI{f:Value->Value->Sem Value}{C:Int->Int->Prop}{g:Int->Int->Int}
  (rule:∀(i j:Int) (t u:Tok) (s:Shared) (Q:Value->Shared->Prop) (E:Value->Shared->Prop),C i j->Q (.int (g i j) s.toks) {s with toks:=s.toks+1}->wpAny (model X.prog X.w) X.A (f (.int i t) (.int j u)) Q E s) :
  OpR X f (rI C λi j=>.int (g i j)):=by
 intro pins s O H x y v u Q I rx ry h;obtain⟨i,j,rfl,rfl,hc,q⟩:=h;obtain⟨t,rfl⟩:=rx;obtain⟨t',rfl⟩:=ry;exact rule i j t t' s _ _ hc ⟨.int (g i j),H,I.tok _,⟨_,rfl⟩,q⟩
def opI0{f:Value->Value->Sem Value}{g:Int->Int->Int}
  (rule:∀(i j:Int) (t u:Tok) (s:Shared) (Q:Value->Shared->Prop) (E:Value->Shared->Prop),Q (.int (g i j) s.toks) {s with toks:=s.toks+1}->wpAny (model X.prog X.w) X.A (f (.int i t) (.int j u)) Q E s) :
  OpR X f (rI0 λi j=>.int (g i j)):=by
 intro pins s O H x y v u Q I rx ry h;obtain⟨i,j,rfl,rfl,q⟩:=h;obtain⟨t,rfl⟩:=rx;obtain⟨t',rfl⟩:=ry;exact rule i j t t' s _ _ ⟨.int (g i j),H,I.tok _,⟨_,rfl⟩,q⟩
def opB0{f:Value->Value->Sem Value}{g:Int->Int->Bool}
  (rule:∀(i j:Int) (t u:Tok) (s:Shared) (Q:Value->Shared->Prop) (E:Value->Shared->Prop),Q (.bool (g i j)) s->wpAny (model X.prog X.w) X.A (f (.int i t) (.int j u)) Q E s) :
  OpR X f (rI0 λi j=>.bl (g i j)):=by
 intro pins s O H x y v u Q I rx ry h;obtain⟨i,j,rfl,rfl,q⟩:=h;obtain⟨t,rfl⟩:=rx;obtain⟨t',rfl⟩:=ry;exact rule i j t t' s _ _ ⟨.bl (g i j),H,I,rfl,q⟩
def CPow(i j:Int):Prop:=0<=j/\j<=1000000/\i.natAbs<2^64
def CMul(i j:Int):Prop:=(-(2^64)<i/\i<2^64)\/(-(2^64)<j/\j<2^64)
def CMul.ok{i j:Int}(h:CMul i j):IntMulOk i j:=by
 rcases h with⟨h1,h2⟩|⟨h1,h2⟩
 ·exact .of_left (intBits_le_64 h1 h2)
 ·exact .of_right (intBits_le_64 h1 h2)
def op_add:OpR X (binaryOp .Add) (rI0 λi j=>.int (i+j)):=opI0 λ_ _ _ _ _ _ _ q=>add_int q
def op_sub:OpR X (binaryOp .Sub) (rI0 λi j=>.int (i-j)):=opI0 λ_ _ _ _ _ _ _ q=>sub_int q
def op_mod:OpR X (binaryOp .Mod) (rI (λ_ j=>0<j) λi j=>.int (i%j)):=opI λi j _ _ _ _ _ hc q=>by
 have h1:(0:Int)<j:=hc;exact mod_int' (by omega) (by rw[Int.fmod_eq_emod_of_nonneg i (by omega)];exact q)
def op_pow:OpR X (binaryOp .Pow) (rI CPow λi j=>.int (i^j.toNat)):=opI λ_ _ _ _ _ _ _ hc q=>pow_int_small hc.1 hc.2.1 hc.2.2 q
def unI{f:Value->Sem Value}{g:Int->Int}
  (rule:∀(i:Int) (t:Tok) (s:Shared) (Q:Value->Shared->Prop) (E:Value->Shared->Prop),Q (.int (g i) s.toks) {s with toks:=s.toks+1}->wpAny (model X.prog X.w) X.A (f (.int i t)) Q E s) :
  UnR X f (rU λi=>.int (g i)):=by
 intro pins s O H x v Q I rx h;obtain⟨i,rfl,q⟩:=h;obtain⟨t,rfl⟩:=rx;exact rule i t s _ _ ⟨.int (g i),H,I.tok _,⟨_,rfl⟩,q⟩
def zDi:UnR X (unaryOp .USub) (rU λi=>.int (-i)):=unI λ_ _ _ _ _ q=>neg_int q
end
def scal:V->V->Bool
 | .non,.non=>true | .non,.int _=>true | .int _,.non=>true | .non,.bl _=>true | .bl _,.non=>true | .non,.str _=>true | .str _,.non=>true
 | .int _,.int _=>true | .bl _,.bl _=>true | .str _,.str _=>true | .byt _,.byt _=>true
 | .int _,.str _=>true | .str _,.int _=>true | .bl _,.str _=>true | .str _,.bl _=>true
 |_,_=>false
def rEq:R2:=λx y H Q=>scal x y=true/\Q (.bl (decide (x=y))) H
def rNe:R2:=λx y H Q=>scal x y=true/\Q (.bl (!decide (x=y))) H
def Qu{i j:Int}:decide (V.int i=V.int j)=(i==j):=by
 rw[Bool.eq_iff_iff];simp
def zDj{i j:Bool}:decide (V.bl i=V.bl j)=(i==j):=by
 rw[Bool.eq_iff_iff];simp
def Qv{i j:Str}:decide (V.str i=V.str j)=(i==j):=by
 rw[Bool.eq_iff_iff];simp
def Qw{i j:Array UInt8}:decide (V.byt i=V.byt j)=(i.toList==j.toList):=by
 rw[Bool.eq_iff_iff];cases i;cases j;simp
section
variable{X:Cx}{a b c:Expr}{ta tb tc:TE}{pos:Pos}
def zx{pins:List (Addr×Obj)}{O:St}{H:Hp}{s:Shared}{Q:VK}{k k':Bool}(I:Inv X pins O H s)(q:Q (.bl k) H)(e:k=k'):EP X pins O Q (.bool k') s:=by
 subst e;exact⟨.bl k,H,I,rfl,q⟩
def op_eq:OpR X (compareOp .Eq) rEq:=by
 intro pins s O H x y v u Q I rx ry h;obtain⟨hs,q⟩:=h;cases x with
 |non =>
  cases rx;cases y with
  |non=>cases ry;exact PySem.EqNone.eq_none_none (zx I q (by simp))|bl j=>cases ry;exact PySem.EqNone.eq_none_bool (zx I q (by simp))|int j=>obtain⟨t',rfl⟩:=ry;exact PySem.EqNone.eq_none_int (zx I q (by simp))|str j=>obtain⟨t',rfl⟩:=ry;exact PySem.EqNone.eq_none_str (zx I q (by simp))|_=>exact absurd (show false=true from hs) qF
 |bl i =>
  cases rx;cases y with
  |non=>cases ry;exact PySem.EqNone.eq_bool_none (zx I q (by simp))|bl j=>cases ry;exact eq_bool (zx I q zDj)|str j=>obtain⟨t',rfl⟩:=ry;exact PySem.EqMixed.eq_bool_str (zx I q (by simp))|_=>exact absurd (show false=true from hs) qF
 |int i =>
  obtain⟨t,rfl⟩:=rx;cases y with
  |non=>cases ry;exact PySem.EqNone.eq_int_none (zx I q (by simp))|int j=>obtain⟨t',rfl⟩:=ry;exact eq_int (zx I q Qu)|str j=>obtain⟨t',rfl⟩:=ry;exact PySem.EqMixed.eq_int_str (zx I q (by simp))|_=>exact absurd (show false=true from hs) qF
 |str i =>
  obtain⟨t,rfl⟩:=rx;cases y with
  |non=>cases ry;exact PySem.EqNone.eq_str_none (zx I q (by simp))|bl j=>cases ry;exact PySem.EqMixed.eq_str_bool (zx I q (by simp))|int j=>obtain⟨t',rfl⟩:=ry;exact PySem.EqMixed.eq_str_int (zx I q (by simp))|str j=>obtain⟨t',rfl⟩:=ry;exact eq_str (zx I q Qv)|_=>exact absurd (show false=true from hs) qF
 |byt i =>
  obtain⟨t,rfl⟩:=rx;cases y with
  |byt j=>obtain⟨t',rfl⟩:=ry;exact PySem.W.eq_bytes (zx I q Qw)|_=>exact absurd (show false=true from hs) qF
 |_=>cases y<;>exact absurd (show false=true from hs) qF
def op_ne:OpR X (compareOp .NotEq) rNe:=by
 intro pins s O H x y v u Q I rx ry h;obtain⟨hs,q⟩:=h;cases x with
 |non =>
  cases rx;cases y with
  |non=>cases ry;exact PySem.EqNone.ne_none_none (zx I q (by simp))|bl j=>cases ry;exact PySem.EqNone.ne_none_bool (zx I q (by simp))|int j=>obtain⟨t',rfl⟩:=ry;exact PySem.EqNone.ne_none_int (zx I q (by simp))|str j=>obtain⟨t',rfl⟩:=ry;exact PySem.EqNone.ne_none_str (zx I q (by simp))|_=>exact absurd (show false=true from hs) qF
 |bl i =>
  cases rx;cases y with
  |non=>cases ry;exact PySem.EqNone.ne_bool_none (zx I q (by simp))|bl j=>cases ry;exact ne_bool (zx I q (congrArg not zDj))|str j=>obtain⟨t',rfl⟩:=ry;exact PySem.EqMixed.ne_bool_str (zx I q (by simp))|_=>exact absurd (show false=true from hs) qF
 |int i =>
  obtain⟨t,rfl⟩:=rx;cases y with
  |non=>cases ry;exact PySem.EqNone.ne_int_none (zx I q (by simp))|int j=>obtain⟨t',rfl⟩:=ry;exact ne_int (zx I q (congrArg not Qu))|str j=>obtain⟨t',rfl⟩:=ry;exact PySem.EqMixed.ne_int_str (zx I q (by simp))|_=>exact absurd (show false=true from hs) qF
 |str i =>
  obtain⟨t,rfl⟩:=rx;cases y with
  |non=>cases ry;exact PySem.EqNone.ne_str_none (zx I q (by simp))|bl j=>cases ry;exact PySem.EqMixed.ne_str_bool (zx I q (by simp))|int j=>obtain⟨t',rfl⟩:=ry;exact PySem.EqMixed.ne_str_int (zx I q (by simp))|str j=>obtain⟨t',rfl⟩:=ry;exact ne_str (zx I q (congrArg not Qv))|_=>exact absurd (show false=true from hs) qF
 |byt i =>
  obtain⟨t,rfl⟩:=rx;cases y with
  |byt j=>obtain⟨t',rfl⟩:=ry;exact PySem.W.ne_bytes (zx I q (congrArg not Qw))|_=>exact absurd (show false=true from hs) qF
 |_=>cases y<;>exact absurd (show false=true from hs) qF
def op_lt:OpR X (compareOp .Lt) (rI0 λi j=>.bl (decide (i<j))):=opB0 λ_ _ _ _ _ _ _ q=>lt_int q
def op_le:OpR X (compareOp .LtE) (rI0 λi j=>.bl (decide (i<=j))):=opB0 λ_ _ _ _ _ _ _ q=>le_int q
def op_gt:OpR X (compareOp .Gt) (rI0 λi j=>.bl (decide (j<i))):=opB0 λ_ _ _ _ _ _ _ q=>gt_int q
def op_ge:OpR X (compareOp .GtE) (rI0 λi j=>.bl (decide (j<=i))):=opB0 λ_ _ _ _ _ _ _ q=>ge_int q
def OpR.or{f:Value->Value->Sem Value}{r r':R2}(h:OpR X f r)(h':OpR X f r'):OpR X f (λx y H Q=>r x y H Q\/r' x y H Q):=by
 intro pins s O H x y v u Q I rx ry q;rcases q with q|q
 ·exact h pins s O H x y v u Q I rx ry q
 ·exact h' pins s O H x y v u Q I rx ry q
def Qx{op:CmpOp}{r:R2}(ho:OpR X (compareOp op) r)(ha:PE X a ta)(hb:PE X b tb)(hm:behindInMarks op b=false):PE X (.Compare a [op] [b] pos) (tOp r ta tb):=by
 intro pins s O H Q I h;exact wpAny_Compare1 (binT ha hb I h λv u s2 x y H2 I2 rx ry q=>ho pins s2 O H2 x y v u Q I2 rx ry q) hm
def tTest(t:TE):TT:=λO H Q=>t O H λx H'=>∃k,x=.bl k/\Q k H'
def Qy{op:CmpOp}{r:R2}(ho:OpR X (compareOp op) r)(ha:PE X a ta)(hb:PE X b tb)(hm:behindInMarks op b=false):PT X (.Compare a [op] [b] pos) (tTest (tOp r ta tb)):=by
 intro pins s O H Q I h;refine wpAny_isTrue_Compare1 (thn (ha pins s O H _ I h) λv s1 ⟨x,H1,I1,r1,q1⟩=>thn (hb pins s1 O H1 _ I1 q1) λu s2 ⟨y,H2,I2,r2,q2⟩ =>
  thn (ho pins s2 O H2 x y v u _ I2 r1 r2 q2) λc s3 ⟨z,H3,I3,r3,k,e,q3⟩=>?_) hm
 subst e;cases r3;exact wpAny_truthy_bool ⟨H3,I3,q3⟩
def Qz(r r':R2)(ta tb tc:TE):TE:=λO H Q=>ta O H λx H1=>tb O H1 λy H2=>r x y H2 λz H3=>∃k,z=.bl k /\
 (if k=true then tc O H3 λw' H4=>r' y w' H4 Q else Q (.bl false) H3)
def zCC{op op':CmpOp}{r r':R2}(ho:OpR X (compareOp op) r)(ho':OpR X (compareOp op') r')(ha:PE X a ta)(hb:PE X b tb)(hc:PE X c tc)
  (hm:lastMarks [op,op'] [b,c]=false:=by with_unfolding_all rfl):PE X (.Compare a [op,op'] [b,c] pos) (Qz r r' ta tb tc):=by
 intro pins s O H Q I h;refine Compare_chain (thn (ha pins s O H _ I h) λv s1 ⟨x,H1,I1,r1,q1⟩=>chain_link (thn (hb pins s1 O H1 _ I1 q1) λu s2 ⟨y,H2,I2,r2,q2⟩ =>
  thn (ho pins s2 O H2 x y v u _ I2 r1 r2 q2) λd s3 ⟨z,H3,I3,r3,k,e,q3⟩=>?_)) hm
 subst e;cases r3;refine wpAny_truthy_bool ?_;cases k with
 |false=>exact ite_ff ⟨.bl false,H3,I3,rfl,q3⟩|true=>exact ite_tt (chain_last (thn (hc pins s3 O H3 _ I3 q3) λw' s4 ⟨z',H4,I4,r4,q4⟩=>ho' pins s4 O H4 y z' u w' Q I4 r2 r4 q4))
def zCD{op op':CmpOp}{r r':R2}(ho:OpR X (compareOp op) r)(ho':OpR X (compareOp op') r')(ha:PE X a ta)(hb:PE X b tb)(hc:PE X c tc)
  (hm:lastMarks [op,op'] [b,c]=false:=by with_unfolding_all rfl):PT X (.Compare a [op,op'] [b,c] pos) (tTest (Qz r r' ta tb tc)):=by
 intro pins s O H Q I h;refine isTrue_chain (thn (ha pins s O H _ I h) λv s1 ⟨x,H1,I1,r1,q1⟩=>test_link (thn (hb pins s1 O H1 _ I1 q1) λu s2 ⟨y,H2,I2,r2,q2⟩ =>
  thn (ho pins s2 O H2 x y v u _ I2 r1 r2 q2) λd s3 ⟨z,H3,I3,r3,k,e,q3⟩=>?_)) hm
 subst e;cases r3;refine wpAny_truthy_bool ?_;cases k with
 |false =>
  obtain⟨k',e',q'⟩:=q3;cases e';exact ite_ff ⟨H3,I3,q'⟩
 |true =>
  refine ite_tt (test_last (thn (hc pins s3 O H3 _ I3 q3) λw' s4 ⟨z',H4,I4,r4,q4⟩=>thn (ho' pins s4 O H4 y z' u w' _ I4 r2 r4 q4) λd' s5 ⟨z2,H5,I5,r5,k2,e2,q5⟩=>?_));subst e2;cases r5;exact wpAny_truthy_bool ⟨H5,I5,q5⟩
def ZM:(sizeLine:Nat)<2^63:=by rw[sizeLine_eq];decide
def QE:OpR X (binaryOp .Add) (λx y H Q=>∃i j,x=.str i/\y=.str j/\i.length+j.length<=sizeLine/\Q (.str (i++j)) H):=by
 intro pins s O H x y v u Q I rx ry h;obtain⟨i,j,rfl,rfl,hz,q⟩:=h;obtain⟨t,rfl⟩:=rx;obtain⟨t',rfl⟩:=ry;exact add_str (λt' tk=>⟨.str (i++j),H,I.tok _,⟨_,rfl⟩,q⟩) hz
def ZN{x:V}{us:List Value}(r:zn [x] us):∃u,us=[u]/\z9 x u:=by
 cases r with
 |cons r1 r2=>cases r2;exact⟨_,rfl,r1⟩
def vals2{x y:V}{us:List Value}(r:zn [x,y] us):∃u w',us=[u,w']/\z9 x u/\z9 y w':=by
 cases r with
 |cons r1 r2 =>
  cases r2 with
  |cons r3 r4=>cases r4;exact⟨_,_,rfl,r1,r3⟩
def Q0(hc:X.calm=true):jp X (.builtin "max") (λxs H Q=>∃i j,xs=[.int i,.int j]/\Q (.int (if j > i then j else i)) H):=by
 intro pins s O H xs us Q I r h;obtain⟨i,j,rfl,q⟩:=h;obtain⟨u,w',rfl,⟨t,rfl⟩,⟨t',rfl⟩⟩:=vals2 r;refine max_two_ints (I.ok.hd hc) λh' tk k=>⟨_,H,I.kept k,?_,q⟩
 by_cases hj:j > i
 ·rw[if_pos hj,if_pos hj];exact⟨_,rfl⟩
 ·rw[if_neg hj,if_neg hj];exact⟨_,rfl⟩
def Q1:jp X (.type "int") (λxs H Q=>(∃i,xs=[.int i]/\Q (.int i) H)\/∃k,xs=[.bl k]/\Q (.int (if k then 1 else 0)) H):=by
 intro pins s O H xs us Q I r h;rcases h with⟨i,rfl,q⟩|⟨k,rfl,q⟩
 ·obtain⟨u,rfl,t,rfl⟩:=ZN r
  exact call_int_int ⟨.int i,H,I,⟨_,rfl⟩,q⟩
 ·obtain⟨u,rfl,r1⟩:=ZN r
  cases r1;exact call_int_bool ⟨.int (if k then 1 else 0),H,I.tok _,⟨_,rfl⟩,q⟩
def vI:jp X (.type "str") (λxs H Q=>∃i,xs=[.int i]/\i.natAbs.log2<1920/\Q (.str (toString i)) H):=by
 intro pins s O H xs us Q I r h;obtain⟨i,rfl,hz,q⟩:=h;obtain⟨u,rfl,t,rfl⟩:=ZN r;exact PySem.P.str_of_int hz ⟨.str _,H,I.tok _,⟨_,rfl⟩,q⟩
end
structure ObjM(h:Heap)(x dx C:Addr)(mA:Str->Option Value):Prop where
 obj:h.get? x=some (instObj C dx)
 ns:h.Ns1 dx mA
 ne:dx≠x
structure Cls(K:qH)(C:Addr):Prop where
 pg:plainGet K C Str.empty=true
 hd:PySem.W.hasDictIn K C=true
 po:PySem.W.plainOver K C=true
 sa:findIn K (.ref C) "__setattr__"=some (some (.builtin "object.__setattr__"))
def Cls.get{K:qH}{C:Addr}(c:Cls K C)(f:Str):plainGet K C f=true:=c.pg
structure Con(K:qH)(C:Addr)(f:Str)(v:V)(u:Value):Prop where
 at_:findIn K (.ref C) f=some (some u)
 rel:z9 v u
 get:specialIn K u "__get__"=some none
 cp:PySem.W.copiedNames.contains f=false
structure Meth(K:qH)(C:Addr)(m:Str)(f:Addr):Prop where
 at_:findIn K (.ref C) m=some (some (.ref f))
 fn:PySem.W.isFn K (.ref f)=true
 kp:keepIn K (.ref f)=true
section
variable{X:Cx}{pins:List (Addr×Obj)}{O:St}{H:Hp}{s:Shared}{a C dx:Addr}{fs:List (Str×V)}{f:Str}{v:V}{A:Around}{E:Value->Shared->Prop}
def Inv.made(I:Inv X pins O H s):Inv X pins O (upd (upd H s.heap.objs.size (.own (s.heap.objs.size+1))) (s.heap.objs.size+1) (.ins C s.heap.objs.size []))
  {s with heap:=(s.heap.push emptyDict).push (instObj C s.heap.objs.size)}:=by
 have e1:(s.heap.push emptyDict).get? s.heap.objs.size=some emptyDict:=get?_push_size s.heap rfl;have e2:((s.heap.push emptyDict).push (instObj C s.heap.objs.size)).get? (s.heap.objs.size+1)=some (instObj C s.heap.objs.size):=by
  have:=get?_push_size (s.heap.push emptyDict) (o:=instObj C s.heap.objs.size) rfl
  rwa [size_push]at this
 have e3:(s.heap.push emptyDict).Ns s.heap.objs.size (λ_=>none):=⟨emptyDict,#[],_,e1,rfl,(λe he=>absurd he (by simp)),λ_=>rfl⟩;have I1:=I.laid (a:=s.heap.objs.size) (o:=.own (s.heap.objs.size+1)) (h':=s.heap.push emptyDict) (t':=s.toks) (λb u q=>qA _ q) (le_refl _) ⟨_,e1⟩;refine I1.laid (a:=s.heap.objs.size+1) (o:=.ins C s.heap.objs.size []) (t':=s.toks) (λb u q=>qA _ q) (Nat.le_of_eq (size_push _ _)) ?_;have ne:s.heap.objs.size≠s.heap.objs.size+1:=ne_of_lt (Nat.lt_succ_self _);refine⟨by rw[zH ne,zU],zero_le _,ne,e2,λ_=>none,(Heap.Ns1.of_empty e3).at λo q=>qA _ q,λ_=>True.intro,λy hy=>absurd rfl hy⟩
def attr_of{prog:Program}{w:World}{env:Env}{e:Expr}{f:Str}{pos:Pos}{s:Shared}{Q:Value->Shared->Prop}(hb:attributeBase e f env (eval e env)=eval e env)
  (h:wpAny (model prog w) A (eval e env) (λo s₁=>wpAny (model prog w) A (getAttr o f true) Q E s₁) E s):wpAny (model prog w) A (eval (.Attribute e f pos) env) Q E s :=
 Attribute_any_ h (by rw[arm_eval_Attribute,hb])
end
section
variable{X:Cx}{pins:List (Addr×Obj)}{O:St}{H:Hp}{s:Shared}{A:Around}{E:Value->Shared->Prop}{Q:Value->Shared->Prop}{c:Value}{b:Bool}
inductive TyOf(K:qH)(H:Hp):V->Value->Prop where
 |non:TyOf K H .non (.type "NoneType")
 |bl (x:Bool):TyOf K H (.bl x) (.type "bool")
 |int (i:Int):TyOf K H (.int i) (.type "int")
 |str (x:Str):TyOf K H (.str x) (.type "str")
 |flt (x:UInt64):TyOf K H (.flt x) (.type "float")
 |l {a:Addr} {xs:List V} (e:H a=some (.l xs)):TyOf K H (.ref a) (.type "list")
 |frz {a:Addr} {o:Obj} {xs:List V} (e:H a=some (.frz o (.l xs))):TyOf K H (.ref a) (.type "list")
 |t {a:Addr} {xs:List V} (e:H a=some (.t xs)):TyOf K H (.ref a) (.type "tuple")
 |dK {a:Addr} {kvs:List (Key×V)} (e:H a=some (.dK kvs)):TyOf K H (.ref a) (.type "dict")
 |dT {a:Addr} {kvs:List (List Key×V)} (e:H a=some (.dT kvs)):TyOf K H (.ref a) (.type "dict")
 |ins {a C dx:Addr} {fs:List (Str×V)} (e:H a=some (.ins C dx fs)) (cl:Cls K C) (ha:findIn K (.ref C) "__class__"=some (some (.builtin "object.__class__")))
   (hn:specialIn K (.builtin "object.__class__") "__get__"=some (some (.builtin "getset_descriptor.__get__"))) (htk:takesIn K (.builtin "object.__class__")=some true)
   (hm:mroIn K C (.type "object")=some true):TyOf K H (.ref a) (.ref C)
end
structure Room(k:Nat)(A:Around):Prop where
 hd:A.handled=none
 gd:A.guards=some []
 dp:A.depth+3*k+5<recursionLimit
 un:A.units+16*k+200<cLine
def Room.mono{j k:Nat}{A:Around}(r:Room k A)(h:j<=k):Room j A:=⟨r.hd,r.gd,by have:=r.dp;omega,by have:=r.un;omega⟩
theorem Room.deeper{k:Nat}{A:Around}(r:Room (k+1) A)(env:Env):Room k (A.deeper env) :=
 ⟨r.hd,r.gd,by have:=r.dp;show A.depth+1+3*k+5<_;omega,by have:=r.un;show A.units+3+16*k+200<_;omega⟩
theorem Room.in1{k:Nat}{A:Around}(r:Room (k+1) A):Room k A.in1 :=
 ⟨r.hd,r.gd,by have:=r.dp;show A.depth+3*k+5<_;omega,by have:=r.un;show A.units+1+16*k+200<_;omega⟩
def QF{A:Around}{C:Addr}{us:List Value}{kw:List (Str×Value)}:(A.under (.builtin "type.__call__" ⟨.ref C::us,kw⟩)).depth=A.depth+1:=by
 first|rfl|simp[Around.under,Code.weight,Code.isCreation,Code.isGuard,Code.isCaller,Code.frames,Code.isFrame,guardIds]
def QG{A:Around}{C:Addr}{us:List Value}{kw:List (Str×Value)}:(A.under (.builtin "type.__call__" ⟨.ref C::us,kw⟩)).units=A.units+1:=by
 first|rfl|simp[Around.under,Code.cUnits,Code.frames,Code.isFrame]
def Room.make{k:Nat}{A:Around}(r:Room (k+1) A)(C:Addr)(us:List Value)(kw:List (Str×Value)):Room k (A.under (.builtin "type.__call__" ⟨.ref C::us,kw⟩)) :=
 ⟨r.hd,(by first|exact r.gd|simpa[Around.under,Code.guards,pushGuards]using r.gd),by have:=r.dp;rw[QF];omega,by have:=r.un;rw[QG];omega⟩
theorem Room.depth{k:Nat}{A:Around}(r:Room k A):A.depth<recursionLimit:=by have:=r.dp;omega
theorem Room.units{k:Nat}{A:Around}(r:Room k A):A.units+64<cLine:=by have:=r.un;omega
def tNil:TA:=λ_ H Q=>Q [] H
def uZ(ta:TE)(tr:TA):TA:=λO H Q=>ta O H λx H1=>tr O H1 λxs H2=>Q (x::xs) H2
section
variable{X:Cx}{e:Expr}{es:List Expr}{te:TE}{t:TA}{pos:Pos}
def wL:PA X [] tNil:=λ_ _ _ _ H Q I h=>Calls.spliced_nil ⟨[],H,I,.nil,h⟩
def yN(ha:PE X e te)(hr:PA X es t)(hs:starEach (e::es) X.env=(false,eval e X.env)::starEach es X.env:=by rfl):PA X (e::es) (uZ te t):=by
 intro pos pins s O H Q I h;rw[hs];show wpAny _ _ (spliced ((false,eval e X.env)::backTo pos (starEach es X.env))) _ _ s;refine Calls.spliced_cons (thn (ha pins s O H _ I h) λu s1 ⟨x,H1,I1,r1,q1⟩=>?_);exact thn (hr pos pins s1 O H1 _ I1 q1) λus s2 ⟨xs,H2,I2,r2,q2⟩=>⟨x::xs,H2,I2,.cons r1 r2,q2⟩
def tTup(t:TA):TE:=λO H Q=>t O H λxs H1=>xs.length<=sizeLine/\∀p,H1 p=none->Q (.ref p) (upd H1 p (.t xs))
def tLst(t:TA):TE:=λO H Q=>t O H λxs H1=>xs.length<=sizeLine/\∀p,H1 p=none->Q (.ref p) (upd H1 p (.l xs))
def pe_tup{x1}(h:PA X es t):PE X (.Tuple es x1 pos) (tTup t):=by
 intro pins s O H Q I hq;refine wpAny_Tuple_spliced (thn (h pos pins s O H _ I hq) λus s1 ⟨xs,H1,I1,r,z,q⟩=>⟨by rw[<- r.length];exact z,?_⟩);have hf:H1 s1.heap.objs.size=none:=I1.hok.fresh (le_refl _);refine⟨.ref s1.heap.objs.size,upd H1 s1.heap.objs.size (.t xs),I1.laid (t':=s1.toks) (λb u e=>qA _ e) (le_refl _) ?_,rfl,q _ hf⟩;exact⟨z,us,r,⟨_,get?_push_size _ rfl,rfl,_,rfl⟩⟩
def pe_lst(h:PA X es t):PE X (.List es pos) (tLst t):=by
 intro pins s O H Q I hq;refine wpAny_List_spliced (thn (h pos pins s O H _ I hq) λus s1 ⟨xs,H1,I1,r,z,q⟩=>⟨by rw[<- r.length];exact z,?_⟩);have hf:H1 s1.heap.objs.size=none:=I1.hok.fresh (le_refl _);refine⟨.ref s1.heap.objs.size,upd H1 s1.heap.objs.size (.l xs),I1.laid (t':=s1.toks) (λb u e=>qA _ e) (le_refl _) ?_,rfl,q _ hf⟩;exact⟨z,us,0,r,get?_push_size _ rfl⟩
end
abbrev Sp:=List V->Hp->VK->XK->Prop
abbrev CXT:=List Env->Hp->Shared->XK->Value->Shared->Prop
structure Env0(P:Program)(w:World)(K:qH)(mg:Str->Option Value)(base:Heap)(A:Around)(outer:List Env)(s:Shared)(H:Hp):Prop where
 frames:A.frames=some outer
 mod:Mod K mg base
 bs:∀b o,base.get? b=some o->s.heap.get? b=some o/\H b=none
 bsz:base.objs.size<=s.heap.objs.size
 funs:s.heap.FunFrames base outer
 frf:∀b∈frs outer,H b=none
 hok:HOk P w H s.heap
 bare:AllBare s.gens
def CE(outer:List Env)(P:Program)(w:World)(H:Hp)(s:Shared)(Q:VK)(u:Value)(s':Shared):Prop :=
 ∃v H',s'.os=s.os/\AllBare s'.gens/\Un (frs outer) [] H H' s.heap s'.heap/\HOk P w H' s'.heap/\z9 v u/\Q v H'
def CR(CX:CXT)(outer:List Env)(P:Program)(w:World)(H:Hp)(s:Shared)(Q:VK)(E:XK)(r:Result)(s':Shared):Prop :=
 match r with
 | .ok (.ret u)=>CE outer P w H s Q u s'| .ok _=>False| .error e=>CX outer H s E e s'
structure FnOk(P:Program)(w:World)(K:qH)(mg:Str->Option Value)(base:Heap)(CX:CXT)(k:Nat)(f:Addr)(fd:FuncData)(ps:List Str)(sp:Sp):Prop where
 len:∀vs H Q E,sp vs H Q E->vs.length=ps.length
 run:∀(A:Around) (outer:List Env) (s:Shared) (H:Hp) (args:Args) (us:List Value) (vs:List V) (Q:VK) (E:XK),Room k A->Env0 P w K mg base A outer s H->BindsTo s fd args (ps.zip us)->zn vs us->sp vs H Q E ->
  codeAny (model P w) A (.call (.ref f) args) (CR CX outer P w H s Q E) s
theorem FnOk.mono{P:Program}{w:World}{K:qH}{mg:Str->Option Value}{base:Heap}{CX:CXT}{j k:Nat}{f:Addr}{fd:FuncData}{ps:List Str}{sp:Sp}(F:FnOk P w K mg base CX j f fd ps sp)(h:j<=k) :
  FnOk P w K mg base CX k f fd ps sp:=⟨F.len,λA outer s H args us vs Q E hr=>F.run A outer s H args us vs Q E (hr.mono h)⟩
def FnOk.imp{P:Program}{w:World}{K:qH}{mg:Str->Option Value}{base:Heap}{CX:CXT}{k:Nat}{f:Addr}{fd:FuncData}{ps:List Str}{sp sp':Sp}(F:FnOk P w K mg base CX k f fd ps sp)
  (h:∀vs H Q E,sp' vs H Q E->sp vs H Q E):FnOk P w K mg base CX k f fd ps sp' :=
 ⟨λvs H Q E q=>F.len vs H Q E (h _ _ _ _ q),λA outer s H args us vs Q E hr he hb hv hs=>F.run A outer s H args us vs Q E hr he hb hv (h _ _ _ _ hs)⟩
def Env0.make{P:Program}{w:World}{K:qH}{mg:Str->Option Value}{base:Heap}{A:Around}{outer:List Env}{s:Shared}{H:Hp}(e:Env0 P w K mg base A outer s H)(C:Addr)(us:List Value)(kw:List (Str×Value)) :
  Env0 P w K mg base (A.under (.builtin "type.__call__" ⟨.ref C::us,kw⟩)) outer s H:=⟨by first|exact e.frames|(simpa[Around.under,Code.envs,Code.isFrame,pushEnvs]using e.frames),e.mod,e.bs,e.bsz,e.funs,e.frf,e.hok,e.bare⟩
theorem Env0.in1{P:Program}{w:World}{K:qH}{mg:Str->Option Value}{base:Heap}{A:Around}{outer:List Env}{s:Shared}{H:Hp}(e:Env0 P w K mg base A outer s H) :
  Env0 P w K mg base A.in1 outer s H:=⟨e.frames,e.mod,e.bs,e.bsz,e.funs,e.frf,e.hok,e.bare⟩
section
variable{X:Cx}{pins:List (Addr×Obj)}{O:St}{H:Hp}{s s':Shared}
def Inv.env0(I:Inv X pins O H s):Env0 X.prog X.w X.K X.mg X.base X.A X.stack s H :=
 ⟨I.ok.frames,I.ok.mod,I.bs,le_trans I.ok.bsz I.sz,I.stack,I.stkFree,I.hok,I.bare⟩
def Inv.after{Q:VK}{u:Value}(I:Inv X pins O H s)(h:CE X.stack X.prog X.w H s Q u s'):EP X pins O Q u s':=by
 obtain⟨v,H',os,bare,un,hok,r,q⟩:=h;obtain⟨hh,g,d,t,os'⟩:=s';obtain rfl:os'=s.os:=os;exact⟨v,H',I.call (h':=hh) (g':=g) (d':=d) (t':=t) (ch:=[]) un hok bare (λb z=>absurd z (by simp)),r,q⟩
end
def Jj(K:qH)(fd:FuncData)(ps:List Str)(ds:List Value):Prop :=
 ∀(s:Shared) (us:List Value),K.In s.heap->(us++ds).length=ps.length->BindsTo s fd ⟨us,[]⟩ (ps.zip (us++ds))
def Jj.all{K:qH}{fd:FuncData}{ps:List Str}(h:∀us:List Value,us.length=ps.length->bindArgs fd ⟨us,[]⟩=pure (ps.zip us)):Jj K fd ps []:=λs us _ hl=>by
 rw[append_nil]at hl ⊢;exact .of_eq (h us hl)
section
variable{X:Cx}{CX:CXT}{k:Nat}{f C:Addr}{fd:FuncData}{ps:List Str}{sp:Sp}{dvs:List V}{ds:List Value}{E:XK}{x m:Str}{p pos apos:Pos}{e o:Expr}{es:List Expr}{ta:TE}{t:TA}
structure Mk(K:qH)(C f:Addr):Prop where
 makes:PySem.W.makesIn K C=true
 init:findIn K (.ref C) "__init__"=some (some (.ref f))
 fn:PySem.W.isFn K (.ref f)=true
 kp:keepIn K (.ref C)=true
end
section
variable{X:Cx}{CX:CXT}{k:Nat}{f C:Addr}{fd:FuncData}{ps ks:List Str}{sp:Sp}{E:XK}{x m:Str}{p pos apos kpos:Pos}{e o:Expr}{es:List Expr}{kws:List Keyword}{te ta:TE}{t tk:TA}{nm:Option Str}
structure KBinds(K:qH)(fd:FuncData)(ps ks:List Str)(g:List Value->List Value->List Value)(gV:List V->List V->List V):Prop where
 to:∀(s:Shared) (us ws:List Value),K.In s.heap->(g us ws).length=ps.length->BindsTo s fd ⟨us,ks.zip ws⟩ (ps.zip (g us ws))
 rel:∀{vs:List V} {us:List Value} {zs:List V} {ws:List Value},zn vs us->zn zs ws->zn (gV vs zs) (g us ws)
variable{g:List Value->List Value->List Value}{gV:List V->List V->List V}
end
structure FnScope(N P:List Str)(sc:Scope):Prop where
 kind:sc.kind=.function
 co:sc.isCoroutine=false
 gen:sc.isGenerator=false
 nd:N.Nodup
 pre:N.take P.length=P
 par:∀x∈P,sc.names.lookup x=some .local\/sc.names.lookup x=some .cell
 nofree:∀y∈sc.names,y.2≠.free
theorem vJ{kindOf:Str->Option NameKind}{x:Str}:∀{binds:List (Str×Value)} {m:Str->Option Value},(∀v,(x,v)∉binds)->bindL kindOf binds m x=m x
 | [],_,_=>rfl
 | (n,v)::r,m,h=>by
  unfold bindL;rw[vJ λw hw=>h w (qD _ hw)];split
  ·have:x≠n:=by rintro rfl;exact h v qE
   simp[this]
  ·rfl
theorem vK{kindOf:Str->Option NameKind}{x:Str}:∀{binds:List (Str×Value)} {m:Str->Option Value},(∀v,(x,v)∉binds)->bindC kindOf binds m x=m x
 | [],_,_=>rfl
 | (n,v)::r,m,h=>by
  unfold bindC;rw[vK λw hw=>h w (qD _ hw)];split
  ·rfl
  ·have:x≠n:=by rintro rfl;exact h v qE
   simp[this]
theorem vL{kindOf:Str->Option NameKind}{x:Str}{v:Value}:∀{P:List Str} {vs:List Value} {i:Nat} {m:Str->Option Value},P.Nodup->P[i]?=some x->vs[i]?=some v->kindOf x=some .local ->
  bindL kindOf (P.zip vs) m x=some v
 | [],_,_,_,_,h,_,_=>by simp at h|_::_,[],_,_,_,_,h,_=>by simp at h
 |p::P,w::vs,0,m,nd,h1,h2,hk=>by
  simp at h1 h2;subst h1;subst h2
  show bindL kindOf ((p,w)::P.zip vs) m p=_
  unfold bindL;rw[vJ λv hv=>(nodup_cons.mp nd).1 (of_mem_zip hv).1,if_pos hk];simp
 |p::P,w::vs,i+1,m,nd,h1,h2,hk=>by
  show bindL kindOf ((p,w)::P.zip vs) m x=_
  unfold bindL;exact vL (i:=i) (nodup_cons.mp nd).2 (by simpa using h1) (by simpa using h2) hk
theorem vM{kindOf:Str->Option NameKind}{x:Str}{v:Value}:∀{P:List Str} {vs:List Value} {i:Nat} {m:Str->Option Value},P.Nodup->P[i]?=some x->vs[i]?=some v->kindOf x≠some .local ->
  bindC kindOf (P.zip vs) m x=some v
 | [],_,_,_,_,h,_,_=>by simp at h|_::_,[],_,_,_,_,h,_=>by simp at h
 |p::P,w::vs,0,m,nd,h1,h2,hk=>by
  simp at h1 h2;subst h1;subst h2
  show bindC kindOf ((p,w)::P.zip vs) m p=_
  unfold bindC;rw[vK λv hv=>(nodup_cons.mp nd).1 (of_mem_zip hv).1,if_neg hk];simp
 |p::P,w::vs,i+1,m,nd,h1,h2,hk=>by
  show bindC kindOf ((p,w)::P.zip vs) m x=_
  unfold bindC;exact vM (i:=i) (nodup_cons.mp nd).2 (by simpa using h1) (by simpa using h2) hk
def jf(N:List Str)(vs:List V):St:=vs.map some++replicate (N.length-vs.length) none
def zCE(CX:CXT)(P:Program)(w:World)(K:qH)(mg:Str->Option Value)(base:Heap)(N:List Str)(qual:Str)(scope:Scope)(f:Addr)(cd:Value)(A:Around)(outer:List Env)(s:Shared)(H:Hp)(E:XK):Cx where
 prog:=P
 w:=w
 K:=K
 mg:=mg
 base:=base
 A:=A.deeper (envOfC qual scope s.heap.objs.size f cd)
 N:=N
 s₀:=s
 H₀:=H
 env:=envOfC qual scope s.heap.objs.size f cd
 outer:=outer
 stack:=envOfC qual scope s.heap.objs.size f cd::outer
 ex:=[]
 calm:=true
 fn:=λ_=>true
 pn:=[]
 xe:=λe s'=>wpAny (model P w) (A.deeper (envOfC qual scope s.heap.objs.size f cd)) (leaving (envOfC qual scope s.heap.objs.size f cd) e) (λ_ s''=>CX outer H s E e s'') (λe' s''=>CX outer H s E e' s'') s'
def GJ{sc:Scope}{n:Nat}{x:Str}(h:sc.names.lookup x=some .cell):∃c,(cellsFrom n sc.names []).lookup x=some c:=by
 have q:=cellsFrom_some sc.names n [] (.inl h);exact Option.isSome_iff_exists.mp q
def vN{CX:CXT}{P:Program}{w:World}{K:qH}{mg:Str->Option Value}{base:Heap}{N ps:List Str}{qual:Str}{scope:Scope}{f:Addr}{cd:Value}{A:Around}{outer:List Env}{s s1:Shared}{H:Hp}{E:XK}{us:List Value}{vs:List V}
  (S:FnScope N ps scope) (hd:A.handled=none) (e0:Env0 P w K mg base A outer s H) (hl:vs.length=ps.length) (r:zn vs us)
  (x:InCallC s s.heap.objs.size (bindL (envOfC qual scope s.heap.objs.size f cd).kindOf (ps.zip us) λ_=>none) (cellsFrom (s.heap.objs.size+1) scope.names []) (bindC (envOfC qual scope s.heap.objs.size f cd).kindOf (ps.zip us) λ_=>none) s1) :
  Inv (zCE CX P w K mg base N qual scope f cd A outer s H E) [] (jf N vs) H s1:=by
 have hpl:ps.length<=N.length:=by have:=congrArg length S.pre;rw[length_take]at this;omega
 obtain⟨h1,tk,rfl,hk⟩:=x.done;have noA:∀b:Addr,b∉(zCE CX P w K mg base N qual scope f cd A outer s H E).ex:=λb z=>absurd (show b∈([]:List Addr)from z) (by simp)
 refine⟨⟨e0.mod,S.kind,rfl,rfl,le_refl _,λy z c h1 h2=>?_,λy hy=>?_,λy c _ h=>?_,λ_=>hd,Around.frames_deeper e0.frames,.inr ⟨rfl,rfl⟩,λb z=>absurd z (noA b),e0.bs,e0.bsz,λb _ _=>noA b,λb z=>absurd z (noA b),e0.funs,e0.frf⟩,
  rfl,e0.bare,Un.kept hk,⟨_,x.toInCall.ns,λi y v h1 h2 h3=>?_⟩,λy c h=>⟨_,x.cell y c h⟩,e0.hok.fresh (le_refl _),λy c h=>?_,λp hp=>absurd (show p∈([]:List (Addr×Obj))from hp) (by simp),e0.hok.kept hk,?_⟩
 ·exact name_of_addr x.apart (PySem.mem_of_lookup h1) (PySem.mem_of_lookup h2)
 ·have hy:scope.names.lookup y=some .cell\/scope.names.lookup y=some .free:=hy
  rcases hy with hy|hy
  ·exact GJ hy
  ·exact absurd rfl (S.nofree _ (PySem.mem_of_lookup hy))
 ·exact Nat.le_of_lt (x.above y c (PySem.mem_of_lookup h))
 ·have hi:i<vs.length:=by
   unfold jf at h2;by_cases hi:i<vs.length
   ·exact hi
   ·rw[List.getElem?_append_right (by simpa using hi)]at h2
    rw[List.getElem?_replicate]at h2;split at h2<;>cases h2
  have ha:vs[i]?=some v:=by
   unfold jf at h2;rw[List.getElem?_append_left (by simpa using hi),List.getElem?_map]at h2;cases e:vs[i]? with
   |none=>rw[e]at h2;cases h2|some a=>rw[e]at h2;cases h2;rfl
  obtain⟨u,hu,rv⟩:=r.get ha;have hp:ps[i]?=some y:=by
   rw[<- S.pre,List.getElem?_take_of_lt (by omega)];exact h1
  have ndP:ps.Nodup:=by rw[<- S.pre];exact S.nd.sublist (List.take_sublist _ _)
  refine⟨u,rv,?_⟩;rcases S.par y (mem_of_getElem? hp)with k|k
  ·exact .inl ⟨k,vL ndP hp hu k⟩
  ·obtain⟨c,e⟩:=GJ (n:=s.heap.objs.size+1) k
   refine .inr ⟨.inl k,c,e,?_⟩;have q:=x.cell y c e;rw[vM ndP hp hu (by show scope.names.lookup y≠_;rw[k];decide)]at q;exact q
 ·exact e0.hok.fresh (Nat.le_of_lt (x.above y c (PySem.mem_of_lookup h)))
 ·unfold jf
  show _=N.length
  rw[length_append,length_map,List.length_replicate];omega
def fn_of{CX:CXT}{P:Program}{w:World}{K:qH}{mg:Str->Option Value}{base:Heap}{k:Nat}{f:Addr}{name qual:Str}{params:Arguments}{body:List Stmt}{scope:Scope}{dV kV doc pm cdv ct oc:Value}{an od:Option Addr}
  {osl:Array (Option Value)} {N ps:List Str} {sp:Sp} (lk:K.lookup f=some ⟨oc,od,.func (fnOf name qual params body scope dV kV doc pm an cdv ct),osl⟩) (hcd:codeIn K cdv qual=true) (S:FnScope N ps scope)
  (len:∀vs H Q E,sp vs H Q E->vs.length=ps.length)
  (hbody:∀(A:Around) (outer:List Env) (s:Shared) (H:Hp) (vs:List V) (Q:VK) (E:XK),Room k (A.deeper (envOfC qual scope s.heap.objs.size f cdv))->sp vs H Q E ->
   ∃t,PSs (zCE CX P w K mg base N qual scope f cdv A outer s H E) body t/\t {nx:=λ_ H'=>Q .non H',rt:=Q} (jf N vs) H) :
  FnOk P w K mg base CX (k+1) f (fnOf name qual params body scope dV kV doc pm an cdv ct) ps sp:=by
 refine⟨len,λA outer s H args us vs Q E hr e0 hb r hsp=>?_⟩;have hl:=len _ _ _ _ hsp;have KX:K.In s.heap:=e0.mod.kin.keeps λb o e=>(e0.bs b o e).1
 have lim:s.heap.NoLimit:=e0.mod.nolimit.keeps λb o e=>(e0.bs b o e).1
 have hkind:∀y∈ps.zip us,scope.names.lookup y.1=some .local\/(scope.names.lookup y.1=some .cell/\((cellsFrom (s.heap.objs.size+1) scope.names []).lookup y.1).isSome=true):=λ⟨n,v⟩ hy=>by
  rcases S.par n (of_mem_zip hy).1 with q|q
  ·exact .inl q
  ·exact .inr ⟨q,cellsFrom_some _ _ _ (.inl q)⟩
 refine codeAny_call_function hr.depth (KX _ _ lk) rfl S.co S.gen rfl (codeRec_of KX hcd) (hb _ _ _ _ ?_);refine wpAny_newFunctionEnv_cells S.kind hkind λenv he s1 x=>?_
 subst he;refine⟨lim.keeps x.toInCall.keep,codeAny_func ?_⟩;obtain⟨t,ht,hq⟩:=hbody A outer s H vs Q E (hr.deeper _) hsp;have I:Inv (zCE CX P w K mg base N qual scope f cdv A outer s H E) [] (jf N vs) H s1:=vN S hr.hd e0 hl r x;refine wpAny_mono (ht [] s1 (jf N vs) H _ I hq) (λfl s' hs=>?_) λe s' hs=>hs
 have fin:∀{O':St} {H':Hp} {v:V} {u:Value},Inv (zCE CX P w K mg base N qual scope f cdv A outer s H E) [] O' H' s'->z9 v u->Q v H'->CE outer P w H s Q u s' :=
  λ{O' H' v u} J rv q=>⟨v,H',J.os,J.bare,J.base,J.hok,rv,q⟩
 cases fl with
 |ret u =>
  obtain⟨v,O',H',J,rv,q⟩:=hs;exact fin J rv q
 |next =>
  obtain⟨O',H',J,q⟩:=hs;exact fin (v:=V.non) (u:=Value.none) J rfl q
 |brk =>
  obtain⟨_,_,_,q⟩:=hs;exact False.elim q
 |cont =>
  obtain⟨_,_,_,q⟩:=hs;exact False.elim q
section
variable{X:Cx}{x:Str}{p pos:Pos}{e:Expr}{es:List Expr}{t:TA}{id T:String}{r:List V->Hp->VK->Prop}
def tCB(r:List V->Hp->VK->Prop)(t:TA):TE:=λO H Q=>t O H λvs H1=>r vs H1 Q
def Jk(hc:jp X (.builtin id) r)(hg:Gl X x)(hm:X.mg x=none)(hv:bootBuiltins x=some (.builtin id))(ha:PA X (e::es) t)(hn:x≠"__name__":=by decide)(hdb:(x==("__debug__":Str))=false:=by decide)
  (he:starEach (e::es) X.env=(false,eval e X.env)::starEach es X.env:=by rfl) (hpl:(backTo pos (starEach es X.env)).any (·.1)=false:=by rfl):PE X (.Call (.Name x p) (e::es) [] pos) (tCB r t):=by
 intro pins s O H Q I h;refine wpAny_Call_Name_kw (vF I hg hm hv ?_ hn hdb);exact PyProof.Rows.callWith_builtin1 (thn (ha pos pins s O H _ I h) λus s1 ⟨vs,H1,I1,r1,q1⟩=>hc pins s1 O H1 vs us Q I1 r1 q1) he hpl
def Q2(hc:jp X (.type T) r)(hg:Gl X x)(hm:X.mg x=none)(hv:bootBuiltins x=some (.type T))(ha:PA X (e::es) t)(hn:x≠"__name__":=by decide)(hdb:(x==("__debug__":Str))=false:=by decide)
  (he:starEach (e::es) X.env=(false,eval e X.env)::starEach es X.env:=by rfl) (hpl:(backTo pos (starEach es X.env)).any (·.1)=false:=by rfl):PE X (.Call (.Name x p) (e::es) [] pos) (tCB r t):=by
 intro pins s O H Q I h;refine wpAny_Call_Name_kw (vF I hg hm hv ?_ hn hdb);exact PyProof.Rows.callWith_type1 (thn (ha pos pins s O H _ I h) λus s1 ⟨vs,H1,I1,r1,q1⟩=>hc pins s1 O H1 vs us Q I1 r1 q1) he hpl
end
end L2
namespace HT
open PySem PyProof.Rows
section
variable{prog:Program}{w:World}{A:Around}{E:Value->Shared->Prop}{s:Shared}
def cat_tup{t b:Addr}{vs ws:List Value}{Q:Value->Shared->Prop}(ht:IsTup s.heap t vs.toArray)(hb:IsTup s.heap b ws.toArray)(hv:vs≠[])
  (h1:ws=[]->Q (.ref t) s) (h2:ws≠[]->Q (.ref s.heap.objs.size) {s with heap:=s.heap.push {cls:=.type "tuple",data:=.seq (vs++ws).toArray}})
  (hsz:vs.length+ws.length<=sizeLine):wpAny (model prog w) A (binaryOp .Add (.ref t) (.ref b)) Q E s:=by
 obtain⟨⟨cls,dd,data,sl⟩,ho,hc,n,hd⟩:=id ht;obtain⟨⟨cls2,dd2,data2,sl2⟩,ho2,hc2,n2,hd2⟩:=id hb;simp only at hc hd hc2 hd2;subst hc hd hc2 hd2;have e:vs.toArray++ws.toArray=(vs++ws).toArray:=by simp
 by_cases hw:ws=[]
 ·exact concat_meets ⟨_,ho,rfl⟩ ⟨_,ho2,rfl⟩ noFill_tuple_add seq_tuple_add PySem.F.slot_tuple_add PySem.F.entry_tuple_add (PySem.F.args_tuple_add_2 _ _)
   (tuple_addW1 t b vs.toArray ws.toArray n n2 dd dd2 sl sl2 (by simpa using hv) (by simp[hw])) ⟨ho,ho2,h1 hw⟩
 ·refine concat_meets ⟨_,ho,rfl⟩ ⟨_,ho2,rfl⟩ noFill_tuple_add seq_tuple_add PySem.F.slot_tuple_add PySem.F.entry_tuple_add (PySem.F.args_tuple_add_2 _ _)
   (tuple_addW2 t b vs.toArray ws.toArray n n2 dd dd2 sl sl2 (by simpa using hv) (by simpa using hw) (by rw[size_toArray,size_toArray];exact hsz)) ⟨ho,ho2,?_⟩
  rw[e];exact h2 hw
def sIx(n d:Nat):Option Int->Nat
 |none=>d|some v=>if v<0 then(v+(n:Int)).toNat else min v.toNat n
def sIx_nat(n d k:Nat):sIx n d (some (k:Int))=min k n:=by
 show(if(k:Int)<0 then((k:Int)+(n:Int)).toNat else min (k:Int).toNat n)=min k n
 rw[if_neg (by omega),Int.toNat_natCast]
def sIx_le(n d:Nat)(hd:d<=n)(o:Option Int):sIx n d o<=n:=by
 cases o with
 |none=>exact hd
 |some v =>
  show(if v<0 then(v+(n:Int)).toNat else min v.toNat n)<=n
  by_cases hv:v<0
  ·rw[if_pos hv];omega
  ·rw[if_neg hv];exact Nat.min_le_right _ _
def Q3(v:Int)(n d:Nat):(if v<0 then max (v+(n:Int)) 0 else min v (n:Int))=((sIx n d (some v):Nat):Int):=by
 show(if v<0 then max (v+(n:Int)) 0 else min v (n:Int))=(((if v<0 then(v+(n:Int)).toNat else min v.toNat n):Nat):Int)
 by_cases hv:v<0
 ·simp only[if_pos hv];omega
 ·simp only[if_neg hv];omega
def QH(lo hi:Option Int)(n:Nat):Builtin.Slice.sliceAdjust lo hi 1 (n:Int)=(((sIx n 0 lo:Nat):Int),((sIx n n hi:Nat):Int)):=by
 have h1:¬((1:Int)<0):=by omega
 unfold Builtin.Slice.sliceAdjust;simp only[h1,if_false];refine Prod.ext ?_ ?_
 ·cases lo with
  |none=>rfl|some v=>exact Q3 v n 0
 ·cases hi with
  |none=>rfl|some v=>exact Q3 v n n
def QI(i j:Nat):Builtin.Slice.slicePlaces (i:Int) (j:Int) 1=j-i:=by
 unfold Builtin.Slice.slicePlaces;have h1:(1:Int) > 0:=by omega
 simp only[h1,if_true,Int.ediv_one];split<;>omega
def slicePart_{v:Value}{o:Option Int}{Q:Option Int->Shared->Prop}(p:IsPart v o)(h:Q o s):wpAny (model prog w) A (Builtin.Slice.slicePartIndex v) Q E s:=by
 cases p with
 |none=>exact slicePart_none h|int i t=>exact slicePart_int h
def sliceApplied_gen{sl:Addr}{vl vu:Value}{lo hi:Option Int}{n:Nat}{Q:Int×Int×Nat->Shared->Prop}(hs:s.heap.IsSliceOf sl vl vu .none)(pl:IsPart vl lo)(pu:IsPart vu hi)
  (h:Q (((sIx n 0 lo:Nat):Int),1,sIx n n hi-sIx n 0 lo) s):wpAny (model prog w) A (Builtin.Slice.sliceApplied (.ref sl) (pure (n:Int))) Q E s:=by
 obtain⟨os,hos,hcs,hds⟩:=id hs;unfold Builtin.Slice.sliceApplied Builtin.Slice.sliceFields;refine qB (qB (wpAny_field hos hds (x:=vl) rfl (qB (wpAny_field hos hds (x:=vu) rfl (qB (wpAny_field hos hds (x:=.none) rfl (qC ?_)))))));refine qB (slicePart_none ?_);show wpAny _ _ (if((1:Int)==0)=true then _ else _) _ _ s;rw[if_neg (by decide)];refine qB (slicePart_ pl (qB (slicePart_ pu (qB (qC ?_)))));show wpAny _ _ (match Builtin.Slice.sliceAdjust lo hi 1 (n:Int)with|(lo,hi)=>pure (lo,(1:Int),Builtin.Slice.slicePlaces lo hi 1)) _ _ s
 rw[QH lo hi n];show wpAny _ _ (pure (((sIx n 0 lo:Nat):Int),(1:Int),Builtin.Slice.slicePlaces ((sIx n 0 lo:Nat):Int) ((sIx n n hi:Nat):Int) 1)) _ _ s;rw[QI];exact qC h
def zCF(xs:Array Value)(i k:Nat):((List.range k).filterMap λ(m:Nat)=>xs[((i:Int)+(m:Int)*1).toNat]?).toArray=((xs.toList.drop i).take k).toArray:=by
 have e:(λ(m:Nat)=>xs[((i:Int)+(m:Int)*1).toNat]?)=λm=>xs[i+m]?:=by
  funext m
  have:((i:Int)+(m:Int)*1).toNat=i+m:=by omega
  rw[this]
 rw[e];have:=pick_run xs i k;rw[filterMap_map]at this;have e2:((λx=>xs[x]?) ∘ λx=>i+x)=λm=>xs[i+m]?:=rfl
 rw[e2]at this;rw[this]
def getItem_tuple_cut{t sl:Addr}{items:Array Value}{vl vu:Value}{lo hi:Option Int}{Q:Value->Shared->Prop}(ht:IsTup s.heap t items)(hs:s.heap.IsSliceOf sl vl vu .none)(pl:IsPart vl lo)(pu:IsPart vu hi)
  (hw:¬(sIx items.size 0 lo=0/\sIx items.size items.size hi=items.size))
  (h:Q (.ref s.heap.objs.size) {s with heap:=s.heap.push {cls:=.type "tuple",data:=.seq ((items.toList.drop (sIx items.size 0 lo)).take (sIx items.size items.size hi-sIx items.size 0 lo)).toArray}})
  (hsz:items.size<=sizeLine):wpAny (model prog w) A (getItem (.ref t) (.ref sl)) Q E s:=by
 have htake:sizeOk (.seq ((items.toList.drop (sIx items.size 0 lo)).take (sIx items.size items.size hi-sIx items.size 0 lo)).toArray):=by
  show((items.toList.drop (sIx items.size 0 lo)).take (sIx items.size items.size hi-sIx items.size 0 lo)).toArray.size<=sizeLine
  rw[size_toArray,length_take,length_drop,Array.length_toList];omega
 have hj:sIx items.size items.size hi<=items.size:=sIx_le _ _ (le_refl _) hi;obtain⟨os,hos,hcs,hds⟩:=id hs;have hTs:s.TypeIs (.ref sl) "slice":=⟨os,hos,hcs⟩;unfold getItem
 try with_reducible refine wpAny_holding ?_
 first|refine qB (qC ?_)|skip
 refine qB (wpAny_sequenceKey ht.typeIs (by decide) ?_);refine qB (wpAny_callSpecial?_slot (name:=Str.ofString "__getitem__") ht.typeIs PyProof.Rows.slot_tuple_getitem
  (wpAny_call_entry PyProof.Rows.slot_tuple_getitem ht.typeIs entry_tuple_getitem ?_ (args_tuple_getitem _ _)))
 show wpAny _ _ (Builtin.Tuple.tupleItemsOf (.ref t) >>= _) _ _ s
 refine qB (tupleItemsOf_ ht ?_);refine qB (wpAny_typeOf hTs ?_);rw[if_pos (by decide)];refine qB (sliceApplied_gen hs pl pu ?_);have hno:¬((((sIx items.size 0 lo:Nat):Int)==0&&(1:Int)==1&&(sIx items.size items.size hi-sIx items.size 0 lo)==items.size)=true):=by
  intro q;rw[Bool.and_eq_true,Bool.and_eq_true]at q;have q1:((sIx items.size 0 lo:Nat):Int)=0:=eq_of_beq q.1.1;have q2:sIx items.size items.size hi-sIx items.size 0 lo=items.size:=eq_of_beq q.2;exact hw ⟨by omega,by omega⟩
 show wpAny _ _ (if(((sIx items.size 0 lo:Nat):Int)==0&&(1:Int)==1&&(sIx items.size items.size hi-sIx items.size 0 lo)==items.size)=true then _ else _) _ _ s
 rw[if_neg hno,zCF]
 first
  |exact qB (m:=Builtin.Tuple.tupleExact _) (wpAny_newObj_type (qC ⟨_,rfl,qC h⟩) htake)
  |exact qB (m:=Builtin.Tuple.tupleExact _) (wpAny_newObj_type (qB (qC (qC ⟨_,rfl,qC h⟩))) htake)
  |exact qB (qB (m:=Builtin.Tuple.tupleExact _) (wpAny_newObj_type (qC (qC ⟨_,rfl,qC h⟩)) htake))
  |exact qB (qB (m:=Builtin.Tuple.tupleExact _) (wpAny_newObj_type (qC ⟨_,rfl,qC h⟩) htake))
end
end HT
namespace L2
open PySem PySem.Spec PyProof.Rows
abbrev TO:=St->Hp->(Option Int->Hp->Prop)->Prop
def PO(X:Cx)(e:Option Expr)(t:TO):Prop :=
 ∀(pins:List (Addr×Obj)) (s:Shared) (O:St) (H:Hp) (Q:Option Int->Hp->Prop),Inv X pins O H s->t O H Q ->
  wpAny (model X.prog X.w) X.A (evalPart e X.env) (λu s'=>∃o H',Inv X pins O H' s'/\IsPart u o/\Q o H') X.xe s
def tNoPart:TO:=λ_ H Q=>Q none H
def tPart(t:TE):TO:=λO H Q=>t O H λx H1=>∃i,x=.int i/\Q (some i) H1
section
variable{X:Cx}{e:Expr}{te:TE}{lo hi:Option Expr}{tl th:TO}{pos p2:Pos}
def po_none:PO X none tNoPart:=by
 intro pins s O H Q I h;rw[evalPart_none];exact qC ⟨none,H,I,.none,h⟩
def po_some(h:PE X e te):PO X (some e) (tPart te):=by
 intro pins s O H Q I hw;rw[evalPart_some];refine thn (h pins s O H _ I hw) λu s1 ⟨x,H1,I1,r1,q1⟩=>?_
 obtain⟨i,rfl,q⟩:=q1;obtain⟨t,rfl⟩:=r1;exact⟨some i,H1,I1,.int i t,q⟩
def SlR(X:Cx)(r:V->Option Int->Option Int->Hp->VK->Prop):Prop :=
 ∀(pins:List (Addr×Obj)) (s:Shared) (O:St) (H:Hp) (x:V) (v vl vu:Value) (lo hi:Option Int) (sl:Addr) (Q:VK),Inv X pins O H s->z9 x v->s.heap.IsSliceOf sl vl vu .none->IsPart vl lo->IsPart vu hi->r x lo hi H Q ->
  ∃T id,typeLookup (.type T) "__getitem__"=pure (some (.builtin id))/\s.TypeIs v T/\wpAny (model X.prog X.w) X.A (getItem v (.ref sl)) (EP X pins O Q) X.xe s
def SlR.or{r r':V->Option Int->Option Int->Hp->VK->Prop}(h:SlR X r)(h':SlR X r'):SlR X (λx lo hi H Q=>r x lo hi H Q\/r' x lo hi H Q):=by
 intro pins s O H x v vl vu lo hi sl Q I rx hs pl pu q;rcases q with q|q
 ·exact h pins s O H x v vl vu lo hi sl Q I rx hs pl pu q
 ·exact h' pins s O H x v vl vu lo hi sl Q I rx hs pl pu q
def tSl(r:V->Option Int->Option Int->Hp->VK->Prop)(te:TE)(tl th:TO):TE:=λO H Q=>te O H λx H1=>tl O H1 λl H2=>th O H2 λu H3=>r x l u H3 Q
def GK{r:V->Option Int->Option Int->Hp->VK->Prop}(hr:SlR X r)(he:PE X e te)(hl:PO X lo tl)(hu:PO X hi th):PE X (.Subscript e (.Slice lo hi none p2) pos) (tSl r te tl th):=by
 intro pins s O H Q I h;refine Subscript_ (thn (he pins s O H _ I h) λv s1 ⟨x,H1,I1,r1,q1⟩=>?_);refine wpAny_Slice (thn (hl pins s1 O H1 _ I1 q1) λvl s2 ⟨l,H2,I2,pl,q2⟩=>thn (hu pins s2 O H2 _ I2 q2) λvu s3 ⟨u,H3,I3,pu,q3⟩=>?_);rw[evalPart_none];refine qC ?_;have I4:Inv X pins O H3 {s3 with heap:=s3.heap.push {cls:=.type "slice",data:=.fields #[vl,vu,.none]}}:=I3.kept (t':=s3.toks) λb ob q=>qA _ q
 obtain⟨T,id,hT,ht,hg⟩:=hr pins {s3 with heap:=s3.heap.push {cls:=.type "slice",data:=.fields #[vl,vu,.none]}} O H3 x v vl vu l u s3.heap.objs.size Q I4 r1 (Heap.IsSliceOf.new ..) pl pu q3
 show wpAny (model X.prog X.w) X.A (subscriptTail e (.Slice lo hi none p2) v (.ref s3.heap.objs.size)) (EP X pins O Q) X.xe {s3 with heap:=s3.heap.push {cls:=.type "slice",data:=.fields #[vl,vu,.none]}}
 exact tail_any (ops:=[.ref s3.heap.objs.size,v]) ht hT hg (by with_unfolding_all rfl)
def zCG(xs:List V)(lo hi:Option Int):List V:=(xs.drop (HT.sIx xs.length 0 lo)).take (HT.sIx xs.length xs.length hi-HT.sIx xs.length 0 lo)
def ZO(xs:List V)(lo hi:Option Int):(zCG xs lo hi).length<=xs.length:=by
 unfold zCG;rw[length_take,length_drop];omega
def rSlT(K:qH):V->Option Int->Option Int->Hp->VK->Prop:=λx lo hi H Q=>∃a xs,x=.ref a/\SqT K H a xs /\
 ¬(HT.sIx xs.length 0 lo=0/\HT.sIx xs.length xs.length hi=xs.length)/\∀p,H p=none->Q (.ref p) (upd H p (.t (zCG xs lo hi)))
def sl_tup:SlR X (rSlT X.K):=by
 intro pins s O H x v vl vu lo hi sl Q I rx hs pl pu h;obtain⟨a,xs,rfl,hx,hw,q⟩:=h;cases rx;obtain⟨its,r,ht,hz⟩:=I.tuple hx;have hlen:its.toArray.size=xs.length:=by rw[size_toArray];exact r.length.symm
 refine⟨"tuple",_,PyProof.Rows.slot_tuple_getitem.lookup,ht.typeIs,?_⟩;refine HT.getItem_tuple_cut ht hs pl pu (by rw[hlen];exact hw) ?_ (by rw[hlen];exact hz);rw[hlen];refine⟨.ref s.heap.objs.size,_,I.laid (t':=s.toks) (o:=.t (zCG xs lo hi)) (λb ob q=>qA _ q) (le_refl _) ?_,rfl,q _ (I.hok.fresh (le_refl _))⟩;exact⟨le_trans (ZO xs lo hi) hz,_,(r.drop (HT.sIx xs.length 0 lo)).take (HT.sIx xs.length xs.length hi-HT.sIx xs.length 0 lo),IsTup.new _ _⟩
def rCatT(K:qH):R2:=λx y H Q=>∃a b xs ys,x=.ref a/\y=.ref b/\SqT K H a xs/\SqT K H b ys/\xs≠[]/\xs.length+ys.length<=sizeLine /\
 (ys=[]->Q (.ref a) H)/\(ys≠[]->∀p,H p=none->Q (.ref p) (upd H p (.t (xs++ys))))
def zn.nil_iff{xs:List V}{us:List Value}(r:zn xs us):us=[]↔xs=[]:=by
 cases r with
 |nil=>simp|cons _ _=>simp
def op_catT:OpR X (binaryOp .Add) (rCatT X.K):=by
 intro pins s O H x y v u Q I rx ry h;obtain⟨a,b,xs,ys,rfl,rfl,ha,hb,hx,hz,q1,q2⟩:=h;cases rx;cases ry;obtain⟨its,r1,p1,_⟩:=I.tuple ha;obtain⟨its2,r2,p2,_⟩:=I.tuple hb;refine HT.cat_tup p1 p2 (λz=>hx (r1.nil_iff.mp z)) (λz=>⟨.ref a,H,I,rfl,q1 (r2.nil_iff.mp z)⟩) (λz=>?_) (by rw[<- r1.length,<- r2.length];exact hz);refine⟨.ref s.heap.objs.size,_,I.laid (t':=s.toks) (o:=.t (xs++ys)) (λb ob q=>qA _ q) (le_refl _) ?_,rfl,q2 (λw=>z (r2.nil_iff.mpr w)) _ (I.hok.fresh (le_refl _))⟩;exact⟨by rw[length_append];exact hz,_,r1.append r2,IsTup.new _ _⟩
end
def ixN(n:Nat)(i:Int):Option Nat:=if 0<=i then(if i<n then some i.toNat else none)else if -(n:Int)<=i then some (i+n).toNat else none
def atI{α:Type}(xs:List α)(i:Int):Option α:=(ixN xs.length i).bind λj=>xs[j]?
def Q4{n:Nat}{i:Int}{j:Nat}(h:ixN n i=some j):seqIndex? i n=some j/\j<n/\-(n:Int)<=i/\i<n:=by
 unfold ixN at h;by_cases h0:0<=i
 ·rw[if_pos h0]at h
  by_cases h1:i<n
  ·rw[if_pos h1]at h
   have e:i.toNat=j:=qJ h;exact⟨by rw[seqIndex_of h0 h1,e],by omega,by omega,h1⟩
  ·rw[if_neg h1]at h;cases h
 ·rw[if_neg h0]at h
  by_cases h1:-(n:Int)<=i
  ·rw[if_pos h1]at h
   have e:(i+n).toNat=j:=qJ h;exact⟨by rw[seqIndex_neg (by omega) h1,e],by omega,h1,by omega⟩
  ·rw[if_neg h1]at h;cases h
def ua{α:Type}{xs:List α}{i:Int}{v:α}(h:atI xs i=some v):∃j,seqIndex? i xs.length=some j/\xs[j]?=some v/\j<xs.length/\-(xs.length:Int)<=i/\i<xs.length:=by
 unfold atI at h;cases e:ixN xs.length i with
 |none=>rw[e]at h;cases h
 |some j =>
  rw[e]at h;obtain⟨h1,h2,h3,h4⟩:=Q4 e;exact⟨j,h1,h,h2,h3,h4⟩
def Wh(b:Expr):Prop:=∀o i,subscripted b false o i=operate [o,i] (getItem o i)
def IxR(X:Cx)(r:R2):Prop :=
 ∀(value slice:Expr) (pins:List (Addr×Obj)) (s:Shared) (O:St) (H:Hp) (x y:V) (v u:Value) (Q:VK),Inv X pins O H s->z9 x v->z9 y u->r x y H Q ->
  subscripted slice false v u=operate [v,u] (getItem v u)->wpAny (model X.prog X.w) X.A (subscriptTail value slice v u) (EP X pins O Q) X.xe s
def MtR(X:Cx)(id:String)(r:V->List V->Hp->VK->Prop):Prop :=
 ∀(pins:List (Addr×Obj)) (s:Shared) (O:St) (H:Hp) (x:V) (xs:List V) (v:Value) (us:List Value) (Q:VK),Inv X pins O H s->z9 x v->zn xs us->r x xs H Q ->
  wpAny (model X.prog X.w) X.A (call (.builtin id) (v::us)) (EP X pins O Q) X.xe s
section
variable{X:Cx}{a b:Expr}{ta tb:TE}{pos:Pos}
def IxR.or{r r':R2}(h:IxR X r)(h':IxR X r'):IxR X (λx y H Q=>r x y H Q\/r' x y H Q):=by
 intro value slice pins s O H x y v u Q I rx ry q hs;rcases q with q|q
 ·exact h value slice pins s O H x y v u Q I rx ry q hs
 ·exact h' value slice pins s O H x y v u Q I rx ry q hs
def MtR.or{id:String}{r r':V->List V->Hp->VK->Prop}(h:MtR X id r)(h':MtR X id r'):MtR X id (λx xs H Q=>r x xs H Q\/r' x xs H Q):=by
 intro pins s O H x xs v us Q I rx rs q;rcases q with q|q
 ·exact h pins s O H x xs v us Q I rx rs q
 ·exact h' pins s O H x xs v us Q I rx rs q
def pe_ix{r:R2}(hr:IxR X r)(ha:PE X a ta)(hb:PE X b tb)(hs:Wh b):PE X (.Subscript a b pos) (tOp r ta tb):=by
 intro pins s O H Q I h;exact Subscript_ (binT ha hb I h λv u s2 x y H2 I2 rx ry q=>hr a b pins s2 O H2 x y v u Q I2 rx ry q (hs _ _))
def rIxL(K:qH):R2:=λx y H Q=>∃p xs i v,x=.ref p/\y=.int i/\SqL K H p xs/\atI xs i=some v/\Q v H
def rIxT(K:qH):R2:=λx y H Q=>∃p xs i v,x=.ref p/\y=.int i/\SqT K H p xs/\atI xs i=some v/\Q v H
def rIxS:R2:=λx y H Q=>∃z i c,x=.str z/\y=.int i/\z.length<=sizeLine/\atI z.cps.toList i=some c/\Q (.str ⟨#[c]⟩) H
def Q5:IxR X (rIxL X.K):=by
 intro value slice pins s O H x y v u Q I rx ry h hs;obtain⟨p,xs,i,z,rfl,rfl,hq,he,q⟩:=h;cases rx;obtain⟨t,rfl⟩:=ry;obtain⟨its,r,pl,hz⟩:=I.list hq;obtain⟨j,h1,h2,h3,h4,h5⟩:=ua he;obtain⟨w,ew,rw'⟩:=r.get h2;have hl:=r.length;have hn:=ZM;have fin:EP X pins O Q w s:=⟨z,H,I,rw',q⟩;by_cases h0:0<=i
 ·have hj:i.toNat=j:=by
   rw[seqIndex_of h0 h5]at h1;exact qJ h1
  exact item_listR pl.isList h0 (by omega) (by rw[hj];simpa using ew) fin hs
 ·have hj:(i+(its.toArray.size:Int)).toNat=j:=by
   rw[seqIndex_neg (by omega) h4]at h1;rw[size_toArray,<- hl];exact qJ h1
  exact subscriptTail_builtinR (x:=w) pl.isList.typeIs slot_list_getitem.lookup
   (wpAny_getItem_list_neg (Q:=λr s'=>r=w/\EP X pins O Q r s') pl.isList (by omega) (by rw[size_toArray]<;>omega) (by omega) (by rw[hj];simpa using ew) ⟨rfl,fin⟩) hs
def ix_tup:IxR X (rIxT X.K):=by
 intro value slice pins s O H x y v u Q I rx ry h hs;obtain⟨p,xs,i,z,rfl,rfl,hq,he,q⟩:=h;cases rx;obtain⟨t,rfl⟩:=ry;obtain⟨its,r,pl,hz⟩:=I.tuple hq;obtain⟨j,h1,h2,h3,h4,h5⟩:=ua he;obtain⟨w,ew,rw'⟩:=r.get h2;have hl:=r.length;have hn:=ZM;have fin:EP X pins O Q w s:=⟨z,H,I,rw',q⟩;exact subscriptTail_builtinR (x:=w) pl.typeIs slot_tuple_getitem.lookup
  (getItem_tuple (j:=j) (Q:=λr s'=>r=w/\EP X pins O Q r s') pl (by omega) (by omega) (by rw[size_toArray,<- hl];exact h1) (by simpa using ew) ⟨rfl,fin⟩) hs
def ix_str:IxR X rIxS:=by
 intro value slice pins s O H x y v u Q I rx ry h hs;obtain⟨z,i,c,rfl,rfl,hz,he,q⟩:=h;obtain⟨t,rfl⟩:=rx;obtain⟨t',rfl⟩:=ry;obtain⟨j,h1,h2,h3,h4,h5⟩:=ua he;have hl:z.cps.toList.length=z.length:=by simp[Str.length]
 rw[hl]at h1 h4 h5;have hn:=ZM;exact tail_any (typeIs_str s z t) slot_str_getitem.lookup (getItem_str (c:=c) (by
  have e1:decide (i < -(2^63:Int))=false:=decide_eq_false (by omega);have e2:decide (i ≥ 2^63)=false:=decide_eq_false (by omega);rw[e1,e2,Bool.or_false]) (by rw[h1];simpa using h2) ⟨.str ⟨#[c]⟩,H,I.tok _,⟨_,rfl⟩,q⟩) hs
def QJ(its:List Value)(n j:Nat)(u:Value):Obj.mapSeq (·.setIfInBounds j u) {cls:=.type "list",data:=.seq its.toArray n}={cls:=.type "list",data:=.seq (its.set j u).toArray n}:=by
 simp[Obj.mapSeq]
theorem Inv.lst{pins:List (Addr×Obj)}{O:St}{H:Hp}{s:Shared}{p:Addr}{xs:List V}(I:Inv X pins O H s)(h:H p=some (.l xs)) :
  ∃(its:List Value) (n:Nat),zn xs its/\s.heap.get? p=some {cls:=.type "list",data:=.seq its.toArray n}/\xs.length<=sizeLine:=by
 obtain⟨z,its,n,r,e⟩:=I.hok p _ h;exact⟨its,n,r,e,z⟩
def Inv.lstUpd{pins:List (Addr×Obj)}{O:St}{H:Hp}{s:Shared}{p:Addr}{xs ys:List V}{its its':List Value}{n n':Nat}{f:Obj->Obj}(I:Inv X pins O H s)(h:H p=some (.l xs))
  (ho:s.heap.get? p=some {cls:=.type "list",data:=.seq its.toArray n}) (hf:f {cls:=.type "list",data:=.seq its.toArray n}={cls:=.type "list",data:=.seq its'.toArray n'}) (r:zn ys its') (hz:ys.length<=sizeLine) (t:Nat) :
  Inv X pins O (upd H p (.l ys)) {s with heap:=s.heap.update p f,toks:=t}:=by
 have e:(s.heap.update p f).get? p=some {cls:=.type "list",data:=.seq its'.toArray n'}:=by
  rw[Heap.get?_update_self f ho (by rw[hf]<;>rfl),hf]
 refine I.write (x:=p) (e:=p) (by rw[h];trivial) (.inl rfl) (λb u hb q=>(Heap.get?_update_other _ _ (Ne.symm hb)).trans q) ⟨_,e⟩ ?_;exact⟨hz,its',n',r,e⟩
def rSetL:V->V->V->Hp->(Hp->Prop)->Prop:=λo i v H Q=>∃p xs k j,o=.ref p/\i=.int k/\H p=some (.l xs)/\ixN xs.length k=some j/\Q (upd H p (.l (xs.set j v)))
def zCH:PSet X rSetL:=by
 intro pins s O H o i v ov iv u Q I ro ri rv h;obtain⟨p,xs,k,j,rfl,rfl,hp,hj,q⟩:=h;cases ro;obtain⟨t,rfl⟩:=ri;obtain⟨its,n,r,ho,hz⟩:=I.lst hp;obtain⟨h1,h2,h3,h4⟩:=Q4 hj;have hl:=r.length;have hn:=ZM;have I':Inv X pins O (upd H p (.l (xs.set j v))) {s with heap:=s.heap.update p (Obj.mapSeq (·.setIfInBounds j u))} :=
  I.lstUpd hp ho (QJ its n j u) (r.set rv j) (by rw[List.length_set];exact hz) s.toks
 by_cases h0:0<=k
 ·have hk:k.toNat=j:=by
   rw[seqIndex_of h0 h4]at h1;exact qJ h1
  exact PySem.W.ki_setAt ho h0 (by omega) (by rw[size_toArray,<- hl];exact h4) (by rw[hk];exact⟨_,I',q⟩)
 ·have hk:(k+(its.toArray.size:Int)).toNat=j:=by
   rw[seqIndex_neg (by omega) h3]at h1;rw[size_toArray,<- hl];exact qJ h1
  exact PySem.W.ki_setBack ho (by omega) (by rw[size_toArray,<- hl];exact h3) (by omega) (by rw[hk];exact⟨_,I',q⟩)
def vO(lo hi:Option Int)(n:Nat):(sliceBounds lo hi none n).1=((HT.sIx n 0 lo:Nat):Int)/\(sliceBounds lo hi none n).2.1=((HT.sIx n n hi:Nat):Int)/\(sliceBounds lo hi none n).2.2=1:=by
 refine⟨?_,?_,rfl⟩
 ·cases lo with
  |none=>simp[sliceBounds,HT.sIx]
  |some i =>
   simp only[sliceBounds,HT.sIx,Option.getD_none,show(1:Int) > 0 by decide,if_true];by_cases h:i<0
   ·simp only[h,if_true]<;>omega
   ·simp only[h,if_false]<;>omega
 ·cases hi with
  |none=>simp[sliceBounds,HT.sIx]
  |some i =>
   simp only[sliceBounds,HT.sIx,Option.getD_none,show(1:Int) > 0 by decide,if_true];by_cases h:i<0
   ·simp only[h,if_true]<;>omega
   ·simp only[h,if_false]<;>omega
def Wi(its:List Value)(lo hi:Option Int):slicePick its.toArray lo hi none=((its.drop (HT.sIx its.length 0 lo)).take (HT.sIx its.length its.length hi-HT.sIx its.length 0 lo)).toArray:=by
 obtain⟨h1,h2,h3⟩:=vO lo hi its.toArray.size;unfold slicePick;rw[h1,h2,h3];simp only[sliceRange_one,pick_run,size_toArray]<;>rfl
def rSlL(K:qH):V->Option Int->Option Int->Hp->VK->Prop:=λx lo hi H Q=>∃a xs,x=.ref a/\SqL K H a xs/\∀p,H p=none->Q (.ref p) (upd H p (.l (zCG xs lo hi)))
def sl_list:SlR X (rSlL X.K):=by
 intro pins s O H x v vl vu lo hi sl Q I rx hs pl pu h;obtain⟨a,xs,rfl,hx,q⟩:=h;cases rx;obtain⟨its,r,ht,hz⟩:=I.list hx;have hlen:=r.length;refine⟨"list",_,slot_list_getitem.lookup,ht.isList.typeIs,?_⟩;refine wpAny_getItem_list_slice ht.isList hs pl pu .none (by simp) ?_ (by rw[size_toArray]<;>omega);rw[Wi,<- hlen];refine⟨.ref s.heap.objs.size,_,I.laid (t':=s.toks) (o:=.l (zCG xs lo hi)) (λb ob q=>qA _ q) (le_refl _) ?_,rfl,q _ (I.hok.fresh (le_refl _))⟩;exact⟨le_trans (ZO xs lo hi) hz,_,0,(r.drop (HT.sIx xs.length 0 lo)).take (HT.sIx xs.length xs.length hi-HT.sIx xs.length 0 lo),get?_push_size _ rfl⟩
def ww:V->Bool
 | .non=>true| .bl _=>true| .int _=>true| .str _=>true|_=>false
def eqV:V->V->Bool
 | .non,.non=>true| .bl a,.bl b=>a==b| .bl a,.int b=>(if a then 1 else 0)==b| .int a,.bl b=>a==(if b then 1 else 0)| .int a,.int b=>a==b| .str a,.str b=>a==b|_,_=>false
def Q6{A:Around}{s:Shared}{y x:V}{u v:Value}(ry:z9 y u)(rx:z9 x v)(fy:ww y=true)(fx:ww x=true):SeqAt.EqAt A s u v (eqV y x):=by
 cases y with
 |non =>
  cases ry;cases x with
  |non=>cases rx;exact SeqAt.EqAt.same _|bl b=>cases rx;exact SeqAt.EqAt.none_bool b|int b=>obtain⟨t,rfl⟩:=rx;exact SeqAt.EqAt.none_int b t|str b=>obtain⟨t,rfl⟩:=rx;exact SeqAt.EqAt.none_str b t|_=>exact absurd (show false=true from fx) qF
 |bl a =>
  cases ry;cases x with
  |non=>cases rx;exact SeqAt.EqAt.bool_none a|bl b=>cases rx;exact SeqAt.EqAt.bool_bool a b|int b=>obtain⟨t,rfl⟩:=rx;exact SeqAt.EqAt.bool_int a b t|str b=>obtain⟨t,rfl⟩:=rx;exact SeqAt.EqAt.bool_str a b t|_=>exact absurd (show false=true from fx) qF
 |int a =>
  obtain⟨t',rfl⟩:=ry;cases x with
  |non=>cases rx;exact SeqAt.EqAt.int_none a t'|bl b=>cases rx;exact SeqAt.EqAt.int_bool a t' b|int b=>obtain⟨t,rfl⟩:=rx;exact SeqAt.EqAt.int_int a t' b t|str b=>obtain⟨t,rfl⟩:=rx;exact SeqAt.EqAt.int_str a t' b t|_=>exact absurd (show false=true from fx) qF
 |str a =>
  obtain⟨t',rfl⟩:=ry;cases x with
  |non=>cases rx;exact SeqAt.EqAt.str_none a t'|bl b=>cases rx;exact SeqAt.EqAt.str_bool a t' b|int b=>obtain⟨t,rfl⟩:=rx;exact SeqAt.EqAt.str_int a t' b t|str b=>obtain⟨t,rfl⟩:=rx;exact SeqAt.EqAt.str_str a t' b t|_=>exact absurd (show false=true from fx) qF
 |_=>exact absurd (show false=true from fy) qF
def eqU(x:V)(u:Value):Bool:=match u with
 | .none=>eqV .non x| .bool b=>eqV (.bl b) x| .int i _=>eqV (.int i) x| .str z _=>eqV (.str z) x|_=>false
def zDk{x y:V}{u:Value}(r:z9 y u)(f:ww y=true):eqU x u=eqV y x:=by
 cases y with
 |non=>cases r;rfl|bl b=>cases r;rfl|int i=>obtain⟨t,rfl⟩:=r;rfl|str z=>obtain⟨t,rfl⟩:=r;rfl|_=>exact absurd (show false=true from f) qF
theorem ZP{x:V}:∀{xs:List V} {us:List Value},zn xs us->xs.all ww=true->us.any (eqU x)=xs.any λy=>eqV y x
 |_,_,.nil,_=>rfl
 |y::xs,u::us,.cons r t,f=>by
  rw[all_cons,Bool.and_eq_true]at f;rw[any_cons,any_cons,zDk r f.1,ZP t f.2]
theorem Jl{A:Around}{s:Shared}{x:V}{v:Value}(rx:z9 x v)(fx:ww x=true):∀{xs:List V} {us:List Value},zn xs us->xs.all ww=true->∀u∈us,SeqAt.EqAt A s u v (eqU x u)
 |_,_,.nil,_=>λu hu=>by cases hu
 |y::xs,u::us,.cons r t,f=>λu' hu=>by
  rw[all_cons,Bool.and_eq_true]at f;rcases mem_cons.mp hu with rfl|hu
  ·rw[zDk r f.1];exact Q6 r rx f.1 fx
  ·exact Jl rx fx t f.2 u' hu
def inV(x:V)(xs:List V):Bool:=xs.any λy=>eqV y x
def rIn(K:qH)(neg:Bool):R2:=λx y H Q=>∃p xs,y=.ref p/\(SqL K H p xs\/SqT K H p xs)/\ww x=true/\xs.all ww=true/\Q (.bl (if neg then !inV x xs else inV x xs)) H
def vP:OpR X (compareOp .In) (rIn X.K false):=by
 intro pins s O H x y v u Q I rx ry h;obtain⟨p,xs,rfl,hq,fx,fs,q⟩:=h;cases ry;rcases hq with hq|hq
 ·obtain⟨its,r,pl,hz⟩:=I.list hq
  refine SeqAt.in_listAt (eqU x) pl.isList (λw hw=>Jl rx fx r fs w (by simpa using hw)) ⟨.bl _,H,I,rfl,?_⟩;rw[show its.toArray.any (eqU x)=its.any (eqU x)by simp,ZP r fs];exact q
 ·obtain⟨its,r,pl,hz⟩:=I.tuple hq
  refine SeqAt.in_tupleAt (eqU x) pl (λw hw=>Jl rx fx r fs w (by simpa using hw)) ⟨.bl _,H,I,rfl,?_⟩;rw[show its.toArray.any (eqU x)=its.any (eqU x)by simp,ZP r fs];exact q
def Yi:OpR X (compareOp .NotIn) (rIn X.K true):=by
 intro pins s O H x y v u Q I rx ry h;obtain⟨p,xs,rfl,hq,fx,fs,q⟩:=h;cases ry;rcases hq with hq|hq
 ·obtain⟨its,r,pl,hz⟩:=I.list hq
  refine SeqAt.notIn_listAt (eqU x) pl.isList (λw hw=>Jl rx fx r fs w (by simpa using hw)) ⟨.bl _,H,I,rfl,?_⟩;rw[show its.toArray.any (eqU x)=its.any (eqU x)by simp,ZP r fs];exact q
 ·obtain⟨its,r,pl,hz⟩:=I.tuple hq
  refine SeqAt.notIn_tupleAt (eqU x) pl (λw hw=>Jl rx fx r fs w (by simpa using hw)) ⟨.bl _,H,I,rfl,?_⟩;rw[show its.toArray.any (eqU x)=its.any (eqU x)by simp,ZP r fs];exact q
def Yj:OpR X (compareOp .NotIn) (λx y H Q=>∃i j,x=.str i/\y=.str j/\Q (.bl (!(!(Builtin.Str.occurrences j i 0 j.length 1).isEmpty))) H):=by
 intro pins s O H x y v u Q I rx ry h;obtain⟨i,j,rfl,rfl,q⟩:=h;obtain⟨t,rfl⟩:=rx;obtain⟨t',rfl⟩:=ry;exact notIn_str ⟨.bl _,H,I,rfl,q⟩
def Yk:jp X (.builtin "len") (λxs H Q=>∃p ys,xs=[.ref p]/\(SqL X.K H p ys\/SqT X.K H p ys)/\Q (.int ys.length) H):=by
 intro pins s O H xs us Q I r h;obtain⟨p,ys,rfl,hq,q⟩:=h;obtain⟨u,rfl,rx⟩:=ZN r;cases rx;have hn:=ZM;rcases hq with hq|hq
 ·obtain⟨its,r',pl,hz⟩:=I.list hq
  have hlen:=r'.length;exact Calls.call_len_list pl.isList (by simp only[size_toArray]<;>omega) ⟨.int ys.length,H,I.tok _,⟨s.toks+1,by rw[size_toArray,hlen]⟩,q⟩
 ·obtain⟨its,r',pl,hz⟩:=I.tuple hq
  have hlen:=r'.length;exact len_tuple pl (by simp only[size_toArray]<;>omega) ⟨.int ys.length,H,I.tok _,⟨s.toks+1,by rw[size_toArray,hlen]⟩,q⟩
def vQ:jp X (.builtin "len") (λxs H Q=>∃z,xs=[.str z]/\z.length<=sizeLine/\Q (.int z.length) H):=by
 intro pins s O H xs us Q I r h;obtain⟨z,rfl,hz,q⟩:=h;obtain⟨u,rfl,t,rfl⟩:=ZN r;have hn:=ZM;exact len_str (by omega) ⟨.int z.length,H,I.tok _,⟨_,rfl⟩,q⟩
def jp.or{f:Value}{r r':List V->Hp->VK->Prop}(h:jp X f r)(h':jp X f r'):jp X f (λxs H Q=>r xs H Q\/r' xs H Q):=by
 intro pins s O H xs us Q I rs q;rcases q with q|q
 ·exact h pins s O H xs us Q I rs q
 ·exact h' pins s O H xs us Q I rs q
def Wj:jp X (.type "tuple") (λxs H Q=>∃p ys,xs=[.ref p]/\((SqL X.K H p ys/\∀l,H l=none->Q (.ref l) (upd H l (.t ys)))\/(SqT X.K H p ys/\Q (.ref p) H))):=by
 intro pins s O H xs us Q I r h;obtain⟨p,ys,rfl,h⟩:=h;obtain⟨u,rfl,rx⟩:=ZN r;cases rx;rcases h with⟨hq,q⟩|⟨hq,q⟩
 ·obtain⟨its,r',pl,hz⟩:=I.list hq
  have hlen:=r'.length;refine call_tuple_list pl.isList (λh' kp=>?_) (by simp only[size_toArray]<;>omega);have I1:Inv X pins O H {s with heap:=h'}:=I.kept (t':=s.toks) kp
  have I2:Inv X pins O (upd H h'.objs.size (.t ys)) {s with heap:=h'.push {cls:=.type "tuple",data:=.seq its.toArray}} :=
   I1.laid (t':=s.toks) (λb o e=>qA _ e) (le_refl _) (show yJ X.prog X.w _ _ _ (.t ys)from⟨hz,its,r',IsTup.new _ _⟩)
  exact⟨.ref h'.objs.size,_,I2,rfl,q _ (I1.hok.fresh (le_refl _))⟩
 ·obtain⟨its,r',pl,hz⟩:=I.tuple hq
  exact call_tuple_same pl ⟨.ref p,H,I,rfl,q⟩
def tyV(K:qH)(T:String)(x:V)(H:Hp):Prop:=match x with
 | .str _=>T="str"| .int _=>T="int"
 | .ref p=>(T="list"/\∃xs,SqL K H p xs)\/(T="tuple"/\∃o,K.lookup p=some o/\o.cls=.type "tuple"/\o.dict=none) \/
   (T="dict"/\((∃kvs,H p=some (.dK kvs))\/∃kvs,H p=some (.dT kvs)))\/(T="set"/\∃S n,H p=some (.set S n))
 |_=>False
def zDl{pins:List (Addr×Obj)}{O:St}{H:Hp}{s:Shared}{T:String}{x:V}{v:Value}(I:Inv X pins O H s)(r:z9 x v)(ty:tyV X.K T x H) :
  s.TypeIs v T/\∀a,v=.ref a->∃ob,s.heap.get? a=some ob/\ob.dict=none:=by
 cases x with
 |str z =>
  obtain⟨t,rfl⟩:=r;cases (show T="str" from ty);exact⟨typeIs_str s z t,λ_ e=>nomatch e⟩
 |int i =>
  obtain⟨t,rfl⟩:=r;cases (show T="int" from ty);exact⟨typeIs_int s i t,λ_ e=>nomatch e⟩
 |ref p =>
  cases r;rcases ty with⟨rfl,xs,hq⟩|⟨rfl,o,hk,hc,hd⟩|⟨rfl,hk⟩|⟨rfl,S,n,hk⟩
  ·obtain⟨its,_,pl,_⟩:=I.list hq
   refine⟨pl.isList.typeIs,λa e=>?_⟩;cases e;obtain⟨o,n,e,c,hd,_⟩:=pl;exact⟨o,e,hd⟩
  ·refine⟨⟨o,I.kIn p o hk,hc⟩,λa e=>?_⟩
   cases e;exact⟨o,I.kIn _ o hk,hd⟩
  ·have z:∃o,s.heap.get? p=some o/\o.ExactDict:=by
    rcases hk with⟨kvs,hk⟩|⟨kvs,hk⟩
    ·obtain⟨_,_,_,_,o,_,_,e,ex,_⟩:=I.hok p _ hk
     exact⟨o,e,ex⟩
    ·obtain⟨_,_,_,_,o,_,_,e,ex,_⟩:=I.hok p _ hk
     exact⟨o,e,ex⟩
   obtain⟨o,e,ex⟩:=z;refine⟨⟨o,e,ex.1⟩,λa e2=>?_⟩;cases e2;exact⟨o,e,ex.2.1⟩
  ·obtain⟨o,_,_,_,e,ex,_⟩:=I.hok p _ hk
   refine⟨⟨o,e,ex.1⟩,λa e2=>?_⟩;cases e2;exact⟨o,e,ex.2.1⟩
 |_=>exact False.elim ty
def tBM0(K:qH)(T:String)(r:V->List V->Hp->VK->Prop)(to:TE):TE:=λO H Q=>to O H λx H1=>tyV K T x H1/\r x [] H1 Q
def tBM(K:qH)(T:String)(r:V->List V->Hp->VK->Prop)(to:TE)(t:TA):TE:=λO H Q=>to O H λx H1=>tyV K T x H1/\t O H1 λxs H2=>r x xs H2 Q
variable{o e:Expr}{es:List Expr}{to:TE}{t:TA}{name:Str}{apos cpos:Pos}{T id:String}{r:V->List V->Hp->VK->Prop}
def zDm(pa:PlainAttrs T)(slot:Slot T name id)(hty:typeOf (.builtin id)=pure (.type "method_descriptor"))(hm:MtR X id r)(ho:PE X o to)
  (hbase:attributeBase o name X.env (eval o X.env)=eval o X.env:=by rfl) (hline:(apos.endLine==cpos.line)=true:=by rfl):PE X (.Call (.Attribute o name apos) [] [] cpos) (tBM0 X.K T r to):=by
 intro pins s O H Q I h;refine wpAny_Call_method0_late hbase hline (thn (ho pins s O H _ I h) λv s1 ⟨x,H1,I1,r1,ty,q1⟩=>?_);obtain⟨h1,h2⟩:=zDl I1 r1 ty;exact⟨T,id,pa,slot,hty,h1,h2,Calls.callWith_builtin rfl (PySem.evalArgs_none (hm pins s1 O H1 x [] v [] Q I1 r1 .nil q1))⟩
def Q7(pa:PlainAttrs T)(slot:Slot T name id)(hty:typeOf (.builtin id)=pure (.type "method_descriptor"))(hm:MtR X id r)(ho:PE X o to)(ha:PA X (e::es) t)
  (hbase:attributeBase o name X.env (eval o X.env)=eval o X.env:=by rfl)
  (hfew:((backTo cpos (starEach (e::es) X.env)).all (λx=>!x.1)&&(backToKw cpos (keywordEach [] X.env)).all (λx=>x.1.isSome)
   && decide ((e::es).length+([]:List Keyword).length+(if([]:List Keyword).isEmpty then 0 else 1)<30))=true:=by rfl)
  (hline:(apos.endLine==cpos.line)=true:=by rfl) (hs:starEach (e::es) X.env=(false,eval e X.env)::starEach es X.env:=by rfl) (hplain:(backTo cpos (starEach es X.env)).any (·.1)=false:=by rfl) :
  PE X (.Call (.Attribute o name apos) (e::es) [] cpos) (tBM X.K T r to t):=by
 intro pins s O H Q I h;refine wpAny_Call_method_late hbase hfew hline rfl (thn (ho pins s O H _ I h) λv s1 ⟨x,H1,I1,r1,ty,q1⟩=>?_);obtain⟨h1,h2⟩:=zDl I1 r1 ty;refine⟨T,id,pa,slot,hty,h1,h2,?_⟩;have hA:=ha cpos pins s1 O H1 _ I1 q1;rw[hs]at hA ⊢;refine Calls.callWith_builtin (by show(false||(backTo cpos (starEach es X.env)).any (·.1))=false;rw[hplain]<;>rfl) (Calls.evalArgs_plain ?_);exact thn hA λus s2 ⟨vs,H2,I2,r2,q2⟩=>hm pins s2 O H2 x vs v us Q I2 r1 r2 q2
end
def MtM(X:Cx)(id:String)(r:V->List V->Hp->VK->Prop):Prop :=
 ∀(pins:List (Addr×Obj)) (s:Shared) (O:St) (H:Hp) (x:V) (xs:List V) (v:Value) (us:List Value) (Q:VK),Inv X pins O H s->z9 x v->zn xs us->r x xs H Q ->
  wpAny (model X.prog X.w) X.A (call (.builtin id) (v::us)) (EP X pins O Q) X.xe s
def zn.one:∀{x:V} {us:List Value},zn [x] us->∃u,us=[u]/\z9 x u
 |_,_,.cons r .nil=>⟨_,rfl,r⟩
def zn.zero:∀{us:List Value},zn [] us->us=[]
 |_,.nil=>rfl
theorem zn.dropLast{xs:List V}{us:List Value}(h:zn xs us):zn xs.dropLast us.dropLast:=by
 induction h with
 |nil=>exact .nil
 |cons r t ih =>
  cases t with
  |nil=>exact .nil|cons q t'=>exact .cons r ih
theorem zn.eraseIdx:∀{xs:List V} {us:List Value} (i:Nat),zn xs us->zn (xs.eraseIdx i) (us.eraseIdx i)
 |_,_,_,.nil=>.nil|_,_,0,.cons _ t=>t|_,_,i+1,.cons r t=>.cons r (zn.eraseIdx i t)
theorem zn.reverse{xs:List V}{us:List Value}(h:zn xs us):zn xs.reverse us.reverse:=by
 induction h with
 |nil=>exact .nil|cons r t ih=>rw[reverse_cons,reverse_cons];exact zn.append ih (.cons r .nil)
theorem zn.rep{xs:List V}{us:List Value}(h:zn xs us):∀k:Nat,zn (replicate k xs).flatten (replicate k us).flatten
 |0=>.nil
 |k+1=>by
  rw[replicate_succ,replicate_succ,flatten_cons,flatten_cons];exact zn.append h (zn.rep h k)
theorem ZQ(its:List Value):∀(k:Nat) (acc:List Value),
  foldl (λx1 x2=>x1++x2) acc.toArray (replicate k its.toArray)=(acc++(replicate k its).flatten).toArray
 |0,acc=>by simp
 |k+1,acc=>by
  have e:acc.toArray++its.toArray=(acc++its).toArray:=by simp
  have e2:(acc++its)++(replicate k its).flatten=acc++(replicate (k+1) its).flatten:=by
   rw[replicate_succ,flatten_cons,append_assoc]
  rw[<- e2,<- ZQ its k (acc++its),<- e,replicate_succ,List.foldl_cons]
section
variable{X:Cx}{pins:List (Addr×Obj)}{O:St}{H:Hp}{s:Shared}{l b:Addr}{xs ys zs:List V}
def Inv.lset{its its':List Value}{n:Nat}{f:Array Value->Array Value}{t':Nat}(I:Inv X pins O H s)(hH:H l=some (.l xs))
  (e:s.heap.get? l=some {cls:=.type "list",data:=.seq its.toArray n}) (hf:f its.toArray=its'.toArray) (hv:zn ys its') (hz:ys.length<=sizeLine) :
  Inv X pins O (upd H l (.l ys)) {s with heap:=s.heap.update l (Obj.mapSeq f),toks:=t'}:=by
 have q:=PySem.IsL.update e f;rw[hf]at q;refine I.write (x:=l) (e:=l) (by rw[hH];exact trivial) (.inl rfl) (λb' u hb hu=>(Heap.get?_update_other s.heap (Obj.mapSeq f) (Ne.symm hb)).trans hu) ⟨_,q⟩ ?_;exact⟨hz,its',_,hv,q⟩
def Inv.lnew{its:List Value}{t':Nat}(I:Inv X pins O H s)(hv:zn ys its)(hz:ys.length<=sizeLine) :
  Inv X pins O (upd H s.heap.objs.size (.l ys)) {s with heap:=s.heap.push {cls:=.type "list",data:=.seq its.toArray},toks:=t'} :=
 I.laid (λ_ _ q=>qA _ q) (le_refl _) ⟨hz,its,0,hv,get?_push_size _ rfl⟩
theorem Inv.fresh(I:Inv X pins O H s):H s.heap.objs.size=none:=I.hok.fresh (le_refl _)
def Inv.lstM(I:Inv X pins O H s)(hH:H l=some (.l xs)):xs.length<=sizeLine/\∃(its:List Value) (n:Nat),zn xs its/\xs.length=its.length/\s.heap.get? l=some {cls:=.type "list",data:=.seq its.toArray n}:=by
 obtain⟨z,its,n,r,e⟩:=I.hok l _ hH;exact⟨z,its,n,r,r.length,e⟩
def zCI{n:Nat}(h:n<=sizeLine):Builtin.List.listTooLong n=false:=by
 unfold Builtin.List.listTooLong;exact decide_eq_false (by omega)
end
section
variable{X:Cx}
def Q8:V->List V->Hp->VK->Prop:=λx vs H Q=>∃l xs y,x=.ref l/\vs=[y]/\H l=some (.l xs)/\xs.length<sizeLine/\Q .non (upd H l (.l (xs++[y])))
def vR:MtM X "list.append" Q8:=by
 intro pins s O H x vs v us Q I rx rv h;obtain⟨l,xs,y,rfl,rfl,hH,hz,q⟩:=h;cases rx;obtain⟨u,rfl,ru⟩:=rv.one;obtain⟨z,its,n,r,hl,e⟩:=I.lstM hH;refine call_meets F.slot_list_append ⟨_,e,rfl⟩ F.entry_list_append (F.args_list_append_2 _ _) (PySem.list_append l its.toArray n u (by rw[size_toArray];omega)) ⟨e,?_⟩;refine⟨.non,_,I.lset (its':=its++[u]) hH e (by simp) (r.append (.cons ru .nil)) ?_,rfl,q⟩;rw[length_append,List.length_singleton];omega
def ub{α:Type}(xs:List α)(k:Nat):(replicate k xs).flatten.length=k*xs.length:=by
 induction k with
 |zero=>simp|succ k ih=>rw[replicate_succ,flatten_cons,length_append,ih,Nat.succ_mul,Nat.add_comm]
end
end L2
namespace Att
open PySem PySem.W PySem.Calls PyProof.Rows
def ZR{P:Params}{h:Heap}:∀(ns:List Int) (vs:List Value),WellAll P h vs (ns.map WData.int)->IntsAre vs ns:=by
 intro ns
 induction ns with
 |nil =>
  intro vs w;rw[List.map_nil]at w;cases w;exact .nil
 |cons n ns ih =>
  intro vs w;rw[map_cons]at w;cases w with
  |cons a b =>
   cases a;exact .cons _ _ (ih _ b)
def Q9{l:OpenLaw}{n:Nat}(hn:l.most=some n){P:Params}{h:Heap}{args:List WData}{vals:List Value}
  (hpre:l.row.toRowW.claim.pre args=true) (hwl:WellAll P h vals args) :
  ∃a vs ns,vals=[Value.ref a]/\args=[WData.list (ns.map WData.int)]/\h.get? a=some {cls:=.type "list",data:=.seq vs.toArray}/\IntsAre vs ns/\ns.length<=n:=by
 have hsh:WShape.hasAll [] args [.list .int]=true:=(pre_splitW hpre).1;have hc:l.pre.holds [] {args:=args}=true:=(pre_splitW hpre).2;obtain⟨d,r,rfl,h1,h2⟩:=hasAllW_cons hsh;obtain rfl:=hasAllW_nil h2;obtain⟨xs,rfl,h3⟩:=hasW_list h1;obtain⟨ns,rfl⟩:=items_int h3;have hlen:ns.length<=n:=by
  unfold OpenLaw.pre at hc;have h4:(WTm.not (.lt (.lit (.int (n:Int))) (.len (.arg 0)))).holds [] {args:=[.list (ns.map .int)]}=true:=by
   have h4:=(holds_andW hc).1;rw[hn]at h4;exact h4
  have h5:=condW_of h4 (w_not (w_lt w_lit (w_len_list (w_arg rfl))));rw[length_map]at h5;refine Nat.le_of_not_lt λq=>?_
  have q':(n:Int)<((ns.length:Nat):Int):=by omega
  first
   | (rw[decide_eq_true q']at h5;exact absurd h5 (by decide))
   | (simp at h5;omega)
 cases hwl with
 |cons w1 w2 =>
  cases w2;cases w1 with
  |list ho hall=>exact⟨_,_,ns,rfl,rfl,ho,ZR ns _ hall,hlen⟩
def zAA(l:OpenLaw)(args:List WData):l.row.toRowW.claim.post args (.bool true) args=true :=
 postW_of (r:=l.row.toRowW) (X:=(true==true))
  (show WShape.has [] (.bool true) .bool=true by first|rfl|decide|simp[WShape.has,WShape.arms,WShape.armsAll])
  (show(WTm.eq .res (.lit (.bool true))).value [] {args:=args,res:=some (.bool true),after:=args}=some (.bool (true==true))from w_eq_bool (w_res rfl) w_lit) rfl
def attach_call{l:OpenLaw}{n:Nat}{q:Program}{loose:List Str}{XP:(Str->Option Value)->Heap->Prop}{YP:World->Heap->Prop}{d:DefRec}
  (hn:l.most=some n) (hdf:d.params.defaults=[])
  (call:∀(w:World) (s₀ s₁:Shared) (mg mb:Str->Option Value) (fa:Addr) (o:Obj) (pm cd doc:Value) (a:Addr) (vs:List Value) (ns:List Int),
   Ground q loose [] XP w s₀ mg mb s₁.heap->YP w s₁.heap ->
   s₁.heap.get? fa=some o->o.data=.func (docDef d.name d.params d.body d.scope pm cd doc)->s₁.heap.CodeRec cd d.name->mg d.name=some (.ref fa) ->
   s₁.heap.get? a=some {cls:=.type "list",data:=.seq vs.toArray}->IntsAre vs ns->ns.length<=n->s₁.gens=#[] ->
   codeAny (model l.prog w) callerA (.call (.ref fa) ⟨[.ref a],[]⟩) (λr s'=>r=.ok (.ret (.bool true))/\OldK s₁.heap s'.heap/\s'.os=s₁.os/\AllBare s'.gens) s₁) :
  WalkO q loose XP YP l.row.toRowW d [] (λf vs=>PySem.call f vs):=by
 intro w s₀ s₁ mg mb G Y fa o pm cd doc dV kV ho hd hcd hD hmg hg args vals as hpre hlay hrd hwl hlo;obtain rfl:dV=.none:=Dflts.none hD hdf;obtain rfl:kV=.none:=Dflts.noKw hD;obtain⟨a,vs,ns,rfl,rfl,hobj,hints,hlen⟩:=Q9 hn hpre hwl;refine enter_call (codeAny_mono (call w s₀ s₁ mg mb fa o pm cd doc a vs ns G Y ho (fd_plain hd) hcd hmg hobj hints hlen hg) λr s' hq=>?_);obtain⟨rfl,h2,h3,h4⟩:=hq;exact⟨.inl ⟨.bool true,.bool true,[],rfl,λ_=>rfl,.bool true,zAA l _,λ_=>⟨List.Pairwise.nil,λ_ hm=>(nomatch hm)⟩⟩,h2,h3,h4⟩
end Att
namespace L2
open PySem PySem.Spec PyProof.Rows
theorem vS:∀{vs:List Value} {ns:List Int},IntsAre vs ns->zn (ns.map V.int) vs
 |_,_,.nil=>.nil|_,_,.cons n t h=>.cons ⟨t,rfl⟩ (vS h)
def Only(H:Hp):Prop:=∀b,H b=none\/∃o xs,H b=some (.frz o (.l xs))
def zCJ{P:Program}{w:World}{K:qH}{mg mb:Str->Option Value}{CX:CXT}{k:Nat}{fa a:Addr}{fd:FuncData}{x:Str}{sp:Sp}{s₁:Shared}{vs:List Value}{ns:List Int}
  (KX:K.In s₁.heap) (hns:s₁.heap.Ns mainGlobals mg) (hb:s₁.heap.Ns builtinsNs mb) (hbb:∀x:Str,x≠"__name__"->mb x=bootBuiltins x) (hlim:s₁.heap.NoLimit) (hg:s₁.gens=#[])
  (ha:s₁.heap.get? a=some {cls:=.type "list",data:=.seq vs.toArray}) (hi:IntsAre vs ns) (hl:ns.length<=sizeLine) (hr:Room k callerA)
  (F:∀base:Heap,K.In base->base.Ns mainGlobals mg->FnOk P w K mg base CX k fa fd [x] sp) (hbind:∀(s:Shared) (u:Value),BindsTo s fd ⟨[u],[]⟩ [(x,u)])
  (hsp:∀H:Hp,Only H->SqL K H a (ns.map V.int)->sp [.ref a] H (λv _=>v=.bl true) λ_ _ _=>False)
  (hCX:∀H e s',CX [] H s₁ (λ_ _ _=>False) e s'->False) :
  codeAny (model P w) callerA (.call (.ref fa) ⟨[.ref a],[]⟩) (λr s'=>r=.ok (.ret (.bool true))/\OldK s₁.heap s'.heap/\s'.os=s₁.os/\AllBare s'.gens) s₁:=by
 have rv:=vS hi;have lenV:=hi.length
 -- from an abstract heap in which nothing but the script may be tracked
 have core:∀H:Hp,Only H->SqL K H a (ns.map V.int)->HOk P w H s₁.heap->(∀b,H b≠none->b=a)->(H a≠none->K.lookup a=none) ->
   codeAny (model P w) callerA (.call (.ref fa) ⟨[.ref a],[]⟩) (λr s'=>r=.ok (.ret (.bool true))/\OldK s₁.heap s'.heap/\s'.os=s₁.os/\AllBare s'.gens) s₁:=by
  intro H hO hS hok hA hK;have base_of:∀{b:Addr} {o:Obj},s₁.heap.get? b=some o->H b=none->(zB5 s₁.heap H).get? b=some o:=λe n=>zB6 e n
  have noA:∀{b:Addr} {o:Obj} {es:Array DictEntry} {ep:Nat},s₁.heap.get? b=some o->o.data=.dict es ep->H b=none:=λ{b o es ep} e d=>by
   cases q:H b with
   |none=>rfl
   |some u =>
    have e':b=a:=hA b (by rw[q];simp);subst e';rw[ha]at e;cases e;have d':Data.seq vs.toArray _=Data.dict es ep:=d;cases d'
  have nsK:∀{b:Addr} {m:Str->Option Value},s₁.heap.Ns b m->(zB5 s₁.heap H).Ns b m:=λ{b m} ⟨o,es,ep,e,d,r⟩=>⟨o,es,ep,base_of e (noA e d),d,r⟩
  have hKb:K.In (zB5 s₁.heap H):=λb o e=>base_of (KX b o e) (by
   cases q:H b with
   |none=>rfl
   |some u =>
    have e':b=a:=hA b (by rw[q];simp);subst e';rw[hK (by rw[q];simp)]at e;cases e)
  have hM:Mod K mg (zB5 s₁.heap H):=⟨hKb,nsK hns,⟨mb,nsK hb,hbb⟩,let ⟨mc,h1,h2⟩:=hlim;⟨mc,nsK h1,h2⟩⟩;have e0:Env0 P w K mg (zB5 s₁.heap H) callerA [] s₁ H:=⟨rfl,hM,λb o e=>of_hidT e,Nat.le_of_eq (Ql _ _),trivial,λb hb=>absurd (show b∈([]:List Addr)from hb) (by simp),hok,.of_eq hg⟩;refine codeAny_mono ((F _ hKb (nsK hns)).run callerA [] s₁ H ⟨[.ref a],[]⟩ [.ref a] [.ref a] _ _ hr e0 (hbind s₁ (.ref a)) (.cons rfl .nil) (hsp H hO hS)) λr s' h=>?_
  cases r with
  |error e=>exact(hCX H e s' h).elim
  |ok fl =>
   cases fl with
   |next=>exact False.elim h|brk=>exact False.elim h|cont=>exact False.elim h
   |ret u =>
    obtain⟨v,H',os,bare,un,hok',r',q⟩:=h;have q':v=.bl true:=q;subst q';obtain rfl:u=Value.bool true:=r';refine⟨rfl,OldK.of_keep λb o e=>?_,os,bare⟩;cases q:H b with
    |none=>exact un.keep b o e q (by intro z;exact absurd (show b∈([]:List Addr)from z) (by simp)) (by simp)
    |some u =>
     rcases hO b with z|⟨ob,xs,z⟩
     ·rw[q]at z;cases z
     ·have z2:=un.frzs b ob _ z
      obtain⟨e1,_⟩:=hok b _ z;obtain⟨e2,_⟩:=hok' b _ z2;rw[e]at e1;cases e1;exact e2
 cases hk:K.lookup a with
 |some o =>
  -- the script is one of the module's own objects
  have e:=KX a o hk;rw[ha]at e;cases e;refine core (λ_=>none) (λ_=>.inl rfl) (.inr ⟨_,vs.toArray,_,hk,rfl,rfl,rfl,by rw[size_toArray,lenV];exact hl,by simpa using rv⟩) (λb u z=>by have z':(none:Option HO)=some u:=z;cases z') (λb z=>absurd rfl z) λz=>absurd rfl z
 |none =>
  refine core (λb=>if b=a then some (.frz {cls:=.type "list",data:=.seq vs.toArray} (.l (ns.map V.int)))else none) (λb=>?_) (.inl (.inr ⟨{cls:=.type "list",data:=.seq vs.toArray},if_pos rfl⟩)) (λb u z=>?_) (λb z=>?_) λ_=>hk
  ·by_cases hb:b=a
   ·exact .inr ⟨_,_,if_pos hb⟩
   ·exact .inl (if_neg hb)
  ·by_cases hb:b=a
   ·have z':=(if_pos hb).symm.trans z
    cases z';subst hb;exact⟨ha,by rw[length_map];exact hl,vs,_,rv,ha⟩
   ·have z':=(if_neg hb).symm.trans z
    cases z'
  ·by_cases hb:b=a
   ·exact hb
   ·exact absurd (if_neg hb) z
abbrev CX0:CXT:=λ_ _ _ _ _ _=>False
abbrev E0:XK:=λ_ _ _=>False
structure Fun(K:qH)(x qual:Str)(st:Stmt)(f:Addr)(fd:FuncData):Prop where
 ex:∃(oc:Value) (od:Option Addr) (kV doc pm:Value) (an:Option Addr) (cdv ct:Value) (osl:Array (Option Value)),
  fd=fnOf x qual (jy st) (yW st) (zT st) .none kV doc pm an cdv ct/\K.lookup f=some ⟨oc,od,.func fd,osl⟩/\codeIn K cdv qual=true
 kp:keepIn K (.ref f)=true
section
variable{P:Program}{w:World}{K:qH}{mg:Str->Option Value}{base:Heap}
def Fun.ok{x qual:Str}{st:Stmt}{f:Addr}{fd:FuncData}{N ps:List Str}{k:Nat}{sp:Sp}(F:Fun K x qual st f fd)(S:FnScope N ps (zT st))(len:∀vs H Q E,sp vs H Q E->vs.length=ps.length)
  (hbody:∀(cdv:Value) (A:Around) (outer:List Env) (s:Shared) (H:Hp) (vs:List V) (Q:VK) (E:XK),Room k (A.deeper (envOfC qual (zT st) s.heap.objs.size f cdv))->sp vs H Q E ->
   ∃t,PSs (zCE CX0 P w K mg base N qual (zT st) f cdv A outer s H E).nox (yW st) t/\t {nx:=λ_ H'=>Q .non H',rt:=Q} (jf N vs) H):FnOk P w K mg base CX0 (k+1) f fd ps sp:=by
 obtain⟨oc,od,kV,doc,pm,an,cdv,ct,osl,rfl,lk,hcd⟩:=F.ex;refine fn_of lk hcd S len λA outer s H vs Q E hr hsp=>?_
 obtain⟨t,h,q⟩:=hbody cdv A outer s H vs Q E hr hsp;exact⟨t,h.nox,q⟩
def Fun.binds{x qual:Str}{st:Stmt}{f:Addr}{fd:FuncData}{ps:List Str}(F:Fun K x qual st f fd)
  (h:∀(kV doc pm:Value) (an:Option Addr) (cdv ct:Value) (us:List Value),us.length=ps.length->bindArgs (fnOf x qual (jy st) (yW st) (zT st) .none kV doc pm an cdv ct) ⟨us,[]⟩=pure (ps.zip us)):Jj K fd ps []:=by
 obtain⟨oc,od,kV,doc,pm,an,cdv,ct,osl,rfl,lk,hcd⟩:=F.ex;exact .all (h kV doc pm an cdv ct)
def GL{x qual:Str}{st:Stmt}{f:Addr}{oc:Value}{od an:Option Addr}{osl:Array (Option Value)}{kV doc pm cdv ct:Value}(l:K.lookup f=some ⟨oc,od,.func (fnOf x qual (jy st) (yW st) (zT st) .none kV doc pm an cdv ct),osl⟩)
  (c:codeIn K cdv qual=true) (k:keepIn K (.ref f)=true):Fun K x qual st f (fnOf x qual (jy st) (yW st) (zT st) .none kV doc pm an cdv ct):=⟨⟨oc,od,kV,doc,pm,an,cdv,ct,osl,rfl,l,c⟩,k⟩
end
def iteF{A B:Prop}(h:B):if false=true then A else B:=by
 rw[if_neg qF];exact h
def iteT{A B:Prop}(h:A):if true=true then A else B:=by
 rw[if_pos rfl];exact h
def YJ(H H':Hp):Prop:=∀b o,H b=some o->H' b=some o
def YJ.refl(H:Hp):YJ H H:=λ_ _ h=>h
def YJ.trans{H H1 H2:Hp}(a:YJ H H1)(b:YJ H1 H2):YJ H H2:=λc o h=>b c o (a c o h)
def YJ.free{H H':Hp}(e:YJ H H'){l:Addr}(h:H' l=Option.none):H l=Option.none:=by
 cases q:H l with
 |none=>rfl
 |some o =>
  rw[e l o q]at h;cases h
def YJ.seq{K:qH}{H H':Hp}{a:Addr}{xs:List V}(e:YJ H H')(h:SqL K H a xs):SqL K H' a xs:=by
 rcases h with(h|⟨o,h⟩)|h
 ·exact .inl (.inl (e _ _ h))
 ·exact .inl (.inr ⟨o,e _ _ h⟩)
 ·exact .inr h
end L2
namespace DV
open PySem L2
def jz(h h':Heap):Prop:=∀b o,h.get? b=some o->∃o',h'.get? b=some o'/\o'.dict=o.dict
def jz.refl(h:Heap):jz h h:=λ_ o e=>⟨o,e,rfl⟩
theorem jz.trans{h1 h2 h3:Heap}(a:jz h1 h2)(b:jz h2 h3):jz h1 h3:=λc o e=>by
 obtain⟨o1,e1,d1⟩:=a c o e;obtain⟨o2,e2,d2⟩:=b c o1 e1;exact⟨o2,e2,d2.trans d1⟩
def jz.of_keeps{h h':Heap}(k:∀b o,h.get? b=some o->h'.get? b=some o):jz h h':=λb o e=>⟨o,k b o e,rfl⟩
def jz.upd{h:Heap}{a:Addr}{f:Obj->Obj}(hf:∀o,(f o).dict=o.dict/\(o.isFreed=false->(f o).isFreed=false)):jz h (h.update a f):=λb o e=>by
 by_cases hb:a=b
 ·subst hb
  exact⟨f o,Heap.get?_update_self _ e ((hf o).2 (Heap.get?_some_iff.mp e).2),(hf o).1⟩
 ·exact⟨o,(Heap.get?_update_other _ _ hb).trans e,rfl⟩
def jI{α:Type}:Sem α->Prop
 | .pure _=>True| .raise _=>True| .unsupported _=>True| .finish _=>True| .rule _ k=>jI (k ())| .at _ k=>jI (k ())| .load _ _ k=>∀o,jI (k o)| .update _ _ f k=>(∀o,(f o).dict=o.dict/\(o.isFreed=false->(f o).isFreed=false))/\jI (k ())| .alloc _ k=>∀a,jI (k a)| .stack k=>∀l,jI (k l)|_=>False
theorem jI.bind{α β:Type}{f:α->Sem β}(hf:∀a,jI (f a)){t:Sem α}(ht:jI t):jI (t >>= f):=by
 show jI (t.bind f)
 induction t with
 |pure a=>exact hf a|raise _=>trivial|unsupported _=>trivial|finish _=>trivial|rule _ k ih=>exact ih () ht| «at» _ k ih=>exact ih () ht|load _ _ k ih=>exact λo=>ih o (ht o)|update _ _ _ k ih=>exact⟨ht.1,ih () ht.2⟩|alloc _ k ih=>exact λa=>ih a (ht a)|stack k ih=>exact λl=>ih l (ht l)|_=>exact False.elim ht
def tame_wp{α:Type}(M:Model)(Γ:Ctx)(h0:Heap)(Q:α->Pos->Shared->Prop)(E:Value->Pos->Shared->Prop)(t:Sem α):∀(p:Pos) (s:Shared),jI t->jz h0 s.heap->Sem.wp M Γ t Q E p s ->
  Sem.wp M Γ t (λa p' s'=>Q a p' s'/\jz h0 s'.heap) (λe p' s'=>E e p' s'/\jz h0 s'.heap) p s:=by
 induction t with
 |pure a=>intro p s _ k h;rw[Sem.wp]at h ⊢;exact⟨h,k⟩|raise a=>intro p s _ k h;rw[Sem.wp]at h ⊢;exact⟨h,k⟩|unsupported _=>intro p s _ k h;rw[Sem.wp]at h;exact h.elim|finish _=>intro p s _ k h;rw[Sem.wp]at h;exact h.elim|rule _ f ih=>intro p s t k h;rw[Sem.wp]at h ⊢;exact ih () p s t k h| «at» _ f ih=>intro p s t k h;rw[Sem.wp]at h ⊢;exact ih () _ s t k h
 |load a _ f ih =>
  intro p s t k h;rw[Sem.wp]at h ⊢;obtain⟨o,e,h⟩:=h;exact⟨o,e,ih o p s (t o) k h⟩
 |update a _ g f ih =>
  intro p s t k h;rw[Sem.wp]at h ⊢;exact⟨h.1,ih () p _ t.2 (k.trans (jz.upd t.1)) h.2⟩
 |alloc o f ih =>
  intro p s t k h;rw[Sem.wp]at h ⊢;exact ih _ p _ (t _) (k.trans (jz.of_keeps λb o e=>qA _ e)) h
 |stack f ih=>intro p s t k h;rw[Sem.wp]at h ⊢;exact ih _ p s (t _) k h|_=>intro p s t;exact False.elim t
def jq{α:Type}{M:Model}{A:Around}{t:Sem α}{Q:α->Shared->Prop}{E:Value->Shared->Prop}{s:Shared}(ht:jI t)(h:wpAny M A t Q E s) :
  wpAny M A t (λa s'=>Q a s'/\jz s.heap s'.heap) (λe s'=>E e s'/\jz s.heap s'.heap) s:=λΓ p hΓ =>
 tame_wp M Γ s.heap _ _ t p s ht (jz.refl _) (h Γ p hΓ)
def jJ{α:Type}{c:Prop}[Decidable c]{a b:Sem α}(ha:jI a)(hb:jI b):jI (if c then a else b):=by split<;>assumption
def mapF_ok(f:Array Value->Array Value)(o:Obj):(Obj.mapFields f o).dict=o.dict/\(o.isFreed=false->(Obj.mapFields f o).isFreed=false):=by
 obtain⟨c,d,dt,sl⟩:=o;cases dt<;>exact⟨rfl,λh=>h⟩
def ZS(a:Addr):jI (load a):=λ_=>trivial
def GM{a:Addr}{f:Obj->Obj}(h:∀o,(f o).dict=o.dict/\(o.isFreed=false->(f o).isFreed=false)):jI (update a f):=⟨h,trivial⟩
def wj(v:Value)(i:Nat):jI (field v i):=by
 unfold field fieldsOf;refine jI.bind (λa=>?_) ?_
 ·cases a[i]?<;>trivial
 ·cases v<;>first|trivial|skip
  refine jI.bind (λo=>?_) (ZS _);cases o.data<;>trivial
def j5(v:Value)(i:Nat)(x:Value):jI (setField v i x):=by
 unfold setField updateField;cases v with
 |ref a =>
  refine jI.bind (λo=>?_) (ZS _);cases o.data<;>first|trivial|skip;exact jJ (GM (mapF_ok _)) trivial
 |_=>trivial
def YK:jI stack:=λ_=>trivial
def jg(v:Value)(f:Option Addr):jI (setFlight v f):=by
 unfold setFlight;refine jI.bind (λtb=>jJ (j5 _ _ _) ?_) (wj v 1);exact trivial
theorem WO:∀l:List Env,jI (readyFrames l)
 | []=>trivial
 |env::outer=>by
  unfold readyFrames;cases env.frame with
  |none=>trivial
  |some f =>
   refine jI.bind (λo=>jJ ?_ ?_) (ZS f)
   ·exact trivial
   refine jI.bind (λim=>?_) ?_
   ·refine jI.bind (λbk=>?_) ?_
    ·refine jI.bind (λ_=>WO outer) (GM λo=>⟨rfl,?_⟩)
     obtain⟨c,d,dt,sl⟩:=o;cases dt<;>exact λh=>h
    ·cases outer with
     |nil =>
      refine jJ ?_ (jI.bind (λb=>?_) (jI.bind (λ_=>?_) YK))
      all_goals exact trivial
     |cons c r=>exact trivial
   ·unfold behindIsImport
    refine jJ ?_ (jJ ?_ (jI.bind (λ_=>?_) (wj _ _)))
    all_goals exact trivial
def vT(v:Value)(env:Env):jI (noteFrame v env):=by
 unfold noteFrame;cases env.frame with
 |none=>trivial
 |some f =>
  have hN:∀head:Value,jI (do setField v 1 (<- EntryCells.newEntry head (<- frameOf env) .none (rawInt f) .none (<- entryPlaceOf f (head != .none)))):=λhead=>by
   refine jI.bind (λfr=>?_) ?_
   ·refine jI.bind (λpl=>?_) ?_
    ·refine jI.bind (λx=>j5 _ _ _) ?_
     unfold EntryCells.newEntry newFields newObj;refine jJ ?_ ?_
     ·exact trivial
     ·exact λa=>trivial
    ·unfold entryPlaceOf
     refine jI.bind (λacts=>?_) YK;split<;>exact trivial
   ·unfold frameOf frameObject
    refine jI.bind (λe=>?_) (jI.bind (λ_=>?_) YK)
    ·refine jI.bind (λo=>?_) ?_
     ·cases o<;>exact trivial
     ·split
      ·exact trivial
      ·refine jI.bind (λ_=>?_) (WO _)
       exact trivial
    ·exact trivial
  refine jI.bind (λhead=>jJ ?_ (hN head)) (wj v 1);refine jI.bind (λx=>jJ ?_ ?_) (wj _ _)
  ·exact trivial
  ·exact jI.bind (λ_=>hN head) (j5 _ _ _)
def Yl(env:Env)(v:Value):jI (leaving env v):=jI.bind (λ_=>jg v none) (vT v env)
end DV
namespace DV
open PySem L2 PyProof.Rows
def ExO(C a:Addr):HO:=.ext λh=>∃o,h.get? a=some o/\o.cls=.ref C
def zAB{P:Program}{w:World}{H:Hp}{h:Heap}{C a:Addr}{o:Obj}(e:h.get? a=some o)(c:o.cls=.ref C):yJ P w H h a (ExO C a) :=
 ⟨⟨o,e,c⟩,⟨o,e⟩,λh1 h2 ⟨o1,e1,c1⟩ k=>⟨o1,k o1 e1,c1⟩⟩
def ExA(C d a:Addr):HO:=.ext λh=>∃o,h.get? a=some o/\o.cls=.ref C/\o.dict=some d/\∃vs,o.data=.fields vs
def zAC{P:Program}{w:World}{H:Hp}{h:Heap}{C d a:Addr}{o:Obj}(e:h.get? a=some o)(c:o.cls=.ref C)(k:o.dict=some d){vs:Array Value}(dt:o.data=.fields vs):yJ P w H h a (ExA C d a) :=
 ⟨⟨o,e,c,k,vs,dt⟩,⟨o,e⟩,λh1 h2 ⟨o1,e1,c1,d1⟩ k=>⟨o1,k o1 e1,c1,d1⟩⟩
def XD(d:Addr)(fs:List (Str×V)):HO:=.ext λh=>∃mA,h.Ns1 d mA/\∀f,RelO (fs.lookup f) (mA f)
def XD_ne{H:Hp}{d:Addr}{fs:List (Str×V)}{xs:List V}(h:H d=some (XD d fs))(q:H d=some (.l xs)):False:=by
 rw[h]at q;unfold XD at q;cases q
def Z6(a:Addr)(od:Option Addr)(h:Heap):Prop:=∀d,od=some d->∃o,h.get? a=some o/\o.dict=some d
def Z6.on{a:Addr}{od:Option Addr}{h h':Heap}(l:Z6 a od h)(k:jz h h'):Z6 a od h':=λd e=>by
 obtain⟨o,e1,d1⟩:=l d e;obtain⟨o',e2,d2⟩:=k a o e1;exact⟨o',e2,d2.trans d1⟩
theorem Z6.none{a:Addr}{h:Heap}:Z6 a none h:=λ_ e=>by cases e
structure MadeD(h h':Heap)(a:Addr)(C:Value)(od:Option Addr):Prop where
 keeps:∀b o,h.get? b=some o->h'.get? b=some o
 new:h.get? a=none
 there:∃oe vs t,h'.get? a=some oe/\oe.cls=C/\(∀d,od=some d->oe.dict=some d)/\oe.data=.fields vs/\vs[1]?=some .none/\vs[0]?=some (.ref t)
def MadeD.of{h h':Heap}{a:Addr}{C:Value}{args:List Value}(x:Heap.MadeExcOf h h' a C args):MadeD h h' a C none :=
 ⟨x.keeps,x.new,let ⟨t,e,_⟩:=x.there;⟨_,_,t,e,rfl,λ_ z=>(by cases z),rfl,rfl,rfl⟩⟩
def MadeD.link{h h':Heap}{a:Addr}{C:Value}{od:Option Addr}(x:MadeD h h' a C od):Z6 a od h':=λd e=>by
 obtain⟨oe,_,_,h1,_,h2,_⟩:=x.there;exact⟨oe,h1,h2 d e⟩
def zCK{P:Program}{w:World}{H:Hp}{h:Heap}{a:Addr}{o:HO}(x:yJ P w H h a o):∃u,h.get? a=some u:=by
 cases o with
 |l xs=>obtain⟨_,_,_,_,e⟩:=x;exact⟨_,e⟩|t xs=>obtain⟨_,_,_,o,e,_⟩:=x;exact⟨_,e⟩|dK kvs=>obtain⟨_,_,_,_,o,_,_,e,_⟩:=x;exact⟨_,e⟩|dT kvs=>obtain⟨_,_,_,_,o,_,_,e,_⟩:=x;exact⟨_,e⟩|set S n=>obtain⟨o,_,_,_,e,_⟩:=x;exact⟨_,e⟩|ins C dx fs=>obtain⟨_,_,_,e,_⟩:=x;exact⟨_,e⟩|own y=>exact x|xd fs=>obtain⟨_,⟨_,_,_,e,_⟩,_⟩:=x;exact⟨_,e⟩|rng lo hi=>obtain⟨_,_,_,e⟩:=x;exact⟨_,e⟩|frz ob u=>obtain⟨e,_⟩:=x;exact⟨_,e⟩|tbl ps=>exact⟨_,(show h.get? a=some _ from x)⟩|met f y=>exact⟨_,(show h.get? a=some _ from x)⟩|ext φ=>obtain⟨_,e,_⟩:=x;exact e
def zB1(B:Heap)(H:Hp)(g:Heap)(fs:List Addr)(h:Heap):Prop:=∀b o,h.get? b=some o->((∃o',g.get? b=some o')\/H b≠none)->b∉fs->B.get? b=some o
def Flies(l:List Env)(H:Hp)(g:Heap)(a C:Addr)(h:Heap):Prop:=∃B t,Heap.FlyingW B l a (.ref C) (.ref t) h/\zB1 B H g (frs l) h
def CXx(P:Program)(w:World):CXT:=λouter H s E e s'=>∃a C od H',e=.ref a/\s'.os=s.os/\AllBare s'.gens/\Un (frs outer) [] H H' s.heap s'.heap/\HOk P w H' s'.heap/\H' a=none/\Flies outer H' s.heap a C s'.heap/\Z6 a od s'.heap/\E (.ref C) od H'
section
variable{P:Program}{w:World}{fs:List Addr}{H H':Hp}{g h h' B:Heap}{L:Addr}
def un_on(u:Un fs [] H H' g h)(ok:HOk P w H' h)(kb:zB1 B H' g (L::fs) h)(st:B.StaysIn h')(hL:g.get? L=none)(hf:∀b∈fs,∀o,h.get? b=some o->∃sl,h'.get? b=some {o with slots:=sl}):Un fs [] H H' g h' where
 keep:=λb o e n hb hx=>st b o (kb b o (u.keep b o e n hb hx) (.inl ⟨o,e⟩) λz=>by
  rcases mem_cons.mp z with rfl|z
  ·rw[hL]at e;cases e
  ·exact hb z)
 slot:=λb o e n hb hx=>by
  obtain⟨sl,q⟩:=u.slot b o e n hb hx;obtain⟨sl',q'⟩:=hf b hb _ q;exact⟨sl',q'⟩
 free:=u.free
 there:=λb o e hx=>by
  obtain⟨o',q⟩:=u.there b o e hx;by_cases hb:b∈fs
  ·obtain⟨sl,q'⟩:=hf b hb _ q;exact⟨_,q'⟩
  ·exact⟨o',st b o' (kb b o' q (.inl ⟨o,e⟩) λz=>by
    rcases mem_cons.mp z with rfl|z
    ·rw[hL]at e;cases e
    ·exact hb z)⟩
 tups:=u.tups
 frzs:=u.frzs
 tbls:=u.tbls
def zAD(ok:HOk P w H' h)(kb:zB1 B H' g (L::fs) h)(st:B.StaysIn h')(hn:∀b∈L::fs,H' b=none):HOk P w H' h':=λa o e=>by
 refine(ok a o e).stay (λb u hb q=>?_) (λ_ q=>q) λ_ _ q=>q
 have ht:H' b≠none:=by
  rcases hb with rfl|hb
  ·rw[e];exact λz=>by cases z
  ·rw[hb];exact λz=>by cases z
 exact st b u (kb b u q (.inr ht) λz=>ht (hn b z))
def zAE(u:Un fs [] H H' g h)(ok:HOk P w H' h)(kb:zB1 B H' g (L::fs) h)(st:B.StaysIn h')(hL:g.get? L=none)(hn:∀b∈L::fs,H' b=none):zB1 B H' g fs h':=λb o e hb nf=>by
 have nL:b∉L::fs:=λz=>by
  rcases mem_cons.mp z with rfl|z
  ·rcases hb with⟨o',q⟩|q
   ·rw[hL]at q;cases q
   ·exact q (hn _ (qE))
  ·exact nf z
 have:∃o1,h.get? b=some o1:=by
  rcases hb with⟨o',q⟩|q
  ·exact u.there b o' q (by simp)
  ·obtain⟨x,hx⟩:=Option.ne_none_iff_exists'.mp q
   exact zCK (ok b x hx)
 obtain⟨o1,q1⟩:=this;have q2:=kb b o1 q1 hb nL;have q3:=st b o1 q2;rw[e]at q3;cases q3;exact q2
end
section
variable{P:Program}{w:World}{K:qH}{mg:Str->Option Value}{base:Heap}{N:List Str}{qual:Str}{scope:Scope}{f:Addr}{cd:Value}{A:Around}{outer:List Env}{s:Shared}{H:Hp}{E:XK}
abbrev cxC(c:Bool)(P:Program)(w:World)(K:qH)(mg:Str->Option Value)(base:Heap)(N:List Str)(qual:Str)(scope:Scope)(f:Addr)(cd:Value)(A:Around)(outer:List Env)(s:Shared)(H:Hp)(E:XK):Cx :=
 {zCE (CXx P w) P w K mg base N qual scope f cd A outer s H E with calm:=c}
variable{c:Bool}
abbrev cxX(P:Program)(w:World)(K:qH)(mg:Str->Option Value)(base:Heap)(N:List Str)(qual:Str)(scope:Scope)(f:Addr)(cd:Value)(A:Around)(outer:List Env)(s:Shared)(H:Hp)(E:XK):Cx :=
 zCE (CXx P w) P w K mg base N qual scope f cd A outer s H E
variable{pins:List (Addr×Obj)}{O:L2.St}{H':Hp}{s' s1:Shared}{a C:Addr}
def uc:frs (envOfC qual scope s.heap.objs.size f cd::outer)=s.heap.objs.size::frs outer:=rfl
def QK(I:Inv (cxC c P w K mg base N qual scope f cd A outer s H E) pins O H' s')(u:Un (frs outer) [] H H' s.heap s'.heap)(hn:H' a=none)
  (hf:∃B t,Heap.FlyingW B (cxC c P w K mg base N qual scope f cd A outer s H E).stack a (.ref C) (.ref t) s'.heap/\zB1 B H' s.heap (frs (cxC c P w K mg base N qual scope f cd A outer s H E).stack) s'.heap) {od:Option Addr} (dl:Z6 a od s'.heap) (hE:E (.ref C) od H') :
  (cxC c P w K mg base N qual scope f cd A outer s H E).xe (.ref a) s':=by
 obtain⟨B,t,fl,kb⟩:=hf;have hL:s.heap.get? s.heap.objs.size=none:=Heap.get?_none_of_le (le_refl _);have hN:∀b∈s.heap.objs.size::frs outer,H' b=none:=λb hb=>I.stkFree b (by show b∈frs (envOfC qual scope s.heap.objs.size f cd::outer);rw[uc];exact hb)
 have kb':zB1 B H' s.heap (s.heap.objs.size::frs outer) s'.heap:=kb;refine wpAny_mono (jq (Yl _ _) (wpAny_leaves_onW (base:=B) (E:=λ_ _=>False) (Q:=λ_ z=>∃h',z={s' with heap:=h'}/\Heap.FlyingW B outer a (.ref C) (.ref t) h'/\s'.heap.UpToSlots h') I.ok.frames rfl fl λh' fl' sl=>⟨h',rfl,fl',sl⟩)) (λ_ z ⟨⟨h',ez,fl',sl⟩,kd⟩=>?_) λ_ _ z=>z.1.elim
 subst ez;have st:B.StaysIn h':=fl'.1;have hfs:∀b∈frs outer,∀o,s'.heap.get? b=some o->∃sl,h'.get? b=some {o with slots:=sl}:=λb hb o e=>by
  obtain⟨_,o',q,nd⟩:=I.funs.mem hb;rw[e]at q;cases q;exact sl b o e nd
 exact⟨a,C,od,H',rfl,I.os,I.bare,un_on u I.hok kb' st hL hfs,zAD I.hok kb' st hN,hn,⟨B,t,fl',zAE u I.hok kb' st hL hN⟩,dl.on kd,hE⟩
def ud(I:Inv (cxC c P w K mg base N qual scope f cd A outer s H E) pins O H' s1){od:Option Addr}(hx:MadeD s1.heap s'.heap a (.ref C) od)(hs:s'={s1 with heap:=s'.heap})(hn:H' a=none)(hE:E (.ref C) od H') :
  (cxC c P w K mg base N qual scope f cd A outer s H E).xe (.ref a) s':=by
 have u:Un (frs outer) [] H H' s.heap s1.heap:=I.base;have hL:s.heap.get? s.heap.objs.size=none:=Heap.get?_none_of_le (le_refl _);have hN:∀b∈s.heap.objs.size::frs outer,H' b=none:=λb hb=>I.stkFree b (by show b∈frs (envOfC qual scope s.heap.objs.size f cd::outer);rw[uc];exact hb)
 have kb:zB1 (hideAll s1.heap (s.heap.objs.size::frs outer)) H' s.heap (s.heap.objs.size::frs outer) s1.heap:=λb o e _ nf=>hideAll_get _ e nf
 have hin:∀env∈(envOfC qual scope s.heap.objs.size f cd::outer),∀b,env.frame=some b->b∈s.heap.objs.size::frs outer:=λenv he b hb=>by
  rw[<- uc (qual:=qual) (scope:=scope) (f:=f) (cd:=cd)];exact mem_filterMap.mpr ⟨env,he,hb⟩
 have hstk:s1.heap.FunFrames base (envOfC qual scope s.heap.objs.size f cd::outer):=I.stack;obtain⟨oe,vs,t,e1,e2,e3,e4,e5,e6⟩:=hx.there;have fresh:(hideAll s1.heap (s.heap.objs.size::frs outer)).get? a=none:=by
  cases q:(hideAll s1.heap (s.heap.objs.size::frs outer)).get? a with
  |none=>rfl|some o'=>have:=of_hideAll _ q;rw[hx.new]at this;cases this
 have hfun:s'.heap.FunFrames (hideAll s1.heap (s.heap.objs.size::frs outer)) (envOfC qual scope s.heap.objs.size f cd::outer):=(PySem.W.funFrames_hide hstk hin).of_keeps λb o hb _=>⟨o,hx.keeps b o hb,rfl⟩
 refine wpAny_mono (jq (Yl _ _) (wpAny_leaving_firstW (base:=hideAll s1.heap (s.heap.objs.size::frs outer)) (a0:=.ref t) (E:=λ_ _=>False) (Q:=λ_ z=>∃h',z={s' with heap:=h'}/\Heap.LeftW (hideAll s1.heap (s.heap.objs.size::frs outer)) (envOfC qual scope s.heap.objs.size f cd::outer) a oe.cls (.ref t) s'.heap h') I.ok.frames hfun rfl e1 (λb o q=>hx.keeps b o (of_hideAll _ q)) fresh e4 e5 e6 λh' hL=>⟨h',rfl,hL⟩)) (λ_ z ⟨⟨h',ez,k1,⟨_,_,k2⟩,k3,x4⟩,kd⟩=>?_) λ_ _ z=>z.1.elim
 subst ez;rw[e2]at k3;have x1:Heap.FlyingW (hideAll s1.heap (s.heap.objs.size::frs outer)) outer a (.ref C) (.ref t) h':=⟨k1,fresh,k2,k3⟩;have st:=x1.1;have hfs:∀b∈frs outer,∀o,s1.heap.get? b=some o->∃sl,h'.get? b=some {o with slots:=sl}:=λb hb o e=>by
  obtain⟨_,o',q,nd⟩:=I.funs.mem hb;rw[e]at q;cases q;exact x4 b o (hx.keeps b o e) nd
 have os:s'.os=s1.os:=by rw[hs]
 have ge:s'.gens=s1.gens:=by rw[hs]
 refine⟨a,C,od,H',rfl,os.trans I.os,?_,un_on u I.hok kb st hL hfs,zAD I.hok kb st hN,hn,⟨_,t,x1,zAE u I.hok kb st hL hN⟩,hx.link.on kd,hE⟩;show AllBare s'.gens;rw[ge];exact I.bare
end
structure RoomN(k:Nat)(A:Around):Prop where
 gd:A.guards=some []
 dp:A.depth+3*k+5<recursionLimit
 un:A.units+16*k+200<cLine
def RoomN.mono{j k:Nat}{A:Around}(r:RoomN k A)(h:j<=k):RoomN j A:=⟨r.gd,by have:=r.dp;omega,by have:=r.un;omega⟩
theorem RoomN.deeper{k:Nat}{A:Around}(r:RoomN (k+1) A)(env:Env):RoomN k (A.deeper env) :=
 ⟨r.gd,by have:=r.dp;show A.depth+1+3*k+5<_;omega,by have:=r.un;show A.units+3+16*k+200<_;omega⟩
theorem RoomN.depth{k:Nat}{A:Around}(r:RoomN k A):A.depth<recursionLimit:=by have:=r.dp;omega
def RoomN.room{k:Nat}{A:Around}(r:RoomN k A)(h:A.handled=none):Room k A:=⟨h,r.gd,r.dp,r.un⟩
def GN{k:Nat}{A:Around}(r:Room k A):RoomN k A:=⟨r.gd,r.dp,r.un⟩
section
variable{X:Cx}{pins:List (Addr×Obj)}{O:L2.St}{H:Hp}{s:Shared}
def YL(I:Inv X pins O H s)(A':Around)(c:Bool)(E:Value->Shared->Prop)(hd:c=true->A'.handled=none)(fr:A'.frames=some X.stack):Inv {X with A:=A',calm:=c,xe:=E} pins O H s :=
 ⟨⟨I.ok.mod,I.ok.kind,I.ok.glob,I.ok.blt,I.ok.above,I.ok.inj,I.ok.has,I.ok.cab,hd,fr,I.ok.stk,I.ok.exf,I.ok.bs,I.ok.bsz,I.ok.noex,I.ok.exfs,I.ok.funs,I.ok.frf⟩,I.os,I.bare,I.base,I.loc,I.cell,I.free,I.freeC,I.pin,I.hok,I.len⟩
end
abbrev cxN(c:Bool)(P:Program)(w:World)(K:qH)(mg:Str->Option Value)(base:Heap)(N:List Str)(qual:Str)(scope:Scope)(f:Addr)(cd:Value)(A:Around)(outer:List Env)(s:Shared)(H:Hp)(E:XK):Cx :=
 cxC c P w K mg base N qual scope f cd A outer s H E
structure FnOkN(c:Bool)(P:Program)(w:World)(K:qH)(mg:Str->Option Value)(base:Heap)(k:Nat)(f:Addr)(fd:FuncData)(ps:List Str)(sp:Sp):Prop where
 len:∀vs H Q E,sp vs H Q E->vs.length=ps.length
 run:∀(A:Around) (outer:List Env) (s:Shared) (H:Hp) (args:Args) (us:List Value) (vs:List V) (Q:VK) (E:XK),(c=true->A.handled=none)->RoomN k A->Env0 P w K mg base A outer s H->BindsTo s fd args (ps.zip us)->zn vs us->sp vs H Q E ->
  codeAny (model P w) A (.call (.ref f) args) (CR (CXx P w) outer P w H s Q E) s
section
variable{c:Bool}{P:Program}{w:World}{K:qH}{mg:Str->Option Value}{base:Heap}
theorem FnOkN.mono{j k:Nat}{f:Addr}{fd:FuncData}{ps:List Str}{sp:Sp}(F:FnOkN c P w K mg base j f fd ps sp)(h:j<=k):FnOkN c P w K mg base k f fd ps sp :=
 ⟨F.len,λA outer s H args us vs Q E hd hr=>F.run A outer s H args us vs Q E hd (hr.mono h)⟩
def FnOkN.fn{k:Nat}{f:Addr}{fd:FuncData}{ps:List Str}{sp:Sp}(F:FnOkN c P w K mg base k f fd ps sp):FnOk P w K mg base (CXx P w) k f fd ps sp :=
 ⟨F.len,λA outer s H args us vs Q E hr=>F.run A outer s H args us vs Q E (λ_=>hr.hd) (GN hr)⟩
def zDn{k:Nat}{f:Addr}{name qual:Str}{params:Arguments}{body:List Stmt}{scope:Scope}{dV kV doc pm cdv ct oc:Value}{an od:Option Addr}
  {osl:Array (Option Value)} {N ps:List Str} {sp:Sp} (lk:K.lookup f=some ⟨oc,od,.func (fnOf name qual params body scope dV kV doc pm an cdv ct),osl⟩) (hcd:codeIn K cdv qual=true) (S:FnScope N ps scope)
  (len:∀vs H Q E,sp vs H Q E->vs.length=ps.length)
  (hbody:∀(A:Around) (outer:List Env) (s:Shared) (H:Hp) (vs:List V) (Q:VK) (E:XK),(c=true->A.handled=none)->RoomN k (A.deeper (envOfC qual scope s.heap.objs.size f cdv))->sp vs H Q E ->
   ∃t,PSs (cxN c P w K mg base N qual scope f cdv A outer s H E) body t/\t {nx:=λ_ H'=>Q .non H',rt:=Q} (jf N vs) H) :
  FnOkN c P w K mg base (k+1) f (fnOf name qual params body scope dV kV doc pm an cdv ct) ps sp:=by
 refine⟨len,λA outer s H args us vs Q E hd hr e0 hb r hsp=>?_⟩;have hl:=len _ _ _ _ hsp;have KX:K.In s.heap:=e0.mod.kin.keeps λb o e=>(e0.bs b o e).1
 have lim:s.heap.NoLimit:=e0.mod.nolimit.keeps λb o e=>(e0.bs b o e).1
 have hkind:∀y∈ps.zip us,scope.names.lookup y.1=some .local\/(scope.names.lookup y.1=some .cell/\((cellsFrom (s.heap.objs.size+1) scope.names []).lookup y.1).isSome=true):=λ⟨n,v⟩ hy=>by
  rcases S.par n (of_mem_zip hy).1 with q|q
  ·exact .inl q
  ·exact .inr ⟨q,cellsFrom_some _ _ _ (.inl q)⟩
 refine codeAny_call_function hr.depth (KX _ _ lk) rfl S.co S.gen rfl (codeRec_of KX hcd) (hb _ _ _ _ ?_);refine wpAny_newFunctionEnv_cells S.kind hkind λenv he s1 x=>?_
 subst he;refine⟨lim.keeps x.toInCall.keep,codeAny_func ?_⟩;obtain⟨t,ht,hq⟩:=hbody A outer s H vs Q E hd (hr.deeper _) hsp;have e1:Env0 P w K mg base {A with handled:=none} outer s H:=⟨e0.frames,e0.mod,e0.bs,e0.bsz,e0.funs,e0.frf,e0.hok,e0.bare⟩
 have I0:Inv (zCE (CXx P w) P w K mg base N qual scope f cdv {A with handled:=none} outer s H E) [] (jf N vs) H s1:=vN S rfl e1 hl r x
 have I:Inv (cxN c P w K mg base N qual scope f cdv A outer s H E) [] (jf N vs) H s1:=YL I0 (A.deeper (envOfC qual scope s.heap.objs.size f cdv)) c _ hd (Around.frames_deeper e0.frames);refine wpAny_mono (ht [] s1 (jf N vs) H _ I hq) (λfl s' hs=>?_) λe s' hs=>hs
 have fin:∀{O':L2.St} {H':Hp} {v:V} {u:Value},Inv (cxN c P w K mg base N qual scope f cdv A outer s H E) [] O' H' s'->z9 v u->Q v H'->CE outer P w H s Q u s' :=
  λ{O' H' v u} J rv q=>⟨v,H',J.os,J.bare,J.base,J.hok,rv,q⟩
 cases fl with
 |ret u =>
  obtain⟨v,O',H',J,rv,q⟩:=hs;exact fin J rv q
 |next =>
  obtain⟨O',H',J,q⟩:=hs;exact fin (v:=V.non) (u:=Value.none) J rfl q
 |brk =>
  obtain⟨_,_,_,q⟩:=hs;exact False.elim q
 |cont =>
  obtain⟨_,_,_,q⟩:=hs;exact False.elim q
end
structure Exn where
 cls:Str
 made:Bool
 vs:List Int
 deriving Inhabited
def fsV(c:Str)(vs:List Int):List (Str×V):=(yt c).zip (vs.map V.int)
def Fs(od:Option Addr)(H:Hp)(c:Str)(vs:List Int):Prop:=vs=[]\/∃d,od=some d/\H d=some (XD d (fsV c vs))
def RelX(X:Cx)(pins:List (Addr×Obj))(O:L2.St)(x:Exn)(H:Hp)(e:Value)(s:Shared):Prop:=∃a C od,e=.ref a/\X.mg x.cls=some (.ref C)/\H a=none/\Fs od H x.cls x.vs /\
 ((x.made=true/\∃s1,Inv X pins O H s1/\s={s1 with heap:=s.heap}/\MadeD s1.heap s.heap a (.ref C) od) \/
  (x.made=false/\∃sc Hc,Inv X pins O Hc sc/\Un (frs X.stack) [] Hc H sc.heap s.heap/\Flies X.stack H sc.heap a C s.heap/\Z6 a od s.heap))
def XE(X:Cx)(O:L2.St)(H:Hp)(x:Exn):Prop:=∀(pins:List (Addr×Obj)) (s:Shared) (e:Value),Inv X pins O H s->RelX X pins O x H e s->X.xe e s
def EX(X:Cx)(O:L2.St):XK:=λc od H'=>∃x C,c=.ref C/\X.mg x.cls=some (.ref C)/\x.made=false/\Fs od H' x.cls x.vs/\XE X O H' x
section
variable{X:Cx}{pins:List (Addr×Obj)}{O:L2.St}{H:Hp}{s s':Shared}{e:Value}
def pass_x(I:Inv X pins O H s)(h:CXx X.prog X.w X.stack H s (EX X O) e s'):X.xe e s':=by
 obtain⟨a,C,od,H',rfl,os,bare,un,hok,hn,fl,dl,x,C',ec,hm,hmd,hf,k⟩:=h;cases ec;have I':Inv X pins O H' s':=I.call' (ch:=[]) os un hok bare (λb z=>absurd z (by simp));exact k pins s' _ I' ⟨a,C,od,rfl,hm,hn,hf,.inr ⟨hmd,s,H,I,un,fl,dl⟩⟩
def zAF{c:Bool}{k:Nat}{f:Addr}{fd:FuncData}{ps:List Str}{sp:Sp}{Q:VK}{us:List Value}{vs:List V}(F:FnOkN c X.prog X.w X.K X.mg X.base k f fd ps sp)(hd:c=true->X.A.handled=none)(hr:RoomN k X.A)(hb:Jj X.K fd ps [])
  (I:Inv X pins O H s) (r:zn vs us) (h:sp vs H Q (EX X O)):wpAny (model X.prog X.w) X.A (call (.ref f) us) (EP X pins O Q) X.xe s:=by
 have hl:us.length=ps.length:=by rw[<- r.length];exact F.len _ _ _ _ h
 have hbd:=hb s us I.kIn (by rw[append_nil];exact hl);rw[append_nil]at hbd;refine wpAny_call (codeAny_mono (F.run X.A X.stack s H ⟨us,[]⟩ us vs Q (EX X O) hd hr I.env0 hbd r h) λr s' hq=>?_);cases r with
 |error e=>exact pass_x I hq
 |ok fl =>
  cases fl with
  |ret u=>exact I.after hq|next=>exact False.elim hq|brk=>exact False.elim hq|cont=>exact False.elim hq
end
section
variable{X:Cx}{c:Bool}{k:Nat}{f:Addr}{fd:FuncData}{ps:List Str}{sp:Sp}{x:Str}{p pos:Pos}{e:Expr}{es:List Expr}{t:TA}
def zCL(F:FnOkN c X.prog X.w X.K X.mg X.base k f fd ps sp)(hdl:c=true->X.A.handled=none)(hr:RoomN k X.A)(hg:Gl X x)(hm:X.mg x=some (.ref f))(hk:keepIn X.K (.ref f)=true)(hb:Jj X.K fd ps [])
  (ha:PA X (e::es) t) (hdb:(x==("__debug__":Str))=false:=by decide) (he:starEach (e::es) X.env=(false,eval e X.env)::starEach es X.env:=by rfl) (hpl:(backTo pos (starEach es X.env)).any (·.1)=false:=by rfl) :
  PE X (.Call (.Name x p) (e::es) [] pos) (λO H Q=>t O H λvs H1=>sp vs H1 Q (EX X O)):=by
 intro pins s O H Q I h;refine wpAny_Call_Name_kw (YI I hg hm ?_ hdb);refine callWith_K (h₀:=X.base) I.ok.mod.kin hk (thn (ha pos pins s O H _ I h) λus s1 ⟨vs,H1,I1,r,q⟩=>⟨I1.kIn,?_⟩) he hpl;exact zAF F hdl hr hb I1 r q
end
def zCM{c:Bool}{P:Program}{w:World}{K:qH}{mg:Str->Option Value}{base:Heap}{N:List Str}{qual:Str}{scope:Scope}{f:Addr}{cd:Value}{A:Around}{outer:List Env}{s:Shared}{H H':Hp}{E:XK}{O:L2.St}{x:Exn}
  (hE:∀C od,mg x.cls=some (.ref C)->Fs od H' x.cls x.vs->E (.ref C) od H'):XE (cxN c P w K mg base N qual scope f cd A outer s H E) O H' x:=by
 intro pins s' e I ⟨a,C,od,he,hm,hn,hf,h⟩;subst he;have sw:∀{H1:Hp} {s1:Shared},Inv (cxN c P w K mg base N qual scope f cd A outer s H E) pins O H1 s1->Inv (cxX P w K mg base N qual scope f cd {A with handled:=none} outer s H E) pins O H1 s1:=λJ=>YL J _ true _ (λ_=>rfl) J.ok.frames
 rcases h with⟨_,s1,I1,hs,hx⟩|⟨_,sc,Hc,Ic,un,fl,dl⟩
 ·exact ud I1 hx hs hn (hE C od hm hf)
 ·obtain⟨B,t,f1,f2⟩:=fl
  refine QK I I.base hn ⟨B,t,f1,λb o q z nf=>f2 b o q ?_ nf⟩ dl (hE C od hm hf);rcases z with⟨o',z⟩|z
  ·exact .inl (Ic.base.there b o' z (by show b∉([]:List Addr);simp))
  ·exact .inr z
end DV
namespace DV
open PySem L2 PyProof.Rows PySem.Spec
open PySem.W (Frag Looks)
structure XCls(K:Frag)(c:Str)(C T:Addr):Prop where
 cd:∃cd,clsIn K C=some cd/\cd.name=c/\cd.mro=[.ref C,.ref T,.type "ValueError",.type "Exception",.type "BaseException",.type "object"]
 ty:typeIn K (.ref C)=some (.type "type")
 ga:findIn K (.ref C) "__getattribute__"=some (some (.builtin "BaseException.__getattribute__"))
 gn:findIn K (.ref C) "__getattr__"=some none
 gc:findIn K (.ref C) "__class__"=some (some (.builtin "object.__class__"))
 sp:specialIn K (.builtin "object.__class__") "__get__"=some (some (.builtin "getset_descriptor.__get__"))
 tk:takesIn K (.builtin "object.__class__")=some true
section
open Builtin Builtin.ObjectAttr Builtin.Getset_descriptor
variable{K:Frag}{c:Str}{C T x:Addr}{h:Heap}{ox:Obj}{M:Model}
def XCls.mro(F:XCls K c C T)(b:Value):mroIn K C b=some ([Value.ref C,.ref T,.type "ValueError",.type "Exception",.type "BaseException",.type "object"].contains b):=by
 obtain⟨cd,h1,_,h3⟩:=F.cd;unfold mroIn;rw[h1,Option.bind_some,h3];rfl
def typ(e:h.get? x=some ox)(ec:ox.cls=.ref C):Looks M h (typeOf (.ref x)) (.ref C):=ec▸(Looks.ld e).andThen .now
def zCN(F:XCls K c C T)(X:K.In h):Looks M h (find (.ref x) (.ref C) "__class__") (.bind (.builtin "getset_descriptor.__get__") (.builtin "object.__class__")):=by
 have l3:Looks M h (takesStores (.builtin "object.__class__")) true:=PySem.W.looks_takesIn X F.tk;have l4:Looks M h (dataDescriptor? (some (.builtin "object.__class__")) (some (.builtin "getset_descriptor.__get__"))) (some (.builtin "getset_descriptor.__get__",.builtin "object.__class__")):=l3.andThen .now;exact(looks_findIn X F.gc).andThen ((PySem.W.looks_specialIn X F.sp).andThen (l4.andThen (Looks.tag .now)))
end
section
open Builtin Builtin.ObjectAttr Builtin.Getset_descriptor
variable{K:Frag}{c:Str}{C T x:Addr}{ox:Obj}{prog:Program}{w:World}{A:Around}{E:Value->Shared->Prop}{s:Shared}
def cls_get{R:Result->Shared->Prop}(F:XCls K c C T)(X:K.In s.heap)(e:s.heap.get? x=some ox)(ec:ox.cls=.ref C)(hq:R (.ok (.ret (.ref C))) s) :
  codeAny (model prog w) A (.call (.builtin "getset_descriptor.__get__") ⟨[.builtin "object.__class__",.ref x,.ref C],[]⟩) R s:=by
 obtain⟨hh,gs,dr,tt,os⟩:=s;have ty:Looks (model prog w) hh (typeOf (.ref x)) (.ref C):=typ e ec;have sb:Looks (model prog w) hh (isSubtype (.ref C) (.type "object")) true:=looks_mroIn X (by rw[F.mro];rfl);refine codeAny_call_builtin PySem.W.KF.slot_gs.plain PySem.W.KF.entry_gs (PySem.W.KF.slot_gs.check _ _ _ _ _ _ _ _ PySem.W.KF.type_class (PySem.W.KF.args_gs _ _ _) ?_);unfold Builtin.«getset_descriptor.__get__»;unfold descrGet;rw[PySem.W.dga_obj];refine qB (qC ?_);unfold descrGetter descrCheckInstance descrNameAndClass isInstance;simp only[PySem.W.KF.owner_class]
 repeat lk
 refine⟨Code.quiet_builtin _ (by decide +kernel),?_⟩;refine codeAny_builtin PySem.W.KF.entry_class ?_;unfold Builtin.«object.__class__»;unfold shownTypeOf
 repeat lk
 exact hq
def zAG{tk:Tok}{Q:Fin->Shared->Prop}(F:XCls K c C T)(X:K.In s.heap)(e:s.heap.get? x=some ox)(ec:ox.cls=.ref C)(hq:Q (.done (.ret (.ref C))) s) :
  wpAny (model prog w) A (Builtin.«object.__getattribute__» ⟨[.ref x,.str "__class__" tk],[]⟩) Q E s:=by
 obtain⟨hh,gs,dr,tt,os⟩:=s;have ty:Looks (model prog w) hh (typeOf (.ref x)) (.ref C):=typ e ec;have fd:Looks (model prog w) hh (find (.ref x) (.ref C) "__class__") _:=zCN F X;have go:∀Q',Q' (.done (.ret (.ref C))) (⟨hh,gs,dr,tt,os⟩:Shared)->wpAny (model prog w) A (bindTo (.builtin "getset_descriptor.__get__") (.builtin "object.__class__") (.ref x) (.ref C)) Q' E ⟨hh,gs,dr,tt,os⟩:=λQ' q=>by
  unfold bindTo;refine qB (wpAny_call (cls_get F X e ec ?_));exact qC q
 refine qB (qC ?_);refine qB (qC ?_);refine qB (ty.at ?_);refine qB (fd.at ?_);exact go _ hq
def vU{nameV:Value}{M:Model}{Q:Unit->Shared->Prop}(F:XCls K c C T)(X:K.In s.heap)(e:s.heap.get? x=some ox)(ec:ox.cls=.ref C)(hq:Q () s) :
  wpAny M A (checkBuiltinCall "BaseException.__getattribute__" ⟨[.ref x,nameV],[]⟩) Q E s:=by
 obtain⟨hh,gs,dr,tt,os⟩:=s;have ty:Looks M hh (typeOf (.ref x)) (.ref C):=typ e ec;have sb:Looks M hh (isSubtype (.ref C) (.type "BaseException")) true:=looks_mroIn X (by rw[F.mro];rfl);have inst:Looks M hh (isInstance (.ref x) (.type "BaseException")) true:=ty.andThen sb;have k1:builtinKind "BaseException.__getattribute__"=some .slot:=by decide +kernel
 have k2:splitId "BaseException.__getattribute__"=some ("BaseException","__getattribute__"):=by decide +kernel
 have k3:=PySem.F.args_bexc_ga (.ref x) nameV;simp only[checkBuiltinCall,k1,k2];refine qB (inst.at ?_)
 repeat (any_goals (first|assumption|wp_step))
def zCO{tk:Tok}{R:Result->Shared->Prop}(F:XCls K c C T)(X:K.In s.heap)(e:s.heap.get? x=some ox)(ec:ox.cls=.ref C)(hq:R (.ok (.ret (.ref C))) s) :
  codeAny (model prog w) A (.call (.builtin "BaseException.__getattribute__") ⟨[.ref x,.str "__class__" tk],[]⟩) R s :=
 codeAny_call_builtin PySem.F.attr_ValueError.ga.plain PySem.F.entry_bexc_ga (vU F X e ec (zAG F X e ec hq))
def zCP{Q:Option Value->Shared->Prop}(F:XCls K c C T)(X:K.In s.heap)(e:s.heap.get? x=some ox)(ec:ox.cls=.ref C)(hq:Q (some (.ref C)) {s with toks:=s.toks+1}) :
  wpAny (model prog w) A (getAttr? (.ref x) "__class__") Q E s:=by
 obtain⟨hh,gs,dr,tt,os⟩:=s;have ty:Looks (model prog w) hh (typeOf (.ref x)) (.ref C):=typ e ec;have l1:Looks (model prog w) hh (typeLookup (.ref C) "__getattribute__") _:=looks_findIn X F.ga;have l2:Looks (model prog w) hh (typeLookup (.ref C) "__getattr__") _:=looks_findIn X F.gn;have b1:=PySem.F.attr_ValueError.ga.bind (.ref x);unfold getAttr? getAttrBy?;refine qB (wpAny_mkText (qB (wpAny_attempt ?_)));unfold getAttrBy;refine wpAny_holding (qB (ty.at (qB (l1.at ?_))));have ne:(Value.builtin "BaseException.__getattribute__" == Value.builtin "object.__getattribute__")=false:=by decide +kernel
 dsimp only;rw[ne,Bool.and_false,if_neg (by decide)];unfold getAttrByItsOwn hookBefore;refine qB (l2.at ?_);refine qB (wpAny_attempt (wpAny_holding ?_));unfold callGetattribute;rw[if_neg (by decide +kernel)];unfold boundAndCalled;rw[b1];refine qB (qC (wpAny_call (zCO F X e ec ?_)));exact qC (qC hq)
end
structure TCls(K:Frag)(T:Addr):Prop where
 cd:∃cd,clsIn K T=some cd/\cd.mro=.ref T::VB
 ty:typeIn K (.ref T)=some (.type "type")
section
variable{K:Frag}{c y:Str}{C Y T x:Addr}{h:Heap}{ox:Obj}{M:Model}
def TCls.mro(F:TCls K T)(b:Value):mroIn K T b=some ((Value.ref T::VB).contains b):=by
 obtain⟨cd,h1,h3⟩:=F.cd;unfold mroIn;rw[h1,Option.bind_some,h3];rfl
def zAH{cd:ClassData}(X:K.In h)(e:clsIn K C=some cd):Looks M h (isType (.ref C)) true:=by
 unfold clsIn at e;split at e
 ·rename_i ho
  intro A Q E s k q;unfold isType loadHead;exact qB (wpAny_loadPart (k _ _ (X _ _ ho)) (qC q))
 ·cases e
def not_tup{cd:ClassData}{tp:Addr}{dd:Option Addr}{its:List Value}{n:Nat}{sl:Array (Option Value)}(X:K.In h)(e:clsIn K C=some cd)(ht:h.get? tp=some ⟨.type "tuple",dd,.seq its.toArray n,sl⟩):(Value.ref C==.ref tp)=false:=by
 refine Bool.eq_false_iff.mpr λq=>?_
 obtain rfl:C=tp:=Value.ref.inj (beq_iff_eq.mp q);unfold clsIn at e;split at e
 ·rename_i ho;have z:=(X _ _ ho).symm.trans ht;cases z
 ·cases e
def kit_exc(F:XCls K c C T):PySem.W.KitX K (.ref x) (.ref C) (λh=>∃o,h.get? x=some o/\o.cls=.ref C) where
 ty:=λM h X ⟨o,e,ec⟩=>typ e ec
 it:=λM h X _=>let ⟨_,e,_⟩:=F.cd;zAH X e
 ne:=λh tp dd its n sl X ht=>let ⟨_,e,_⟩:=F.cd;not_tup X e ht
 ca:=λX ⟨o,e,ec⟩ q=>zCP F X e ec q
def kit_own(F:XCls K c C T)(G:XCls K y Y T)(hY:Y≠T)(he:c=y->C=Y):kitOne K (.ref C) (.ref Y)=some (c==y):=by
 obtain⟨cd,h1,h2,h3⟩:=F.cd;obtain⟨cy,g1,g2,g3⟩:=G.cd;unfold kitOne;by_cases e:C=Y
 ·subst e
  rw[h1]at g1;cases g1;rw[if_pos (by simp),<- h2,<- g2];simp
 ·have ne:(c==y)=false:=by
   cases q:c==y with
   |false=>rfl|true=>exact absurd (he (by simpa using q)) e
  rw[if_neg (by simpa using e),ne];unfold kitCls;dsimp only;rw[if_pos (by rw[g1,G.ty];rfl)];show mroIn K C (.ref Y)=_;rw[F.mro];have e1:(Value.ref Y==Value.ref C)=false:=by simpa using λz:Y=C=>e z.symm
  have e2:(Value.ref Y==Value.ref T)=false:=by simpa using hY
  simp only[List.contains_cons,e1,e2];rfl
def kit_val(F:XCls K c C T):kitOne K (.ref C) (.type "ValueError")=some true:=by
 unfold kitOne;rw[if_neg (by simp)];unfold kitCls;dsimp only;rw[if_pos (by decide +kernel)];show mroIn K C _=_;rw[F.mro];rfl
def ue{A:Around}{E:Value->Shared->Prop}{s:Shared}{Q:Bool->Shared->Prop}(F:XCls K c C T)(G:TCls K T)(X:K.In s.heap)(e:s.heap.get? x=some ox)(ec:ox.cls=.ref C)(hq:Q true s):wpAny M A (excMatches (.ref x) (.ref T)) Q E s:=by
 obtain⟨hh,gs,dr,tt,os⟩:=s;obtain⟨cd,g1,g2⟩:=G.cd;have ty:Looks M hh (typeOf (.ref x)) (.ref C):=typ e ec;have tT:Looks M hh (typeOf (.ref T)) (.type "type"):=PySem.W.looks_typeIn X G.ty;have nt:Looks M hh (isInstance (.ref T) (.type "tuple")) false:=tT.andThen (Looks.of_pure tc_notTuple);have iT:Looks M hh (isType (.ref T)) true:=zAH X g1;have sT:Looks M hh (isSubtype (.ref T) (.type "BaseException")) true:=looks_mroIn X (by rw[G.mro];rfl);have sC:Looks M hh (isSubtype (.ref C) (.ref T)) true:=looks_mroIn X (by rw[F.mro];simp);unfold excMatches isExcClass;refine qB (nt.at ?_);refine qB (qC ?_);refine qB ?_;rw[forIn_cons];refine qB (qB (qB (iT.at ?_)));refine sT.at ?_;refine qC ?_;refine qC ?_;refine qB (ty.at ?_);refine qB ?_;rw[forIn_cons];refine qB (qB (sC.at ?_));refine qC (qC ?_);exact qC hq
end
end DV
namespace DV
open PySem L2 PyProof.Rows PySem.Spec
open PySem.W (Looks)
structure XSet(K:qH)(C T:Addr):Prop where
 cd:∃cd,clsIn K C=some cd/\cd.mro=.ref C::.ref T::VB/\cd.hasDict=true
 sa:findIn K (.ref C) "__setattr__"=some (some (.builtin "object.__setattr__"))
section
open Builtin Builtin.ObjectAttr
variable{K:qH}{C T x:Addr}{ox:Obj}{prog:Program}{w:World}{A:Around}{E:Value->Shared->Prop}{h:Heap}{g:Array GenState}{d:Drawn}{t:Nat}{os:OsState}{name:Str}{v:Value}
def zAI{M:Model}{cd:ClassData}(X:K.In h)(e:clsIn K C=some cd):Looks M h (mroOf (.ref C)) cd.mro:=(looks_clsIn X e).andThen .now
def zCQ{M:Model}{nameV:Value}{Q:Unit->Shared->Prop}(F:XSet K C T)(X:K.In h)(e:h.get? x=some ox)(ec:ox.cls=.ref C)(hq:Q () ⟨h,g,d,t,os⟩) :
  wpAny M A (checkBuiltinCall "object.__setattr__" ⟨[.ref x,nameV,v],[]⟩) Q E ⟨h,g,d,t,os⟩:=by
 obtain⟨cd,c1,c2,c3⟩:=F.cd;have ty:Looks M h (typeOf (.ref x)) (.ref C):=typ e ec;have sb:Looks M h (isSubtype (.ref C) (.type "object")) true:=looks_mroIn X (by unfold mroIn;rw[c1,Option.bind_some,c2];rfl);have inst:Looks M h (isInstance (.ref x) (.type "object")) true:=ty.andThen sb;have k1:=PySem.F.store_ValueError.kind;have k2:=PySem.F.store_ValueError.split;have k3:=PySem.F.store_ValueError.args (.ref x) nameV v;simp only[checkBuiltinCall,k1,k2];refine qB (inst.at ?_)
 repeat (any_goals (first|assumption|wp_step))
def zCR{tk:Tok}{Q:Fin->Shared->Prop}{vs:Array Value}(F:XSet K C T)(hna:findIn K (.ref C) name=some none)(X:K.In h)(e:h.get? x=some ox)(ec:ox.cls=.ref C)(hdt:ox.data=.fields vs)
  (hq:(ox.dict=none->∀h' tk',(∀b o,b≠x->h.get? b=some o->h'.get? b=some o)->h'.Ns1 h.objs.size (λy=>if y=name then some v else none)->h'.get? x=some {ox with dict:=some h.objs.size}->Q (.done (.ret .none)) ⟨h',g,d,tk',os⟩) /\
   (∀dx,ox.dict=some dx->∃mA ns,h.Ns1 dx mA/\Within mA ns/\ns.length<=100/\∀h' tk',(∀b o,b≠dx->h.get? b=some o->h'.get? b=some o)->h'.Ns1 dx (λy=>if y=name then some v else mA y)->Q (.done (.ret .none)) ⟨h',g,d,tk',os⟩)) :
  wpAny (model prog w) A (Builtin.«object.__setattr__» ⟨[.ref x,.str name tk,v],[]⟩) Q E ⟨h,g,d,t,os⟩:=by
 obtain⟨cd,c1,c2,c3⟩:=F.cd;have ty:Looks (model prog w) h (typeOf (.ref x)) (.ref C):=typ e ec;have mr:Looks (model prog w) h (mroOf (.ref C)) cd.mro:=zAI X c1;have fd:Looks (model prog w) h (typeLookup (.ref C) name) none:=looks_findIn X hna;have hpass:=PySem.F.store_ValueError.passes (.ref x);unfold Builtin.«object.__setattr__»;refine qB ?_;rw[refuse_eq];refine qB (ty.at (qB (mr.at ?_)));rw[c2,refuseLoop_ref,refuseLoop_ref,hpass];refine qC ?_;refine qB (m:=attrName (.str name tk)) (qC ?_);refine qB (ty.at (qB (fd.at ?_)));refine qB (qC ?_);have cl:Looks (model prog w) h (classData C) cd:=looks_clsIn X c1;refine qB (m:=ownStreamTells (.ref x) (.ref C)) (qC ?_);have hxs:x≠h.objs.size:=ne_of_lt (lt_size e);have sz:∀n:Nat,n<=101->n<=sizeLine:=λn hn=>le_trans hn (by decide +kernel)
 refine qB (m:=instanceDict x true) ?_;unfold instanceDict;refine qB (wpAny_loadPart e ?_);rw[ec];refine qB (cl.at ?_);rw[c3,hdt];cases hd:ox.dict with
 |none =>
  have e1:(h.push {cls:=.type "dict",data:=.dict #[]}).get? x=some ox:=qA _ e;refine qB (wpAny_alloc' ?_);refine qB (wpAny_update' e1 ?_);refine qC ?_;have gd:((h.push {cls:=.type "dict",data:=.dict #[]}).update x λo=>{cls:=o.cls,dict:=some h.objs.size,data:=o.data,slots:=o.slots}).get? h.objs.size=some {cls:=.type "dict",data:=.dict #[]} :=
   (Heap.get?_update_ne _ _ _ _ hxs.symm).trans (Heap.get?_push_at rfl rfl)
  have nd:((h.push {cls:=.type "dict",data:=.dict #[]}).update x λo=>{cls:=o.cls,dict:=some h.objs.size,data:=o.data,slots:=o.slots}).Ns h.objs.size (λ_=>none) :=
   ⟨_,#[],_,gd,rfl,λq he=>absurd he (by simp),λ_=>rfl⟩
  show wpAny _ _ (storeInDict h.objs.size (.str name tk) name v) _ _ _
  unfold storeInDict newKeyGuard;refine qB (qC (qB (wpAny_nsSet1 (Heap.Ns1.of_empty nd) λh' hn' hs=>?_)));obtain⟨oD,esD,epD,hoD,hdD,hcD⟩:=hn'.count (Within.cons name v Within.nil);refine qB (wpAny_lookBehind hoD (by rw[hdD];exact pastItsLine_dict (le_trans hcD (Nat.le_succ_of_le (sz _ (by show 0+1<=101;omega))))) (qC ?_));refine hq.1 hd h' _ (λb ob hb q=>(hs.2 b (ne_of_lt (lt_size q))).trans ((Heap.get?_update_ne _ _ _ _ hb).trans (qA _ q))) hn' ((hs.2 x hxs).trans ?_);refine Heap.get?_update_self _ e1 ?_;have hfr:=(Heap.get?_some_iff.mp e).2;obtain⟨oc,od,odt,osl⟩:=ox;cases odt<;>first|rfl|exact hfr
 |some dx =>
  obtain⟨mA,ns,n1,hw,hl,hq⟩:=hq.2 dx hd;refine qC ?_;show wpAny _ _ (storeInDict dx (.str name tk) name v) _ _ _;unfold storeInDict newKeyGuard;refine qB (qC (qB (wpAny_nsSet1 n1 λh' hn' hs=>?_)));obtain⟨oD,esD,epD,hoD,hdD,hcD⟩:=hn'.count (Within.cons name v hw);refine qB (wpAny_lookBehind hoD (by rw[hdD];exact pastItsLine_dict (le_trans hcD (Nat.le_succ_of_le (sz _ (by show ns.length+1<=101;omega))))) (qC ?_));exact hq h' _ (λb ob hb q=>(hs.2 b hb).trans q) hn'
def zAJ{Q:Unit->Shared->Prop}{vs:Array Value}(F:XSet K C T)(hna:findIn K (.ref C) name=some none)(X:K.In h)(e:h.get? x=some ox)(ec:ox.cls=.ref C)(hdt:ox.data=.fields vs)
  (hq:(ox.dict=none->∀h' tk',(∀b o,b≠x->h.get? b=some o->h'.get? b=some o)->h'.Ns1 h.objs.size (λy=>if y=name then some v else none)->h'.get? x=some {ox with dict:=some h.objs.size}->Q () ⟨h',g,d,tk',os⟩) /\
   (∀dx,ox.dict=some dx->∃mA ns,h.Ns1 dx mA/\Within mA ns/\ns.length<=100/\∀h' tk',(∀b o,b≠dx->h.get? b=some o->h'.get? b=some o)->h'.Ns1 dx (λy=>if y=name then some v else mA y)->Q () ⟨h',g,d,tk',os⟩)) :
  wpAny (model prog w) A (setAttr (.ref x) name v) Q E ⟨h,g,d,t,os⟩:=by
 have ty:Looks (model prog w) h (typeOf (.ref x)) (.ref C):=typ e ec;have sp:Looks (model prog w) h (specialOf (.ref x) "__setattr__") (some (.builtin "object.__setattr__")):=ty.andThen (looks_findIn X F.sa);unfold setAttr;refine qB (wpAny_mkText (qB ?_));unfold callSpecial?;refine qB (sp.at (wpAny_holding ?_));rw[PySem.F.store_ValueError.slot.bind];refine qB (qC (qB (wpAny_call (codeAny_call_builtin PySem.F.store_ValueError.slot.plain PySem.F.store_ValueError.entry (zCQ F X e ec (zCR F hna X e ec hdt ?_))))));exact⟨λhd h' tk' a b c=>qC (qC (hq.1 hd h' tk' a b c)),λdx hd=>let ⟨mA,ns,n1,hw,hl,q⟩:=hq.2 dx hd;⟨mA,ns,n1,hw,hl,λh' tk' a b=>qC (qC (q h' tk' a b))⟩⟩
end
section
open Builtin Builtin.ObjectAttr
variable{K:qH}{c:Str}{C T x dx:Addr}{ox:Obj}{prog:Program}{w:World}{A:Around}{E:Value->Shared->Prop}{s:Shared}{name:Str}{v:Value}{mA:Str->Option Value}
def zCS{tk:Tok}{Q:Fin->Shared->Prop}(F:XCls K c C T)(S:XSet K C T)(hna:findIn K (.ref C) name=some none)(X:K.In s.heap)(e:s.heap.get? x=some ox)(ec:ox.cls=.ref C){vs:Array Value}(hdt:ox.data=.fields vs)(ed:ox.dict=some dx)(hn:s.heap.Ns1 dx mA)(hv:mA name=some v)(hq:Q (.done (.ret v)) s) :
  wpAny (model prog w) A (Builtin.«object.__getattribute__» ⟨[.ref x,.str name tk],[]⟩) Q E s:=by
 obtain⟨hh,gs,dr,tt,os⟩:=s;obtain⟨cd,c1,c2,c3⟩:=S.cd;have ty:Looks (model prog w) hh (typeOf (.ref x)) (.ref C):=typ e ec;have fd:Looks (model prog w) hh (typeLookup (.ref C) name) none:=looks_findIn X hna;have cl:Looks (model prog w) hh (classData C) cd:=looks_clsIn X c1;refine qB (qC ?_);refine qB (qC ?_);refine qB (ty.at ?_);refine qB ?_;unfold find;refine qB (fd.at ?_);refine qB (m:=getOf none) (qC ?_);refine qB (m:=dataDescriptor? none none) (qC ?_);unfold ownThenClass;refine qB (m:=inOwnDict name (.ref x)) ?_;unfold inOwnDict;refine qB (m:=ownDict x) ?_;unfold ownDict loadHead;refine qB (wpAny_loadPart e ?_);rw[hdt];dsimp only;unfold instanceDict;refine qB (wpAny_loadPart e ?_);rw[ec];refine qB (cl.at ?_);rw[c3,ed];refine qC ?_;refine wpAny_nsGet hn.ns ?_;rw[hv];exact qB (wpAny_rule (qC (qC hq)))
def ga_call{tk:Tok}{R:Result->Shared->Prop}{vs:Array Value}(F:XCls K c C T)(S:XSet K C T)(hna:findIn K (.ref C) name=some none)(X:K.In s.heap)(e:s.heap.get? x=some ox)(ec:ox.cls=.ref C)(hdt:ox.data=.fields vs)(ed:ox.dict=some dx)(hn:s.heap.Ns1 dx mA)(hv:mA name=some v)(hq:R (.ok (.ret v)) s) :
  codeAny (model prog w) A (.call (.builtin "BaseException.__getattribute__") ⟨[.ref x,.str name tk],[]⟩) R s :=
 codeAny_call_builtin PySem.F.attr_ValueError.ga.plain PySem.F.entry_bexc_ga (vU F X e ec (zCS F S hna X e ec hdt ed hn hv hq))
def ga_attr{Q:Value->Shared->Prop}{vs:Array Value}{expr:Bool}(F:XCls K c C T)(S:XSet K C T)(hna:findIn K (.ref C) name=some none)(X:K.In s.heap)(e:s.heap.get? x=some ox)(ec:ox.cls=.ref C)(hdt:ox.data=.fields vs)(ed:ox.dict=some dx)(hn:s.heap.Ns1 dx mA)(hv:mA name=some v)(hh:PySem.W.handedIn v=true)(hq:Q v {s with toks:=s.toks+1}) :
  wpAny (model prog w) A (getAttr (.ref x) name expr) Q E s:=by
 obtain⟨h0,gs,dr,tt,os⟩:=s;have ty:Looks (model prog w) h0 (typeOf (.ref x)) (.ref C):=typ e ec;have l1:Looks (model prog w) h0 (typeLookup (.ref C) "__getattribute__") _:=looks_findIn X F.ga;have l2:Looks (model prog w) h0 (typeLookup (.ref C) "__getattr__") _:=looks_findIn X F.gn;have b1:=PySem.F.attr_ValueError.ga.bind (.ref x);unfold getAttr;refine qB (wpAny_mkText ?_);unfold getAttrBy;refine wpAny_holding (qB (ty.at (qB (l1.at ?_))));have ne:(Value.builtin "BaseException.__getattribute__" == Value.builtin "object.__getattribute__")=false:=by decide +kernel
 dsimp only;rw[ne,Bool.and_false,if_neg (by decide)];unfold getAttrByItsOwn hookBefore;refine qB (l2.at ?_);refine qB (wpAny_attempt (wpAny_holding ?_));unfold callGetattribute;have oh:onTheHeap (Value.builtin "BaseException.__getattribute__")=false:=rfl;rw[oh,Bool.and_false,if_neg (by decide)];unfold boundAndCalled;rw[b1];refine qB (qC (wpAny_call (ga_call F S hna X e ec hdt ed hn hv ?_)));show wpAny _ _ (handedOut v) _ _ _;rw[PySem.W.handedOut_of hh];exact qC hq
end
section
variable{prog:Program}{w:World}{A:Around}{E:Value->Shared->Prop}{h:Heap}{g:Array GenState}{d:Drawn}{t:Nat}{os:OsState}
variable{nm q:Str}{C N f:Addr}{bs bm:List Value}{hdct:Bool}{sn:List Str}{sub:List Value}{ab:Bool}{col:Option Bool}{dd:Option Addr}{k0 k1 k2 k3 k5:Option Value}{mN:Str->Option Value}{jW:List Value}{of:Obj}
abbrev zAK(h:Heap)(C:Addr)(jW:List Value):Heap:=(h.push {cls:=.type "tuple",data:=.seq jW.toArray}).push {cls:=.ref C,data:=.fields #[.ref h.objs.size,.none,.none,.none,.bool false,.none]}
def InitR(Q:Value->Shared->Prop)(E:Value->Shared->Prop)(a:Addr):Result->Shared->Prop
 | .ok (.ret v),s=>v=.none/\Q (.ref a) s| .error e,s=>E e s|_,_=>False
def make_x{Q:Value->Shared->Prop}(T:OwnTail h VB bm)(hC:h.get? C=some (excClassObj nm q C N bs bm hdct sn sub ab col dd k0 k1 k2 k3 k5 "ValueError.__new__"))(hn:h.Ns N mN)(hi:mN "__init__"=some (.ref f))(hf:h.get? f=some of)(hfc:of.cls=.type "function")(hrest:jW.length<=sizeLine)
  (hcall:codeAny (model prog w) (A.under (.builtin "type.__call__" ⟨.ref C::jW,[]⟩)) (.call (.ref f) ⟨.ref (h.objs.size+1)::jW,[]⟩) (InitR Q E (h.objs.size+1)) ⟨zAK h C jW,g,d,t,os⟩) :
  wpAny (model prog w) A (call (.ref C) jW) Q E ⟨h,g,d,t,os⟩:=by
 have F:=PySem.F.excBase_ValueError;have f1:=tc_lookup;have f2:=tc_bind (.ref C);have hT:(⟨h,g,d,t,os⟩:Shared).TypeIs (.ref C) "type":=⟨_,hC,rfl⟩;refine wpAny_call (codeAny_of_tree ?_);show wpAny _ _ (callAny (.ref C) _) _ _ _
 repeat (any_goals (first|assumption|with_reducible refine wpAny_loadPart_at hC ?_|wp_step))
 refine⟨rfl,?_⟩;refine codeAny_call_builtin_at (Code.quiet_builtin _ (by decide +kernel)) entry_typeCall (wpAny_check_type_call_sub hC ?_);have hget:(zAK h C jW).get? (h.objs.size+1)=some {cls:=.ref C,data:=.fields #[.ref h.objs.size,.none,.none,.none,.bool false,.none]}:=by heap_get
 have kp:∀b o,h.get? b=some o->(zAK h C jW).get? b=some o:=λb o e=>qA _ (qA _ e)
 have hC1:=kp _ _ hC;have hn1:=hn.keeps kp;have T1:=T.keeps kp;have hf1:=kp _ _ hf;have hcC:(Value.ref C::bm).contains (.ref C)=true:=by simp
 repeat (first|with_reducible refine wpAny_loadPart_at hC ?_|with_reducible refine wpAny_madeBy_exc hC ?_|wp_step)
 refine codeAny_call_builtin_code (Code.quiet_builtin _ F.quiet) (wpAny_check_new_subT F T hC ?_);refine codeAny_exc_new_subT F T hC ?_ hrest;show wpAny _ _ (isInstance (.ref (h.objs.size+1)) (.ref C) >>= _) _ _ ⟨zAK h C jW,g,d,t,os⟩;refine qB ?_;unfold isInstance;refine qB ((typ (M:=model prog w) hget rfl).at ?_);refine wpAny_isSubtype_exc hC1 ?_;rw[hcC];show wpAny _ _ (holding _ (callSpecial? (.ref (h.objs.size+1)) (Str.ofString "__init__") jW []) >>= _) _ _ _;refine qB (wpAny_holding ?_);unfold callSpecial? specialOf;refine qB (qB ((typ (M:=model prog w) hget rfl).at ?_));refine wpAny_typeLookup_tail hC1 hn1 T1 F.mroIs F.init.lookup ?_;rw[hi];refine wpAny_holding (qB (wpAny_bindSpecial_def (s:=⟨zAK h C jW,g,d,t,os⟩) hf1 hfc ?_));refine qB (wpAny_call (codeAny_mono hcall λr s' hr=>?_));cases r with
 |error e=>exact hr
 |ok fl =>
  cases fl with
  |ret v =>
   obtain⟨rfl,hr⟩:=hr;exact qC (qC hr)
  |next=>exact hr.elim|brk=>exact hr.elim|cont=>exact hr.elim
end
end DV
namespace DV
open PySem L2
set_option genInjectivity true in
inductive D where
 |non
 |bl (b:Bool)
 |int (i:Int)
 |str (x:Str)
 |t (ds:List D)
 |l (ds:List D)
 |fn (x:Str)
 |dic
 |exn (c:Str) (vs:List Int)
 deriving Inhabited
mutual
def Rep(K:qH)(mg:Str->Option Value)(H:Hp):D->V->Prop
 | .non,v=>v=.non| .bl b,v=>v=.bl b| .int i,v=>v=.int i| .str x,v=>v=.str x| .t ds,v=>∃a xs,v=.ref a/\SqT K H a xs/\Reps K mg H ds xs| .l ds,v=>∃a xs,v=.ref a/\SqL K H a xs/\Reps K mg H ds xs| .fn x,v=>∃f,v=.ref f/\mg x=some (.ref f)| .dic,v=>∃a,v=.ref a/\H a=some (.dK [])| .exn c vs,v=>∃a C,v=.ref a/\mg c=some (.ref C)/\((vs=[]/\H a=some (ExO C a))\/∃d,H a=some (ExA C d a)/\H d=some (XD d (fsV c vs)))
def Reps(K:qH)(mg:Str->Option Value)(H:Hp):List D->List V->Prop
 | [],vs=>vs=[]|d::ds,vs=>∃v r,vs=v::r/\Rep K mg H d v/\Reps K mg H ds r
end
section
variable{K:qH}{mg:Str->Option Value}{H H':Hp}
def yA{a:Addr}{xs:List V}(e:YJ H H')(h:SqT K H a xs):SqT K H' a xs:=by
 rcases h with(h|⟨o,h⟩)|h
 ·exact .inl (.inl (e _ _ h))
 ·exact .inl (.inr ⟨o,e _ _ h⟩)
 ·exact .inr h
mutual
theorem Rep.mono(e:YJ H H'):∀{d:D} {v:V},Rep K mg H d v->Rep K mg H' d v
 | .non,_,h=>by simpa only[Rep]using h| .bl _,_,h=>by simpa only[Rep]using h| .int _,_,h=>by simpa only[Rep]using h| .str _,_,h=>by simpa only[Rep]using h
 | .t ds,_,h=>by
  simp only[Rep]at h ⊢;obtain⟨a,xs,h1,h2,h3⟩:=h;exact⟨a,xs,h1,yA e h2,Reps.mono e h3⟩
 | .l ds,_,h=>by
  simp only[Rep]at h ⊢;obtain⟨a,xs,h1,h2,h3⟩:=h;exact⟨a,xs,h1,e.seq h2,Reps.mono e h3⟩
 | .fn _,_,h=>by simpa only[Rep]using h
 | .dic,_,h=>by
  simp only[Rep]at h ⊢;obtain⟨a,h1,h2⟩:=h;exact⟨a,h1,e _ _ h2⟩
 | .exn _ _,_,h=>by
  simp only[Rep]at h ⊢;obtain⟨a,C,h1,h2,h3⟩:=h;refine⟨a,C,h1,h2,?_⟩;rcases h3 with⟨hv,h3⟩|⟨d,h3,h4⟩
  ·exact .inl ⟨hv,e _ _ h3⟩
  ·exact .inr ⟨d,e _ _ h3,e _ _ h4⟩
theorem Reps.mono(e:YJ H H'):∀{ds:List D} {vs:List V},Reps K mg H ds vs->Reps K mg H' ds vs
 | [],_,h=>by simpa only[Reps]using h
 |d::ds,_,h=>by
  simp only[Reps]at h ⊢;obtain⟨v,r,h1,h2,h3⟩:=h;exact⟨v,r,h1,Rep.mono e h2,Reps.mono e h3⟩
end
theorem Reps.length:∀{ds:List D} {vs:List V},Reps K mg H ds vs->vs.length=ds.length
 | [],_,h=>by simp only[Reps]at h;subst h;rfl
 |d::ds,_,h=>by
  simp only[Reps]at h;obtain⟨v,r,rfl,h2,h3⟩:=h;simp[Reps.length h3]
def Reps.nil:Reps K mg H [] []:=by simp only[Reps]
def Reps.cons{d:D}{v:V}{ds:List D}{vs:List V}(h:Rep K mg H d v)(t:Reps K mg H ds vs):Reps K mg H (d::ds) (v::vs):=by
 simp only[Reps];exact⟨v,vs,rfl,h,t⟩
theorem Reps.get:∀{ds:List D} {vs:List V} {i:Nat} {v:V},Reps K mg H ds vs->vs[i]?=some v->∃d,ds[i]?=some d/\Rep K mg H d v
 | [],_,_,_,h,e=>by simp only[Reps]at h;subst h;simp at e
 |d::ds,_,i,v,h,e=>by
  simp only[Reps]at h;obtain⟨v',r,rfl,h2,h3⟩:=h;cases i with
  |zero=>simp at e;subst e;exact⟨d,rfl,h2⟩|succ i=>simp at e;obtain⟨d',q1,q2⟩:=Reps.get h3 e;exact⟨d',by simpa using q1,q2⟩
theorem Reps.get':∀{ds:List D} {vs:List V} {i:Nat} {d:D},Reps K mg H ds vs->ds[i]?=some d->∃v,vs[i]?=some v/\Rep K mg H d v
 | [],_,_,_,h,e=>by simp at e
 |d::ds,_,i,d',h,e=>by
  simp only[Reps]at h;obtain⟨v',r,rfl,h2,h3⟩:=h;cases i with
  |zero=>simp at e;subst e;exact⟨v',rfl,h2⟩|succ i=>simp at e;obtain⟨v,q1,q2⟩:=Reps.get' h3 e;exact⟨v,by simpa using q1,q2⟩
theorem Reps.append:∀{ds es:List D} {vs ws:List V},Reps K mg H ds vs->Reps K mg H es ws->Reps K mg H (ds++es) (vs++ws)
 | [],_,_,_,h,g=>by simp only[Reps]at h;subst h;exact g
 |d::ds,_,_,_,h,g=>by
  simp only[Reps]at h;obtain⟨v',r,rfl,h2,h3⟩:=h;exact Reps.cons h2 (Reps.append h3 g)
theorem Reps.set:∀{ds:List D} {vs:List V} (i:Nat) {d:D} {v:V},Reps K mg H ds vs->Rep K mg H d v->Reps K mg H (ds.set i d) (vs.set i v)
 | [],_,_,_,_,h,g=>by simp only[Reps]at h;subst h;exact Reps.nil
 |d::ds,_,i,_,_,h,g=>by
  simp only[Reps]at h;obtain⟨v',r,rfl,h2,h3⟩:=h;cases i with
  |zero=>exact Reps.cons g h3|succ i=>exact Reps.cons h2 (Reps.set i h3 g)
theorem Reps.take:∀{ds:List D} {vs:List V} (n:Nat),Reps K mg H ds vs->Reps K mg H (ds.take n) (vs.take n)
 | [],_,_,h=>by simp only[Reps]at h;subst h;simp[Reps.nil]
 |d::ds,_,n,h=>by
  simp only[Reps]at h;obtain⟨v',r,rfl,h2,h3⟩:=h;cases n with
  |zero=>exact Reps.nil|succ n=>exact Reps.cons h2 (Reps.take n h3)
theorem Reps.drop:∀{ds:List D} {vs:List V} (n:Nat),Reps K mg H ds vs->Reps K mg H (ds.drop n) (vs.drop n)
 | [],_,_,h=>by simp only[Reps]at h;subst h;simp[Reps.nil]
 |d::ds,_,n,h=>by
  simp only[Reps]at h;obtain⟨v',r,rfl,h2,h3⟩:=h;cases n with
  |zero=>exact Reps.cons h2 h3|succ n=>exact Reps.drop n h3
theorem Reps.flatten{ds:List D}{vs:List V}(h:Reps K mg H ds vs):∀n:Nat,Reps K mg H (replicate n ds).flatten (replicate n vs).flatten
 |0=>Reps.nil|n+1=>by simp only[replicate_succ,flatten_cons];exact h.append (Reps.flatten h n)
end
open Classical in
def Hm(M:Addr->Prop)(H:Hp):Hp:=λb=>if M b then none else H b
section
variable{M M':Addr->Prop}{H H':Hp}{b:Addr}{o:HO}
def zP:Hm M H b=some o↔¬M b/\H b=some o:=by
 unfold Hm;by_cases h:M b
 ·simp[h]
 ·simp[h]
def zL:YJ (Hm M H) H:=λb o h=>(zP.mp h).2
def jh(h:∀b,M' b->M b):YJ (Hm M H) (Hm M' H):=λb o e=>zP.mpr ⟨λx=>(zP.mp e).1 (h b x),(zP.mp e).2⟩
end
inductive Slot where
 |e
 |v (d:D)
 |own (ds:List D)
 |par (ds:List D)
 deriving Inhabited
abbrev zQ:=List Slot
set_option genInjectivity true in
inductive R where
 |v (d:D)
 |own (ds:List D)
 deriving Inhabited
def R.slot:R->Slot
 | .v d=>.v d| .own ds=>.own ds
def R.d:R->D
 | .v d=>d| .own ds=>.l ds
def Slot.list?:Slot->Option (List D)
 | .own ds=>some ds| .par ds=>some ds|_=>none
abbrev Fz:=List (Option V×Slot)
def uQ:Option V×Slot->Option Addr
 | (some (.ref a),.own _)=>some a| (some (.ref a),.par _)=>some a|_=>none
def yE(Z:Fz):List Addr:=Z.filterMap uQ
def Mo(M:Addr->Prop)(Z:Fz):Addr->Prop:=λb=>M b\/b∈yE Z
def zc(Z T:Fz):yE (Z++T)=yE Z++yE T:=List.filterMap_append
def za(o:Option V)(d:D)(Z:Fz):yE ((o,.v d)::Z)=yE Z:=by
 unfold yE;rw[List.filterMap_cons_none];cases o with
 |none=>rfl
 |some v=>cases v<;>rfl
def Jm(a:Addr)(ds:List D)(Z:Fz):yE ((some (.ref a),.own ds)::Z)=a::yE Z:=rfl
def yg(o:Option V)(Z:Fz):yE ((o,.e)::Z)=yE Z:=by
 unfold yE;rw[List.filterMap_cons_none];cases o with
 |none=>rfl
 |some v=>cases v<;>rfl
def y8(M:Addr->Prop)(T Z:Fz):Mo M (T++Z)=Mo (Mo M T) Z:=by
 funext b
 apply propext;simp only[Mo,zc,mem_append];constructor
 ·rintro (h|h|h)
  ·exact .inl (.inl h)
  ·exact .inl (.inr h)
  ·exact .inr h
 ·rintro ((h|h)|h)
  ·exact .inl h
  ·exact .inr (.inl h)
  ·exact .inr (.inr h)
def uf{M:Addr->Prop}{T Z:Fz}(p:T.Perm Z):Mo M T=Mo M Z:=by
 funext b
 apply propext;simp only[Mo,yE];rw[(p.filterMap uQ).mem_iff]
def ZT(M:Addr->Prop)(o:Option V)(d:D)(Z:Fz):Mo M ((o,.v d)::Z)=Mo M Z:=by unfold Mo;rw[za]
def Mo_emp(M:Addr->Prop)(o:Option V)(Z:Fz):Mo M ((o,.e)::Z)=Mo M Z:=by unfold Mo;rw[yg]
structure FR(K:qH)(mg:Str->Option Value)(M:Addr->Prop)(H:Hp)(Z:Fz):Prop where
 val:∀o d,(o,Slot.v d)∈Z->∃v,o=some v/\Rep K mg (Hm (Mo M Z) H) d v
 own:∀o s ds,(o,s)∈Z->s.list?=some ds->∃a xs,o=some (.ref a)/\H a=some (.l xs)/\¬M a/\Reps K mg (Hm (Mo M Z) H) ds xs
 nd:(yE Z).Nodup
 mal:∀b,M b->∃xs,H b=some (.l xs)
structure Step(M:Addr->Prop)(H:Hp)(Z:Fz)(H':Hp)(Z':Fz):Prop where
 same:YJ (Hm (Mo M Z) H) (Hm (Mo M Z') H')
 keep:∀b o,M b->H b=some o->H' b=some o
section
variable{K:qH}{mg:Str->Option Value}{M:Addr->Prop}{H H' H1 H2:Hp}{Z Z' T Z1 Z2:Fz}
theorem Step.refl:Step M H Z H Z:=⟨YJ.refl _,λ_ _ _ h=>h⟩
theorem Step.trans(a:Step M H Z H1 Z1)(b:Step M H1 Z1 H2 Z2):Step M H Z H2 Z2 :=
 ⟨a.same.trans b.same,λx o m h=>b.keep x o m (a.keep x o m h)⟩
def Jn(h:∀b,b∈yE Z->b∈yE Z'):∀b,Mo M Z b->Mo M Z' b:=λb q=>q.elim .inl λq=>.inr (h b q)
def Step.weak(a:Step M H Z H' Z')(h:∀b,b∈yE T->b∈yE Z'):Step M H Z H' T :=
 ⟨a.same.trans (jh (Jn h)),a.keep⟩
def Step.left(a:Step M H Z H' Z')(h:∀b,b∈yE Z->b∈yE T):Step M H T H' Z' :=
 ⟨(jh (Jn h)).trans a.same,a.keep⟩
def zD(h:T.Sublist Z):∀b,b∈yE T->b∈yE Z:=λb q=>(h.filterMap uQ).subset q
def zC(h:T.Perm Z):∀b,b∈yE T->b∈yE Z:=λb q=>(h.filterMap uQ).subset q
def FR.perm(h:FR K mg M H Z)(p:Z.Perm T):FR K mg M H T where
 val:=λo d q=>by rw[<- uf p];exact h.val o d (p.mem_iff.mpr q)
 own:=λo s ds q e=>by rw[<- uf p];exact h.own o s ds (p.mem_iff.mpr q) e
 nd:=(p.filterMap uQ).nodup_iff.mp h.nd
 mal:=h.mal
def FR.sub(h:FR K mg M H Z)(p:T.Sublist Z):FR K mg M H T where
 val:=λo d q=>by
  obtain⟨v,e,r⟩:=h.val o d (p.subset q);exact⟨v,e,r.mono (jh (Jn (zD p)))⟩
 own:=λo s ds q e=>by
  obtain⟨a,xs,e1,e2,e3,r⟩:=h.own o s ds (p.subset q) e;exact⟨a,xs,e1,e2,e3,r.mono (jh (Jn (zD p)))⟩
 nd:=h.nd.sublist (p.filterMap uQ)
 mal:=h.mal
def FR.tail{x:Option V×Slot}(h:FR K mg M H (x::Z)):FR K mg M H Z:=h.sub (sublist_cons_self _ _)
def jR{o:Option V}{s:Slot}{ds:List D}{a:Addr}(h:(o,s)∈Z)(e:s.list?=some ds)(ho:o=some (.ref a)):a∈yE Z:=by
 subst ho;refine mem_filterMap.mpr ⟨_,h,?_⟩;cases s<;>simp[Slot.list?]at e<;>rfl
def ug{a:Addr}(h:a∈yE Z):∃s ds,(some (V.ref a),s)∈Z/\Slot.list? s=some ds:=by
 obtain⟨⟨o,s⟩,h1,h2⟩:=mem_filterMap.mp h;unfold uQ at h2;split at h2
 ·rename_i e;cases e;cases h2;exact⟨_,_,h1,rfl⟩
 ·rename_i e;cases e;cases h2;exact⟨_,_,h1,rfl⟩
 ·cases h2
def FR.ownAt(h:FR K mg M H Z){a:Addr}(e:a∈yE Z):∃xs,H a=some (.l xs)/\¬M a:=by
 obtain⟨s,ds,h1,h2⟩:=ug e;obtain⟨a',xs,e1,e2,e3,_⟩:=h.own _ s ds h1 h2;cases e1;exact⟨xs,e2,e3⟩
def FR.moAl(h:FR K mg M H Z)(b:Addr)(e:Mo M Z b):∃xs,H b=some (.l xs):=by
 rcases e with e|e
 ·exact h.mal b e
 ·obtain⟨xs,q,_⟩:=h.ownAt e
  exact⟨_,q⟩
def FR.inner(h:FR K mg M H (T++Z)):FR K mg (Mo M T) H Z where
 val:=λo d q=>by rw[<- y8];exact h.val o d (qK _ q)
 own:=λo s ds q e=>by
  obtain⟨a,xs,e1,e2,e3,r⟩:=h.own o s ds (qK _ q) e;refine⟨a,xs,e1,e2,λm=>?_,by rw[<- y8];exact r⟩;rcases m with m|m
  ·exact e3 m
  ·have nd:=h.nd
   rw[zc]at nd;exact(nodup_append.mp nd).2.2 a m a (jR q e e1) rfl
 nd:=by
  have nd:=h.nd;rw[zc]at nd;exact(nodup_append.mp nd).2.1
 mal:=λb q=>by
  rcases q with q|q
  ·exact h.mal b q
  ·obtain⟨xs,q,_⟩:=h.ownAt (a:=b) (by rw[zc];exact mem_append_left _ q)
   exact⟨_,q⟩
def FR.outer(h:FR K mg M H (T++Z))(g:FR K mg (Mo M T) H' Z')(st:Step (Mo M T) H Z H' Z'):FR K mg M H' (T++Z') where
 val:=λo d q=>by
  rw[y8];rcases mem_append.mp q with q|q
  ·obtain⟨v,e,r⟩:=h.val o d (mem_append_left _ q)
   rw[y8]at r;exact⟨v,e,r.mono st.same⟩
  ·exact g.val o d q
 own:=λo s ds q e=>by
  rw[y8];rcases mem_append.mp q with q|q
  ·obtain⟨a,xs,e1,e2,e3,r⟩:=h.own o s ds (mem_append_left _ q) e
   rw[y8]at r;exact⟨a,xs,e1,st.keep a _ (.inr (jR q e e1)) e2,e3,r.mono st.same⟩
  ·obtain⟨a,xs,e1,e2,e3,r⟩:=g.own o s ds q e
   exact⟨a,xs,e1,e2,λm=>e3 (.inl m),r⟩
 nd:=by
  rw[zc];have nd:=h.nd;rw[zc]at nd;refine nodup_append.mpr ⟨(nodup_append.mp nd).1,g.nd,λa ha b hb e=>?_⟩;subst e;obtain⟨xs,_,q⟩:=g.ownAt hb;exact q (.inr ha)
 mal:=λb q=>g.mal b (.inl q)
def Step.outer(st:Step (Mo M T) H Z H' Z'):Step M H (T++Z) H' (T++Z') :=
 ⟨by rw[y8,y8];exact st.same,λb o m h=>st.keep b o (.inl m) h⟩
def yh{p:Addr}{o:HO}(hp:H p=none):YJ H (upd H p o):=λb u e=>by
 rw[zH (λq=>by subst q;rw[hp]at e;cases e)];exact e
def FR.grow(h:FR K mg M H Z){p:Addr}{o:HO}(hp:H p=none):FR K mg M (upd H p o) Z where
 val:=λo' d q=>by
  obtain⟨v,e,r⟩:=h.val o' d q;exact⟨v,e,r.mono λb u x=>zP.mpr ⟨(zP.mp x).1,yh hp b u (zP.mp x).2⟩⟩
 own:=λo' s ds q e=>by
  obtain⟨a,xs,e1,e2,e3,r⟩:=h.own o' s ds q e;exact⟨a,xs,e1,yh hp _ _ e2,e3,r.mono λb u x=>zP.mpr ⟨(zP.mp x).1,yh hp b u (zP.mp x).2⟩⟩
 nd:=h.nd
 mal:=λb q=>by obtain⟨u,e⟩:=h.mal b q;exact⟨u,yh hp _ _ e⟩
def Step.grow{p:Addr}{o:HO}(hp:H p=none):Step M H Z (upd H p o) Z :=
 ⟨λb u x=>zP.mpr ⟨(zP.mp x).1,yh hp b u (zP.mp x).2⟩,λb u _ e=>yh hp b u e⟩
def FR.add(h:FR K mg M H Z){v:V}{d:D}(r:Rep K mg (Hm (Mo M Z) H) d v):FR K mg M H ((some v,.v d)::Z) where
 val:=λo d' q=>by
  rw[ZT];rcases mem_cons.mp q with q|q
  ·cases q;exact⟨v,rfl,r⟩
  ·exact h.val o d' q
 own:=λo s ds q e=>by
  rw[ZT];rcases mem_cons.mp q with q|q
  ·cases q;cases e
  ·exact h.own o s ds q e
 nd:=by rw[za];exact h.nd
 mal:=h.mal
def Step.add{v:Option V}{d:D}(st:Step M H Z H' Z'):Step M H Z H' ((v,.v d)::Z'):=by
 refine⟨?_,st.keep⟩;rw[ZT];exact st.same
def Jo(h:FR K mg M H Z){p:Addr}(hp:H p=none):¬Mo M Z p:=λq=>by
 obtain⟨o,e⟩:=h.moAl p q;rw[hp]at e;cases e
def j6(h:FR K mg M H Z){p:Addr}{ds:List D}{xs:List V}(hp:H p=none):YJ (Hm (Mo M Z) H) (Hm (Mo M ((some (.ref p),.own ds)::Z)) (upd H p (.l xs))):=λb u x=>by
 obtain⟨h1,h2⟩:=zP.mp x;refine zP.mpr ⟨λq=>?_,yh hp _ _ h2⟩;rcases q with q|q
 ·exact h1 (.inl q)
 ·rw[Jm]at q
  rcases mem_cons.mp q with q|q
  ·subst q;rw[hp]at h2;cases h2
  ·exact h1 (.inr q)
def FR.newOwn(h:FR K mg M H Z){p:Addr}{ds:List D}{xs:List V}(hp:H p=none)(r:Reps K mg (Hm (Mo M Z) H) ds xs):FR K mg M (upd H p (.l xs)) ((some (.ref p),.own ds)::Z) where
 val:=λo d q=>by
  rcases mem_cons.mp q with q|q
  ·cases q
  ·obtain⟨v,e,r⟩:=h.val o d q
   exact⟨v,e,r.mono (j6 h hp)⟩
 own:=λo s ds' q e=>by
  rcases mem_cons.mp q with q|q
  ·cases q;cases e
   exact⟨p,xs,rfl,zU,λm=>Jo h hp (.inl m),r.mono (j6 h hp)⟩
  ·obtain⟨a,ys,e1,e2,e3,r⟩:=h.own o s ds' q e
   exact⟨a,ys,e1,yh hp _ _ e2,e3,r.mono (j6 h hp)⟩
 nd:=by
  rw[Jm];exact nodup_cons.mpr ⟨λq=>Jo h hp (.inr q),h.nd⟩
 mal:=λb q=>by obtain⟨u,e⟩:=h.mal b q;exact⟨u,yh hp _ _ e⟩
def Step.newOwn(h:FR K mg M H Z){p:Addr}{ds:List D}{xs:List V}(hp:H p=none):Step M H Z (upd H p (.l xs)) ((some (.ref p),.own ds)::Z) :=
 ⟨j6 h hp,λb u _ e=>yh hp b u e⟩
def FR.newTup(h:FR K mg M H Z){p:Addr}{ds:List D}{xs:List V}(hp:H p=none)(r:Reps K mg (Hm (Mo M Z) H) ds xs):FR K mg M (upd H p (.t xs)) ((some (.ref p),.v (.t ds))::Z):=by
 refine(h.grow hp).add ?_;simp only[Rep];refine⟨p,xs,rfl,SqT.of (zP.mpr ⟨Jo h hp,zU⟩),r.mono λb u x=>zP.mpr ⟨(zP.mp x).1,yh hp b u (zP.mp x).2⟩⟩
def Step.newVal{p:Addr}{o:HO}{v:Option V}{d:D}(hp:H p=none):Step M H Z (upd H p o) ((v,.v d)::Z):=(Step.grow hp).add
def FR.frz{o:Option V}{r:R}(h:FR K mg M H ((o,r.slot)::Z)):FR K mg M H ((o,.v r.d)::Z):=by
 cases r with
 |v d=>exact h
 |own ds =>
  obtain⟨a,xs,e1,e2,e3,rr⟩:=h.own o (.own ds) ds qE rfl;subst e1;have hn:¬Mo M Z a:=λq=>by
   rcases q with q|q
   ·exact e3 q
   ·exact(nodup_cons.mp h.nd).1 q
  refine h.tail.add ?_;simp only[R.d,Rep];exact⟨a,xs,rfl,SqL.of (zP.mpr ⟨hn,e2⟩),rr.mono (jh (Jn (zD (sublist_cons_self _ _))))⟩
def Step.frz{o:Option V}{r:R}(h:Step M H Z H' ((o,r.slot)::Z')):Step M H Z H' ((o,.v r.d)::Z'):=by
 cases r with
 |v d=>exact h
 |own ds =>
  refine h.weak λb q=>?_
  rw[za]at q;exact(zD (sublist_cons_self _ _)) b q
theorem Wk:∀(O:St) (E:zQ) (i:Nat) (o:Option V) (s:Slot),(O.set i o).zip (E.set i s)=(O.zip E).set i (o,s)
 | [],_,_,_,_=>by simp|_::_,[],_,_,_=>by simp|x::O,y::E,0,o,s=>by simp|x::O,y::E,i+1,o,s=>by simp[Wk O E i o s]
theorem zr{α:Type}(x:α):∀(l:List α) (i:Nat),i<l.length->(l.set i x).Perm (x::l.eraseIdx i)
 | [],_,h=>by simp at h|y::l,0,_=>List.Perm.refl _
 |y::l,i+1,h=>by
  have ih:=zr x l i (by simpa using h);simp only[List.set_cons_succ,List.eraseIdx_cons_succ];exact(ih.cons y).trans (List.Perm.swap x y _)
def FR.put(h:FR K mg M H (((o:Option V),s)::Z)){i:Nat}(hi:i<Z.length):FR K mg M H (Z.set i (o,s)) :=
 (h.sub ((List.eraseIdx_sublist Z i).cons_cons (o,s))).perm (zr _ _ _ hi).symm
def Step.put{o:Option V}{s:Slot}(h:Step M H Z H' ((o,s)::Z')){i:Nat}(hi:i<Z'.length):Step M H Z H' (Z'.set i (o,s)):=by
 refine h.weak λb q=>?_
 exact zD ((List.eraseIdx_sublist Z' i).cons_cons (o,s)) b (zC (zr _ _ _ hi) b q)
end
inductive Out(α:Type) where
 |z
 |ok (a:α)
 |exc (x:Exn) (E:zQ)
 deriving Inhabited
abbrev ME:=zQ->Out (R×zQ)
abbrev MA:=zQ->Out (List R×zQ)
abbrev MT:=zQ->Out (Bool×zQ)
def PKp(O:St)(E:zQ)(O':St)(E':zQ):Prop:=∀(i:Nat) ds,E[i]?=some (.par ds)->(∃ds',E'[i]?=some (.par ds'))/\O'[i]?=O[i]?
def PKp.refl{O:St}{E:zQ}:PKp O E O E:=λi ds h=>⟨⟨ds,h⟩,rfl⟩
theorem PKp.trans{O O1 O2:St}{E E1 E2:zQ}(a:PKp O E O1 E1)(b:PKp O1 E1 O2 E2):PKp O E O2 E2:=λi ds h=>by
 obtain⟨⟨ds1,h1⟩,e1⟩:=a i ds h;obtain⟨h2,e2⟩:=b i ds1 h1;exact⟨h2,e2.trans e1⟩
structure Got(K:qH)(mg:Str->Option Value)(M:Addr->Prop)(O:St)(E:zQ)(H:Hp)(T0:Fz)(O':St)(E':zQ)(H':Hp)(T:Fz):Prop where
 len:E'.length=O'.length
 fr:FR K mg M H' (T++(T0++O'.zip E'))
 st:Step M H (T0++O.zip E) H' (T++(T0++O'.zip E'))
 pk:PKp O E O' E'
def zAL(vs:List V)(rs:List R):Fz:=(vs.zip rs).map λp=>(some p.1,p.2.slot)
def KM(X:Cx)(M:Addr->Prop)(O:St)(E:zQ)(H:Hp)(T0:Fz)(Q:VK):Out (R×zQ)->Prop
 | .z=>False| .ok (r,E')=>∀v H',Got X.K X.mg M O E H T0 O E' H' [(some v,r.slot)]->Q v H'| .exc x E'=>∀H',Got X.K X.mg M O E H T0 O E' H' []->XE X O H' x
def KT(X:Cx)(M:Addr->Prop)(O:St)(E:zQ)(H:Hp)(T0:Fz)(Q:Bool->Hp->Prop):Out (Bool×zQ)->Prop
 | .z=>False| .ok (b,E')=>∀H',Got X.K X.mg M O E H T0 O E' H' []->Q b H'| .exc x E'=>∀H',Got X.K X.mg M O E H T0 O E' H' []->XE X O H' x
def KA(X:Cx)(M:Addr->Prop)(O:St)(E:zQ)(H:Hp)(T0:Fz)(Q:List V->Hp->Prop):Out (List R×zQ)->Prop
 | .z=>False| .ok (rs,E')=>∀vs H',vs.length=rs.length->Got X.K X.mg M O E H T0 O E' H' (zAL vs rs)->Q vs H'| .exc x E'=>∀H',Got X.K X.mg M O E H T0 O E' H' []->XE X O H' x
def tM(X:Cx)(m:ME):TE:=λO H Q=>∃M E,E.length=O.length/\FR X.K X.mg M H (O.zip E)/\KM X M O E H [] Q (m E)
def tMT(X:Cx)(m:MT):TT:=λO H Q=>∃M E,E.length=O.length/\FR X.K X.mg M H (O.zip E)/\KT X M O E H [] Q (m E)
def tMA(X:Cx)(m:MA):TA:=λO H Q=>∃M E,E.length=O.length/\FR X.K X.mg M H (O.zip E)/\KA X M O E H [] Q (m E)
abbrev EOk(X:Cx)(e:Expr)(m:ME):Prop:=PE X e (tM X m)
abbrev TOk(X:Cx)(e:Expr)(m:MT):Prop:=PT X e (tMT X m)
abbrev AOk(X:Cx)(es:List Expr)(m:MA):Prop:=PA X es (tMA X m)
def zf{X:Cx}{e:Expr}{t t':TE}(h:PE X e t)(i:∀O H Q,t' O H Q->t O H Q):PE X e t':=λpins s O H Q I q=>h pins s O H Q I (i O H Q q)
def WP{X:Cx}{e:Expr}{t t':TT}(h:PT X e t)(i:∀O H Q,t' O H Q->t O H Q):PT X e t':=λpins s O H Q I q=>h pins s O H Q I (i O H Q q)
def zDo{X:Cx}{e:Expr}{t t':TT}(h:PW X e t)(i:∀O H Q,t' O H Q->t O H Q):PW X e t':=λwh pins s O H Q I q=>h wh pins s O H Q I (i O H Q q)
def WQ{X:Cx}{e:List Expr}{t t':TA}(h:PA X e t)(i:∀O H Q,t' O H Q->t O H Q):PA X e t':=λp pins s O H Q I q=>h p pins s O H Q I (i O H Q q)
def wM{X:Cx}{e:Stmt}{t t':TS}(h:PS X e t)(i:∀D O H,t' D O H->t D O H):PS X e t':=λpins s O H D I q=>h pins s O H D I (i D O H q)
def zAM{X:Cx}{e:List Stmt}{t t':TS}(h:PSs X e t)(i:∀D O H,t' D O H->t D O H):PSs X e t':=λpins s O H D I q=>h pins s O H D I (i D O H q)
section
variable{X:Cx}{K:qH}{mg:Str->Option Value}{M:Addr->Prop}{O O' O1 O2:St}{E E' E1 E2:zQ}{H H' H1 H2:Hp}{T0 T T1 T2:Fz}{Q:VK}
def swapP{α:Type}(A B C:List α):(A++(B++([]++C))).Perm (B++(A++C)):=by
 rw[nil_append,<- append_assoc,<- append_assoc];exact(perm_append_comm).append_right _
def Y7{α:Type}{l:List α}{i:Nat}{x:α}(h:l[i]?=some x):l.set i x=l:=by
 obtain⟨hi,rfl⟩:=qG.mp h;exact List.set_getElem_self hi
theorem Got.outer(h:FR K mg M H (T0++O.zip E))(g:Got K mg (Mo M T0) O E H [] O' E' H' T):Got K mg M O E H T0 O' E' H' T where
 len:=g.len
 fr:=by
  have q:=FR.outer h g.fr g.st;exact q.perm (swapP _ _ _)
 st:=by
  have q:=Step.outer g.st;refine q.weak λb hb=>?_
  exact zC (swapP _ _ _).symm b hb
 pk:=g.pk
theorem Got.trans(a:Got K mg M O E H T0 O1 E1 H1 T1)(b:Got K mg M O1 E1 H1 (T1++T0) O2 E2 H2 T2):Got K mg M O E H T0 O2 E2 H2 (T2++T1) where
 len:=b.len
 fr:=by
  have q:=b.fr;rw[append_assoc]at q;rw[append_assoc];exact q
 st:=by
  have q:=b.st;rw[append_assoc,append_assoc]at q;rw[append_assoc];exact a.st.trans q
 pk:=a.pk.trans b.pk
def Got.drop(a:Got K mg M O E H T0 O1 E1 H1 (T2++T1)):Got K mg M O E H T0 O1 E1 H1 T1 where
 len:=a.len
 fr:=a.fr.sub (by rw[append_assoc];exact sublist_append_right _ _)
 st:=a.st.weak (zD (by rw[append_assoc];exact sublist_append_right _ _))
 pk:=a.pk
def Got.dropAll(a:Got K mg M O E H T0 O1 E1 H1 T1):Got K mg M O E H T0 O1 E1 H1 [] where
 len:=a.len
 fr:=a.fr.sub (sublist_append_right _ _)
 st:=a.st.weak (zD (sublist_append_right _ _))
 pk:=a.pk
def Got.trans'(a:Got K mg M O E H [] O1 E1 H1 T1)(b:Got K mg M O1 E1 H1 T1 O2 E2 H2 T2):Got K mg M O E H [] O2 E2 H2 (T2++T1):=a.trans (by rw[append_nil];exact b)
theorem Got.refl(hl:E.length=O.length)(h:FR K mg M H (T0++O.zip E)):Got K mg M O E H T0 O E H []:=⟨hl,h,Step.refl,PKp.refl⟩
def Got.more(a:Got K mg M O E H [] O1 E1 H1 T1)(f:FR K mg M H2 (T++O1.zip E1))(s:Step M H1 (O1.zip E1) H2 (T++O1.zip E1)):Got K mg M O E H [] O1 E1 H2 T where
 len:=a.len
 fr:=f
 st:=(a.st.weak (zD (sublist_append_right _ _))).trans s
 pk:=a.pk
def Got.frame(a:Got K mg M O E H [] O1 E1 H1 T1):FR K mg M H1 (O1.zip E1):=a.fr.sub (sublist_append_right _ _)
def WR(v:V)(r:R)(vs:List V)(rs:List R):zAL (v::vs) (r::rs)=(some v,r.slot)::zAL vs rs:=rfl
theorem zAN:∀{vs:List V} {rs:List R} {Z:Fz},vs.length=rs.length->FR K mg M H (zAL vs rs++Z)->Reps K mg (Hm (Mo M Z) H) (rs.map R.d) vs
 | [],[],Z,_,h=>Reps.nil
 |v::vs,r::rs,Z,hl,h=>by
  rw[WR,cons_append]at h;refine Reps.cons ?_ (zAN (by simpa using hl) h.tail);obtain⟨v',e,q⟩:=h.frz.val (some v) r.d qE;cases e;refine q.mono (jh (Jn λb hb=>?_));rw[za,zc];exact qK _ hb
def Got.reps{vs:List V}{rs:List R}(hl:vs.length=rs.length)(a:Got K mg M O E H [] O1 E1 H1 (zAL vs rs)):Reps K mg (Hm (Mo M (O1.zip E1)) H1) (rs.map R.d) vs:=zAN hl a.fr
def Got.rep{v:V}{r:R}(a:Got K mg M O E H [] O1 E1 H1 [(some v,r.slot)]):Rep K mg (Hm (Mo M (O1.zip E1)) H1) r.d v:=by
 have q:=Got.reps (vs:=[v]) (rs:=[r]) rfl a;simp only[List.map,Reps]at q;obtain⟨v',r',e,h,_⟩:=q;cases e;exact h
def zk{m:ME}(hl:E.length=O.length)(h:FR X.K X.mg M H (T0++O.zip E))
  (k:KM X M O E H T0 Q (m E)):tM X m O H Q:=by
 refine⟨Mo M T0,E,hl,h.inner,?_⟩;cases e:m E with
 |z=>rw[e]at k;exact k|ok a=>rw[e]at k;exact λv H' g=>k v H' (g.outer h)|exc x E'=>rw[e]at k;exact λH' g=>k H' (g.outer h)
def JO{m:MT}{Q:Bool->Hp->Prop}(hl:E.length=O.length)(h:FR X.K X.mg M H (T0++O.zip E))
  (k:KT X M O E H T0 Q (m E)):tMT X m O H Q:=by
 refine⟨Mo M T0,E,hl,h.inner,?_⟩;cases e:m E with
 |z=>rw[e]at k;exact k|ok a=>rw[e]at k;exact λH' g=>k H' (g.outer h)|exc x E'=>rw[e]at k;exact λH' g=>k H' (g.outer h)
def ZU{m:MA}{Q:List V->Hp->Prop}(hl:E.length=O.length)(h:FR X.K X.mg M H (T0++O.zip E))
  (k:KA X M O E H T0 Q (m E)):tMA X m O H Q:=by
 refine⟨Mo M T0,E,hl,h.inner,?_⟩;cases e:m E with
 |z=>rw[e]at k;exact k|ok a=>rw[e]at k;exact λvs H' hv g=>k vs H' hv (g.outer h)|exc x E'=>rw[e]at k;exact λH' g=>k H' (g.outer h)
def eC(d:D):ME:=λE=>.ok (.v d,E)
def flat:D->Bool
 | .non | .bl _ | .int _ | .str _=>true
 |_=>false
def flV:D->V
 | .bl b=>.bl b| .int i=>.int i| .str x=>.str x|_=>.non
def Wl{d:D}(h:flat d=true):Rep K mg H d (flV d):=by
 cases d<;>simp[flat]at h<;>simp[Rep,flV]
theorem Got.flat(a:Got K mg M O E H [] O1 E1 H1 T1){d:D}(h:flat d=true):Got K mg M O E H [] O1 E1 H1 [(some (flV d),.v d)] :=
 a.more (a.frame.add (Wl h)) Step.refl.add
def ok_c{e:Expr}{d:D}(h:PE X e (tC (flV d)))(hf:flat d=true:=by rfl):EOk X e (eC d):=zf h λO H Q ⟨M,E,hl,f,k⟩ =>
 k (flV d) H ((Got.refl (T0:=[]) hl f).flat hf)
def ok_int{i j pos}:EOk X (.Constant (.int i) j pos) (eC (.int i)):=ok_c vE
def ok_bl{b j pos}:EOk X (.Constant (.bool b) j pos) (eC (.bl b)):=ok_c pe_bl
def ok_non{j pos}:EOk X (.Constant .none j pos) (eC .non):=ok_c pe_non
def ok_str{x j pos}:EOk X (.Constant (.str x) j pos) (eC (.str x)):=ok_c zDe
def QL(i:Nat):ME:=λE=>match E[i]? with
 |some (.v d)=>.ok (.v d,E)|some (.own ds)=>.ok (.v (.l ds),E.set i (.v (.l ds)))|_=>.z
def YM{i:Nat}{s:Slot}(hl:E.length=O.length)(h:E[i]?=some s):∃o,O[i]?=some o/\(O.zip E)[i]?=some (o,s):=by
 have hi:i<E.length:=(qG.mp h).1;have:i<O.length:=hl▸hi;refine⟨O[i],by simp[this],?_⟩;rw[List.getElem?_zip_eq_some];exact⟨by simp[this],h⟩
def j7{i:Nat}{s:Slot}(hl:E.length=O.length)(h:E[i]?=some s):∃o,O[i]?=some o/\(o,s)∈O.zip E:=by
 obtain⟨o,h1,h2⟩:=YM hl h;exact⟨o,h1,mem_of_getElem? h2⟩
def yO{i:Nat}{o:Option V}(s:Slot)(h:O[i]?=some o):O.zip (E.set i s)=(O.zip E).set i (o,s):=by
 rw[<- Wk];congr 1;have hi:i<O.length:=(qG.mp h).1;apply List.ext_getElem?;intro j;by_cases e:i=j
 ·subst e;rw[getElem?_set_self hi,h]
 ·rw[getElem?_set_ne e]
def pk_set{i:Nat}{s:Slot}{ds0:List D}(h:E[i]?=some s)(hs:∀ds,s≠.par ds)(o:Slot):PKp O E O (E.set i o):=λj ds e=>by
 have ne:i≠j:=λq=>by subst q;rw[h]at e;exact hs ds (qJ e)
 exact⟨⟨ds,by rw[getElem?_set_ne ne];exact e⟩,rfl⟩
def ok_var(i:Nat){x:Str}{pos:Pos}(h:PE X (.Name x pos) (Z5 i)):EOk X (.Name x pos) (QL i):=zf h λO H Q ⟨M,E,hl,f,k⟩=>by
 unfold QL at k;cases e:E[i]? with
 |none=>rw[e]at k;exact k.elim
 |some sl =>
 rw[e]at k;cases sl with
 |e=>exact k.elim|par ds=>exact k.elim
 |v d =>
  obtain⟨o,h1,h2⟩:=j7 hl e;obtain⟨v,rfl,r⟩:=f.val o d h2;exact⟨v,h1,k v H ⟨hl,f.add r,Step.refl.add,PKp.refl⟩⟩
 |own ds =>
  obtain⟨o,h1,h2⟩:=YM hl e;obtain⟨a,xs,rfl,q1,q2,q3⟩:=f.own o (.own ds) ds (mem_of_getElem? h2) rfl;refine⟨.ref a,h1,k _ H ?_⟩;have hlt:i<(O.zip E).length:=(qG.mp h2).1;have p:(O.zip E).Perm ((some (.ref a),R.slot (.own ds))::(O.zip E).eraseIdx i):=by
   have:=zr (some (V.ref a),Slot.own ds) (O.zip E) i hlt;rw[Y7 h2]at this;exact this
  have f1:=(f.perm p).frz;have f2:FR X.K X.mg M H ((O.zip E).set i (some (.ref a),.v (.l ds))):=f1.perm (zr _ _ _ hlt).symm;rw[<- yO (.v (.l ds)) h1]at f2;have r:=f1.val _ _ qE;obtain⟨v,ev,rr⟩:=r;cases ev;have em:Mo M ((some (V.ref a),Slot.v (R.own ds).d)::(O.zip E).eraseIdx i)=Mo M (O.zip (E.set i (.v (.l ds)))):=by
   rw[yO (.v (.l ds)) h1];exact(uf (zr _ _ _ hlt)).symm
  rw[em]at rr;refine⟨by simp[hl],f2.add rr,?_,?_⟩
  ·refine Step.add ?_
   refine Step.weak Step.refl λb hb=>?_
   refine zC p.symm b ?_;rw[nil_append,yO (.v (.l ds)) h1]at hb;have hb':=zC (zr _ _ _ hlt) b hb;rw[za]at hb';exact zD (sublist_cons_self _ _) b hb'
  ·exact pk_set (ds0:=[]) e (λds' q=>by cases q) _
end
def zW:Expr->Bool
 | .Starred _ _=>true|_=>false
def yM:List Expr->Bool
 | []=>true|e::es=>!zW e&&yM es
def zJ{e:Expr}{es:List Expr}{env:Env}(h:zW e=false):starEach (e::es) env=(false,eval e env)::starEach es env:=by
 cases e<;>first|rfl|(cases h)
def star1{a:Expr}{env:Env}(ha:zW a=false):starEach [a] env=[(false,eval a env)]:=by
 rw[zJ ha];rfl
def jG:Expr->Bool
 | .Set _ _ _=>false|_=>true
def Jp{e:Expr}{env:Env}(h:jG e=true):∀x,foldedSetIterable e env x=pure x:=by
 intro x;cases e<;>first|rfl|(cases h)
def ZV:Expr->Bool
 | .ListComp _ _ _ _=>false| .SetComp _ _ _ _=>false| .DictComp _ _ _ _ _=>false|_=>true
def GO{e:Expr}{t:Option Expr}{l:Nat}{env:Env}(h:ZV e=true):swapsWith e t l env=pure false:=by
 cases e<;>first|rfl|(cases h)
def zDp:Expr->Bool
 | .UnaryOp .Not _ _=>false| .BoolOp _ _ _=>false| .IfExp _ _ _ _=>false| .Compare _ _ _ _=>false|_=>true
def test_of{e:Expr}{env:Env}(h:zDp e=true):∀whole,isTrue e env whole=(do let v <- whole;standAt e.pos;holding [v] (truthy v)):=by
 intro x;cases e<;>first|rfl|(cases h)|skip;rename_i op _ _;cases op<;>first|rfl|(cases h)
def Z7:Expr->Bool
 | .Slice _ _ _ _=>false|_=>true
theorem vV{env:Env}:∀{es:List Expr},yM es=true->(starEach es env).any (·.1)=false
 | [],_=>rfl
 |e::es,h=>by
  simp only[yM,Bool.and_eq_true,Bool.not_eq_true']at h;rw[zJ h.1];simp[vV h.2]
def zCT(pos:Pos)(l:List (Bool×Sem Value)):(backTo pos l).any (·.1)=l.any (·.1):=by
 unfold backTo;rw[List.any_map];rfl
def y9{env:Env}{es:List Expr}{pos:Pos}(h:yM es=true):(backTo pos (starEach es env)).any (·.1)=false:=by
 rw[zCT,vV h]
end DV
namespace L2
open PySem PySem.Spec PyProof.Rows
section
variable{X:Cx}
def zDq(K:qH):R2:=λx y H Q=>∃a b xs ys,x=.ref a/\y=.ref b/\SqT K H a xs/\SqT K H b ys/\xs.length+ys.length<=sizeLine /\
 (xs=[]->Q (.ref b) H)/\(xs≠[]->ys=[]->Q (.ref a) H)/\(xs≠[]->ys≠[]->∀p,H p=none->Q (.ref p) (upd H p (.t (xs++ys))))
def zCU:OpR X (binaryOp .Add) (zDq X.K):=by
 intro pins s O H x y v u Q I rx ry h;obtain⟨a,b,xs,ys,rfl,rfl,ha,hb,hz,q0,q1,q2⟩:=h;cases rx;cases ry;obtain⟨its,r1,p1,_⟩:=I.tuple ha;obtain⟨its2,r2,p2,_⟩:=I.tuple hb;by_cases hx:xs=[]
 ·have hi:its=[]:=r1.nil_iff.mpr hx
  obtain⟨⟨cls,dd,data,sl⟩,ho,hc,n,hd⟩:=id p1;obtain⟨⟨cls2,dd2,data2,sl2⟩,ho2,hc2,n2,hd2⟩:=id p2;simp only at hc hd hc2 hd2;subst hc hd hc2 hd2;exact concat_meets ⟨_,ho,rfl⟩ ⟨_,ho2,rfl⟩ noFill_tuple_add seq_tuple_add PySem.F.slot_tuple_add PySem.F.entry_tuple_add (PySem.F.args_tuple_add_2 _ _)
   (tuple_addW0 a b its.toArray its2.toArray n n2 dd dd2 sl sl2 (by simp[hi])) ⟨ho,ho2,⟨.ref b,H,I,rfl,q0 hx⟩⟩
 ·exact op_catT pins s O H (.ref a) (.ref b) (.ref a) (.ref b) Q I rfl rfl ⟨a,b,xs,ys,rfl,rfl,ha,hb,hx,hz,q1 hx,q2 hx⟩
def rCatL(K:qH):R2:=λx y H Q=>∃l b xs zs,x=.ref l/\y=.ref b/\SqL K H l xs/\SqL K H b zs/\xs.length+zs.length<=sizeLine/\∀p,H p=none->Q (.ref p) (upd H p (.l (xs++zs)))
def op_catL:OpR X (binaryOp .Add) (rCatL X.K):=by
 intro pins s O H x y v u Q I rx ry h;obtain⟨l,b,xs,zs,rfl,rfl,hH,hB,hz,q⟩:=h;cases rx;cases ry;obtain⟨its,r,pl,_⟩:=I.list hH;obtain⟨its2,r2,pl2,_⟩:=I.list hB;have hl:=r.length;have hl2:=r2.length;obtain⟨⟨cls,dd,data,sl⟩,n,ho,hc,hdd,hd⟩:=pl;obtain⟨⟨cls2,dd2,data2,sl2⟩,n2,ho2,hc2,hdd2,hd2⟩:=pl2;simp only at hc hd hc2 hd2;subst hc hd hc2 hd2;refine concat_meets ⟨_,ho,rfl⟩ ⟨_,ho2,rfl⟩ noFill_list_add seq_list_add PySem.F.slot_list_add PySem.F.entry_list_add (PySem.F.args_list_add_2 _ _) (list_addW l b its.toArray its2.toArray n n2 dd dd2 sl sl2 (by rw[size_toArray,size_toArray];omega)) ⟨ho,ho2,?_⟩;have ea:its.toArray++its2.toArray=(its++its2).toArray:=by simp
 rw[ea];exact⟨.ref _,_,I.lnew (t':=s.toks) (r.append r2) (by rw[length_append];omega),rfl,q _ I.fresh⟩
def JP{prog:Program}{w:World}{A:Around}{E:Value->Shared->Prop}{s:Shared}{t sl:Addr}{items:Array Value}{vl vu:Value}{lo hi:Option Int}{Q:Value->Shared->Prop}(ht:IsTup s.heap t items)(hs:s.heap.IsSliceOf sl vl vu .none)(pl:IsPart vl lo)(pu:IsPart vu hi)
  (h1:HT.sIx items.size 0 lo=0) (h2:HT.sIx items.size items.size hi=items.size)
  (h:Q (.ref t) s):wpAny (model prog w) A (getItem (.ref t) (.ref sl)) Q E s:=by
 obtain⟨os,hos,hcs,hds⟩:=id hs;have hTs:s.TypeIs (.ref sl) "slice":=⟨os,hos,hcs⟩;unfold getItem
 try with_reducible refine wpAny_holding ?_
 first|refine qB (qC ?_)|skip
 refine qB (wpAny_sequenceKey ht.typeIs (by decide) ?_);refine qB (wpAny_callSpecial?_slot (name:=Str.ofString "__getitem__") ht.typeIs PyProof.Rows.slot_tuple_getitem
  (wpAny_call_entry PyProof.Rows.slot_tuple_getitem ht.typeIs entry_tuple_getitem ?_ (args_tuple_getitem _ _)))
 show wpAny _ _ (Builtin.Tuple.tupleItemsOf (.ref t) >>= _) _ _ s
 refine qB (tupleItemsOf_ ht ?_);refine qB (wpAny_typeOf hTs ?_);rw[if_pos (by decide)];refine qB (HT.sliceApplied_gen hs pl pu ?_);have hyes:(((HT.sIx items.size 0 lo:Nat):Int)==0&&(1:Int)==1&&(HT.sIx items.size items.size hi-HT.sIx items.size 0 lo)==items.size)=true:=by
  rw[h1,h2];simp
 show wpAny _ _ (if(((HT.sIx items.size 0 lo:Nat):Int)==0&&(1:Int)==1&&(HT.sIx items.size items.size hi-HT.sIx items.size 0 lo)==items.size)=true then _ else _) _ _ s
 rw[if_pos hyes];unfold Builtin.Tuple.tupleIsExact;refine qB (qB (wpAny_typeOf ht.typeIs (qC ?_)));rw[if_pos (by decide)];exact qB (wpAny_rule (qC ⟨_,rfl,qC h⟩))
def rSlTT(K:qH):V->Option Int->Option Int->Hp->VK->Prop:=λx lo hi H Q=>∃a xs,x=.ref a/\SqT K H a xs /\
 ((HT.sIx xs.length 0 lo=0/\HT.sIx xs.length xs.length hi=xs.length)->Q (.ref a) H) /\
 (¬(HT.sIx xs.length 0 lo=0/\HT.sIx xs.length xs.length hi=xs.length)->∀p,H p=none->Q (.ref p) (upd H p (.t (zCG xs lo hi))))
def sl_tupT:SlR X (rSlTT X.K):=by
 intro pins s O H x v vl vu lo hi sl Q I rx hs pl pu h;obtain⟨a,xs,rfl,hx,q1,q2⟩:=h;by_cases hw:HT.sIx xs.length 0 lo=0/\HT.sIx xs.length xs.length hi=xs.length
 ·cases rx
  obtain⟨its,r,ht,hz⟩:=I.tuple hx;have hlen:its.toArray.size=xs.length:=by rw[size_toArray];exact r.length.symm
  refine⟨"tuple",_,PyProof.Rows.slot_tuple_getitem.lookup,ht.typeIs,?_⟩;exact JP ht hs pl pu (by rw[hlen];exact hw.1) (by rw[hlen];exact hw.2) ⟨.ref a,H,I,rfl,q1 hw⟩
 ·exact sl_tup pins s O H (.ref a) v vl vu lo hi sl Q I rx hs pl pu ⟨a,xs,rfl,hx,hw,q2 hw⟩
theorem vW:∀bs:List Bool,(List.range bs.length).all (λi=>bs.getD i false)=bs.all id
 | []=>rfl
 |b::bs=>by
  rw[length_cons,List.range_succ_eq_map,all_cons,all_cons,List.all_map,<- vW bs];rfl
def zCV(hc:X.calm=true):jp X (.builtin "all") (λxs H Q=>∃(p:Addr) (bs:List Bool),xs=[.ref p]/\SqL X.K H p (bs.map V.bl)/\Q (.bl (bs.all id)) H):=by
 intro pins s O H xs us Q I r h;obtain⟨p,bs,rfl,hq,q⟩:=h;obtain⟨u,rfl,rx⟩:=ZN r;cases rx;obtain⟨its,rv,pl,hz⟩:=I.list hq;have hlen:=rv.length;refine call_all_walk (wpAny_pyIter_list pl.isList ?_);have hp:p<s.heap.objs.size:=by obtain⟨o,n,e,_⟩:=pl;exact lt_size e
 have hk:∀b o,s.heap.get? b=some o->(s.heap.push {cls:=.type "list_iterator",data:=.fields #[.ref p,.int 0 0]}).get? b=some o:=λb o e=>qA _ e
 have htr:∀(i:Nat) (v:Value),its.toArray[i]?=some v->v=Value.bool (bs.getD i false):=λi v hv=>by
  have hv':its[i]?=some v:=by simpa using hv
  have hi:i<its.length:=(qG.mp hv').1;have hx:i<(bs.map V.bl).length:=by rw[hlen];exact hi
  obtain⟨u',e1,e2⟩:=rv.get (i:=i) (x:=(bs.map V.bl)[i]) (by simp[hx]);rw[hv']at e1;cases e1;rw[length_map]at hx;rw[List.getElem_map]at e2;have:v=.bool (bs[i]):=e2;rw[this];simp[hx]
 refine⟨s.heap.objs.size,[s.heap.objs.size,p],[s.heap.objs.size],its.toArray.size,_,_,λi=>bs.getD i false,rfl,
  Walks.list (by show X.A.handled=none;exact I.ok.hd hc) _ p (ne_of_lt hp) its.toArray,⟨⟨_,get?_push_size _ rfl,rfl,rfl⟩,?_⟩,?_,?_⟩
 ·obtain⟨o,e,c⟩:=pl.isList
  exact⟨o,hk _ _ e,c⟩
 ·intro i v s' Q' E' hv hQ
  rw[htr i v hv];exact wpAny_truthy_bool hQ
 ·intro h' tk kp
  have e:(List.range its.toArray.size).all (λi=>bs.getD i false)=bs.all id:=by
   rw[size_toArray,<- hlen,length_map,vW]
  rw[e];exact⟨.bl (bs.all id),H,I.kept (t':=tk) λb o eb=>kp b o (λm=>by
   have:b=s.heap.objs.size:=by simpa using m
   subst this;exact absurd (lt_size eb) (lt_irrefl _)) (hk b o eb),rfl,q⟩
def Yy:fillsNumberSlot (.type "tuple") "mul"=pure false :=
 PySem.fillsNumberSlot_seq (id:="tuple.__mul__") (r:=some (.builtin "tuple.__rmul__")) F.slot_tuple_mul.lookup (by decide +kernel) F.slot_tuple_rmul.lookup (by decide +kernel)
def vX:seqRepeat? (.type "tuple")=pure (some (.builtin "tuple.__mul__")):=by
 unfold seqRepeat?;rw[PySem.seqSlot_of (T:="tuple") (name:="__mul__") (id:="tuple.__mul__") F.slot_tuple_mul.lookup (by decide +kernel),PySem.seqSlot_of (T:="tuple") (name:="__rmul__") (id:="tuple.__rmul__") F.slot_tuple_rmul.lookup (by decide +kernel)];rfl
def Z8(a:Int)(t:Tok)(l:Addr)(items:Array Value)(n:Nat)(dd:Option Addr)(sl:Array (Option Value)) :
  Meets (Builtin.«int.__rmul__» ⟨[.int a t,.ref l],[]⟩) (λ_ R s=>s.heap.get? l=some {cls:=.type "tuple",dict:=dd,data:=.seq items n,slots:=sl}/\R (.ok (.ret Value.notImplemented)) s) :=
 .of_wp λprog w A R s h=>by obtain⟨hp,g,d,tk,os⟩:=s;obtain⟨hl,h⟩:=h;wp_walk;exact⟨_,rfl,h⟩
def Z9{prog:Program}{w:World}{A:Around}{E:Value->Shared->Prop}{s:Shared}{l:Addr}{items:Array Value}{k:Int}{t:Tok}{Q:Value->Shared->Prop}(hl:IsTup s.heap l items)(h1:-(2^63)<=k)(h2:k<2^63)
  (hz:(items.size:Int)*k<=sizeLine) (q0:items.isEmpty=true\/k=1->Q (.ref l) s)
  (q1:k<=0->Q (.ref s.heap.objs.size) {s with heap:=s.heap.push {cls:=.type "tuple",data:=.seq #[]}})
  (q2:Q (.ref s.heap.objs.size) {s with heap:=s.heap.push {cls:=.type "tuple",data:=.seq ((replicate k.toNat items).foldl (·++·) #[])}})
  (hfit:sizeOk (.seq ((replicate k.toNat items).foldl (·++·) #[]))) :
  wpAny (model prog w) A (call (.builtin "tuple.__mul__") [.ref l,.int k t]) Q E s:=by
 refine wpAny_call_entry F.slot_tuple_mul hl.typeIs F.entry_tuple_mul ?_ (F.args_tuple_mul_2 _ _);show wpAny _ _ (asIndex (.int k t) >>= _) _ _ s;refine qB (wpAny_of_eq (a:=k) rfl ?_);dsimp only;rw[if_neg (by simp only[Bool.or_eq_true,decide_eq_true_eq];omega)];refine qB (tupleItemsOf_ hl ?_);by_cases e1:(items.isEmpty||k==1)=true
 ·rw[if_pos e1]
  unfold Builtin.Tuple.tupleIsExact;refine qB (qB (wpAny_typeOf hl.typeIs (qC ?_)));rw[if_pos (by decide)];refine qB (wpAny_rule (qC ⟨_,rfl,q0 ?_⟩));rw[Bool.or_eq_true,beq_iff_eq]at e1;exact e1
 ·rw[if_neg e1]
  by_cases e2:(decide (k<=0)||items.isEmpty)=true
  ·rw[if_pos e2]
   have hk:k<=0:=by
    simp only[Bool.or_eq_true,decide_eq_true_eq,beq_iff_eq,not_or]at e1 e2;rcases e2 with e2|e2
    ·exact e2
    ·exact absurd e2 e1.1
   exact qB (m:=Builtin.Tuple.tupleExact _) (wpAny_newObj_type (qC ⟨_,rfl,q1 hk⟩) (by show(#[]:Array Value).size<=sizeLine;simp))
  ·rw[if_neg e2]
   have hs:sizeLine=16777216:=sizeLine_eq;rw[if_neg (by rw[hs]at hz;omega),if_neg (by unfold Builtin.Tuple.tupleTooMany;simp only[decide_eq_true_eq];omega)];exact qB (m:=Builtin.Tuple.tupleExact _) (wpAny_newObj_type (qC ⟨_,rfl,q2⟩) hfit)
def rRepT(K:qH):R2:=λx y H Q=>∃l k xs,x=.ref l/\y=.int k/\SqT K H l xs/\-(2^63)<=k/\k<2^63/\xs.length*k.toNat<=sizeLine /\
 (xs=[]\/k=1->Q (.ref l) H)/\(∀p,H p=none->Q (.ref p) (upd H p (.t (replicate k.toNat xs).flatten)))
def op_repT:OpR X (binaryOp .Mult) (rRepT X.K):=by
 intro pins s O H x y v u Q I rx ry h;obtain⟨l,k,xs,rfl,rfl,hH,h1,h2,hz,q0,q⟩:=h;cases rx;obtain⟨t,rfl⟩:=ry;obtain⟨its,r,pt,_⟩:=I.tuple hH;have hl:=r.length;obtain⟨⟨cls,dd,data,sl⟩,ho,hc,n,hd⟩:=id pt;simp only at hc hd;subst hc hd;have hnew:foldl (λx1 x2=>x1++x2) #[] (replicate k.toNat its.toArray)=(replicate k.toNat its).flatten.toArray:=by
  have:=ZQ its k.toNat [];rw[nil_append]at this;exact this
 have hlen:(replicate k.toNat its).flatten.length<=sizeLine:=by rw[ub,mul_comm,<- hl];exact hz
 have hzz:((its.toArray.size:Nat):Int)*k<=(sizeLine:Nat):=by
  rw[size_toArray,<- hl];by_cases hk:0<=k
  ·obtain⟨m,rfl⟩:=Int.eq_ofNat_of_zero_le hk
   have:xs.length*m<=sizeLine:=by simpa using hz
   exact_mod_cast this
  ·have:(xs.length:Int)*k<=0:=Int.mul_nonpos_of_nonneg_of_nonpos (Int.natCast_nonneg _) (by omega)
   omega
 refine wpAny_binaryOp_repeat_ref (T:="tuple") (U:="int") (by decide) ⟨_,ho,rfl⟩ (λs'=>typeIs_int s' k t) Yy F.fills_int_mul F.slot_int_rmul vX F.slot_int_index.lookup
  (call_meets F.slot_int_rmul (typeIs_int s k t) F.entry_int_rmul (F.args_int_rmul_2 _ _) (Z8 k t l its.toArray n dd sl) ⟨ho,rfl,⟨_,ho,rfl⟩,?_⟩)
 refine Z9 pt h1 h2 hzz (λe=>⟨.ref l,H,I,rfl,q0 ?_⟩) (λe=>?_) ?_ ?_
 ·rcases e with e|e
  ·left
   have:its=[]:=by simpa using e
   exact r.nil_iff.mp this
  ·right;exact e
 ·have ek:k.toNat=0:=by omega
  have q':=q s.heap.objs.size I.fresh;rw[ek]at q';exact⟨.ref s.heap.objs.size,_,I.laid (t':=s.toks) (o:=.t []) (λb ob q=>qA _ q) (le_refl _) ⟨zero_le _,[],.nil,IsTup.new _ _⟩,rfl,q'⟩
 ·rw[hnew]
  exact⟨.ref s.heap.objs.size,_,I.laid (t':=s.toks) (o:=.t (replicate k.toNat xs).flatten) (λb ob q=>qA _ q) (le_refl _) ⟨by rw[ub,mul_comm];exact hz,_,r.rep k.toNat,IsTup.new _ _⟩,rfl,q _ I.fresh⟩
 ·rw[hnew]
  show(replicate k.toNat its).flatten.toArray.size<=sizeLine
  rw[size_toArray];exact hlen
end
end L2
namespace DV
open PySem L2
def cap:Nat:=1000000
def wN{n:Nat}(h:n<=cap):n<=sizeLine:=le_trans h (by rw[sizeLine_eq];decide)
abbrev Kt(K:qH)(mg:Str->Option Value)(M:Addr->Prop)(H:Hp)(Z:Fz)(res:R)(Q:VK):Prop :=
 ∀v H',FR K mg M H' ((some v,res.slot)::Z)->Step M H Z H' ((some v,res.slot)::Z)->Q v H'
def ROk(K:qH)(mg:Str->Option Value)(rel:R2)(f:D->D->Option R):Prop :=
 ∀(M:Addr->Prop) (H:Hp) (Z:Fz) (x y:V) (d1 d2:D) (res:R) (Q:VK),FR K mg M H Z->Rep K mg (Hm (Mo M Z) H) d1 x->Rep K mg (Hm (Mo M Z) H) d2 y->f d1 d2=some res->Kt K mg M H Z res Q->rel x y H Q
def COk(K:qH)(mg:Str->Option Value)(rel:List V->Hp->VK->Prop)(f:List D->Option R):Prop :=
 ∀(M:Addr->Prop) (H:Hp) (Z:Fz) (xs:List V) (ds:List D) (res:R) (Q:VK),FR K mg M H Z->Reps K mg (Hm (Mo M Z) H) ds xs->f ds=some res->Kt K mg M H Z res Q->rel xs H Q
section
variable{X:Cx}{K:qH}{mg:Str->Option Value}{M:Addr->Prop}{H H':Hp}{Z:Fz}{Q:VK}{O:St}
theorem Kt.flat{d:D}(k:Kt K mg M H Z (.v d) Q)(f:FR K mg M H Z)(h:flat d=true):Q (flV d) H:=k _ _ (f.add (Wl h)) Step.refl.add
def Kt.rep{d:D}{v:V}(k:Kt K mg M H Z (.v d) Q)(f:FR K mg M H Z)(h:Rep K mg (Hm (Mo M Z) H) d v):Q v H:=k _ _ (f.add h) Step.refl.add
theorem Kt.tup{ds:List D}{xs:List V}{p:Addr}(k:Kt K mg M H Z (.v (.t ds)) Q)(f:FR K mg M H Z)(hp:H p=none)(h:Reps K mg (Hm (Mo M Z) H) ds xs):Q (.ref p) (upd H p (.t xs)):=k _ _ (f.newTup hp h) (Step.newVal hp)
theorem Kt.own{ds:List D}{xs:List V}{p:Addr}(k:Kt K mg M H Z (.own ds) Q)(f:FR K mg M H Z)(hp:H p=none)(h:Reps K mg (Hm (Mo M Z) H) ds xs):Q (.ref p) (upd H p (.l xs)):=k _ _ (f.newOwn hp h) (Step.newOwn f hp)
def JB(f:D->D->Option R)(a b:ME):ME:=λE=>match a E with
 | .z=>.z| .exc x E1=>.exc x E1
 | .ok (r1,E1)=>match b E1 with
  | .z=>.z| .exc x E2=>.exc x E2
  | .ok (r2,E2)=>match f r1.d r2.d with
   |some r=>.ok (r,E2)|none=>.z
def Wm{rel:R2}{f:D->D->Option R}{a b:ME}(hr:ROk X.K X.mg rel f){H:Hp}{Q:VK}(h:tM X (JB f a b) O H Q):tOp rel (tM X a) (tM X b) O H Q:=by
 obtain⟨M,E,hl,fr,k⟩:=h;unfold JB at k;refine zk (T0:=[]) hl fr ?_;cases ea:a E with
 |z=>rw[ea]at k;exact k|exc x E1=>rw[ea]at k;exact λH' g=>k H' g
 |ok p =>
  obtain⟨r1,E1⟩:=p;rw[ea]at k;intro x H1 g1;refine zk (T0:=[(some x,r1.slot)]) g1.len g1.fr ?_;dsimp only at k;cases eb:b E1 with
  |z=>rw[eb]at k;exact k|exc x E2=>rw[eb]at k;exact λH' g=>k H' (g1.trans' g).dropAll
  |ok p =>
   obtain⟨r2,E2⟩:=p;rw[eb]at k;intro y H2 g2;have g:=g1.trans' g2;have rp:=Got.reps (vs:=[y,x]) (rs:=[r2,r1]) rfl g;simp only[List.map,Reps]at rp;obtain⟨y',_,e1,ry,x',_,e2,rx,_⟩:=rp;cases e1;cases e2;dsimp only at k;cases ef:f r1.d r2.d with
   |none=>rw[ef]at k;exact k.elim
   |some r =>
    rw[ef]at k;exact hr M H2 _ x y r1.d r2.d r Q g.frame rx ry ef λv H' f' s'=>k v H' (g.more (T:=[(some v,r.slot)]) f' s')
def vY{op:Operator}{rel:R2}{f:D->D->Option R}{a b:Expr}{ma mb:ME}{pos:Pos}(ho:OpR X (binaryOp op) rel)(hr:ROk X.K X.mg rel f)(ha:EOk X a ma)(hb:EOk X b mb):EOk X (.BinOp a op b pos) (JB f ma mb) :=
 zf (pe_op ho ha hb) λO H Q h=>Wm hr h
def JC{op:CmpOp}{rel:R2}{f:D->D->Option R}{a b:Expr}{ma mb:ME}{pos:Pos}(ho:OpR X (compareOp op) rel)(hr:ROk X.K X.mg rel f)(hm:behindInMarks op b=false)(ha:EOk X a ma)(hb:EOk X b mb):EOk X (.Compare a [op] [b] pos) (JB f ma mb) :=
 zf (Qx ho ha hb hm) λO H Q h=>Wm hr h
def ok_ix{rel:R2}{f:D->D->Option R}{a b:Expr}{ma mb:ME}{pos:Pos}(ho:IxR X rel)(hr:ROk X.K X.mg rel f)(hs:Wh b)(ha:EOk X a ma)(hb:EOk X b mb):EOk X (.Subscript a b pos) (JB f ma mb) :=
 zf (pe_ix ho ha hb hs) λO H Q h=>Wm hr h
def tT(m:ME):MT:=λE=>match m E with
 | .z=>.z| .exc x E1=>.exc x E1| .ok (.v (.bl b),E1)=>.ok (b,E1)|_=>.z
def GP{m:ME}{H:Hp}{Q:Bool->Hp->Prop}(h:tMT X (tT m) O H Q):tM X m O H λx H'=>∃k,x=.bl k/\Q k H':=by
 obtain⟨M,E,hl,fr,k⟩:=h;refine⟨M,E,hl,fr,?_⟩;unfold tT at k;cases e:m E with
 |z=>rw[e]at k;exact k|exc x E1=>rw[e]at k;exact k
 |ok p =>
  obtain⟨r,E1⟩:=p;rw[e]at k;cases r with
  |own ds=>exact k.elim
  |v d =>
   cases d with
   |bl b =>
    intro v H' g;have rp:=g.rep;simp only[R.d,Rep]at rp;exact⟨b,rp,k H' g.dropAll⟩
   |_=>exact k.elim
def ok_test{e:Expr}{m:ME}(h:EOk X e m)(he:∀whole,isTrue e X.env whole=(do let v <- whole;standAt e.pos;holding [v] (truthy v)):=by intro _;rfl):TOk X e (tT m) :=
 WP (pt_val h he) λO H Q q=>GP q
def ji{op:CmpOp}{rel:R2}{f:D->D->Option R}{a b:Expr}{ma mb:ME}{pos:Pos}(ho:OpR X (compareOp op) rel)(hr:ROk X.K X.mg rel f)(hm:behindInMarks op b=false)(ha:EOk X a ma)(hb:EOk X b mb):TOk X (.Compare a [op] [b] pos) (tT (JB f ma mb)) :=
 WP (Qy ho ha hb hm) λO H Q h=>Wm hr (GP h)
def uh(a b:MT):MT:=λE=>match a E with
 | .ok (true,E1)=>b E1|o=>o
def tOrM(a b:MT):MT:=λE=>match a E with
 | .ok (false,E1)=>b E1|o=>o
def QM(a:MT):MT:=λE=>match a E with
 | .z=>.z| .exc x E1=>.exc x E1| .ok (b,E1)=>.ok (!b,E1)
def and_run{a b:MT}{H:Hp}{Q:Bool->Hp->Prop}(h:tMT X (uh a b) O H Q):tAnd (tMT X a) (tMT X b) O H Q:=by
 obtain⟨M,E,hl,fr,k⟩:=h;unfold uh at k;refine JO (T0:=[]) hl fr ?_;cases ea:a E with
 |z=>rw[ea]at k;exact k|exc x E1=>rw[ea]at k;exact k
 |ok p =>
  obtain⟨c,E1⟩:=p;rw[ea]at k;intro H1 g1;cases c with
  |false=>exact iteF (k H1 g1)
  |true =>
   refine iteT ?_;refine JO (T0:=[]) g1.len g1.fr ?_;dsimp only at k;cases eb:b E1 with
   |z=>rw[eb]at k;exact k|exc x E2=>rw[eb]at k;exact λH' g=>k H' (g1.trans' g)|ok p=>rw[eb]at k;exact λH' g=>k H' (g1.trans' g)
def or_run{a b:MT}{H:Hp}{Q:Bool->Hp->Prop}(h:tMT X (tOrM a b) O H Q):tOr (tMT X a) (tMT X b) O H Q:=by
 obtain⟨M,E,hl,fr,k⟩:=h;unfold tOrM at k;refine JO (T0:=[]) hl fr ?_;cases ea:a E with
 |z=>rw[ea]at k;exact k|exc x E1=>rw[ea]at k;exact k
 |ok p =>
  obtain⟨c,E1⟩:=p;rw[ea]at k;intro H1 g1;cases c with
  |true=>exact iteT (k H1 g1)
  |false =>
   refine iteF ?_;refine JO (T0:=[]) g1.len g1.fr ?_;dsimp only at k;cases eb:b E1 with
   |z=>rw[eb]at k;exact k|exc x E2=>rw[eb]at k;exact λH' g=>k H' (g1.trans' g)|ok p=>rw[eb]at k;exact λH' g=>k H' (g1.trans' g)
def not_run{a:MT}{H:Hp}{Q:Bool->Hp->Prop}(h:tMT X (QM a) O H Q):tNot (tMT X a) O H Q:=by
 obtain⟨M,E,hl,fr,k⟩:=h;unfold QM at k;refine JO (T0:=[]) hl fr ?_;cases ea:a E with
 |z=>rw[ea]at k;exact k|exc x E1=>rw[ea]at k;exact k|ok p=>rw[ea]at k;exact k
abbrev WOk(X:Cx)(e:Expr)(m:MT):Prop:=PW X e (tMT X m)
def wk_and1{a:Expr}{m:MT}{pos:Pos}(h:TOk X a m):WOk X (.BoolOp .And [a] pos) m:=pw_and1 h
def wk_or1{a:Expr}{m:MT}{pos:Pos}(h:TOk X a m):WOk X (.BoolOp .Or [a] pos) m:=pw_or1 h
def zDr{a b:Expr}{jW:List Expr}{ma mb:MT}{pos:Pos}(ha:TOk X a ma)(hb:WOk X (.BoolOp .And (b::jW) pos) mb):WOk X (.BoolOp .And (a::b::jW) pos) (uh ma mb):=zDo (pw_and ha hb) λO H Q=>and_run
def wk_or{a b:Expr}{jW:List Expr}{ma mb:MT}{pos:Pos}(ha:TOk X a ma)(hb:WOk X (.BoolOp .Or (b::jW) pos) mb):WOk X (.BoolOp .Or (a::b::jW) pos) (tOrM ma mb):=zDo (pw_or ha hb) λO H Q=>or_run
def tk_w{e:Expr}{m:MT}(h:WOk X e m):TOk X e m:=h.pt
def tk_not{a:Expr}{m:MT}{pos:Pos}(h:TOk X a m):TOk X (.UnaryOp .Not a pos) (QM m):=WP (pt_not h) λO H Q=>not_run
def eNot(a:ME):ME:=λE=>match a E with
 | .ok (.v (.bl b),E1)=>.ok (.v (.bl (!b)),E1)| .exc x E1=>.exc x E1|_=>.z
def zCW(a b:ME):ME:=λE=>match a E with
 | .ok (.v (.bl true),E1)=>b E1| .ok (.v (.bl false),E1)=>.ok (.v (.bl false),E1)| .exc x E1=>.exc x E1|_=>.z
def zCX{a:ME}{H:Hp}{Q:VK}(h:tM X (eNot a) O H Q):tNotV (tM X a) O H Q:=by
 obtain⟨M,E,hl,fr,k⟩:=h;unfold eNot at k;refine zk (T0:=[]) hl fr ?_;cases ea:a E with
 |z=>rw[ea]at k;exact k|exc x E1=>rw[ea]at k;exact k
 |ok p =>
  obtain⟨r,E1⟩:=p;rw[ea]at k;cases r with
  |own ds=>exact k.elim
  |v d =>
   cases d with
   |bl b =>
    intro v H' g;have rp:=g.rep;simp only[R.d,Rep]at rp;exact⟨b,rp,k _ H' (g.flat (d:=.bl (!b)) rfl)⟩
   |_=>exact k.elim
def zCY{a b:ME}{H:Hp}{Q:VK}(h:tM X (zCW a b) O H Q):tAndV (tM X a) (tM X b) O H Q:=by
 obtain⟨M,E,hl,fr,k⟩:=h;unfold zCW at k;refine zk (T0:=[]) hl fr ?_;cases ea:a E with
 |z=>rw[ea]at k;exact k|exc x E1=>rw[ea]at k;exact k
 |ok p =>
  obtain⟨r,E1⟩:=p;rw[ea]at k;cases r with
  |own ds=>exact k.elim
  |v d =>
   cases d with
   |bl c =>
    intro v H' g;have rp:=g.rep;simp only[R.d,Rep]at rp;refine⟨c,rp,?_⟩;cases c with
    |false=>exact iteF (k _ H' (g.flat (d:=.bl false) rfl))
    |true =>
     refine iteT (zk (T0:=[]) g.len g.frame ?_);dsimp only at k;cases eb:b E1 with
     |z=>rw[eb]at k;exact k|exc x E2=>rw[eb]at k;exact λH'' g'=>k H'' (g.dropAll.trans' g')|ok p=>rw[eb]at k;exact λv'' H'' g'=>k v'' H'' (g.dropAll.trans' g')
   |_=>exact k.elim
def ok_not{a:Expr}{m:ME}{pos:Pos}(h:EOk X a m):EOk X (.UnaryOp .Not a pos) (eNot m):=zf (pe_not h) λO H Q=>zCX
def zDs{a b:Expr}{jW:List Expr}{ma mb:ME}{pos:Pos}(ha:EOk X a ma)(hb:EOk X (.BoolOp .And (b::jW) pos) mb):EOk X (.BoolOp .And (a::b::jW) pos) (zCW ma mb):=zf (pe_and ha hb) λO H Q=>zCY
def ok_one{a:Expr}{op:BoolOp}{m:ME}{pos:Pos}(h:EOk X a m):EOk X (.BoolOp op [a] pos) m:=pe_one h
def eIf(c:MT)(a b:ME):ME:=λE=>match c E with
 | .ok (true,E1)=>a E1| .ok (false,E1)=>b E1| .exc x E1=>.exc x E1| .z=>.z
def if_run{c:MT}{a b:ME}{H:Hp}{Q:VK}(h:tM X (eIf c a b) O H Q):tIf (tMT X c) (tM X a) (tM X b) O H Q:=by
 obtain⟨M,E,hl,fr,k⟩:=h;unfold eIf at k;refine JO (T0:=[]) hl fr ?_;cases ea:c E with
 |z=>rw[ea]at k;exact k|exc x E1=>rw[ea]at k;exact k
 |ok p =>
  obtain⟨t,E1⟩:=p;rw[ea]at k;intro H1 g1;cases t with
  |true =>
   refine iteT (zk (T0:=[]) g1.len g1.fr ?_);dsimp only at k;cases eb:a E1 with
   |z=>rw[eb]at k;exact k|exc x E2=>rw[eb]at k;exact λH' g=>k H' (g1.trans' g)|ok p=>rw[eb]at k;exact λv H' g=>k v H' (g1.trans' g)
  |false =>
   refine iteF (zk (T0:=[]) g1.len g1.fr ?_);dsimp only at k;cases eb:b E1 with
   |z=>rw[eb]at k;exact k|exc x E2=>rw[eb]at k;exact λH' g=>k H' (g1.trans' g)|ok p=>rw[eb]at k;exact λv H' g=>k v H' (g1.trans' g)
def ok_if{c a b:Expr}{mc:MT}{ma mb:ME}{pos:Pos}(hc:TOk X c mc)(ha:EOk X a ma)(hb:EOk X b mb):EOk X (.IfExp c a b pos) (eIf mc ma mb):=zf (zB7 hc ha hb) λO H Q=>if_run
def aNil:MA:=λE=>.ok ([],E)
def vZ(a:ME)(m:MA):MA:=λE=>match a E with
 | .z=>.z| .exc x E1=>.exc x E1
 | .ok (r,E1)=>match m E1 with
  | .z=>.z| .exc x E2=>.exc x E2| .ok (rs,E2)=>.ok (r::rs,E2)
def ak_nil:AOk X [] aNil:=WQ wL λO H Q ⟨M,E,hl,fr,k⟩=>k [] H rfl (Got.refl (T0:=[]) hl fr)
theorem Got.perm{K:qH}{mg:Str->Option Value}{M:Addr->Prop}{O O1:St}{E E1:zQ}{H H1:Hp}{T0 T T':Fz}(a:Got K mg M O E H T0 O1 E1 H1 T)(p:T.Perm T'):Got K mg M O E H T0 O1 E1 H1 T' where
 len:=a.len
 fr:=a.fr.perm (p.append_right _)
 st:=a.st.weak (zC (p.append_right _).symm)
 pk:=a.pk
def zCZ{a:ME}{m:MA}{H:Hp}{Q:List V->Hp->Prop}(h:tMA X (vZ a m) O H Q):uZ (tM X a) (tMA X m) O H Q:=by
 obtain⟨M,E,hl,fr,k⟩:=h;unfold vZ at k;refine zk (T0:=[]) hl fr ?_;cases ea:a E with
 |z=>rw[ea]at k;exact k|exc x E1=>rw[ea]at k;exact k
 |ok p =>
  obtain⟨r1,E1⟩:=p;rw[ea]at k;intro x H1 g1;refine ZU (T0:=[(some x,r1.slot)]) g1.len g1.fr ?_;dsimp only at k;cases eb:m E1 with
  |z=>rw[eb]at k;exact k|exc x E2=>rw[eb]at k;exact λH' g=>k H' (g1.trans' g).dropAll
  |ok p =>
   obtain⟨rs,E2⟩:=p;rw[eb]at k;intro vs H2 hv g2;refine k (x::vs) H2 (by simp[hv]) ?_;rw[WR];exact(g1.trans' g2).perm (perm_append_comm)
def ak_cons{e:Expr}{es:List Expr}{a:ME}{m:MA}(ha:EOk X e a)(hm:AOk X es m)(hs:zW e=false:=by rfl):AOk X (e::es) (vZ a m):=WQ (yN ha hm (zJ hs)) λO H Q=>zCZ
def eCB(f:List D->Option R)(m:MA):ME:=λE=>match m E with
 | .z=>.z| .exc x E1=>.exc x E1
 | .ok (rs,E1)=>match f (rs.map R.d)with
  |some r=>.ok (r,E1)|none=>.z
def GQ{rel:List V->Hp->VK->Prop}{f:List D->Option R}{m:MA}(hr:COk X.K X.mg rel f){H:Hp}{Q:VK}(h:tM X (eCB f m) O H Q):tCB rel (tMA X m) O H Q:=by
 obtain⟨M,E,hl,fr,k⟩:=h;unfold eCB at k;refine ZU (T0:=[]) hl fr ?_;cases ea:m E with
 |z=>rw[ea]at k;exact k|exc x E1=>rw[ea]at k;exact k
 |ok p =>
  obtain⟨rs,E1⟩:=p;rw[ea]at k;intro vs H1 hv g;have rp:=Got.reps hv g;dsimp only at k;cases ef:f (rs.map R.d)with
  |none=>rw[ef]at k;exact k.elim
  |some r =>
   rw[ef]at k;exact hr M H1 _ vs _ r Q g.frame rp ef λv H' f' s'=>k v H' (g.more (T:=[(some v,r.slot)]) f' s')
def eTup(m:MA):ME:=eCB (λds=>if ds.length<=cap then some (.v (.t ds))else none) m
def eLst(m:MA):ME:=eCB (λds=>if ds.length<=cap then some (.own ds)else none) m
def ok_tup{es:List Expr}{m:MA}{x1:Nat}{pos:Pos}(h:AOk X es m):EOk X (.Tuple es x1 pos) (eTup m) :=
 zf (pe_tup h) λO H Q q=>GQ (rel:=λxs H1 Q=>xs.length<=sizeLine/\∀p,H1 p=none->Q (.ref p) (upd H1 p (.t xs))) (λM H Z xs ds res Q f r e k=>by
  split at e
  ·rename_i hc
   cases e;exact⟨by rw[r.length];exact wN hc,λp hp=>k.tup f hp r⟩
  ·cases e) q
def ok_lst{es:List Expr}{m:MA}{pos:Pos}(h:AOk X es m):EOk X (.List es pos) (eLst m) :=
 zf (pe_lst h) λO H Q q=>GQ (rel:=λxs H1 Q=>xs.length<=sizeLine/\∀p,H1 p=none->Q (.ref p) (upd H1 p (.l xs))) (λM H Z xs ds res Q f r e k=>by
  split at e
  ·rename_i hc
   cases e;exact⟨by rw[r.length];exact wN hc,λp hp=>k.own f hp r⟩
  ·cases e) q
def Jq{f:List D->Option R}{m:MA}{rel:List V->Hp->VK->Prop}{id:String}{x:Str}{p pos:Pos}{e:Expr}{es:List Expr}(hc:jp X (.builtin id) rel)(hr:COk X.K X.mg rel f)(hg:Gl X x)(hm:X.mg x=none)(hv:bootBuiltins x=some (.builtin id))(ha:AOk X (e::es) m)(hn:x≠"__name__":=by decide)(hdb:(x==("__debug__":Str))=false:=by decide)
  (he:zW e=false:=by rfl) (hpl:yM es=true:=by rfl):EOk X (.Call (.Name x p) (e::es) [] pos) (eCB f m) :=
 zf (Jk hc hg hm hv ha hn hdb (zJ he) (y9 hpl)) λO H Q q=>GQ hr q
def wT{f:List D->Option R}{m:MA}{rel:List V->Hp->VK->Prop}{T:String}{x:Str}{p pos:Pos}{e:Expr}{es:List Expr}(hc:jp X (.type T) rel)(hr:COk X.K X.mg rel f)(hg:Gl X x)(hm:X.mg x=none)(hv:bootBuiltins x=some (.type T))(ha:AOk X (e::es) m)(hn:x≠"__name__":=by decide)(hdb:(x==("__debug__":Str))=false:=by decide)
  (he:zW e=false:=by rfl) (hpl:yM es=true:=by rfl):EOk X (.Call (.Name x p) (e::es) [] pos) (eCB f m) :=
 zf (Q2 hc hg hm hv ha hn hdb (zJ he) (y9 hpl)) λO H Q q=>GQ hr q
end
section
variable{X:Cx}{K:qH}{mg:Str->Option Value}
def zK{H:Hp}{i:Int}{v:V}(h:Rep K mg H (.int i) v):v=.int i:=by simpa only[Rep]using h
def yc{H:Hp}{i:Bool}{v:V}(h:Rep K mg H (.bl i) v):v=.bl i:=by simpa only[Rep]using h
def ze{H:Hp}{i:Str}{v:V}(h:Rep K mg H (.str i) v):v=.str i:=by simpa only[Rep]using h
def jC{H:Hp}{v:V}(h:Rep K mg H .non v):v=.non:=by simpa only[Rep]using h
def zd{H:Hp}{ds:List D}{v:V}(h:Rep K mg H (.t ds) v):∃a xs,v=.ref a/\SqT K H a xs/\Reps K mg H ds xs:=by simpa only[Rep]using h
def zO{H:Hp}{ds:List D}{v:V}(h:Rep K mg H (.l ds) v):∃a xs,v=.ref a/\SqL K H a xs/\Reps K mg H ds xs:=by simpa only[Rep]using h
def zV{H:Hp}{d:D}{v:V}(hf:flat d=true)(h:Rep K mg H d v):v=flV d:=by
 cases d<;>simp[flat]at hf<;>simpa only[Rep,flV]using h
def vB:D->D->Option R
 | .int i,.int j=>some (.v (.int (i+j)))| .t a,.t b=>if a.length+b.length<=cap then some (.v (.t (a++b)))else none| .l a,.l b=>if a.length+b.length<=cap then some (.own (a++b))else none|_,_=>none
def rAddD(K:qH):R2:=λx y H Q=>rI0 (λi j=>.int (i+j)) x y H Q\/(zDq K x y H Q\/rCatL K x y H Q)
def op_addD:OpR X (binaryOp .Add) (rAddD X.K):=op_add.or (zCU.or op_catL)
def ro_add:ROk K mg (rAddD K) vB:=by
 intro M H Z x y d1 d2 res Q f r1 r2 e k;cases d1 with
 |int i =>
  cases d2 with
  |int j =>
   cases e;exact .inl ⟨i,j,zK r1,zK r2,k.flat f rfl⟩
  |_=>cases e
 |t a =>
  cases d2 with
  |t b =>
   simp only[vB]at e;split at e
   ·rename_i hc
    cases e;obtain⟨p,xs,rfl,h1,h2⟩:=zd r1;obtain⟨q,ys,rfl,h3,h4⟩:=zd r2;have l1:=h2.length;have l2:=h4.length;refine .inr (.inl ⟨p,q,xs,ys,rfl,rfl,yA zL h1,yA zL h3,by rw[l1,l2];exact wN hc,λe=>?_,λ_ e=>?_,λ_ _ p' hp=>k.tup f hp (h2.append h4)⟩)
    ·subst e
     have:a=[]:=by simpa using l1.symm
     subst this;exact k.rep f (by simpa using r2)
    ·subst e
     have:b=[]:=by simpa using l2.symm
     subst this;exact k.rep f (by simpa using r1)
   ·cases e
  |_=>cases e
 |l a =>
  cases d2 with
  |l b =>
   simp only[vB]at e;split at e
   ·rename_i hc
    cases e;obtain⟨p,xs,rfl,h1,h2⟩:=zO r1;obtain⟨q,ys,rfl,h3,h4⟩:=zO r2;have l1:=h2.length;have l2:=h4.length;exact .inr (.inr ⟨p,q,xs,ys,rfl,rfl,zL.seq h1,zL.seq h3,by rw[l1,l2];exact wN hc,λp' hp=>k.own f hp (h2.append h4)⟩)
   ·cases e
  |_=>cases e
 |_=>cases e
def zCa(C:Int->Int->Bool)(g:Int->Int->D):D->D->Option R
 | .int i,.int j=>if C i j=true then some (.v (g i j))else none|_,_=>none
def zAO{C:Int->Int->Bool}{P:Int->Int->Prop}{g:Int->Int->D}{gv:Int->Int->V}(hC:∀i j,C i j=true->P i j)(hg:∀i j,flat (g i j)=true/\flV (g i j)=gv i j):ROk K mg (rI P gv) (zCa C g):=by
 intro M H Z x y d1 d2 res Q f r1 r2 e k;cases d1 with
 |int i =>
  cases d2 with
  |int j =>
   simp only[zCa]at e;split at e
   ·rename_i hc
    cases e;refine⟨i,j,zK r1,zK r2,hC i j hc,?_⟩;have:=k.flat f (hg i j).1;rw[(hg i j).2]at this;exact this
   ·cases e
  |_=>cases e
 |_=>cases e
def zDt(g:Int->Int->D):D->D->Option R
 | .int i,.int j=>some (.v (g i j))|_,_=>none
def ZW{g:Int->Int->D}{gv:Int->Int->V}(hg:∀i j,flat (g i j)=true/\flV (g i j)=gv i j):ROk K mg (rI0 gv) (zDt g):=by
 intro M H Z x y d1 d2 res Q f r1 r2 e k;cases d1 with
 |int i =>
  cases d2 with
  |int j =>
   cases e;refine⟨i,j,zK r1,zK r2,?_⟩;have:=k.flat f (hg i j).1;rw[(hg i j).2]at this;exact this
  |_=>cases e
 |_=>cases e
abbrev subD:=zDt λi j=>.int (i-j)
def ro_sub:ROk K mg (rI0 λi j=>.int (i-j)) subD:=ZW λ_ _=>⟨rfl,rfl⟩
def Big:Nat:=2^4000
def zAP{n:Nat}(h:n<Big):n.log2<4000:=by
 by_cases h0:n=0
 ·subst h0;decide +kernel
 ·exact(Nat.log2_lt h0).mpr h
def GR{i:Int}(h:i.natAbs<Big):Builtin.Int.intBits i<=4000:=by
 unfold Builtin.Int.intBits;split
 ·exact zero_le _
 ·exact zAP h
def big_mul{i j:Int}(h1:i.natAbs<Big)(h2:j.natAbs<Big):IntMulOk i j:=by
 have b1:=GR h1;have b2:=GR h2;unfold IntMulOk;have:Builtin.Int.intTooBig (((Builtin.Int.intBits i:Nat):Int)+(Builtin.Int.intBits j:Nat))=false:=by
  unfold Builtin.Int.intTooBig bitsLine;simp only[decide_eq_false_iff_not];have:(2^27:Nat)=134217728:=by decide
  omega
 rw[this,Bool.and_false];decide
def CDivB(i j:Int):Prop:=0<j/\(j<1073741824\/j.natAbs<Big)
def zCb:OpR X (binaryOp .FloorDiv) (rI CDivB λi j=>.int (i/j)):=opI λi j _ _ _ _ _ hc q=>by
 have h1:(0:Int)<j:=hc.1;refine PyProof.Rows.floordiv_int (by omega) (by rw[Int.fdiv_eq_ediv_of_nonneg i (by omega)];exact q) (.inl ?_);rcases hc.2 with h|h
 ·exact PyProof.noPylong_small (by omega)
 ·exact PyProof.noPylong_of_log2 (lt_of_lt_of_le (zAP h) (by decide))
def CMulB(i j:Int):Prop:=CMul i j\/(i.natAbs<Big/\j.natAbs<Big)
def op_mulB:OpR X (binaryOp .Mult) (rI CMulB λi j=>.int (i*j)):=opI λ_ _ _ _ _ _ _ hc q=>PyProof.Rows.mul_int q (by
 rcases hc with h|h
 ·exact h.ok
 ·exact big_mul h.1 h.2)
abbrev zCc:=zCa (λ_ j=>decide (0<j/\(j<1073741824\/j.natAbs<Big))) λi j=>.int (i/j)
def ro_fdiv:ROk K mg (rI CDivB λi j=>.int (i/j)) zCc:=zAO (λi j h=>(of_decide_eq_true h:0<j/\(j<1073741824\/j.natAbs<Big))) λ_ _=>⟨rfl,rfl⟩
abbrev modD:=zCa (λ_ j=>decide (0<j)) λi j=>.int (i%j)
def ro_mod:ROk K mg (rI (λ_ j=>0<j) λi j=>.int (i%j)) modD:=zAO (λi j h=>of_decide_eq_true h) λ_ _=>⟨rfl,rfl⟩
abbrev powD:=zCa (λi j=>decide (0<=j/\j<=1000000/\i.natAbs<2^64)) λi j=>.int (i^j.toNat)
def ro_pow:ROk K mg (rI CPow λi j=>.int (i^j.toNat)) powD:=zAO (λi j h=>(of_decide_eq_true h:0<=j/\j<=1000000/\i.natAbs<2^64)) λ_ _=>⟨rfl,rfl⟩
def mulD:D->D->Option R
 | .int i,.int j=>if((-(2^64)<i/\i<2^64)\/(-(2^64)<j/\j<2^64))\/(i.natAbs<Big/\j.natAbs<Big)then some (.v (.int (i*j)))else none| .t a,.int k=>if -(2^63)<=k/\k<2^63/\a.length*k.toNat<=cap then some (.v (.t (replicate k.toNat a).flatten))else none|_,_=>none
def rMulD(K:qH):R2:=λx y H Q=>rI CMulB (λi j=>.int (i*j)) x y H Q\/rRepT K x y H Q
def op_mulD:OpR X (binaryOp .Mult) (rMulD X.K):=op_mulB.or op_repT
def ro_mul:ROk K mg (rMulD K) mulD:=by
 intro M H Z x y d1 d2 res Q f r1 r2 e k;cases d1 with
 |int i =>
  cases d2 with
  |int j =>
   simp only[mulD]at e;split at e
   ·rename_i hc
    cases e;exact .inl ⟨i,j,zK r1,zK r2,hc,k.flat f rfl⟩
   ·cases e
  |_=>cases e
 |t a =>
  cases d2 with
  |int n =>
   simp only[mulD]at e;split at e
   ·rename_i hc
    cases e;obtain⟨p,xs,rfl,h1,h2⟩:=zd r1;have l1:=h2.length;refine .inr ⟨p,n,xs,rfl,zK r2,yA zL h1,hc.1,hc.2.1,by rw[l1];exact wN hc.2.2,λe=>?_,λp' hp=>k.tup f hp (h2.flatten _)⟩;refine k.rep f ?_;rcases e with e|e
    ·subst e
     have:a=[]:=by simpa using l1.symm
     subst this;simpa using r1
    ·subst e
     simpa using r1
   ·cases e
  |_=>cases e
 |_=>cases e
abbrev ltD:=zDt λi j=>.bl (decide (i<j))
def ro_lt:ROk K mg (rI0 λi j=>.bl (decide (i<j))) ltD:=ZW λ_ _=>⟨rfl,rfl⟩
abbrev leD:=zDt λi j=>.bl (decide (i<=j))
def ro_le:ROk K mg (rI0 λi j=>.bl (decide (i<=j))) leD:=ZW λ_ _=>⟨rfl,rfl⟩
abbrev gtD:=zDt λi j=>.bl (decide (j<i))
def ro_gt:ROk K mg (rI0 λi j=>.bl (decide (j<i))) gtD:=ZW λ_ _=>⟨rfl,rfl⟩
abbrev geD:=zDt λi j=>.bl (decide (j<=i))
def ro_ge:ROk K mg (rI0 λi j=>.bl (decide (j<=i))) geD:=ZW λ_ _=>⟨rfl,rfl⟩
def eqF:D->D->Option R
 | .int i,.int j=>some (.v (.bl (decide (i=j))))| .bl i,.bl j=>some (.v (.bl (decide (i=j))))| .str i,.str j=>some (.v (.bl (decide (i=j))))|_,_=>none
def neF:D->D->Option R
 | .int i,.int j=>some (.v (.bl (!decide (i=j))))| .bl i,.bl j=>some (.v (.bl (!decide (i=j))))| .str i,.str j=>some (.v (.bl (!decide (i=j))))|_,_=>none
def vint{i j:Int}:decide (V.int i=V.int j)=decide (i=j):=by simp
def vbl{i j:Bool}:decide (V.bl i=V.bl j)=decide (i=j):=by simp
def vstr{i j:Str}:decide (V.str i=V.str j)=decide (i=j):=by simp
def ro_eq:ROk K mg rEq eqF:=by
 intro M H Z x y d1 d2 res Q f r1 r2 e k;cases d1<;>cases d2<;>cases e
 ·rw[yc r1,yc r2];refine⟨rfl,?_⟩;rw[vbl];exact k.flat f rfl
 ·rw[zK r1,zK r2];refine⟨rfl,?_⟩;rw[vint];exact k.flat f rfl
 ·rw[ze r1,ze r2];refine⟨rfl,?_⟩;rw[vstr];exact k.flat f rfl
def ro_ne:ROk K mg rNe neF:=by
 intro M H Z x y d1 d2 res Q f r1 r2 e k;cases d1<;>cases d2<;>cases e
 ·rw[yc r1,yc r2];refine⟨rfl,?_⟩;rw[vbl];exact k.flat f rfl
 ·rw[zK r1,zK r2];refine⟨rfl,?_⟩;rw[vint];exact k.flat f rfl
 ·rw[ze r1,ze r2];refine⟨rfl,?_⟩;rw[vstr];exact k.flat f rfl
def inF(neg:Bool)(d:D):D->Option R
 | .t ds=>if flat d=true/\ds.all flat=true then some (.v (.bl (if neg then !inV (flV d) (ds.map flV)else inV (flV d) (ds.map flV))))else none| .l ds=>if flat d=true/\ds.all flat=true then some (.v (.bl (if neg then !inV (flV d) (ds.map flV)else inV (flV d) (ds.map flV))))else none|_=>none
theorem ZX{H:Hp}:∀{ds:List D} {xs:List V},ds.all flat=true->Reps K mg H ds xs->xs=ds.map flV
 | [],_,_,h=>by simp only[Reps]at h;subst h;rfl
 |d::ds,_,hf,h=>by
  simp only[Reps]at h;obtain⟨v,r,rfl,h1,h2⟩:=h;simp only[all_cons,Bool.and_eq_true]at hf;rw[zV hf.1 h1,ZX hf.2 h2];rfl
def yB{d:D}(h:flat d=true):ww (flV d)=true:=by cases d<;>simp[flat]at h<;>rfl
theorem ZY:∀{ds:List D},ds.all flat=true->(ds.map flV).all ww=true
 | [],_=>rfl
 |d::ds,h=>by
  simp only[all_cons,Bool.and_eq_true]at h;simp only[map_cons,all_cons,Bool.and_eq_true];exact⟨yB h.1,ZY h.2⟩
def zCd{neg:Bool}:ROk K mg (rIn K neg) (inF neg):=by
 intro M H Z x y d1 d2 res Q f r1 r2 e k;cases d2 with
 |t ds =>
  simp only[inF]at e;split at e
  ·rename_i hc
   cases e;obtain⟨p,xs,rfl,h1,h2⟩:=zd r2;rw[zV hc.1 r1];have:=ZX hc.2 h2;subst this;exact⟨p,_,rfl,.inr (yA zL h1),yB hc.1,ZY hc.2,k.flat f rfl⟩
  ·cases e
 |l ds =>
  simp only[inF]at e;split at e
  ·rename_i hc
   cases e;obtain⟨p,xs,rfl,h1,h2⟩:=zO r2;rw[zV hc.1 r1];have:=ZX hc.2 h2;subst this;exact⟨p,_,rfl,.inl (zL.seq h1),yB hc.1,ZY hc.2,k.flat f rfl⟩
  ·cases e
 |_=>cases e
def ixD:D->D->Option R
 | .t ds,.int i=>(atI ds i).map .v| .l ds,.int i=>(atI ds i).map .v|_,_=>none
def Y8{H:Hp}{ds:List D}{xs:List V}{i:Int}{d:D}(h:Reps K mg H ds xs)(e:atI ds i=some d):∃v,atI xs i=some v/\Rep K mg H d v:=by
 unfold atI at e ⊢;have hl:=h.length;rw[hl];cases hj:ixN ds.length i with
 |none=>rw[hj]at e;cases e
 |some j =>
  rw[hj]at e;exact h.get' e
def ro_ix:ROk K mg (λx y H Q=>rIxL K x y H Q\/rIxT K x y H Q) ixD:=by
 intro M H Z x y d1 d2 res Q f r1 r2 e k;cases d1 with
 |t ds =>
  cases d2 with
  |int i =>
   simp only[ixD]at e;cases ea:atI ds i with
   |none=>rw[ea]at e;cases e
   |some d =>
    rw[ea]at e;cases e;obtain⟨p,xs,rfl,h1,h2⟩:=zd r1;obtain⟨v,e1,e2⟩:=Y8 h2 ea;exact .inr ⟨p,xs,i,v,rfl,zK r2,yA zL h1,e1,k.rep f e2⟩
  |_=>cases e
 |l ds =>
  cases d2 with
  |int i =>
   simp only[ixD]at e;cases ea:atI ds i with
   |none=>rw[ea]at e;cases e
   |some d =>
    rw[ea]at e;cases e;obtain⟨p,xs,rfl,h1,h2⟩:=zO r1;obtain⟨v,e1,e2⟩:=Y8 h2 ea;exact .inl ⟨p,xs,i,v,rfl,zK r2,zL.seq h1,e1,k.rep f e2⟩
  |_=>cases e
 |_=>cases e
def ix_both:IxR X (λx y H Q=>rIxL X.K x y H Q\/rIxT X.K x y H Q):=Q5.or ix_tup
def lenD:List D->Option R
 | [.t ds]=>some (.v (.int ds.length))| [.l ds]=>some (.v (.int ds.length))|_=>none
def YN{H:Hp}{d:D}{xs:List V}(h:Reps K mg H [d] xs):∃v,xs=[v]/\Rep K mg H d v:=by
 simp only[Reps]at h;obtain⟨v,r,rfl,h1,rfl⟩:=h;exact⟨v,rfl,h1⟩
def reps2{H:Hp}{d e:D}{xs:List V}(h:Reps K mg H [d,e] xs):∃v w,xs=[v,w]/\Rep K mg H d v/\Rep K mg H e w:=by
 simp only[Reps]at h;obtain⟨v,r,rfl,h1,w,r',rfl,h2,rfl⟩:=h;exact⟨v,w,rfl,h1,h2⟩
def co_len:COk K mg (λxs H Q=>∃p ys,xs=[.ref p]/\(SqL K H p ys\/SqT K H p ys)/\Q (.int ys.length) H) lenD:=by
 intro M H Z xs ds res Q f r e k
 match ds,e with
 | [.t ds],e =>
  cases e;obtain⟨v,rfl,h⟩:=YN r;obtain⟨p,ys,rfl,h1,h2⟩:=zd h;refine⟨p,ys,rfl,.inr (yA zL h1),?_⟩;rw[h2.length];exact k.flat f rfl
 | [.l ds],e =>
  cases e;obtain⟨v,rfl,h⟩:=YN r;obtain⟨p,ys,rfl,h1,h2⟩:=zO h;refine⟨p,ys,rfl,.inl (zL.seq h1),?_⟩;rw[h2.length];exact k.flat f rfl
def maxD:List D->Option R
 | [.int i,.int j]=>some (.v (.int (if j > i then j else i)))|_=>none
def co_max:COk K mg (λxs H Q=>∃i j,xs=[.int i,.int j]/\Q (.int (if j > i then j else i)) H) maxD:=by
 intro M H Z xs ds res Q f r e k
 match ds,e with
 | [.int i,.int j],e =>
  cases e;obtain⟨v,w,rfl,h1,h2⟩:=reps2 r;exact⟨i,j,by rw[zK h1,zK h2],k.flat f rfl⟩
def intF:List D->Option R
 | [.int i]=>some (.v (.int i))| [.bl b]=>some (.v (.int (if b then 1 else 0)))|_=>none
def co_int:COk K mg (λxs H Q=>(∃i,xs=[.int i]/\Q (.int i) H)\/∃k,xs=[.bl k]/\Q (.int (if k then 1 else 0)) H) intF:=by
 intro M H Z xs ds res Q f r e k
 match ds,e with
 | [.int i],e =>
  cases e;obtain⟨v,rfl,h1⟩:=YN r;exact .inl ⟨i,by rw[zK h1],k.flat f rfl⟩
 | [.bl b],e =>
  cases e;obtain⟨v,rfl,h1⟩:=YN r;exact .inr ⟨b,by rw[yc h1],k.flat f rfl⟩
def zDu:List D->Option R
 | [.l ds]=>some (.v (.t ds))| [.t ds]=>some (.v (.t ds))|_=>none
def zCe:COk K mg (λxs H Q=>∃p ys,xs=[.ref p]/\((SqL K H p ys/\∀l,H l=none->Q (.ref l) (upd H l (.t ys)))\/(SqT K H p ys/\Q (.ref p) H))) zDu:=by
 intro M H Z xs ds res Q f r e k
 match ds,e with
 | [.l ds],e =>
  cases e;obtain⟨v,rfl,h⟩:=YN r;obtain⟨p,ys,rfl,h1,h2⟩:=zO h;exact⟨p,ys,rfl,.inl ⟨zL.seq h1,λl hl=>k.tup f hl h2⟩⟩
 | [.t ds],e =>
  cases e;obtain⟨v,rfl,h⟩:=YN r;have h':=h;obtain⟨p,ys,rfl,h1,h2⟩:=zd h;exact⟨p,ys,rfl,.inr ⟨yA zL h1,k.rep f h'⟩⟩
def jD:List D->Option (List Bool)
 | []=>some []| .bl b::ds=>(jD ds).map (b::·)|_=>none
theorem wk{H:Hp}:∀{ds:List D} {xs:List V} {bs:List Bool},jD ds=some bs->Reps K mg H ds xs->xs=bs.map V.bl
 | [],_,_,e,h=>by cases e;simp only[Reps]at h;subst h;rfl
 |d::ds,_,bs,e,h=>by
  simp only[Reps]at h;obtain⟨v,r,rfl,h1,h2⟩:=h;cases d with
  |bl b =>
   simp only[jD]at e;cases eb:jD ds with
   |none=>rw[eb]at e;cases e
   |some cs =>
    rw[eb]at e;cases e;rw[yc h1,wk eb h2];rfl
  |_=>cases e
def allD:List D->Option R
 | [.l ds]=>(jD ds).map λbs=>.v (.bl (bs.all id))|_=>none
def co_all:COk K mg (λxs H Q=>∃(p:Addr) (bs:List Bool),xs=[.ref p]/\SqL K H p (bs.map V.bl)/\Q (.bl (bs.all id)) H) allD:=by
 intro M H Z xs ds res Q f r e k
 match ds,e with
 | [.l ds],e =>
  simp only[allD]at e;cases eb:jD ds with
  |none=>rw[eb]at e;cases e
  |some bs =>
   rw[eb]at e;cases e;obtain⟨v,rfl,h⟩:=YN r;obtain⟨p,ys,rfl,h1,h2⟩:=zO h;have:=wk eb h2;subst this;exact⟨p,bs,rfl,zL.seq h1,k.flat f rfl⟩
end
abbrev MO:=zQ->Out (Option Int×zQ)
def tMO(X:Cx)(m:MO):TO:=λO H Q=>∃M E,E.length=O.length/\FR X.K X.mg M H (O.zip E)/\match m E with
 | .z=>False| .ok (b,E')=>∀H',Got X.K X.mg M O E H [] O E' H' []->Q b H'| .exc x E'=>∀H',Got X.K X.mg M O E H [] O E' H' []->XE X O H' x
section
variable{X:Cx}{K:qH}{mg:Str->Option Value}{O:St}{M:Addr->Prop}{E:zQ}{H:Hp}{T0:Fz}
def Wn{m:MO}{Q:Option Int->Hp->Prop}(hl:E.length=O.length)(h:FR X.K X.mg M H (T0++O.zip E))
  (k:match m E with | .z=>False | .ok (b,E')=>∀H',Got X.K X.mg M O E H T0 O E' H' []->Q b H' | .exc x E'=>∀H',Got X.K X.mg M O E H T0 O E' H' []->XE X O H' x):tMO X m O H Q:=by
 refine⟨Mo M T0,E,hl,h.inner,?_⟩;cases e:m E with
 |z=>rw[e]at k;exact k|ok a=>rw[e]at k;exact λH' g=>k H' (g.outer h)|exc x E'=>rw[e]at k;exact λH' g=>k H' (g.outer h)
abbrev OOk(X:Cx)(e:Option Expr)(m:MO):Prop:=PO X e (tMO X m)
def zDv{e:Option Expr}{t t':TO}(h:PO X e t)(i:∀O H Q,t' O H Q->t O H Q):PO X e t':=λpins s O H Q I q=>h pins s O H Q I (i O H Q q)
def zCf:MO:=λE=>.ok (none,E)
def zAQ(m:ME):MO:=λE=>match m E with
 | .ok (.v (.int i),E1)=>.ok (some i,E1)| .exc x E1=>.exc x E1|_=>.z
def oo_none:OOk X none zCf:=zDv po_none λO H Q ⟨M,E,hl,fr,k⟩=>k H (Got.refl (T0:=[]) hl fr)
def oo_some{e:Expr}{m:ME}(h:EOk X e m):OOk X (some e) (zAQ m):=zDv (po_some h) λO H Q ⟨M,E,hl,fr,k⟩=>by
 unfold zAQ at k;refine zk (T0:=[]) hl fr ?_;cases ea:m E with
 |z=>rw[ea]at k;exact k|exc x E1=>rw[ea]at k;exact k
 |ok p =>
  obtain⟨r,E1⟩:=p;rw[ea]at k;cases r with
  |own ds=>exact k.elim
  |v d =>
   cases d with
   |int i =>
    intro v H' g;exact⟨i,zK g.rep,k H' g.dropAll⟩
   |_=>exact k.elim
def eSl(f:D->Option Int->Option Int->Option R)(a:ME)(lo hi:MO):ME:=λE=>match a E with
 | .z=>.z| .exc x E1=>.exc x E1
 | .ok (r,E1)=>match lo E1 with
  | .z=>.z| .exc x E2=>.exc x E2
  | .ok (l,E2)=>match hi E2 with
   | .z=>.z| .exc x E3=>.exc x E3
   | .ok (u,E3)=>match f r.d l u with
    |some r=>.ok (r,E3)|none=>.z
def WS(ds:List D)(lo hi:Option Int):List D:=(ds.drop (HT.sIx ds.length 0 lo)).take (HT.sIx ds.length ds.length hi-HT.sIx ds.length 0 lo)
def slD:D->Option Int->Option Int->Option R
 | .t ds,lo,hi=>some (.v (.t (WS ds lo hi)))| .l ds,lo,hi=>some (.own (WS ds lo hi))|_,_,_=>none
def GS{ds:List D}{xs:List V}(h:Reps K mg H ds xs)(lo hi:Option Int):Reps K mg H (WS ds lo hi) (zCG xs lo hi):=by
 unfold WS zCG;rw[h.length];exact(h.drop _).take _
def sl_run{a:ME}{lo hi:MO}{Q:VK}(h:tM X (eSl slD a lo hi) O H Q):tSl (λx l u H Q=>rSlTT X.K x l u H Q\/rSlL X.K x l u H Q) (tM X a) (tMO X lo) (tMO X hi) O H Q:=by
 obtain⟨M,E,hl,fr,k⟩:=h;unfold eSl at k;refine zk (T0:=[]) hl fr ?_;cases ea:a E with
 |z=>rw[ea]at k;exact k|exc x E1=>rw[ea]at k;exact λH' g=>k H' g
 |ok p =>
  obtain⟨r1,E1⟩:=p;rw[ea]at k;intro x H1 g1;refine Wn (T0:=[(some x,r1.slot)]) g1.len g1.fr ?_;dsimp only at k;cases eb:lo E1 with
  |z=>rw[eb]at k;exact k|exc x E2=>rw[eb]at k;exact λH' g=>k H' (g1.trans' g).dropAll
  |ok p =>
   obtain⟨l,E2⟩:=p;rw[eb]at k;intro H2 g2;have g12:=g1.trans' g2;refine Wn (T0:=[(some x,r1.slot)]) g12.len g12.fr ?_;dsimp only at k;cases ec:hi E2 with
   |z=>rw[ec]at k;exact k|exc x E3=>rw[ec]at k;exact λH' g=>k H' (g12.trans' g).dropAll
   |ok p =>
    obtain⟨u,E3⟩:=p;rw[ec]at k;intro H3 g3;have g:=g12.trans' g3;have rx:=g.rep;dsimp only at k;have f:=g.frame;cases ed:r1.d with
    |t ds =>
     rw[ed]at k rx;have k':Kt X.K X.mg M H3 (O.zip E3) (.v (.t (WS ds l u))) Q:=λv H' f' s'=>k v H' (g.more (T:=[(some v,_)]) f' s')
     obtain⟨p,xs,rfl,h1,h2⟩:=zd rx;refine .inl ⟨p,xs,rfl,yA zL h1,λhw=>k'.rep f ?_,λ_ p' hp=>k'.tup f hp (GS h2 l u)⟩;have:WS ds l u=ds:=by
      have hl:=h2.length;rw[hl]at hw;unfold WS;rw[hw.1,hw.2];simp
     rw[this];exact rx
    |l ds =>
     rw[ed]at k rx;have k':Kt X.K X.mg M H3 (O.zip E3) (.own (WS ds l u)) Q:=λv H' f' s'=>k v H' (g.more (T:=[(some v,_)]) f' s')
     obtain⟨p,xs,rfl,h1,h2⟩:=zO rx;exact .inr ⟨p,xs,rfl,zL.seq h1,λp' hp=>k'.own f hp (GS h2 l u)⟩
    |_=>rw[ed]at k;exact k.elim
def ok_sl{a:Expr}{lo hi:Option Expr}{ma:ME}{ml mh:MO}{p2 pos:Pos}(ha:EOk X a ma)(hl:OOk X lo ml)(hh:OOk X hi mh):EOk X (.Subscript a (.Slice lo hi none p2) pos) (eSl slD ma ml mh) :=
 zf (GK (sl_tupT.or sl_list) ha hl hh) λO H Q=>sl_run
def tyD:D->Option String
 | .non=>some "NoneType"| .bl _=>some "bool"| .int _=>some "int"| .str _=>some "str"| .t _=>some "tuple"| .l _=>some "list"| .dic=>some "dict"| .fn _=>none| .exn _ _=>none
def Wo(t T:String):Bool:=t==T||(t == "bool"&&T == "int")
def zCg{T:String}(hk:∀t∈["NoneType","bool","int","str","tuple","list","dict"],kitOne X.K (.type t) (.type T)=some (Wo t T)) :
  jp X (.builtin "isinstance") (λxs H Q=>∃x d t,xs=[x,.ty T]/\Rep X.K X.mg H d x/\tyD d=some t/\Q (.bl (Wo t T)) H):=by
 intro pins s O H xs us Q I r h;obtain⟨x,d,t,rfl,rd,et,q⟩:=h;obtain⟨u,w',rfl,rx,ry⟩:=vals2 r;cases (show w'=Value.type T from ry);have fin:∀tk,EP X pins O Q (.bool (Wo t T)) {s with toks:=tk}:=λtk=>⟨.bl _,H,I.tok tk,rfl,q⟩
 cases d with
 |non=>cases et;rw[jC rd]at rx;cases (show u=Value.none from rx);exact kia_one PySem.W.kitx_none I.kIn True.intro (hk _ (by simp)) (λz=>nomatch z) fin|bl b=>cases et;rw[yc rd]at rx;cases (show u=Value.bool b from rx);exact kia_one PySem.W.kitx_bool I.kIn True.intro (hk _ (by simp)) (λz=>nomatch z) fin|int i=>cases et;rw[zK rd]at rx;obtain⟨t,q⟩:=(show ∃t,u=Value.int i t from rx);cases q;exact kia_one PySem.W.kitx_int I.kIn True.intro (hk _ (by simp)) (λz=>nomatch z) fin|str y=>cases et;rw[ze rd]at rx;obtain⟨t,q⟩:=(show ∃t,u=Value.str y t from rx);cases q;exact kia_one PySem.W.kitx_str I.kIn True.intro (hk _ (by simp)) (λz=>nomatch z) fin
 |t ds =>
  cases et;obtain⟨a,xs,rfl,h1,_⟩:=zd rd;cases (show u=Value.ref a from rx);obtain⟨its,_,p,_⟩:=I.tuple h1;obtain⟨o,e1,e2,_⟩:=p;exact kia_one PySem.W.kitx_tuple I.kIn ⟨o,e1,e2⟩ (hk _ (by simp)) (λz=>nomatch z) fin
 |l ds =>
  cases et;obtain⟨a,xs,rfl,h1,_⟩:=zO rd;cases (show u=Value.ref a from rx);obtain⟨its,_,p,_⟩:=I.list h1;obtain⟨o,n,e1,e2,_⟩:=p;exact kia_one PySem.W.kitx_list I.kIn ⟨o,e1,e2⟩ (hk _ (by simp)) (λz=>nomatch z) fin
 |dic =>
  cases et;simp only[Rep]at rd;obtain⟨a,rfl,e⟩:=rd;cases (show u=Value.ref a from rx);obtain⟨_,_,vs,_,p⟩:=(show yJ X.prog X.w H s.heap a (.dK [])from I.hok a _ e);obtain⟨o,es,ep,h1,h2,_⟩:=p;exact kia_one PySem.W.kitx_dict I.kIn ⟨o,h1,h2.1⟩ (hk _ (by simp)) (λz=>nomatch z) fin
 |fn x=>cases et|exn x y=>cases et
def eIs(T:String)(m:ME):ME:=λE=>match m E with
 | .z=>.z| .exc x E1=>.exc x E1
 | .ok (r,E1)=>match tyD r.d with
  |some t=>.ok (.v (.bl (Wo t T)),E1)|none=>.z
def ok_is{T:String}{a:Expr}{m:ME}{x:Str}{p p1 pos:Pos}(hk:∀t∈["NoneType","bool","int","str","tuple","list","dict"],kitOne X.K (.type t) (.type T)=some (Wo t T))(hg:Gl X "isinstance")(hm:X.mg "isinstance"=none)
  (hgT:Gl X x) (hmT:X.mg x=none) (hvT:bootBuiltins x=some (.type T)) (ha:EOk X a m) (hv:bootBuiltins "isinstance"=some (.builtin "isinstance")) (hn:x≠"__name__":=by decide) (hd:(x==("__debug__":Str))=false:=by decide)
  (he:zW a=false:=by rfl) :
  EOk X (.Call (.Name "isinstance" p) [a,.Name x p1] [] pos) (eIs T m):=by
 refine zf (Jk (zCg hk) hg hm hv (yN ha (yN (Qn (v:=.ty T) hgT hmT hvT rfl hn hd) wL (zJ rfl)) (zJ he)) (by decide) (by decide) (zJ he) (y9 rfl)) λO H Q ⟨M,E,hl,fr,k⟩=>?_
 unfold eIs at k;refine zk (T0:=[]) hl fr ?_;cases ea:m E with
 |z=>rw[ea]at k;exact k|exc x E1=>rw[ea]at k;exact k
 |ok pr =>
  obtain⟨r,E1⟩:=pr;rw[ea]at k;intro v H' g;dsimp only at k;cases et:tyD r.d with
  |none=>rw[et]at k;exact k.elim
  |some t =>
   rw[et]at k;exact⟨v,r.d,t,rfl,g.rep.mono zL,et,k _ H' (g.flat (d:=.bl (Wo t T)) rfl)⟩
inductive Fl where
 |nx
 |ret (r:R)
 |bk
 |ct
 deriving Inhabited
abbrev MS:=zQ->Out (Fl×zQ)
def KS(X:Cx)(M:Addr->Prop)(O:St)(E:zQ)(H:Hp)(T0:Fz)(D:Ends):Out (Fl×zQ)->Prop
 | .z=>False| .ok (.nx,E')=>∀O' H',Got X.K X.mg M O E H T0 O' E' H' []->D.nx O' H'| .ok (.bk,E')=>∀O' H',Got X.K X.mg M O E H T0 O' E' H' []->D.bk O' H'| .ok (.ct,E')=>∀O' H',Got X.K X.mg M O E H T0 O' E' H' []->D.ct O' H'| .ok (.ret r,E')=>∀v O' H',Got X.K X.mg M O E H T0 O' E' H' [(some v,r.slot)]->D.rt v H'| .exc x E'=>∀O' H',Got X.K X.mg M O E H T0 O' E' H' []->XE X O' H' x
def tS(X:Cx)(m:MS):TS:=λD O H=>∃M E,E.length=O.length/\FR X.K X.mg M H (O.zip E)/\KS X M O E H [] D (m E)
abbrev SOk(X:Cx)(st:Stmt)(m:MS):Prop:=PS X st (tS X m)
abbrev Qi(X:Cx)(st:List Stmt)(m:MS):Prop:=PSs X st (tS X m)
def va{m:MS}{D:Ends}(hl:E.length=O.length)(h:FR X.K X.mg M H (T0++O.zip E))
  (k:KS X M O E H T0 D (m E)):tS X m D O H:=by
 refine⟨Mo M T0,E,hl,h.inner,?_⟩;cases e:m E with
 |z=>rw[e]at k;exact k
 |ok a =>
  obtain⟨fl,E'⟩:=a;rw[e]at k;cases fl with
  |nx=>exact λO' H' g=>k O' H' (g.outer h)|bk=>exact λO' H' g=>k O' H' (g.outer h)|ct=>exact λO' H' g=>k O' H' (g.outer h)|ret r=>exact λv O' H' g=>k v O' H' (g.outer h)
 |exc x E'=>rw[e]at k;exact λO' H' g=>k O' H' (g.outer h)
def sNil:MS:=λE=>.ok (.nx,E)
def GT(a b:MS):MS:=λE=>match a E with
 | .ok (.nx,E1)=>b E1|o=>o
def sk_nil:Qi X [] sNil:=zAM pss_nil λD O H ⟨M,E,hl,fr,k⟩=>k O H (Got.refl (T0:=[]) hl fr)
def sk_one{st:Stmt}{m:MS}(h:SOk X st m):Qi X [st] m:=uX h
def seq_run{a b:MS}{D:Ends}(h:tS X (GT a b) D O H):tSeq (tS X a) (tS X b) D O H:=by
 obtain⟨M,E,hl,fr,k⟩:=h;unfold GT at k;refine va (T0:=[]) hl fr ?_;cases ea:a E with
 |z=>rw[ea]at k;exact k|exc x E1=>rw[ea]at k;exact k
 |ok p =>
  obtain⟨fl,E1⟩:=p;rw[ea]at k;cases fl with
  |bk=>exact k|ct=>exact k|ret r=>exact k
  |nx =>
   intro O1 H1 g1;refine va (T0:=[]) g1.len g1.fr ?_;dsimp only at k;cases eb:b E1 with
   |z=>rw[eb]at k;exact k|exc x E2=>rw[eb]at k;exact λO' H' g=>k O' H' (g1.trans' g)
   |ok p =>
    obtain⟨fl2,E2⟩:=p;rw[eb]at k;cases fl2 with
    |nx=>exact λO' H' g=>k O' H' (g1.trans' g)|bk=>exact λO' H' g=>k O' H' (g1.trans' g)|ct=>exact λO' H' g=>k O' H' (g1.trans' g)|ret r=>exact λv O' H' g=>k v O' H' (g1.trans' g)
def sk_cons{st:Stmt}{jW:List Stmt}{a b:MS}(h1:SOk X st a)(h2:Qi X jW b):Qi X (st::jW) (GT a b):=zAM (Y6 h1 h2) λD O H=>seq_run
def sIf(c:MT)(a b:MS):MS:=λE=>match c E with
 | .ok (true,E1)=>a E1| .ok (false,E1)=>b E1| .exc x E1=>.exc x E1| .z=>.z
def tS_go{m:MS}{D:Ends}{O1:St}{E1:zQ}{H1:Hp}(g1:Got X.K X.mg M O E H [] O1 E1 H1 [])
  (k:match m E1 with
   | .z=>False| .ok (.nx,E')=>∀O' H',Got X.K X.mg M O E H [] O' E' H' []->D.nx O' H'| .ok (.bk,E')=>∀O' H',Got X.K X.mg M O E H [] O' E' H' []->D.bk O' H'| .ok (.ct,E')=>∀O' H',Got X.K X.mg M O E H [] O' E' H' []->D.ct O' H'| .ok (.ret r,E')=>∀v O' H',Got X.K X.mg M O E H [] O' E' H' [(some v,r.slot)]->D.rt v H'
   | .exc x E'=>∀O' H',Got X.K X.mg M O E H [] O' E' H' []->XE X O' H' x):tS X m D O1 H1:=by
 refine va (T0:=[]) g1.len g1.fr ?_;cases eb:m E1 with
 |z=>rw[eb]at k;exact k|exc x E2=>rw[eb]at k;exact λO' H' g=>k O' H' (g1.trans' g)
 |ok p =>
  obtain⟨fl2,E2⟩:=p;rw[eb]at k;cases fl2 with
  |nx=>exact λO' H' g=>k O' H' (g1.trans' g)|bk=>exact λO' H' g=>k O' H' (g1.trans' g)|ct=>exact λO' H' g=>k O' H' (g1.trans' g)|ret r=>exact λv O' H' g=>k v O' H' (g1.trans' g)
def sif_run{c:MT}{a b:MS}{D:Ends}(h:tS X (sIf c a b) D O H):tIfS (tMT X c) (tS X a) (tS X b) D O H:=by
 obtain⟨M,E,hl,fr,k⟩:=h;unfold sIf at k;refine JO (T0:=[]) hl fr ?_;cases ea:c E with
 |z=>rw[ea]at k;exact k|exc x E1=>rw[ea]at k;exact λH' g=>k O H' g
 |ok p =>
  obtain⟨t,E1⟩:=p;rw[ea]at k;intro H1 g1;cases t with
  |true=>exact iteT (tS_go g1 k)|false=>exact iteF (tS_go g1 k)
def sk_if{c:Expr}{a b:List Stmt}{mc:MT}{ma mb:MS}{pos:Pos}(hc:TOk X c mc)(ha:Qi X a ma)(hb:Qi X b mb):SOk X (.If c a b pos) (sIf mc ma mb):=wM (ps_if hc ha hb) λD O H=>sif_run
def YO(i:Nat)(r:R)(E:zQ):Out zQ:=match E[i]? with
 |none=>.z|some (.par _)=>.z|some _=>.ok (E.set i r.slot)
def sSet(i:Nat)(m:ME):MS:=λE=>match m E with
 | .z=>.z| .exc x E1=>.exc x E1
 | .ok (r,E1)=>match YO i r E1 with
  | .ok E2=>.ok (.nx,E2)|_=>.z
def YQ{O1:St}{E1 E2:zQ}{H1:Hp}{i:Nat}{r:R}{v:V}(g:Got K mg M O E H T0 O1 E1 H1 [(some v,r.slot)])(e:YO i r E1=.ok E2):Got K mg M O E H T0 (O1.set i (some v)) E2 H1 []:=by
 unfold YO at e;cases e1:E1[i]? with
 |none=>rw[e1]at e;cases e
 |some sl =>
  rw[e1]at e;have hne:∀ds,sl≠.par ds:=λds q=>by subst q;cases e
  have e2:E2=E1.set i r.slot:=by
   cases sl with
   |par ds=>exact absurd rfl (hne ds)|_=>cases e;rfl
  subst e2;have hi:i<E1.length:=(qG.mp e1).1;have hl:=g.len;have hz:i<(O1.zip E1).length:=by rw[List.length_zip];omega
  have hT:T0++((O1.set i (some v)).zip (E1.set i r.slot))=(T0++O1.zip E1).set (T0.length+i) (some v,r.slot):=by
   rw[Wk,List.set_append_right _ _ (by omega)];congr 2;omega
  have hz2:T0.length+i<(T0++O1.zip E1).length:=by rw[length_append];omega
  refine⟨by simp[hl],?_,?_,?_⟩
  ·show FR K mg M H1 (T0++((O1.set i (some v)).zip (E1.set i r.slot)))
   rw[hT];exact FR.put g.fr hz2
  ·show Step M H _ H1 (T0++((O1.set i (some v)).zip (E1.set i r.slot)))
   rw[hT];exact Step.put g.st hz2
  ·refine g.pk.trans λj ds q=>?_
   have ne:i≠j:=λz=>by subst z;rw[e1]at q;exact hne ds (qJ q)
   exact⟨⟨ds,by rw[getElem?_set_ne ne];exact q⟩,by rw[getElem?_set_ne ne]⟩
def zAR{i:Nat}{m:ME}{D:Ends}(h:tS X (sSet i m) D O H):tAsg (tM X m) (uY i) D O H:=by
 obtain⟨M,E,hl,fr,k⟩:=h;unfold sSet at k;refine zk (T0:=[]) hl fr ?_;cases ea:m E with
 |z=>rw[ea]at k;exact k|exc x E1=>rw[ea]at k;exact λH' g=>k O H' g
 |ok p =>
  obtain⟨r,E1⟩:=p;rw[ea]at k;intro v H' g;dsimp only at k;cases ep:YO i r E1 with
  |z=>rw[ep]at k;exact k.elim|exc _ _=>rw[ep]at k;exact k.elim
  |ok E2 =>
   rw[ep]at k;exact k _ H' (YQ g ep)
def zDw{i:Nat}{x:Str}{e:Expr}{m:ME}{pos pos':Pos}(hN:X.N.Nodup)(hi:X.N[i]?=some x)(hx:Loc X.env.scope x)(he:EOk X e m)(hs:swapsWith e (some (.Name x pos')) pos.line X.env=pure false:=by rfl)
  (hf:X.fn x=true\/X.env.scope.names.lookup x=some .local:=by first|exact .inl rfl|exact .inr rfl|assumption):SOk X (.Assign [.Name x pos'] e pos) (sSet i m) :=
 wM (ps_set hN hi hx he hs hf) λD O H=>zAR
def sRet(m:ME):MS:=λE=>match m E with
 | .z=>.z| .exc x E1=>.exc x E1| .ok (r,E1)=>.ok (.ret r,E1)
def ret_run{m:ME}{D:Ends}(h:tS X (sRet m) D O H):tRet (tM X m) D O H:=by
 obtain⟨M,E,hl,fr,k⟩:=h;unfold sRet at k;refine zk (T0:=[]) hl fr ?_;cases ea:m E with
 |z=>rw[ea]at k;exact k|exc x E1=>rw[ea]at k;exact λH' g=>k O H' g|ok p=>rw[ea]at k;exact λv H' g=>k v O H' g
def sk_ret{e:Expr}{m:ME}{pos:Pos}(he:EOk X e m):SOk X (.Return (some e) pos) (sRet m):=wM (ps_ret he) λD O H=>ret_run
end
theorem jY{α β:Type}{f:α->Option β}{x y:α}(h:f y=f x):∀{l:List α} {i:Nat},l[i]?=some x->(l.set i y).filterMap f=l.filterMap f
 | [],_,e=>by simp at e
 |a::l,0,e=>by
  simp at e;subst e
  simp only[List.set_cons_zero,filterMap_cons,h]
 |a::l,i+1,e=>by
  simp at e
  simp only[List.set_cons_succ,filterMap_cons,jY h e]
section
variable{X:Cx}{K:qH}{mg:Str->Option Value}{O:St}{M:Addr->Prop}{E:zQ}{H:Hp}{T0 Z:Fz}
def Slot.put:Slot->List D->Slot
 | .own _,es=>.own es| .par _,es=>.par es|s,_=>s
def Wp{p:Addr}{s:Slot}{ds es:List D}(hs:s.list?=some ds):uQ (some (.ref p),s.put es)=uQ (some (.ref p),s)/\(s.put es).list?=some es:=by
 cases s<;>simp[Slot.list?]at hs<;>exact⟨rfl,rfl⟩
def FR.mut(h:FR K mg M H Z){i:Nat}{p:Addr}{s:Slot}{ds es:List D}{ys:List V}(hi:Z[i]?=some (some (.ref p),s))(hs:s.list?=some ds)(r:Reps K mg (Hm (Mo M Z) H) es ys) :
  FR K mg M (upd H p (.l ys)) (Z.set i (some (.ref p),s.put es))/\Step M H Z (upd H p (.l ys)) (Z.set i (some (.ref p),s.put es)):=by
 have eo:yE (Z.set i (some (.ref p),s.put es))=yE Z:=jY (Wp hs).1 hi;have em:Mo M (Z.set i (some (.ref p),s.put es))=Mo M Z:=by unfold Mo;rw[eo]
 have hp:p∈yE Z:=jR (mem_of_getElem? hi) hs rfl;obtain⟨xs0,hH,hM⟩:=h.ownAt hp;have ehm:Hm (Mo M Z) (upd H p (.l ys))=Hm (Mo M Z) H:=by
  funext b
  unfold Hm;by_cases hb:Mo M Z b
  ·simp[hb]
  ·have:b≠p:=λe=>hb (by subst e;exact .inr hp)
   simp[hb,zH this]
 have mem:∀{q:Option V×Slot},q∈Z.set i (some (.ref p),s.put es)->q=(some (.ref p),s.put es)\/q∈Z:=λ{q} hq=>(List.mem_or_eq_of_mem_set hq).symm
 have hlt:i<Z.length:=(qG.mp hi).1;have nd2:(yE (Z.eraseIdx i)).Nodup/\p∉yE (Z.eraseIdx i):=by
  have pz:Z.Perm ((some (.ref p),s)::Z.eraseIdx i):=by
   have:=zr (some (V.ref p),s) Z i hlt;rw[Y7 hi]at this;exact this
  have nd:=(pz.filterMap uQ).nodup_iff.mp h.nd;have e:List.filterMap uQ ((some (V.ref p),s)::Z.eraseIdx i)=p::yE (Z.eraseIdx i):=by
   cases s<;>simp[Slot.list?]at hs<;>rfl
  rw[e]at nd;exact⟨(nodup_cons.mp nd).2,(nodup_cons.mp nd).1⟩
 have pz2:(Z.set i (some (.ref p),s.put es)).Perm ((some (.ref p),s.put es)::Z.eraseIdx i):=zr _ _ _ hlt;refine⟨⟨λo d q=>?_,λo s' ds' q e=>?_,by rw[eo];exact h.nd,λb q=>?_⟩,⟨by rw[em,ehm];exact YJ.refl _,λb o m e=>?_⟩⟩
 ·rw[em,ehm]
  rcases mem q with q|q
  ·exfalso
   cases s<;>simp[Slot.list?]at hs<;>cases q
  ·exact h.val o d q
 ·rw[em,ehm]
  rcases mem_cons.mp (pz2.mem_iff.mp q)with q'|q'
  ·cases q'
   rw[(Wp (p:=p) hs).2]at e;cases e;exact⟨p,ys,rfl,zU,hM,r⟩
  ·have q'':(o,s')∈Z:=(List.eraseIdx_sublist Z i).subset q'
   obtain⟨a,xs,e1,e2,e3,rr⟩:=h.own o s' ds' q'' e;have ne:a≠p:=λz=>by
    subst z;exact nd2.2 (jR q' e e1)
   exact⟨a,xs,e1,by rw[zH ne];exact e2,e3,rr⟩
 ·obtain⟨o,e⟩:=h.mal b q
  by_cases z:b=p
  ·subst z;exact⟨_,zU⟩
  ·exact⟨o,by rw[zH z];exact e⟩
 ·have ne:b≠p:=λz=>hM (by subst z;exact m)
  rw[zH ne];exact e
theorem Got.mut{O1:St}{E1:zQ}{H1:Hp}{T:Fz}(g:Got K mg M O E H [] O1 E1 H1 T){i:Nat}{s:Slot}{ds es:List D}{ys:List V}(hi:E1[i]?=some s)(hs:s.list?=some ds)(r:Reps K mg (Hm (Mo M (O1.zip E1)) H1) es ys) :
  ∃p,O1[i]?=some (some (.ref p))/\Got K mg M O E H [] O1 (E1.set i (s.put es)) (upd H1 p (.l ys)) []:=by
 obtain⟨o,h1,h2⟩:=YM g.len hi;obtain⟨p,xs,rfl,_⟩:=g.frame.own o s ds (mem_of_getElem? h2) hs;refine⟨p,h1,?_⟩;obtain⟨f,st⟩:=FR.mut g.frame h2 hs r;have e:=yO (E:=E1) (s.put es) h1;rw[<- e]at f st;refine⟨by simp[g.len],f,(g.st.weak (zD (sublist_append_right _ _))).trans st,g.pk.trans λj ds' q=>?_⟩;by_cases ej:i=j
 ·subst ej
  rw[hi]at q;cases q;have hlt:i<E1.length:=(qG.mp hi).1;exact⟨⟨es,by rw[getElem?_set_self hlt];rfl⟩,rfl⟩
 ·exact⟨⟨ds',by rw[getElem?_set_ne ej];exact q⟩,rfl⟩
def zAS{i:Nat}{s:Slot}(hl:E.length=O.length)(f:FR K mg M H (O.zip E))(h:E[i]?=some s)(hs:s≠.e):∃v,O[i]?=some (some v):=by
 obtain⟨o,h1,h2⟩:=j7 hl h;cases s with
 |e=>exact absurd rfl hs|v d=>obtain⟨v,rfl,_⟩:=f.val o d h2;exact⟨v,h1⟩|own ds=>obtain⟨a,_,rfl,_⟩:=f.own o _ ds h2 rfl;exact⟨_,h1⟩|par ds=>obtain⟨a,_,rfl,_⟩:=f.own o _ ds h2 rfl;exact⟨_,h1⟩
def wQ:Option Slot->Bool
 |none=>true|some .e=>true|_=>false
def ui{o:Option Slot}(h:wQ o=false):∃s,o=some s/\s≠.e:=by
 cases o with
 |none=>cases h
 |some s=>cases s<;>simp[wQ]at h<;>exact⟨_,rfl,by intro q;cases q⟩
def ixS:Slot->Int->Option D
 | .own ds,i=>atI ds i| .par ds,i=>atI ds i| .v (.l ds),i=>atI ds i|_,_=>none
def zCh(i:Nat)(m:ME):ME:=λE=>if wQ E[i]?=true then .z else match m E with
 | .z=>.z| .exc x E1=>.exc x E1
 | .ok (.v (.int k),E1)=>match E1[i]? with
  |some s=>match ixS s k with
   |some d=>.ok (.v d,E1)|none=>.z
  |none=>.z
 |_=>.z
def ixO_run{i:Nat}{m:ME}{Q:VK}(h:tM X (zCh i m) O H Q):tOp (rIxL X.K) (Z5 i) (tM X m) O H Q:=by
 obtain⟨M,E,hl,fr,k⟩:=h;unfold zCh at k;cases em:wQ E[i]? with
 |true=>rw[em]at k;exact k.elim
 |false =>
  rw[em]at k;obtain⟨s,hs1,hs2⟩:=ui em;obtain⟨v,hv⟩:=zAS hl fr hs1 hs2;refine⟨v,hv,?_⟩;refine zk (T0:=[]) hl fr ?_;simp only[Bool.false_eq_true,if_false]at k;cases ea:m E with
  |z=>rw[ea]at k;exact k|exc x E1=>rw[ea]at k;exact k
  |ok p =>
   obtain⟨r,E1⟩:=p;rw[ea]at k;cases r with
   |own ds=>exact k.elim
   |v d =>
    cases d with
    |int n =>
     intro y H' g;dsimp only at k;cases e1:E1[i]? with
     |none=>rw[e1]at k;exact k.elim
     |some s1 =>
      rw[e1]at k;dsimp only at k;cases e2:ixS s1 n with
      |none=>rw[e2]at k;exact k.elim
      |some d =>
       rw[e2]at k;have f:=g.frame;have fin:∀{w:V},Rep X.K X.mg (Hm (Mo M (O.zip E1)) H') d w->Q w H':=λ{w} rw'=>k w H' (g.more (T:=[(some w,.v d)]) (f.add rw') Step.refl.add)
       obtain⟨o,h1,h2⟩:=j7 g.len e1;have ho:o=some v:=by rw[hv]at h1;exact(qJ h1).symm
       subst ho;have key:∀{ds:List D},s1.list?=some ds->atI ds n=some d->rIxL X.K v y H' Q:=λ{ds} hl1 ha=>by
        obtain⟨a,xs,ev,q1,_,q3⟩:=f.own _ s1 ds h2 hl1;cases ev;obtain⟨w,a1,a2⟩:=Y8 q3 ha;exact⟨a,xs,n,w,rfl,zK g.rep,SqL.of q1,a1,fin a2⟩
       cases s1 with
       |e=>cases e2|own ds=>exact key rfl e2|par ds=>exact key rfl e2
       |v dd =>
        cases dd with
        |l ds =>
         obtain⟨v',ev,rr⟩:=f.val _ _ h2;cases ev;obtain⟨a,xs,rfl,q1,q2⟩:=zO rr;obtain⟨w,a1,a2⟩:=Y8 q2 e2;exact⟨a,xs,n,w,rfl,zK g.rep,zL.seq q1,a1,fin a2⟩
        |_=>cases e2
    |_=>exact k.elim
def ok_ixO(i:Nat){x:Str}{b:Expr}{m:ME}{p pos:Pos}(hv:PE X (.Name x p) (Z5 i))(hb:EOk X b m)(hs:Wh b):EOk X (.Subscript (.Name x p) b pos) (zCh i m) :=
 zf (pe_ix Q5 hv hb hs) λO H Q=>ixO_run
def QN(i:Nat):ME:=λE=>match E[i]? with
 |some (.own ds)=>.ok (.v (.int ds.length),E)|some (.par ds)=>.ok (.v (.int ds.length),E)|some (.v (.l ds))=>.ok (.v (.int ds.length),E)|_=>.z
def zCi{i:Nat}{Q:VK}(h:tM X (QN i) O H Q):tCB (λxs H Q=>∃p ys,xs=[.ref p]/\(SqL X.K H p ys\/SqT X.K H p ys)/\Q (.int ys.length) H) (uZ (Z5 i) tNil) O H Q:=by
 obtain⟨M,E,hl,f,k⟩:=h;unfold QN at k;cases e1:E[i]? with
 |none=>rw[e1]at k;exact k.elim
 |some s =>
  rw[e1]at k;obtain⟨o,h1,h2⟩:=j7 hl e1;have key:∀{ds:List D},s.list?=some ds->(∀(v:V) (H':Hp),Got X.K X.mg M O E H [] O E H' [(some v,.v (.int ds.length))]->Q v H')->tCB (λxs H Q=>∃p ys,xs=[.ref p]/\(SqL X.K H p ys\/SqT X.K H p ys)/\Q (.int ys.length) H) (uZ (Z5 i) tNil) O H Q:=λ{ds} hl1 kk=>by
   obtain⟨a,xs,ev,q1,_,q3⟩:=f.own _ s ds h2 hl1;subst ev;refine⟨.ref a,h1,a,xs,rfl,.inl (SqL.of q1),?_⟩;rw[q3.length];exact kk _ H ((Got.refl (T0:=[]) hl f).flat (d:=.int ds.length) rfl)
  cases s with
  |e=>exact k.elim|own ds=>exact key rfl k|par ds=>exact key rfl k
  |v d =>
   cases d with
   |l ds =>
    obtain⟨v',ev,rr⟩:=f.val _ _ h2;subst ev;obtain⟨a,xs,rfl,q1,q2⟩:=zO rr;refine⟨.ref a,h1,a,xs,rfl,.inl (zL.seq q1),?_⟩;rw[q2.length];exact k _ H ((Got.refl (T0:=[]) hl f).flat (d:=.int ds.length) rfl)
   |_=>exact k.elim
def ok_lenO(i:Nat){x:Str}{p p1 pos:Pos}(hv:PE X (.Name x p1) (Z5 i))(hg:Gl X "len")(hm:X.mg "len"=none) :
  EOk X (.Call (.Name "len" p) [.Name x p1] [] pos) (QN i) :=
 zf (Jk Yk hg hm PySem.boot_len (yN hv wL (zJ rfl)) (by decide) (by decide) (zJ rfl) (y9 rfl)) λO H Q=>zCi
def Ym(i:Nat)(mi mv:ME):MS:=λE=>if wQ E[i]?=true then .z else match mv E with
 | .z=>.z| .exc x E1=>.exc x E1
 | .ok (r,E1)=>match mi E1 with
  | .z=>.z| .exc x E2=>.exc x E2
  | .ok (.v (.int k),E2)=>match E2[i]? with
   |none=>.z
   |some s=>match s.list? with
    |none=>.z
    |some ds=>match ixN ds.length k with
     |none=>.z|some j=>.ok (.nx,E2.set i (s.put (ds.set j r.d)))
  |_=>.z
def zAT{i:Nat}{mi mv:ME}{D:Ends}(h:tS X (Ym i mi mv) D O H):tAsg (tM X mv) (gSub (Z5 i) (tM X mi) rSetL) D O H:=by
 obtain⟨M,E,hl,fr,k⟩:=h;unfold Ym at k;cases em:wQ E[i]? with
 |true=>rw[em]at k;exact k.elim
 |false =>
  rw[em]at k;obtain⟨s,hs1,hs2⟩:=ui em;obtain⟨v,hv⟩:=zAS hl fr hs1 hs2;refine zk (T0:=[]) hl fr ?_;simp only[Bool.false_eq_true,if_false]at k;cases ea:mv E with
  |z=>rw[ea]at k;exact k|exc x E1=>rw[ea]at k;exact λH' g=>k O H' g
  |ok p =>
   obtain⟨r,E1⟩:=p;rw[ea]at k;intro y H1 g1;refine⟨v,hv,?_⟩;refine zk (T0:=[(some y,r.slot)]) g1.len g1.fr ?_;dsimp only at k;cases eb:mi E1 with
   |z=>rw[eb]at k;exact k|exc x E2=>rw[eb]at k;exact λH' g=>k O H' (g1.trans' g).dropAll
   |ok p =>
    obtain⟨r2,E2⟩:=p;rw[eb]at k;cases r2 with
    |own ds=>exact k.elim
    |v d =>
     cases d with
     |int n =>
      intro z H2 g2;have g:=g1.trans' g2;dsimp only at k;cases e1:E2[i]? with
      |none=>rw[e1]at k;exact k.elim
      |some s1 =>
       rw[e1]at k;dsimp only at k;cases e2:s1.list? with
       |none=>rw[e2]at k;exact k.elim
       |some ds =>
        rw[e2]at k;dsimp only at k;cases e3:ixN ds.length n with
        |none=>rw[e3]at k;exact k.elim
        |some j =>
         rw[e3]at k;have rp:=Got.reps (vs:=[z,y]) (rs:=[.v (.int n),r]) rfl g;simp only[List.map,Reps]at rp;obtain⟨z',_,q1,rz,y',_,q2,ry,_⟩:=rp;cases q1;cases q2;obtain⟨o,h1,h2⟩:=j7 g.len e1;obtain⟨a,xs,ev,w1,_,w3⟩:=g.frame.own _ s1 ds h2 e2;subst ev;have ev:v=.ref a:=by rw[hv]at h1;exact qJ (qJ h1)
         subst ev;obtain⟨p,hp,g'⟩:=g.mut e1 e2 (w3.set j ry);have ep:p=a:=by rw[h1]at hp;cases hp;rfl
         subst ep;exact⟨p,xs,n,j,rfl,zK rz,w1,by rw[w3.length];exact e3,k O _ g'⟩
     |_=>exact k.elim
def zCj(i:Nat){x:Str}{b e:Expr}{mi mv:ME}{p p1 pos:Pos}(hv:PE X (.Name x p) (Z5 i))(hb:EOk X b mi)(he:EOk X e mv)
  (ha:∀v,assign (.Subscript (.Name x p) b p1) X.env v=(do
   let ov <- holding [v] (eval (.Name x p) X.env)
   let iv <- holding [v,ov] (eval b X.env)
   standAt p1
   holding [v,ov,iv] (setItem ov iv v)
   release [v,ov,iv] []):=by intro _;rfl) (hs:swapsWithSole [.Subscript (.Name x p) b p1] e pos.line X.env=pure false:=by rfl):SOk X (.Assign [.Subscript (.Name x p) b p1] e pos) (Ym i mi mv) :=
 wM (zDf he (pg_sub hv hb zCH ha) hs) λD O H=>zAT
def sApp(i:Nat)(m:ME):MS:=λE=>match E[i]? with
 |none=>.z
 |some s0=>match s0.list? with
  |none=>.z
  |some _=>match m E with
   | .z=>.z| .exc x E1=>.exc x E1
   | .ok (r,E1)=>match E1[i]? with
    |none=>.z
    |some s=>match s.list? with
     |none=>.z|some ds=>if ds.length<cap then .ok (.nx,E1.set i (s.put (ds++[r.d])))else .z
def app_run{i:Nat}{m:ME}{D:Ends}(h:tS X (sApp i m) D O H):tDrop (tBM X.K "list" Q8 (Z5 i) (uZ (tM X m) tNil)) D O H:=by
 obtain⟨M,E,hl,fr,k⟩:=h;unfold sApp at k;cases e0:E[i]? with
 |none=>rw[e0]at k;exact k.elim
 |some s0 =>
  rw[e0]at k;dsimp only at k;cases e00:s0.list? with
  |none=>rw[e00]at k;exact k.elim
  |some ds0 =>
   rw[e00]at k;obtain⟨o,h1,h2⟩:=j7 hl e0;obtain⟨a,xs,ev,w1,_,w3⟩:=fr.own _ s0 ds0 h2 e00;subst ev;refine⟨.ref a,h1,.inl ⟨rfl,xs,SqL.of w1⟩,?_⟩;refine zk (T0:=[]) hl fr ?_;dsimp only at k;cases ea:m E with
   |z=>rw[ea]at k;exact k|exc x E1=>rw[ea]at k;exact λH' g=>k O H' g
   |ok p =>
    obtain⟨r,E1⟩:=p;rw[ea]at k;intro y H1 g;dsimp only at k;cases e1:E1[i]? with
    |none=>rw[e1]at k;exact k.elim
    |some s =>
     rw[e1]at k;dsimp only at k;cases e2:s.list? with
     |none=>rw[e2]at k;exact k.elim
     |some ds =>
      rw[e2]at k;dsimp only at k;by_cases hc:ds.length<cap
      ·rw[if_pos hc]at k
       obtain⟨o,h1',h2'⟩:=j7 g.len e1;obtain⟨a',ys,ev,q1,_,q3⟩:=g.frame.own _ s ds h2' e2;subst ev;have ea':a'=a:=by rw[h1]at h1';cases h1';rfl
       subst ea';obtain⟨p,hp,g'⟩:=g.mut e1 e2 (q3.append (Reps.cons g.rep Reps.nil));have ep:p=a':=by rw[h1]at hp;cases hp;rfl
       subst ep;exact⟨p,ys,y,rfl,rfl,q1,by rw[q3.length];exact lt_of_lt_of_le hc (wN (le_refl _)),k O _ g'⟩
      ·rw[if_neg hc]at k;exact k.elim
def sk_app(i:Nat){x:Str}{e:Expr}{m:ME}{p apos cpos pos:Pos}(hv:PE X (.Name x p) (Z5 i))(he:EOk X e m)
  (hbase:attributeBase (.Name x p) "append" X.env (eval (.Name x p) X.env)=eval (.Name x p) X.env:=by rfl)
  (hfew:((backTo cpos (starEach (e::[]) X.env)).all (λx=>!x.1)&&(backToKw cpos (keywordEach [] X.env)).all (λx=>x.1.isSome)
   && decide ((e::([]:List Expr)).length+([]:List Keyword).length+(if([]:List Keyword).isEmpty then 0 else 1)<30))=true:=by rfl)
  (hline:(apos.endLine==cpos.line)=true:=by rfl) (hs:starEach (e::[]) X.env=(false,eval e X.env)::starEach [] X.env:=by rfl) (hplain:(backTo cpos (starEach [] X.env)).any (·.1)=false:=by rfl)
  (hsw:swapsWith (.Call (.Attribute (.Name x p) "append" apos) [e] [] cpos) none pos.line X.env=pure false:=by rfl):SOk X (.Expr (.Call (.Attribute (.Name x p) "append" apos) [e] [] cpos) pos) (sApp i m) :=
 wM (Qo (Q7 PySem.F.plainAttrs_list PySem.F.slot_list_append PySem.F.type_list_append vR hv (yN he wL hs) hbase hfew hline hs hplain) hsw) λD O H=>app_run
end
section
variable{X:Cx}{K:qH}{mg:Str->Option Value}{O:St}{M:Addr->Prop}{E:zQ}{H:Hp}{T0 Z:Fz}
abbrev MG:=D->zQ->Out zQ
def GOk(X:Cx)(g:TG)(tg:MG):Prop:=∀(M:Addr->Prop) (O:St) (E:zQ) (H:Hp) (T0:Fz) (x:V) (d:D) (E':zQ) (Q:St->Hp->Prop),E.length=O.length->FR X.K X.mg M H ((some x,.v d)::(T0++O.zip E))->tg d E=.ok E' ->
 (∀O',Got X.K X.mg M O E H T0 O' E' H []->Q O' H)->g x O H Q
def gN(i:Nat):MG:=λd E=>YO i (.v d) E
def go_name(i:Nat):GOk X (uY i) (gN i):=λM O E H T0 x d E' Q hl f e k =>
 k _ (YQ (O1:=O) (E1:=E) (H1:=H) (r:=.v d) (v:=x) ⟨hl,f,Step.refl.add,PKp.refl⟩ e)
def gNs:List Nat->List D->zQ->Out zQ
 | [],[],E=>.ok E
 |i::is,d::ds,E=>match YO i (.v d) E with
  | .ok E1=>gNs is ds E1|_=>.z
 |_,_,_=>.z
def gT(is:List Nat):MG:=λd E=>match d with
 | .t ds=>gNs is ds E|_=>.z
def JQ:List Nat->TGs
 | []=>gNil|i::is=>gCons (uY i) (JQ is)
theorem vb:∀(is:List Nat) (ds:List D) (xs:List V) {M:Addr->Prop} {O0 O:St} {E0 E E':zQ} {H:Hp} {T0:Fz} {a:Addr} {ts:List D} {Q:St->Hp->Prop},
  Got X.K X.mg M O0 E0 H T0 O E H []->Reps X.K X.mg (Hm (Mo M (T0++O.zip E)) H) ds xs->gNs is ds E=.ok E'->(∀O',Got X.K X.mg M O0 E0 H T0 O' E' H []->Q O' H)->JQ is xs O H Q
 | [],[],xs,M,O0,O,E0,E,E',H,T0,a,ts,Q,g,r,e,k=>by
  cases e;simp only[Reps]at r;exact⟨r,k O g⟩
 | [],d::ds,xs,M,O0,O,E0,E,E',H,T0,a,ts,Q,g,r,e,k=>by cases e|i::is,[],xs,M,O0,O,E0,E,E',H,T0,a,ts,Q,g,r,e,k=>by cases e
 |i::is,d::ds,xs,M,O0,O,E0,E,E',H,T0,a,ts,Q,g,r,e,k=>by
  simp only[Reps]at r;obtain⟨x,jW,rfl,rx,rr⟩:=r;simp only[gNs]at e;cases e1:YO i (.v d) E with
  |z=>rw[e1]at e;cases e|exc _ _=>rw[e1]at e;cases e
  |ok E1 =>
   rw[e1]at e;refine⟨x,jW,rfl,?_⟩;have g1:Got X.K X.mg M O0 E0 H T0 O E H [(some x,R.slot (.v d))]:=⟨g.len,g.fr.add rx,g.st.add,g.pk⟩;have g2:=YQ g1 e1;refine vb is ds jW (a:=a) (ts:=ts) g2 (rr.mono ?_) e k;refine jh (Jn λb hb=>?_);have st:=g2.fr
   -- the stored slot is a value: it yE nothing
   unfold YO at e1;cases e2:E[i]? with
   |none=>rw[e2]at e1;cases e1
   |some sl =>
    rw[e2]at e1;have e3:E1=E.set i (.v d):=by cases sl<;>cases e1<;>rfl
    subst e3;have hi:i<E.length:=(qG.mp e2).1;have hz:i<(O.zip E).length:=by rw[List.length_zip];have:=g.len;omega
    rw[Wk]at hb;rw[zc]at hb ⊢;rcases mem_append.mp hb with hb|hb
    ·exact mem_append_left _ hb
    ·refine qK _ ?_
     have:=zC (zr _ _ _ hz) b hb;rw[za]at this;exact zD (List.eraseIdx_sublist _ _) b this
def go_tup{n:Nat}(is:List Nat)(hn:is.length=n):GOk X (gTup X.K n (JQ is)) (gT is):=λM O E H T0 x d E' Q hl f e k=>by
 cases d with
 |t ds =>
  obtain⟨v,ev,r⟩:=f.val _ _ qE;cases ev;obtain⟨a,xs,rfl,h1,h2⟩:=zd r;rw[ZT]at h2;have hlen:ds.length=is.length:=by
   have:∀(is:List Nat) (ds:List D) (E E':zQ),gNs is ds E=.ok E'->ds.length=is.length:=by
    intro is
    induction is with
    |nil=>intro ds E E' h;cases ds with|nil=>rfl|cons d ds=>cases h
    |cons i is ih =>
     intro ds E E' h;cases ds with
     |nil=>cases h
     |cons d ds =>
      simp only[gNs]at h;cases e1:YO i (.v d) E with
      |ok E1=>rw[e1]at h;simp[ih ds E1 E' h]|z=>rw[e1]at h;cases h|exc _ _=>rw[e1]at h;cases h
   exact this is ds E E' e
  refine⟨a,xs,rfl,yA zL h1,by rw[h2.length,hlen,hn],?_⟩;exact vb is ds xs (a:=a) (ts:=[]) (Got.refl hl f.tail) h2 e k
 |_=>cases e
def uR(tg:MG)(body:MS):List D->zQ->Out (Fl×zQ)
 | [],E=>.ok (.nx,E)
 |d::ds,E=>match tg d E with
  | .ok E1=>match body E1 with
   | .ok (.nx,E2)=>uR tg body ds E2| .ok (.ct,E2)=>uR tg body ds E2| .ok (.bk,E2)=>.ok (.nx,E2)| .ok (.ret r,E2)=>.ok (.ret r,E2)| .exc x E2=>.exc x E2| .z=>.z
  |_=>.z
def Fin(X:Cx)(M:Addr->Prop)(O:St)(E:zQ)(H:Hp)(D:Ends)(o:Out (Fl×zQ)):Prop:=match o with
 | .z=>False| .ok (.nx,E')=>∀O' H',Got X.K X.mg M O E H [] O' E' H' []->D.nx O' H'| .ok (.bk,E')=>∀O' H',Got X.K X.mg M O E H [] O' E' H' []->D.bk O' H'| .ok (.ct,E')=>∀O' H',Got X.K X.mg M O E H [] O' E' H' []->D.ct O' H'| .ok (.ret r,E')=>∀v O' H',Got X.K X.mg M O E H [] O' E' H' [(some v,r.slot)]->D.rt v H'| .exc x E'=>∀O' H',Got X.K X.mg M O E H [] O' E' H' []->XE X O' H' x
def Got.dropT{K:qH}{mg:Str->Option Value}{M:Addr->Prop}{O O1:St}{E E1:zQ}{H H1:Hp}{T T':Fz}(a:Got K mg M O E H [] O1 E1 H1 (T++T')):Got K mg M O E H [] O1 E1 H1 T where
 len:=a.len
 fr:=a.fr.sub (by rw[append_assoc];exact(sublist_append_right _ _).append_left _)
 st:=a.st.weak (zD (by rw[append_assoc];exact(sublist_append_right _ _).append_left _))
 pk:=a.pk
def GU{tg:MG}{body:MS}{g:TG}{D:Ends}{d:DV.D}{ds:List DV.D}{O1:St}{E1:zQ}{H1:Hp}{T:Fz}{x:V}{P:St->Hp->Prop}(hg:GOk X g tg)
  (g1:Got X.K X.mg M O E H [] O1 E1 H1 T) (rx:Rep X.K X.mg (Hm (Mo M (T++O1.zip E1)) H1) d x) (fin:Fin X M O E H D (uR tg body (d::ds) E1))
  (next:∀O2 E2 H2,Got X.K X.mg M O E H [] O2 E2 H2 T->Step M H1 (T++O1.zip E1) H2 (T++O2.zip E2)->Fin X M O E H D (uR tg body ds E2)->P O2 H2) :
  g x O1 H1 λO2 H2=>tS X body {D with nx:=P,ct:=P,bk:=D.nx} O2 H2:=by
 simp only[uR]at fin;cases e1:tg d E1 with
 |z=>rw[e1]at fin;exact fin.elim|exc _ _=>rw[e1]at fin;exact fin.elim
 |ok E2 =>
  rw[e1]at fin;dsimp only at fin;refine hg M O1 E1 H1 T x d E2 _ g1.len (g1.fr.add rx) e1 λO2 g2=>?_
  have g12:=g1.trans' g2;refine va (T0:=T) g2.len g2.fr ?_;cases e2:body E2 with
  |z=>rw[e2]at fin;exact fin|exc y E3=>rw[e2]at fin;exact λO' H' g'=>fin O' H' (g12.trans' g').dropAll
  |ok p =>
   obtain⟨fl,E3⟩:=p;rw[e2]at fin;cases fl with
   |nx=>exact λO' H' g'=>next O' E3 H' (g12.trans' g') (g2.st.trans g'.st) fin|ct=>exact λO' H' g'=>next O' E3 H' (g12.trans' g') (g2.st.trans g'.st) fin|bk=>exact λO' H' g'=>fin O' H' (g12.trans' g').dropAll|ret r=>exact λv O' H' g'=>fin v O' H' (g12.trans' g').dropT
def sForL(m:ME)(tg:MG)(body:MS):MS:=λE=>match m E with
 | .z=>.z| .exc x E1=>.exc x E1
 | .ok (r,E1)=>match r.d with
  | .l ds=>uR tg body ds E1|_=>.z
def zDx{m:MS}{D:Ends}(h:tS X m D O H):∃M E,E.length=O.length/\FR X.K X.mg M H (O.zip E)/\Fin X M O E H D (m E):=h
def zCk{m:ME}{tg:MG}{g:TG}{body:MS}{D:Ends}(hg:GOk X g tg)(h:tS X (sForL m tg body) D O H):tFor (iList X.K (tM X m)) g (tS X body) D O H:=by
 obtain⟨M,E,hl,fr,k⟩:=zDx h;unfold sForL at k;refine zk (T0:=[]) hl fr ?_;cases ea:m E with
 |z=>rw[ea]at k;exact k|exc x E1=>rw[ea]at k;exact λH' g=>k O H' g
 |ok p =>
  obtain⟨r,E1⟩:=p;rw[ea]at k;intro v H1 g0;have g1:Got X.K X.mg M O E H [] O E1 H1 [(some v,.v r.d)]:=⟨g0.len,g0.fr.frz,g0.st.frz,g0.pk⟩;dsimp only at k;cases ed:r.d with
  |l ds =>
   rw[ed]at k g1;have rl:=g0.rep;rw[ed]at rl;obtain⟨a,xs,rfl,q1,q2⟩:=zO rl;refine⟨a,rfl,⟨xs,zL.seq q1⟩,?_⟩;have em:∀(O':St) (E':zQ),Mo M ([(some (V.ref a),Slot.v (.l ds))]++O'.zip E')=Mo M (O'.zip E'):=λO' E'=>ZT _ _ _ _
   refine zCB (K:=X.K) (a:=a) (xs:=xs) (λi O1 H2=>∃E2,Got X.K X.mg M O E H [] O1 E2 H2 [(some (.ref a),.v (.l ds))]/\SqL X.K (Hm (Mo M (O1.zip E2)) H2) a xs/\Reps X.K X.mg (Hm (Mo M (O1.zip E2)) H2) ds xs/\Fin X M O E H D (uR tg body (ds.drop i) E2))
    ⟨E1,g1,q1,q2,k⟩ (λi O' H' _ ⟨E2,_,q,_⟩=>zL.seq q) ?_ ?_
   ·rintro i x O1 H2 hx ⟨E2,g2,s2,r2,fin⟩
    obtain⟨d,hd,rx⟩:=r2.get hx;have ed:ds.drop i=d::ds.drop (i+1):=by
     obtain⟨hi,rfl⟩:=qG.mp hd;exact List.drop_eq_getElem_cons hi
    rw[ed]at fin;refine GU hg g2 (by rw[em];exact rx) fin λO3 E3 H3 g3 st fin3=>?_
    have sm:=st.same;rw[em,em]at sm;exact⟨E3,g3,sm.seq s2,r2.mono sm,fin3⟩
   ·rintro O1 H2 ⟨E2,g2,s2,r2,fin⟩
    rw[r2.length,List.drop_length]at fin;exact fin O1 H2 g2.dropAll
  |_=>rw[ed]at k;exact k.elim
def zb(lo:Int):Nat->List D
 |0=>[]|n+1=>.int lo::zb (lo+1) n
theorem yP(lo:Int):∀n,(zb lo n).length=n
 |0=>rfl|n+1=>by simp[zb,yP (lo+1) n]
theorem j8:∀(n i:Nat) (lo:Int),i<n->(zb lo n).drop i=.int (lo+i)::(zb lo n).drop (i+1)
 |0,_,_,h=>by omega|n+1,0,lo,_=>by simp[zb]
 |n+1,i+1,lo,h=>by
  have:=j8 n i (lo+1) (by omega);simp only[zb,List.drop_succ_cons];rw[this];congr 2;omega
def sForR1(m:MA)(tg:MG)(body:MS):MS:=λE=>match m E with
 | .z=>.z| .exc x E1=>.exc x E1
 | .ok ([r],E1)=>match r.d with
  | .int j=>if -(2^62)<=j/\j<2^62 then uR tg body (zb 0 j.toNat) E1 else .z|_=>.z
 |_=>.z
def uj{tg:MG}{g:TG}{body:MS}{D:Ends}(hg:GOk X g tg){lo:Int}{n:Nat}{E1:zQ}{H1:Hp}(g1:Got X.K X.mg M O E H [] O E1 H1 [])(fin:Fin X M O E H D (uR tg body (zb lo n) E1)) :
  ∃W:Nat->Nat->St->Hp->Prop,(∃m,W 0 m O H1)/\∀i m O H,W i m O H ->
   ((Itr lo n).stop i H/\D.nx O H)\/((Itr lo n).go i H/\∃N:St->Hp->Prop,(∀O' H',N O' H'->∃m',m'<m/\W (i+1) m' O' H')/\∀x H',(Itr lo n).yld i H x H'->g x O H' λO2 H2=>tS X body {D with nx:=N,ct:=N,bk:=D.nx} O2 H2):=by
 refine Qt (λi O1 H2=>∃E2,Got X.K X.mg M O E H [] O1 E2 H2 []/\Fin X M O E H D (uR tg body ((zb lo n).drop i) E2)) ⟨E1,g1,fin⟩ ?_ ?_
 ·rintro i O1 H2 hi ⟨E2,g2,fin⟩
  rw[j8 n i lo hi]at fin;exact GU hg g2 (by simp only[Rep]) fin λO3 E3 H3 g3 st fin3=>⟨E3,g3,fin3⟩
 ·rintro O1 H2 ⟨E2,g2,fin⟩
  rw[List.drop_of_length_le (by rw[yP];exact le_refl _)]at fin;exact fin O1 H2 g2
def zAU{m:MA}{tg:MG}{g:TG}{body:MS}{D:Ends}(hg:GOk X g tg)(h:tS X (sForR1 m tg body) D O H):tFor (iRng1 (tMA X m)) g (tS X body) D O H:=by
 obtain⟨M,E,hl,fr,k⟩:=zDx h;unfold sForR1 at k;refine ZU (T0:=[]) hl fr ?_;cases ea:m E with
 |z=>rw[ea]at k;exact k|exc x E1=>rw[ea]at k;exact λH' g=>k O H' g
 |ok p =>
  obtain⟨rs,E1⟩:=p;rw[ea]at k
  match rs,k with
  | [r],k =>
   intro vs H1 hv g1;have rp:=Got.reps hv g1;dsimp only at k;cases ed:r.d with
   |int j =>
    rw[ed]at k;simp only[List.map,ed]at rp;obtain⟨v,rfl,h1⟩:=YN rp;dsimp only at k;by_cases hc:-(2^62)<=j/\j<2^62
    ·rw[if_pos hc]at k
     exact⟨j,by rw[zK h1],hc.1,hc.2,uj hg g1.dropAll k⟩
    ·rw[if_neg hc]at k;exact k.elim
   |_=>rw[ed]at k;exact k.elim
  | [],k=>exact k.elim|_::_::_,k=>exact k.elim
def sk_forL{tgt iter:Expr}{body:List Stmt}{m:ME}{g:TG}{tg:MG}{mb:MS}{pos:Pos}(hp:PassesOwn (model X.prog X.w) X.A X.env X.xe)(hc:X.calm=true)(hi:EOk X iter m)(hg:PG X tgt g)(ho:GOk X g tg)(hb:Qi X body mb)
  (hs:∀x,foldedSetIterable iter X.env x=pure x:=by intro _;rfl):SOk X (.For tgt iter body [] pos) (sForL m tg mb):=wM (zDh hp hc (Qr hi) hg hb hs) λD O H=>zCk ho
def zCl{tgt a:Expr}{body:List Stmt}{m:MA}{g:TG}{tg:MG}{mb:MS}{p cpos pos:Pos}(hp:PassesOwn (model X.prog X.w) X.A X.env X.xe)(hc:X.calm=true)(hgl:Gl X "range")(hm:X.mg "range"=none)(ha:AOk X [a] m)(hg:PG X tgt g)(ho:GOk X g tg)(hb:Qi X body mb)
  (hst:zW a=false:=by rfl) (hs:∀x,foldedSetIterable (.Call (.Name "range" p) [a] [] cpos) X.env x=pure x:=by intro _;rfl):SOk X (.For tgt (.Call (.Name "range" p) [a] [] cpos) body [] pos) (sForR1 m tg mb) :=
 wM (zDh hp hc (vG hgl hm ha (star1 hst)) hg hb hs) λD O H=>zAU ho
end
section
variable{X:Cx}{K:qH}{mg:Str->Option Value}{O:St}{M:Addr->Prop}{E:zQ}{H H':Hp}{T0 Z T:Fz}
def zCm{o:Option V}{s s':Slot}{ds:List D}(h:s.list?=some ds)(h':s'.list?=some ds):uQ (o,s')=uQ (o,s):=by
 cases s<;>simp[Slot.list?]at h<;>cases s'<;>simp[Slot.list?]at h'<;>(cases o with|none=>rfl|some v=>cases v<;>rfl)
def Y9{o:Option V}{s s':Slot}{ds:List D}(h:s.list?=some ds)(h':s'.list?=some ds):yE ((o,s')::Z)=yE ((o,s)::Z):=by
 unfold yE;rw[filterMap_cons,filterMap_cons,zCm h h']
def FR.lab{o:Option V}{s s':Slot}{ds:List D}(f:FR K mg M H ((o,s)::Z))(h:s.list?=some ds)(h':s'.list?=some ds):FR K mg M H ((o,s')::Z):=by
 have em:Mo M ((o,s')::Z)=Mo M ((o,s)::Z):=by unfold Mo;rw[Y9 h h']
 refine⟨λo' d q=>?_,λo' t es q e=>?_,by rw[Y9 h h'];exact f.nd,f.mal⟩
 ·rw[em]
  rcases mem_cons.mp q with q|q
  ·cases q;cases h'
  ·exact f.val o' d (qD _ q)
 ·rw[em]
  rcases mem_cons.mp q with q|q
  ·cases q
   rw[h']at e;cases e;exact f.own o s ds qE h
  ·exact f.own o' t es (qD _ q) e
def vc{o:Option V}{s1 s2:Slot}{i:Nat}(hi:Z[i]?=some (o,s2)):((o,s1)::(T++Z)).Perm ((o,s2)::(T++Z.set i (o,s1))):=by
 have hlt:i<Z.length:=(qG.mp hi).1;have p1:Z.Perm ((o,s2)::Z.eraseIdx i):=by
  have:=zr (o,s2) Z i hlt;rw[Y7 hi]at this;exact this
 have p2:(Z.set i (o,s1)).Perm ((o,s1)::Z.eraseIdx i):=zr _ _ _ hlt;refine((p1.append_left T).cons _).trans ?_;refine List.Perm.trans ?_ ((p2.append_left T).cons _).symm;have a:(T++(o,s2)::Z.eraseIdx i).Perm ((o,s2)::(T++Z.eraseIdx i)):=perm_middle;have b:(T++(o,s1)::Z.eraseIdx i).Perm ((o,s1)::(T++Z.eraseIdx i)):=perm_middle;exact((a.cons _).trans (List.Perm.swap _ _ _)).trans (b.cons _).symm
inductive AR where
 |tmp (d:D)
 |ln (i:Nat)
 deriving Inhabited
def AR.slot:AR->Slot
 | .tmp d=>.v d| .ln _=>.e
def zt(vs:List V)(as:List AR):Fz:=(vs.map some).zip (as.map AR.slot)
def AV(O:St):List AR->List V->Prop
 | [],vs=>vs=[]| .tmp _::as,vs=>∃v r,vs=v::r/\AV O as r| .ln i::as,vs=>∃v r,vs=v::r/\O[i]?=some (some v)/\AV O as r
theorem AV.length:∀{as:List AR} {vs:List V},AV O as vs->vs.length=as.length
 | [],_,h=>by simp only[AV]at h;subst h;rfl| .tmp _::as,_,h=>by simp only[AV]at h;obtain⟨v,r,rfl,h⟩:=h;simp[AV.length h]| .ln i::as,_,h=>by simp only[AV]at h;obtain⟨v,r,rfl,_,h⟩:=h;simp[AV.length h]
def zN:List AR->zQ->Out (List Slot×zQ)
 | [],E=>.ok ([],E)
 | .tmp d::as,E=>match zN as E with
  | .ok (ss,E')=>.ok (.v d::ss,E')|_=>.z
 | .ln i::as,E=>match E[i]? with
  |none=>.z
  |some s=>match s.list? with
   |none=>.z
   |some ds=>match zN as (E.set i .e)with
    | .ok (ss,E')=>.ok (.par ds::ss,E')|_=>.z
def zM:List AR->List Slot->zQ->zQ->Out zQ
 | [],[],_,E=>.ok E| .tmp _::as,_::ss,E0,E=>zM as ss E0 E
 | .ln i::as,s'::ss,E0,E=>match E0[i]? with
  |none=>.z
  |some s=>match s.list?,s'.list?,E[i]? with
   |some _,some ds,some .e=>zM as ss E0 (E.set i (s.put ds))|_,_,_=>.z
 |_,_,_,_=>.z
theorem ZZ:∀(as:List AR) {vs:List V} {E E':zQ} {ss:List Slot} {T:Fz},E.length=O.length->AV O as vs->zN as E=.ok (ss,E')->FR K mg M H (T++(zt vs as++O.zip E)) ->
  FR K mg M H (T++((vs.map some).zip ss++O.zip E'))/\(∀b,b∈yE (T++(zt vs as++O.zip E))↔b∈yE (T++((vs.map some).zip ss++O.zip E')))/\ss.length=as.length/\E'.length=O.length
 | [],vs,E,E',ss,T,hl,av,e,f=>by
  cases e;simp only[AV]at av;subst av;exact⟨f,λb=>Iff.rfl,rfl,hl⟩
 | .tmp d::as,vs,E,E',ss,T,hl,av,e,f=>by
  simp only[AV]at av;obtain⟨v,r,rfl,av⟩:=av;simp only[zN]at e;cases e1:zN as E with
  |z=>rw[e1]at e;cases e|exc _ _=>rw[e1]at e;cases e
  |ok p =>
   obtain⟨ss1,E1⟩:=p;rw[e1]at e;cases e;have f1:FR K mg M H ((T++[(some v,.v d)])++(zt r as++O.zip E)):=by
    rw[append_assoc];exact f
   obtain⟨g1,g2,g3,g4⟩:=ZZ as hl av e1 f1;refine⟨by rw[append_assoc]at g1;exact g1,λb=>?_,by simp[g3],g4⟩;have:=g2 b;rw[append_assoc,append_assoc]at this;exact this
 | .ln i::as,vs,E,E',ss,T,hl,av,e,f=>by
  simp only[AV]at av;obtain⟨v,r,rfl,hv,av⟩:=av;simp only[zN]at e;cases e0:E[i]? with
  |none=>rw[e0]at e;cases e
  |some s =>
   rw[e0]at e;dsimp only at e;cases e2:s.list? with
   |none=>rw[e2]at e;cases e
   |some ds =>
    rw[e2]at e;dsimp only at e;cases e1:zN as (E.set i .e)with
    |z=>rw[e1]at e;cases e|exc _ _=>rw[e1]at e;cases e
    |ok p =>
     obtain⟨ss1,E1⟩:=p;rw[e1]at e;cases e;obtain⟨o,h1,h2⟩:=YM hl e0;have ho:o=some v:=by rw[hv]at h1;exact(qJ h1).symm
     subst ho;have ez:O.zip (E.set i .e)=(O.zip E).set i (some v,.e):=yO .e hv;have pA:(T++(((some v,Slot.e)::zt r as)++O.zip E)).Perm ((some v,s)::(T++(zt r as++O.zip (E.set i .e)))):=by
      rw[ez];have a:(T++(((some v,Slot.e)::zt r as)++O.zip E)).Perm ((some v,Slot.e)::((T++zt r as)++O.zip E)):=by
       rw[append_assoc];exact perm_middle
      refine a.trans ((vc h2).trans ?_);rw[append_assoc]
     have f1:=(f.perm pA).lab e2 (s':=.par ds) rfl;have f2:FR K mg M H ((((some v,Slot.par ds))::T)++(zt r as++O.zip (E.set i .e))):=f1;obtain⟨g1,g2,g3,g4⟩:=ZZ as (by simp[hl]) av e1 f2;have pB:(((some v,Slot.par ds)::T)++((r.map some).zip ss1++O.zip E')).Perm (T++(((some v,Slot.par ds)::(r.map some).zip ss1)++O.zip E')):=perm_middle.symm;refine⟨g1.perm pB,λb=>?_,by simp[g3],g4⟩;have x1:b∈yE (T++(((some v,Slot.e)::zt r as)++O.zip E))↔b∈yE ((some v,s)::(T++(zt r as++O.zip (E.set i .e)))):=(pA.filterMap uQ).mem_iff;have x2:yE ((some v,Slot.par ds)::(T++(zt r as++O.zip (E.set i .e))))=yE ((some v,s)::(T++(zt r as++O.zip (E.set i .e)))):=Y9 e2 rfl;have x3:=g2 b;have x4:b∈yE (((some v,Slot.par ds)::T)++((r.map some).zip ss1++O.zip E'))↔b∈yE (T++(((some v,Slot.par ds)::(r.map some).zip ss1)++O.zip E')):=(pB.filterMap uQ).mem_iff;refine x1.trans ?_;rw[<- x2];exact x3.trans x4
theorem Wq:∀(as:List AR) {vs:List V} {E0 E E':zQ} {ss:List Slot} {T:Fz},E.length=O.length->AV O as vs->zM as ss E0 E=.ok E'->FR K mg M H (T++((vs.map some).zip ss++O.zip E)) ->
  FR K mg M H (T++O.zip E')/\(∀b,b∈yE (T++O.zip E')->b∈yE (T++((vs.map some).zip ss++O.zip E)))/\E'.length=O.length
 | [],vs,E0,E,E',ss,T,hl,av,e,f=>by
  cases ss with
  |cons _ _=>cases e
  |nil =>
   cases e;simp only[AV]at av;subst av;exact⟨f,λb q=>q,hl⟩
 | .tmp d::as,vs,E0,E,E',ss,T,hl,av,e,f=>by
  simp only[AV]at av;obtain⟨v,r,rfl,av⟩:=av;cases ss with
  |nil=>cases e
  |cons s ss =>
   simp only[zM]at e;have sub:(T++((r.map some).zip ss++O.zip E)).Sublist (T++(((some v,s)::(r.map some).zip ss)++O.zip E)):=(sublist_cons_self _ _).append_left _;obtain⟨g1,g2,g3⟩:=Wq as hl av e (f.sub sub);exact⟨g1,λb q=>zD sub b (g2 b q),g3⟩
 | .ln i::as,vs,E0,E,E',ss,T,hl,av,e,f=>by
  simp only[AV]at av;obtain⟨v,r,rfl,hv,av⟩:=av;cases ss with
  |nil=>cases e
  |cons s' ss =>
   simp only[zM]at e;cases e0:E0[i]? with
   |none=>rw[e0]at e;cases e
   |some s =>
    rw[e0]at e;dsimp only at e;cases e1:s.list? with
    |none=>rw[e1]at e;cases e
    |some ds0 =>
     cases e2:s'.list? with
     |none=>rw[e1,e2]at e;cases e
     |some ds =>
      cases e3:E[i]? with
      |none=>rw[e1,e2,e3]at e;cases e
      |some se =>
       rw[e1,e2,e3]at e;cases se with
       |e =>
        dsimp only at e;obtain⟨o,h1,h2⟩:=YM hl e3;have ho:o=some v:=by rw[hv]at h1;exact(qJ h1).symm
        subst ho;have ez:O.zip (E.set i (s.put ds))=(O.zip E).set i (some v,s.put ds):=yO _ hv;have hp:(s.put ds).list?=some ds:=(Wp (p:=0) e1).2;have pA:(T++(((some v,s')::(r.map some).zip ss)++O.zip E)).Perm ((some v,s')::((T++(r.map some).zip ss)++O.zip E)):=by
         rw[append_assoc];exact perm_middle
        have f1:=(f.perm pA).lab e2 hp;have pB:((some v,s.put ds)::((T++(r.map some).zip ss)++O.zip E)).Perm ((some v,Slot.e)::((T++(r.map some).zip ss)++O.zip (E.set i (s.put ds)))):=by
         rw[ez];exact vc h2
        have f2:=(f1.perm pB).tail;rw[append_assoc]at f2;obtain⟨g1,g2,g3⟩:=Wq as (by simp[hl]) av e f2;refine⟨g1,λb q=>?_,g3⟩;have q1:=g2 b q;rw[<- append_assoc]at q1;have q2:b∈yE ((some v,Slot.e)::((T++(r.map some).zip ss)++O.zip (E.set i (s.put ds)))):=zD (sublist_cons_self _ _) b q1;have q3:=zC pB.symm b q2;rw[Y9 e2 hp]at q3;exact zC pA.symm b q3
       |_=>cases e
def uk:List AR->List Nat
 | []=>[]| .tmp _::as=>uk as| .ln i::as=>i::uk as
theorem Wr:∀(as:List AR) {E E':zQ} {ss:List Slot},zN as E=.ok (ss,E')->∀(k:Nat),k∉uk as->E'[k]?=E[k]?
 | [],E,E',ss,e,k,h=>by cases e;rfl
 | .tmp d::as,E,E',ss,e,k,h=>by
  simp only[zN]at e;cases e1:zN as E with
  |z=>rw[e1]at e;cases e|exc _ _=>rw[e1]at e;cases e
  |ok p =>
   obtain⟨ss1,E1⟩:=p;rw[e1]at e;cases e;exact Wr as e1 k h
 | .ln i::as,E,E',ss,e,k,h=>by
  simp only[zN]at e;cases e0:E[i]? with
  |none=>rw[e0]at e;cases e
  |some s =>
   rw[e0]at e;dsimp only at e;cases e2:s.list? with
   |none=>rw[e2]at e;cases e
   |some ds =>
    rw[e2]at e;dsimp only at e;cases e1:zN as (E.set i .e)with
    |z=>rw[e1]at e;cases e|exc _ _=>rw[e1]at e;cases e
    |ok p =>
     obtain⟨ss1,E1⟩:=p;rw[e1]at e;cases e;simp only[uk,mem_cons,not_or]at h;rw[Wr as e1 k h.2,getElem?_set_ne (λq=>h.1 q.symm)]
theorem ZA:∀(as:List AR) {E0 E E':zQ} {ss:List Slot},zM as ss E0 E=.ok E'->∀(k:Nat),E'[k]?=E[k]?\/∃(s:Slot) (ds:List D),E0[k]?=some s/\E'[k]?=some (s.put ds)
 | [],E0,E,E',ss,e,k=>by
  cases ss with
  |cons _ _=>cases e|nil=>cases e;exact .inl rfl
 | .tmp d::as,E0,E,E',ss,e,k=>by
  cases ss with
  |nil=>cases e|cons s ss=>exact ZA as e k
 | .ln i::as,E0,E,E',ss,e,k=>by
  cases ss with
  |nil=>cases e
  |cons s' ss =>
   simp only[zM]at e;cases e0:E0[i]? with
   |none=>rw[e0]at e;cases e
   |some s =>
    rw[e0]at e;dsimp only at e;cases e1:s.list? with
    |none=>rw[e1]at e;cases e
    |some ds0 =>
     cases e2:s'.list? with
     |none=>rw[e1,e2]at e;cases e
     |some ds =>
      cases e3:E[i]? with
      |none=>rw[e1,e2,e3]at e;cases e
      |some se =>
       rw[e1,e2,e3]at e;cases se with
       |e =>
        dsimp only at e;rcases ZA as e k with q|q
        ·by_cases ek:i=k
         ·subst ek
          have hlt:i<E.length:=(qG.mp e3).1;rw[getElem?_set_self hlt]at q;exact .inr ⟨s,ds,e0,q⟩
         ·rw[getElem?_set_ne ek]at q
          exact .inl q
        ·exact .inr q
       |_=>cases e
theorem Za:∀(as:List AR) {E0 E E':zQ} {ss:List Slot},zM as ss E0 E=.ok E'->∀(k:Nat),k∈uk as->∃(s:Slot) (ds:List D),E0[k]?=some s/\E'[k]?=some (s.put ds)
 | [],E0,E,E',ss,e,k,h=>by cases h
 | .tmp d::as,E0,E,E',ss,e,k,h=>by
  cases ss with
  |nil=>cases e|cons s ss=>exact Za as e k h
 | .ln i::as,E0,E,E',ss,e,k,h=>by
  cases ss with
  |nil=>cases e
  |cons s' ss =>
   simp only[zM]at e;cases e0:E0[i]? with
   |none=>rw[e0]at e;cases e
   |some s =>
    rw[e0]at e;dsimp only at e;cases e1:s.list? with
    |none=>rw[e1]at e;cases e
    |some ds0 =>
     cases e2:s'.list? with
     |none=>rw[e1,e2]at e;cases e
     |some ds =>
      cases e3:E[i]? with
      |none=>rw[e1,e2,e3]at e;cases e
      |some se =>
       rw[e1,e2,e3]at e;cases se with
       |e =>
        dsimp only at e;by_cases ek:i=k
        ·subst ek
         rcases ZA as e i with q|q
         ·have hlt:i<E.length:=(qG.mp e3).1
          rw[getElem?_set_self hlt]at q;exact⟨s,ds,e0,q⟩
         ·exact q
        ·simp only[uk,mem_cons]at h
         rcases h with h|h
         ·exact absurd h.symm ek
         ·exact Za as e k h
       |_=>cases e
def zAV{as:List AR}{E1 E2 E3:zQ}{ss outs:List Slot}(h1:zN as E1=.ok (ss,E2))(h2:zM as outs E1 E2=.ok E3):PKp O E1 O E3:=λk ds e=>by
 refine⟨?_,rfl⟩;by_cases hk:k∈uk as
 ·obtain⟨s,es,q1,q2⟩:=Za as h2 k hk
  rw[e]at q1;cases q1;exact⟨es,q2⟩
 ·rcases ZA as h2 k with q|⟨s,es,q1,q2⟩
  ·rw[q,Wr as h1 k hk];exact⟨ds,e⟩
  ·rw[e]at q1;cases q1
   exact⟨es,q2⟩
abbrev MF:=List Slot->Out (R×List Slot)
def spM(K:qH)(mg:Str->Option Value)(n:Nat)(F:MF):Sp:=λvs H Q XQ=>vs.length=n/\∃(M:Addr->Prop) (ss:List Slot),ss.length=vs.length/\FR K mg M H ((vs.map some).zip ss)/\match F ss with
 | .z=>False| .ok (r,outs)=>∀v H',outs.length=vs.length->FR K mg M H' ((some v,r.slot)::(vs.map some).zip outs)->Step M H ((vs.map some).zip ss) H' ((some v,r.slot)::(vs.map some).zip outs)->Q v H'| .exc x _=>∀C od H',mg x.cls=some (.ref C)->Fs od H' x.cls x.vs->FR K mg M H' []->Step M H ((vs.map some).zip ss) H' []->XQ (.ref C) od H'
inductive Arg where
 |ev (m:ME)
 |lend (i:Nat)
def zy:List Arg->zQ->Out (List AR×zQ)
 | [],E=>.ok ([],E)
 | .ev m::as,E=>match m E with
  | .z=>.z| .exc x E1=>.exc x E1
  | .ok (r,E1)=>match zy as E1 with
   | .ok (ars,E2)=>.ok (.tmp r.d::ars,E2)| .exc x E2=>.exc x E2| .z=>.z
 | .lend i::as,E=>if wQ E[i]?=true then .z else match zy as E with
  | .ok (ars,E2)=>.ok (.ln i::ars,E2)| .exc x E2=>.exc x E2| .z=>.z
def tArgs(X:Cx)(as:List Arg):TA:=λO H Q=>∃M E,E.length=O.length/\FR X.K X.mg M H (O.zip E)/\match zy as E with
 | .z=>False| .ok (ars,E')=>∀vs H',AV O ars vs->Got X.K X.mg M O E H [] O E' H' (zt vs ars)->Q vs H'| .exc x E'=>∀H',Got X.K X.mg M O E H [] O E' H' []->XE X O H' x
abbrev zDy(X:Cx)(es:List Expr)(as:List Arg):Prop:=PA X es (tArgs X as)
def Zb{as:List Arg}{Q:List V->Hp->Prop}(hl:E.length=O.length)(h:FR X.K X.mg M H (T0++O.zip E))
  (k:match zy as E with | .z=>False | .ok (ars,E')=>∀vs H',AV O ars vs->Got X.K X.mg M O E H T0 O E' H' (zt vs ars)->Q vs H' | .exc x E'=>∀H',Got X.K X.mg M O E H T0 O E' H' []->XE X O H' x):tArgs X as O H Q:=by
 refine⟨Mo M T0,E,hl,h.inner,?_⟩;cases e:zy as E with
 |z=>rw[e]at k;exact k|ok a=>rw[e]at k;exact λvs H' av g=>k vs H' av (g.outer h)|exc x E'=>rw[e]at k;exact λH' g=>k H' (g.outer h)
def ga_nil:zDy X [] []:=WQ wL λO H Q ⟨M,E,hl,fr,k⟩=>k [] H (by simp only[AV]) (Got.refl (T0:=[]) hl fr)
def ga_ev{e:Expr}{es:List Expr}{m:ME}{as:List Arg}(he:EOk X e m)(hr:zDy X es as)(hs:zW e=false:=by rfl):zDy X (e::es) (.ev m::as):=WQ (yN he hr (zJ hs)) λO H Q ⟨M,E,hl,fr,k⟩=>by
 simp only[zy]at k;refine zk (T0:=[]) hl fr ?_;cases ea:m E with
 |z=>rw[ea]at k;exact k|exc x E1=>rw[ea]at k;exact k
 |ok p =>
  obtain⟨r1,E1⟩:=p;rw[ea]at k;intro x H1 g0;have g1:Got X.K X.mg M O E H [] O E1 H1 [(some x,.v r1.d)]:=⟨g0.len,g0.fr.frz,g0.st.frz,g0.pk⟩;refine Zb (T0:=[(some x,.v r1.d)]) g1.len g1.fr ?_;dsimp only at k;cases eb:zy as E1 with
  |z=>rw[eb]at k;exact k|exc x E2=>rw[eb]at k;exact λH' g=>k H' (g1.trans' g).dropAll
  |ok p =>
   obtain⟨ars,E2⟩:=p;rw[eb]at k;intro vs H2 av g2;refine k (x::vs) H2 (by simp only[AV];exact⟨x,vs,rfl,av⟩) ?_;exact(g1.trans' g2).perm (perm_append_comm)
def ga_lend{x:Str}{p:Pos}{es:List Expr}{i:Nat}{as:List Arg}(hv:PE X (.Name x p) (Z5 i))(hr:zDy X es as)  : zDy X (.Name x p::es) (.lend i::as):=WQ (yN hv hr (zJ rfl)) λO H Q ⟨M,E,hl,fr,k⟩=>by
 simp only[zy]at k;cases em:wQ E[i]? with
 |true=>rw[em]at k;exact k.elim
 |false =>
  rw[em]at k;simp only[Bool.false_eq_true,if_false]at k;obtain⟨s,hs1,hs2⟩:=ui em;obtain⟨v,hv⟩:=zAS hl fr hs1 hs2;refine⟨v,hv,?_⟩;refine Zb (T0:=[]) hl fr ?_;cases eb:zy as E with
  |z=>rw[eb]at k;exact k|exc x E2=>rw[eb]at k;exact k
  |ok p =>
   obtain⟨ars,E2⟩:=p;rw[eb]at k;intro vs H2 av g2;refine k (v::vs) H2 (by simp only[AV];exact⟨v,vs,rfl,hv,av⟩) ?_;have em2:Mo M ((some v,Slot.e)::(zt vs ars++([]++O.zip E2)))=Mo M (zt vs ars++([]++O.zip E2)):=Mo_emp _ _ _;refine⟨g2.len,⟨λo d q=>?_,λo t ds q e=>?_,?_,g2.fr.mal⟩,⟨?_,g2.st.keep⟩,g2.pk⟩
   ·show ∃v',_/\Rep X.K X.mg (Hm (Mo M ((some v,Slot.e)::(zt vs ars++([]++O.zip E2)))) H2) d v'
    rw[em2];rcases mem_cons.mp q with q|q
    ·cases q
    ·exact g2.fr.val o d q
   ·show ∃a xs,_/\_/\_/\Reps X.K X.mg (Hm (Mo M ((some v,Slot.e)::(zt vs ars++([]++O.zip E2)))) H2) ds xs
    rw[em2];rcases mem_cons.mp q with q|q
    ·cases q;cases e
    ·exact g2.fr.own o t ds q e
   ·show(yE ((some v,Slot.e)::(zt vs ars++([]++O.zip E2)))).Nodup
    rw[yg];exact g2.fr.nd
   ·show YJ _ (Hm (Mo M ((some v,Slot.e)::(zt vs ars++([]++O.zip E2)))) H2)
    rw[em2];exact g2.st.same
def WT:List AR->Bool
 | []=>true| .tmp _::as=>WT as| .ln _::_=>false
theorem WU:∀{as:List AR} {E E':zQ} {ss:List Slot},WT as=true->zN as E=.ok (ss,E')->E'=E
 | [],E,E',ss,_,e=>by cases e;rfl
 | .tmp d::as,E,E',ss,h,e=>by
  simp only[zN]at e;cases q:zN as E with
  |z=>rw[q]at e;cases e|exc _ _=>rw[q]at e;cases e|ok p=>obtain⟨s1,E1⟩:=p;rw[q]at e;cases e;exact WU (as:=as) h q
 | .ln i::as,E,E',ss,h,e=>by cases h
def jK(F:MF)(as:List Arg):ME:=λE=>match zy as E with
 | .z=>.z| .exc x E1=>.exc x E1
 | .ok (ars,E1)=>match zN ars E1 with
  | .ok (ss,E2)=>match F ss with
   | .ok (r,outs)=>match zM ars outs E1 E2 with
    | .ok E3=>.ok (r,E3)|_=>.z
   | .exc x _=>if WT ars=true then .exc ⟨x.cls,false,x.vs⟩ E1 else .z| .z=>.z
  |_=>.z
def zCn{F:MF}{n:Nat}{ars:List AR}{E1 E2 E3:zQ}{ss outs:List Slot}{r:R}{vs:List V}{H1:Hp}{Q:VK}{XQ:XK}(hn:ars.length=n)(e1:zN ars E1=.ok (ss,E2))(e2:F ss=.ok (r,outs))(e3:zM ars outs E1 E2=.ok E3)
  (av:AV O ars vs) (g:Got K mg M O E H [] O E1 H1 (zt vs ars)) (k:∀v H',Got K mg M O E H [] O E3 H' [(some v,r.slot)]->Q v H'):spM K mg n F vs H1 Q XQ:=by
 obtain⟨f1,o1,l1,l2⟩:=ZZ (T:=[]) ars g.len av e1 g.fr;have f1':FR K mg M H1 (O.zip E2++(vs.map some).zip ss):=FR.perm (T:=O.zip E2++(vs.map some).zip ss) (Z:=(vs.map some).zip ss++O.zip E2) f1 perm_append_comm;have hlen:=av.length;refine⟨hlen.trans hn,Mo M (O.zip E2),ss,l1.trans hlen.symm,f1'.inner,?_⟩;rw[e2];intro v H' ol f2 s2;have f3:=FR.outer f1' f2 s2;have s3:=Step.outer s2;have p:(O.zip E2++((some v,r.slot)::(vs.map some).zip outs)).Perm ([(some v,r.slot)]++((vs.map some).zip outs++O.zip E2)):=by
  refine perm_append_comm.trans ?_;exact List.Perm.refl _
 obtain⟨f4,o4,l4⟩:=Wq ars l2 av e3 (f3.perm p);refine k v H' ⟨l4,f4,?_,g.pk.trans (zAV e1 e3)⟩;have st1:Step M H (O.zip E) H1 (O.zip E2++(vs.map some).zip ss):=g.st.weak λb hb=>(o1 b).mpr (zC (T:=O.zip E2++(vs.map some).zip ss) (Z:=(vs.map some).zip ss++O.zip E2) perm_append_comm b hb)
 have st2:=st1.trans s3;exact st2.weak λb hb=>zC p.symm b (o4 b hb)
def zCo{F:MF}{n:Nat}{ars:List AR}{E1 E2:zQ}{ss outs:List Slot}{x:Exn}{vs:List V}{H1:Hp}{Q:VK}{XQ:XK}(hn:ars.length=n)(hl:WT ars=true)(e1:zN ars E1=.ok (ss,E2))(e2:F ss=.exc x outs)
  (av:AV O ars vs) (g:Got K mg M O E H [] O E1 H1 (zt vs ars)) (k:∀C od H',mg x.cls=some (.ref C)->Fs od H' x.cls x.vs->Got K mg M O E H [] O E1 H' []->XQ (.ref C) od H'):spM K mg n F vs H1 Q XQ:=by
 obtain⟨f1,o1,l1,l2⟩:=ZZ (T:=[]) ars g.len av e1 g.fr;have f1':FR K mg M H1 (O.zip E2++(vs.map some).zip ss):=FR.perm (T:=O.zip E2++(vs.map some).zip ss) (Z:=(vs.map some).zip ss++O.zip E2) f1 perm_append_comm;have hlen:=av.length;refine⟨hlen.trans hn,Mo M (O.zip E2),ss,l1.trans hlen.symm,f1'.inner,?_⟩;rw[e2];intro C od H' hm hf f2 s2;have f3:=FR.outer f1' f2 s2;have s3:=Step.outer s2;rw[append_nil]at f3 s3;have st1:Step M H (O.zip E) H1 (O.zip E2++(vs.map some).zip ss):=g.st.weak λb hb=>(o1 b).mpr (zC (T:=O.zip E2++(vs.map some).zip ss) (Z:=(vs.map some).zip ss++O.zip E2) perm_append_comm b hb)
 obtain rfl:=WU hl e1;exact k C od H' hm hf ⟨g.len,f3,st1.trans s3,g.pk⟩
theorem jL:∀(as:List Arg) {E E':zQ} {ars:List AR},zy as E=.ok (ars,E')->ars.length=as.length
 | [],E,E',ars,e=>by cases e;rfl
 | .ev m::as,E,E',ars,e=>by
  simp only[zy]at e;cases ea:m E with
  |z=>rw[ea]at e;cases e|exc _ _=>rw[ea]at e;cases e
  |ok p =>
   obtain⟨r,E1⟩:=p;rw[ea]at e;dsimp only at e;cases eb:zy as E1 with
   |z=>rw[eb]at e;cases e|exc _ _=>rw[eb]at e;cases e|ok p=>obtain⟨a,b⟩:=p;rw[eb]at e;cases e;simp[jL as eb]
 | .lend i::as,E,E',ars,e=>by
  simp only[zy]at e;split at e
  ·cases e
  ·cases eb:zy as E with
   |z=>rw[eb]at e;cases e|exc _ _=>rw[eb]at e;cases e|ok p=>obtain⟨a,b⟩:=p;rw[eb]at e;cases e;simp[jL as eb]
def GV{F:MF}{n:Nat}{as:List Arg}{Q:VK}(hn:as.length=n)(h:tM X (jK F as) O H Q):tArgs X as O H λvs H1=>spM X.K X.mg n F vs H1 Q (EX X O):=by
 obtain⟨M,E,hl,fr,k⟩:=h;unfold jK at k;refine Zb (T0:=[]) hl fr ?_;cases ea:zy as E with
 |z=>rw[ea]at k;exact k|exc x E1=>rw[ea]at k;exact k
 |ok p =>
  obtain⟨ars,E1⟩:=p;rw[ea]at k;intro vs H1 av g;dsimp only at k;cases e1:zN ars E1 with
  |z=>rw[e1]at k;exact k.elim|exc _ _=>rw[e1]at k;exact k.elim
  |ok p =>
   obtain⟨ss,E2⟩:=p;rw[e1]at k;dsimp only at k;cases e2:F ss with
   |z=>rw[e2]at k;exact k.elim
   |exc x o =>
    rw[e2]at k;dsimp only at k;cases hl:WT ars with
    |false=>rw[hl]at k;exact k.elim
    |true =>
     rw[hl]at k;exact zCo ((jL as ea).trans hn) hl e1 e2 av g λC od H' hm hf g'=>⟨⟨x.cls,false,x.vs⟩,C,rfl,hm,rfl,hf,k H' g'⟩
   |ok p =>
    obtain⟨r,outs⟩:=p;rw[e2]at k;dsimp only at k;cases e3:zM ars outs E1 E2 with
    |z=>rw[e3]at k;exact k.elim|exc _ _=>rw[e3]at k;exact k.elim
    |ok E3 =>
     rw[e3]at k;exact zCn ((jL as ea).trans hn) e1 e2 e3 av g k
inductive Mask:Fz->Fz->Prop
 |nil (Z:Fz):Mask Z []
 |keep {z:Option V×Slot} {Z W:Fz}:Mask Z W->Mask (z::Z) (z::W)
 |skip {z:Option V×Slot} {Z W:Fz}:Mask Z W->Mask (z::Z) W
 |extra {o:Option V} {Z W:Fz}:Mask Z W->Mask Z ((o,.e)::W)
def Mask.emq{z:Option V×Slot}{o:Option V}{Z W:Fz}(h:Mask Z W):Mask (z::Z) ((o,.e)::W):=.skip (.extra h)
theorem Mask.sub:∀{Z W:Fz},Mask Z W->(yE W).Sublist (yE Z)
 |_,_,.nil Z=>by simp[yE]
 |_,_,.keep (z:=z) (Z:=Z) (W:=W) h=>by
  have e:∀W:Fz,yE (z::W)=yE [z]++yE W:=λW=>zc [z] W
  rw[e Z,e W];exact h.sub.append_left _
 |_,_,.skip (z:=z) (Z:=Z) (W:=W) h=>by
  have e:∀W:Fz,yE (z::W)=yE [z]++yE W:=λW=>zc [z] W
  rw[e Z];exact h.sub.trans (sublist_append_right _ _)
 |_,_,.extra (Z:=Z) (W:=W) h=>by
  rw[yg];exact h.sub
theorem Mask.mem:∀{Z W:Fz},Mask Z W->∀o s,s≠Slot.e->(o,s)∈W->(o,s)∈Z
 |_,_,.nil Z,o,s,hs,h=>by cases h
 |_,_,.keep h,o,s,hs,q=>by
  rcases mem_cons.mp q with q|q
  ·subst q;exact qE
  ·exact qD _ (h.mem o s hs q)
 |_,_,.skip h,o,s,hs,q=>qD _ (h.mem o s hs q)
 |_,_,.extra h,o,s,hs,q=>by
  rcases mem_cons.mp q with q|q
  ·cases q;exact absurd rfl hs
  ·exact h.mem o s hs q
def FR.mask{Z W:Fz}(f:FR K mg M H Z)(h:Mask Z W):FR K mg M H W where
 val:=λo d q=>by
  obtain⟨v,e,r⟩:=f.val o d (h.mem o _ (by intro z;cases z) q);exact⟨v,e,r.mono (jh (Jn λb hb=>h.sub.subset hb))⟩
 own:=λo s ds q e=>by
  obtain⟨a,xs,e1,e2,e3,r⟩:=f.own o s ds (h.mem o s (by intro z;subst z;cases e) q) e;exact⟨a,xs,e1,e2,e3,r.mono (jh (Jn λb hb=>h.sub.subset hb))⟩
 nd:=f.nd.sublist h.sub
 mal:=f.mal
def yH:List Slot->zQ->List Slot
 | [],_=>[]| .par _::ss,s::E=>s::yH ss E|_::ss,_::E=>.e::yH ss E|_::ss,[]=>.e::yH ss []
def fnM(N:Nat)(body:MS):MF:=λss=>match body (ss++replicate (N-ss.length) .e)with
 | .ok (.ret r,E')=>.ok (r,yH ss E')| .ok (.nx,E')=>.ok (.v .non,yH ss E')| .exc x E'=>.exc x (yH ss E')|_=>.z
theorem zp:∀(ss:List Slot) (E:zQ),(yH ss E).length=ss.length
 | [],_=>rfl| .par _::ss,s::E=>by simp[yH,zp ss E]| .e::ss,s::E=>by simp[yH,zp ss E]| .v _::ss,s::E=>by simp[yH,zp ss E]| .own _::ss,s::E=>by simp[yH,zp ss E]| .par _::ss,[]=>by simp[yH,zp ss []]| .e::ss,[]=>by simp[yH,zp ss []]| .v _::ss,[]=>by simp[yH,zp ss []]| .own _::ss,[]=>by simp[yH,zp ss []]
theorem ZB:∀(ss:List Slot) (vs:List (Option V)) (O:St) (E:zQ),E.length=O.length->vs.length=ss.length->(∀(i:Nat) ds,ss[i]?=some (.par ds)->O[i]?=vs[i]?)->Mask (O.zip E) (vs.zip (yH ss E))
 | [],vs,O,E,_,_,_=>by
  simp only[yH,List.zip_nil_right];exact .nil _
 |s::ss,[],O,E,_,h,_=>by simp at h|s::ss,v::vs,[],y::E,h,_,_=>by simp at h|s::ss,v::vs,x::O,[],h,_,_=>by simp at h
 |s::ss,v::vs,[],[],h1,h2,h4=>by
  have ih:=ZB ss vs [] [] rfl (by simpa using h2) λi ds e=>by
   have:=h4 (i+1) ds (by simpa using e);simpa using this
  cases s<;>exact .extra ih
 |s::ss,v::vs,x::O,y::E,h1,h2,h4=>by
  have ih:=ZB ss vs O E (by simpa using h1) (by simpa using h2) λi ds e=>by
   have:=h4 (i+1) ds (by simpa using e);simpa using this
  cases s with
  |par ds =>
   have e:=h4 0 ds rfl;simp at e;subst e;simp only[yH,zip_cons_cons];exact .keep ih
  |e=>simp only[yH,zip_cons_cons];exact .emq ih|v d=>simp only[yH,zip_cons_cons];exact .emq ih|own ds=>simp only[yH,zip_cons_cons];exact .emq ih
theorem ul:∀n:Nat,(replicate n (none:Option V)).zip (replicate n Slot.e)=replicate n (none,Slot.e)
 |0=>rfl|n+1=>by simp[replicate_succ,ul n]
def Ws(n:Nat):yE (replicate n ((none:Option V),Slot.e))=[]:=by
 induction n with
 |zero=>rfl|succ n ih=>rw[replicate_succ,yg,ih]
def FR.emps(f:FR K mg M H Z)(n:Nat):FR K mg M H (Z++replicate n (none,.e)):=by
 have eo:yE (Z++replicate n (none,Slot.e))=yE Z:=by rw[zc,Ws,append_nil]
 have em:Mo M (Z++replicate n (none,Slot.e))=Mo M Z:=by unfold Mo;rw[eo]
 refine⟨λo d q=>?_,λo s ds q e=>?_,by rw[eo];exact f.nd,f.mal⟩
 ·rw[em]
  rcases mem_append.mp q with q|q
  ·exact f.val o d q
  ·have:=List.eq_of_mem_replicate q;cases this
 ·rw[em]
  rcases mem_append.mp q with q|q
  ·exact f.own o s ds q e
  ·have:=List.eq_of_mem_replicate q;cases this;cases e
def body_ok{N:List Str}{n:Nat}{body:MS}{vs:List V}{Q:VK}{XQ:XK}(hx:∀x O' H',(∀C od,X.mg x.cls=some (.ref C)->Fs od H' x.cls x.vs->XQ (.ref C) od H')->XE X O' H' x)(h:spM X.K X.mg n (fnM N.length body) vs H Q XQ):tS X body {nx:=λ_ H'=>Q .non H',rt:=Q} (L2.jf N vs) H:=by
 obtain⟨hv,M,ss,hl,f,k⟩:=h;have e0:(L2.jf N vs).zip (ss++replicate (N.length-ss.length) Slot.e)=(vs.map some).zip ss++replicate (N.length-ss.length) (none,.e):=by
  unfold L2.jf;rw[List.zip_append (by simp[hl]),hl,ul]
 have hE:(ss++replicate (N.length-ss.length) Slot.e).length=(L2.jf N vs).length:=by
  unfold L2.jf;simp[hl]
 have f0:FR X.K X.mg M H ((L2.jf N vs).zip (ss++replicate (N.length-ss.length) Slot.e)):=by rw[e0];exact f.emps _
 have eo:∀b,b∈yE ((L2.jf N vs).zip (ss++replicate (N.length-ss.length) Slot.e))->b∈yE ((vs.map some).zip ss):=λb hb=>by
  rw[e0,zc,Ws,append_nil]at hb;exact hb
 refine⟨M,ss++replicate (N.length-ss.length) Slot.e,hE,f0,?_⟩;unfold fnM at k;have fin:∀{O':St} {E':zQ} {H':Hp} {v:V} {r:R},Got X.K X.mg M (L2.jf N vs) (ss++replicate (N.length-ss.length) Slot.e) H [] O' E' H' [(some v,r.slot)] ->
   (∀v H',(yH ss E').length=vs.length->FR X.K X.mg M H' ((some v,r.slot)::(vs.map some).zip (yH ss E'))->Step M H ((vs.map some).zip ss) H' ((some v,r.slot)::(vs.map some).zip (yH ss E'))->Q v H')->Q v H':=λ{O' E' H' v r} g kk=>by
  have mk:Mask (O'.zip E') ((vs.map some).zip (yH ss E')):=ZB ss _ O' E' g.len (by simp[hl]) λi ds e=>by
   have hi:i<ss.length:=(qG.mp e).1;have e1:(ss++replicate (N.length-ss.length) Slot.e)[i]?=some (.par ds):=by rw[List.getElem?_append_left hi];exact e
   have:=(g.pk i ds e1).2;rw[this];unfold L2.jf;rw[List.getElem?_append_left (by simp;omega)]
  refine kk v H' (by rw[zp,hl]) (g.fr.mask (.keep mk)) ?_;exact(g.st.weak λb hb=>(Mask.keep mk).sub.subset hb).left eo
 cases eb:body (ss++replicate (N.length-ss.length) Slot.e)with
 |z=>rw[eb]at k;exact k
 |exc x E' =>
  rw[eb]at k;intro O' H' g;refine hx x O' H' λC od hm hf=>k C od H' hm hf (g.fr.sub (List.nil_sublist _)) ?_
  exact(g.st.weak λb hb=>by cases hb).left eo
 |ok p =>
  obtain⟨fl,E'⟩:=p;rw[eb]at k;cases fl with
  |bk=>exact k.elim|ct=>exact k.elim|ret r=>exact λv O' H' g=>fin g k|nx=>exact λO' H' g=>fin (r:=.v .non) (g.flat (d:=.non) rfl) k
end
section
variable{P:Program}{w:World}{K:qH}{mg:Str->Option Value}{base:Heap}
def fn_ok{c:Bool}{x qual:Str}{st:Stmt}{f:Addr}{fd:FuncData}{N ps:List Str}{k:Nat}{body:MS}(F:Fun K x qual st f fd)(S:FnScope N ps (zT st))
  (hb:∀(cdv:Value) (A:Around) (outer:List Env) (s:Shared) (H:Hp) (E:XK),(c=true->A.handled=none)->RoomN k (A.deeper (PyProof.Rows.envOfC qual (zT st) s.heap.objs.size f cdv)) ->
   Qi (cxN c P w K mg base N qual (zT st) f cdv A outer s H E) (yW st) body):FnOkN c P w K mg base (k+1) f fd ps (spM K mg ps.length (fnM N.length body)):=by
 obtain⟨oc,od,kV,doc,pm,an,cdv,ct,osl,rfl,lk,hcd⟩:=F.ex;exact zDn lk hcd S (λvs H Q E h=>h.1) λA outer s H vs Q E hd hr h=>⟨_,hb cdv A outer s H E hd hr,body_ok (X:=cxN c P w K mg base N qual (zT st) f cdv A outer s H E) (λx O' H' hE=>zCM hE) h⟩
end
section
variable{X:Cx}{k:Nat}{f:Addr}{fd:FuncData}{ps:List Str}{F:MF}{x:Str}{p pos:Pos}{e:Expr}{es:List Expr}{as:List Arg}
def ok_call{c:Bool}(G:FnOkN c X.prog X.w X.K X.mg X.base k f fd ps (spM X.K X.mg ps.length F))(hd:c=true->X.A.handled=none)(hr:RoomN k X.A)(hg:Gl X x)(hm:X.mg x=some (.ref f))(hk:keepIn X.K (.ref f)=true)(hb:Jj X.K fd ps [])(ha:zDy X (e::es) as)(hn:as.length=ps.length:=by rfl)
  (hdb:(x==("__debug__":Str))=false:=by decide) (he:zW e=false:=by rfl) (hpl:yM es=true:=by rfl):EOk X (.Call (.Name x p) (e::es) [] pos) (jK F as) :=
 zf (zCL G hd hr hg hm hk hb ha hdb (zJ he) (y9 hpl)) λO H Q=>GV hn
end
section
variable{X:Cx}{O:St}{H:Hp}
def ok_dic{pos:Pos}(h:PE X (.Dict [] [] pos) (λ_ H Q=>∀p,H p=none->Q (.ref p) (upd H p (.dK [])))):EOk X (.Dict [] [] pos) (eC .dic):=zf h λO H Q ⟨M,E,hl,fr,k⟩=>λp hp=>by
 refine k _ _ ((Got.refl (T0:=[]) hl fr).more (T:=[(some (.ref p),.v .dic)]) ((fr.grow hp).add ?_) (Step.newVal hp));simp only[Rep];exact⟨p,rfl,zP.mpr ⟨Jo fr hp,zU⟩⟩
end
end DV
namespace L2
open PySem PySem.Spec PyProof.Rows
def Inv.big{X:Cx}{pins:List (Addr×Obj)}{O:St}{H:Hp}{s:Shared}(I:Inv X pins O H s):sysModules<s.heap.objs.size:=by
 have h:mainGlobals<s.heap.objs.size:=(I.mod.glob.keeps I.bk).lt;exact Nat.lt_trans (by decide) h
def pe_dicK{X:Cx}{pos:Pos}:PE X (.Dict [] [] pos) (λ_ H Q=>∀p,H p=none->Q (.ref p) (upd H p (.dK []))):=λpins s O H Q I h =>
 wpAny_Dict_empty ⟨.ref s.heap.objs.size,_,I.laid (a:=s.heap.objs.size) (o:=.dK []) (t':=s.toks) (λ_ _ q=>qA _ q) (le_refl _)
  ⟨zero_le _,beq_eq_false_iff_ne.mpr (Ne.symm (ne_of_lt I.big)),[],.nil,Heap.DictOf.new s.heap⟩,rfl,h _ (I.hok.fresh (le_refl _))⟩
def cxB(X:Cx)(N:List Str)(scope:Scope)(cl:List (Str×Addr))(C:Addr)(ex:List Addr)(s:Shared)(H:Hp):Cx :=
 {X with N:=N,s₀:=s,H₀:=H,env:=compEnvC scope cl C X.env,outer:=X.stack,ex:=ex,fn:=λy=>scope.names.lookup y==some NameKind.cell,pn:=[]}
def JR{prog:Program}{w:World}{A:Around}{R:Result->Shared->Prop}{s:Shared}{elt target iter:Expr}{ifs:List Expr}{scope:Scope}{pos:Pos}{it acc:Value}{env:Env}(I:Nat->Shared->Prop)
  (turn:∀n s,I n s->wpAny (model prog w) A (pyNext it) (λr s₁=>match r with
   |none=>R (.ok .next) s₁
   |some v=>wpAny (model prog w) A (letOwnedTupleGo target it v) (λ_ s₁=>wpAny (model prog w) A (assign target env v) (λ_ s₂ =>
     wpAny (model prog w) A (forIn ifs true λc r=>if r=true then do let ok <- isTrue c env (eval c env);pure (ForInStep.yield ok)else pure (ForInStep.yield r)) (λok s₃ =>
      if ok=true then wpAny (model prog w) A (eval elt env) (λx s₄ =>
       wpAny (model prog w) A (call (.builtin "list.append") [acc,x]) (λ_ s₅=>∃m,m<n/\I m s₅) (notedBy (model prog w) A env λe s'=>R (.error e) s') s₄) (notedBy (model prog w) A env λe s'=>R (.error e) s') s₃
      else ∃m,m<n/\I m s₃) (notedBy (model prog w) A env λe s'=>R (.error e) s') s₂) (notedBy (model prog w) A env λe s'=>R (.error e) s') s₁) (notedBy (model prog w) A env λe s'=>R (.error e) s') s₁) (notedBy (model prog w) A env λe s'=>R (.error e) s') s)
  (n:Nat) (h:I n s) :
  codeAny (model prog w) A (.compLoop (.ListComp elt [⟨target,iter,ifs,0⟩] scope pos) 0 it acc env) R s:=by
 refine codeAny_loop rfl I (λn s hI=>?_) n h;show wpAny _ A ((compTurn (.ListComp elt [⟨target,iter,ifs,0⟩] scope pos) 0 it acc env).onRaise (λx=>do noteFrame x env;theTreesLotGoes x)) _ _ s;refine wpAny_noted ?_;rw[compTurn_list];refine qB (wpAny_standAt (qB (wpAny_mono (turn n s hI) (λr s₁ h₁=>?_) λ_ _ h'=>h')));cases r with
 |none=>exact qC h₁
 |some v =>
  refine qB (wpAny_mono h₁ (λ_ s₁' h₁'=>?_) λ_ _ h'=>h');refine qB (wpAny_mono h₁' (λ_ s₂ h₂=>qB (wpAny_mono h₂ (λok s₃ h₃=>?_) λ_ _ h'=>h')) λ_ _ h'=>h');cases ok with
  |false=>exact qC ⟨rfl,h₃⟩
  |true =>
   exact qB (qB (wpAny_mono h₃ (λx s₄ h₄=>qB (wpAny_mono h₄ (λ_ s₅ h₅=>qC (qC ⟨rfl,h₅⟩)) λ_ _ h'=>h')) λ_ _ h'=>h'))
def zDz(X:Cx)(ifs:List Expr)(t:TT):Prop:=∀(pins:List (Addr×Obj)) (s:Shared) (O:St) (H:Hp) (Q:Bool->Hp->Prop),Inv X pins O H s->t O H Q ->
 wpAny (model X.prog X.w) X.A (forIn ifs true λc r=>if r=true then do let ok <- isTrue c X.env (eval c X.env);pure (ForInStep.yield ok)else pure (ForInStep.yield r)) (TP X pins O Q) X.xe s
def pif_nil{X:Cx}:zDz X [] (λO H Q=>Q true H):=λpins s O H Q I h=>wpAny_tests_nil ⟨H,I,h⟩
def pif_one{X:Cx}{c:Expr}{t:TT}(h:PT X c t):zDz X [c] t:=λpins s O H Q I q=>wpAny_tests_one (h pins s O H Q I q)
def yS(nl:Nat)(caps:List Nat)(O:St):St:=replicate nl none++caps.map λj=>(O[j]?).getD none
def zCp(nl:Nat)(caps:List Nat)(wi:TI)(g:TG)(tt:TT)(te:TE):TE:=λO H Q=>wi O H λJ H1=>∀D,H1 D=none->∃W:Nat->Nat->St->Hp->Prop,(∃m,W 0 m (yS nl caps O) (upd H1 D (.l [])))/\∀i m O' H',W i m O' H' ->
 (J.stop i H'/\Q (.ref D) H')\/(J.go i H'/\∃Nx:St->Hp->Prop,(∀O'' H'',Nx O'' H''->∃m',m'<m/\W (i+1) m' O'' H'')/\∀x H'',J.yld i H' x H''->g x O' H'' λO2 H2 =>
  tt O2 H2 λb H3=>if b=true then te O2 H3 λy H4=>∃ys,H4 D=some (.l ys)/\ys.length<sizeLine/\Nx O2 (upd H4 D (.l (ys++[y])))else Nx O2 H3)
theorem JD{env:Env}:∀{names:List (Str×NameKind)} {x:Str} {k:NameKind},(names.map λ(n,k)=>if(k==NameKind.free&&env.scope.kind==.function&&env.kindOf n==some .cell)then(n,NameKind.cell)else(n,k)).lookup x=some k ->
  ∃k0,names.lookup x=some k0/\(k=k0\/(k0=.free/\k=.cell))
 | [],_,_,h=>by simp at h
 | (n,k1)::r,x,k,h=>by
  have ih:=@JD env r x k;rw[map_cons]at h;by_cases hc:(k1==NameKind.free&&env.scope.kind==.function&&env.kindOf n==some .cell)=true
  ·simp only[hc,if_true]at h
   cases hx:x==n with
   |true =>
    simp only[lookup_cons,hx]at h ⊢;cases h;refine⟨k1,rfl,.inr ⟨?_,rfl⟩⟩;simp only[Bool.and_eq_true,beq_iff_eq]at hc;exact hc.1.1
   |false=>simp only[lookup_cons,hx]at h ⊢;exact ih h
  ·have hc':(k1==NameKind.free&&env.scope.kind==.function&&env.kindOf n==some .cell)=false:=by simpa using hc
   simp only[hc',Bool.false_eq_true,if_false]at h;cases hx:x==n with
   |true=>simp only[lookup_cons,hx]at h ⊢;cases h;exact⟨k1,rfl,.inl rfl⟩|false=>simp only[lookup_cons,hx]at h ⊢;exact ih h
theorem Yn{env:Env}:∀{names:List (Str×NameKind)} {x:Str},names.lookup x=some .free->env.scope.kind=.function->env.kindOf x=some .cell ->
  (names.map λ(n,k)=>if(k==NameKind.free&&env.scope.kind==.function&&env.kindOf n==some .cell)then(n,NameKind.cell)else(n,k)).lookup x=some .cell
 | [],_,h,_,_=>by simp at h
 | (n,k1)::r,x,h,hk,hc=>by
  have ih:=@Yn env r x;rw[map_cons];cases hx:x==n with
  |true =>
   have:x=n:=by simpa using hx
   subst this;simp only[lookup_cons,hx]at h;cases h;have:(NameKind.free==NameKind.free&&env.scope.kind==.function&&env.kindOf x==some .cell)=true:=by simp[hk,hc]
   simp only[this,if_true,lookup_cons,hx]
  |false =>
   simp only[lookup_cons,hx]at h;by_cases hcc:(k1==NameKind.free&&env.scope.kind==.function&&env.kindOf n==some .cell)=true
   ·simp only[hcc,if_true,lookup_cons,hx];exact ih h hk hc
   ·have hcc':(k1==NameKind.free&&env.scope.kind==.function&&env.kindOf n==some .cell)=false:=by simpa using hcc
    simp only[hcc',Bool.false_eq_true,if_false,lookup_cons,hx];exact ih h hk hc
def Qj(env:Env):List (Str×NameKind)->List (Str×Addr)->List (Str×Addr)
 | [],cs=>cs| (n,k)::r,cs=>if k==.free then Qj env r ((n,(env.cells.lookup n).getD 0)::cs)else Qj env r cs
theorem YR{env:Env}:∀(names:List (Str×NameKind)) (cs:List (Str×Addr)),(∀y∈names,y.2=.free->∃c,env.cells.lookup y.1=some c) ->
  (forIn names cs (λx r=>if(x.snd==NameKind.free)=true then do
    let c <- cellOf env x.fst
    pure (ForInStep.yield ((x.fst,c)::r))
   else pure (ForInStep.yield r)):Sem (List (Str×Addr)))=pure (Qj env names cs)
 | [],cs,_=>by rfl
 | (n,k)::r,cs,h=>by
  rw[forIn_cons];dsimp only;by_cases hk:(k==NameKind.free)=true
  ·obtain⟨c,hc⟩:=h (n,k) qE (by simpa using hk)
   have ec:cellOf env n=pure c:=by unfold cellOf;rw[hc]
   rw[if_pos hk,ec];show(forIn r ((n,c)::cs) _:Sem (List (Str×Addr)))=_;rw[YR r _ λy hy=>h y (qD _ hy)]
   conv=>rhs;unfold Qj
   rw[if_pos hk,hc];rfl
  ·rw[if_neg hk]
   show(forIn r cs _:Sem (List (Str×Addr)))=_
   rw[YR r _ λy hy=>h y (qD _ hy)]
   conv=>rhs;unfold Qj
   rw[if_neg hk]
theorem j9{env:Env}:∀(names:List (Str×NameKind)) (cs:List (Str×Addr)) (x:Str),(∀y∈names,y.2=.free->∃c,env.cells.lookup y.1=some c)->(∀c,cs.lookup x=some c->env.cells.lookup x=some c) ->
  (∀c,(Qj env names cs).lookup x=some c->env.cells.lookup x=some c)/\(((∃c,cs.lookup x=some c)\/∃y∈names,y.1=x/\y.2=.free)->∃c,(Qj env names cs).lookup x=some c)
 | [],cs,x,_,hcs=>⟨hcs,λh=>h.elim id λ⟨y,hy,_⟩=>by cases hy⟩
 | (n,k)::r,cs,x,h,hcs=>by
  unfold Qj;by_cases hk:(k==NameKind.free)=true
  ·rw[if_pos hk]
   obtain⟨c,hc⟩:=h (n,k) qE (by simpa using hk);have ih:=j9 r ((n,(env.cells.lookup n).getD 0)::cs) x (λy hy=>h y (qD _ hy)) (λc' e=>by
    rw[lookup_cons]at e;cases hx:x==n with
    |true =>
     have:x=n:=by simpa using hx
     subst this;rw[hx]at e;simp only[hc,Option.getD_some]at e;rw[hc];exact e
    |false=>rw[hx]at e;exact hcs c' e)
   refine⟨ih.1,λq=>ih.2 ?_⟩;rcases q with⟨c',q⟩|⟨y,hy,q1,q2⟩
   ·left
    rw[lookup_cons];cases hx:x==n with
    |true=>exact⟨_,rfl⟩|false=>exact⟨c',q⟩
   ·rcases mem_cons.mp hy with hy|hy
    ·subst hy
     left
     have q1:n=x:=q1;subst q1;exact⟨(env.cells.lookup n).getD 0,by rw[lookup_cons,beq_self_eq_true]⟩
    ·right;exact⟨y,hy,q1,q2⟩
  ·rw[if_neg hk]
   have ih:=j9 r cs x (λy hy=>h y (qD _ hy)) hcs;refine⟨ih.1,λq=>ih.2 ?_⟩;rcases q with q|⟨y,hy,q1,q2⟩
   ·exact .inl q
   ·rcases mem_cons.mp hy with hy|hy
    ·subst hy
     exact absurd (by simpa using q2) hk
    ·exact .inr ⟨y,hy,q1,q2⟩
theorem Zc:∀(names:List (Str×NameKind)) (h:Heap) (acc:List (Str×Addr)) (x:Str) (c:Addr),(cellsFrom h.objs.size names acc).lookup x=some c ->
  acc.lookup x=some c\/((x,NameKind.cell)∈names/\h.objs.size<=c/\(pushCells h names).IsCell c none)
 | [],h,acc,x,c,e=>.inl e
 | (n,k)::r,h,acc,x,c,e=>by
  unfold cellsFrom at e;unfold pushCells;split at e
  ·rename_i hk
   rw[if_pos hk];have sz:(h.push {cls:=.type "cell",data:=.cell none}).objs.size=h.objs.size+1:=size_push ..;rw[<- sz]at e;rcases Zc r (h.push {cls:=.type "cell",data:=.cell none}) _ x c e with q|⟨q1,q2,q3⟩
   ·rw[lookup_cons]at q
    cases hx:x==n with
    |true =>
     rw[hx]at q;cases q;have hx':x=n:=by simpa using hx
     have hk':k=.cell:=by simpa using hk
     subst hx';subst hk';exact .inr ⟨qE,le_refl _,⟨_,pushCells_keeps _ _ _ _ (get?_push_size _ rfl),rfl⟩⟩
    |false=>rw[hx]at q;exact .inl q
   ·exact .inr ⟨qD _ q1,by rw[sz]at q2;omega,q3⟩
  ·rename_i hk
   rw[if_neg hk];rcases Zc r h acc x c e with q|⟨q1,q2,q3⟩
   ·exact .inl q
   ·exact .inr ⟨qD _ q1,q2,q3⟩
theorem Wu:∀(names:List (Str×NameKind)) (n:Nat) (acc:List (Str×Addr)) (x:Str),(x,NameKind.cell)∉names->(cellsFrom n names acc).lookup x=acc.lookup x
 | [],n,acc,x,_=>rfl
 | (y,k)::r,n,acc,x,h=>by
  simp only[mem_cons,not_or]at h;unfold cellsFrom;split
  ·rename_i hk
   rw[Wu r _ _ x h.2,lookup_cons];cases hx:x==y with
   |true =>
    have hx':x=y:=by simpa using hx
    have hk':k=.cell:=by simpa using hk
    subst hx';subst hk';exact absurd rfl h.1
   |false=>rfl
  ·exact Wu r _ _ x h.2
theorem zAW:∀(names:List (Str×NameKind)) (n:Nat) (acc:List (Str×Addr)) (x:Str) (c:Addr),(x,NameKind.cell)∈names->(cellsFrom n names acc).lookup x=some c->n<=c
 | [],_,_,_,_,h,_=>by cases h
 | (y,k)::r,n,acc,x,c,h,e=>by
  unfold cellsFrom at e;by_cases hr:(x,NameKind.cell)∈r
  ·split at e
   ·exact Nat.le_of_succ_le (zAW r _ _ x c hr e)
   ·exact zAW r _ _ x c hr e
  ·rcases mem_cons.mp h with q|q
   ·cases q
    rw[if_pos (by rfl),Wu r _ _ _ hr,lookup_cons,beq_self_eq_true]at e;cases e;exact le_refl _
   ·exact absurd q hr
theorem zAX:∀(names:List (Str×NameKind)) (n:Nat) (acc:List (Str×Addr)),(∀x y c,acc.lookup x=some c->acc.lookup y=some c->x=y)->(∀x c,acc.lookup x=some c->c<n) ->
  ∀x y c,(cellsFrom n names acc).lookup x=some c->(cellsFrom n names acc).lookup y=some c->x=y
 | [],n,acc,hi,_,x,y,c,e1,e2=>hi x y c e1 e2
 | (z,k)::r,n,acc,hi,hb,x,y,c,e1,e2=>by
  unfold cellsFrom at e1 e2;split at e1
  ·refine zAX r (n+1) ((z,n)::acc) (λx y c e1 e2=>?_) (λx c e=>?_) x y c e1 (by rename_i hk;rwa [if_pos hk]at e2)
   ·rw[lookup_cons]at e1 e2
    cases hx:x==z with
    |true =>
     rw[hx]at e1;cases e1;have hx':x=z:=by simpa using hx
     cases hy:y==z with
     |true =>
      have hy':y=z:=by simpa using hy
      rw[hx',hy']
     |false=>rw[hy]at e2;exact absurd (hb y _ e2) (lt_irrefl _)
    |false =>
     rw[hx]at e1;cases hy:y==z with
     |true=>rw[hy]at e2;cases e2;exact absurd (hb x _ e1) (lt_irrefl _)|false=>rw[hy]at e2;exact hi x y c e1 e2
   ·rw[lookup_cons]at e
    cases hx:x==z with
    |true=>rw[hx]at e;cases e;exact Nat.lt_succ_self _|false=>rw[hx]at e;exact Nat.lt_succ_of_lt (hb x c e)
  ·exact zAX r n acc hi hb x y c e1 (by rename_i hk;rwa [if_neg hk]at e2)
def Yz{M:Model}{A:Around}{E:Value->Shared->Prop}{s:Shared}{scope:Scope}{globals:Addr}{cl:List (Str×Addr)}{qual:Str}{env:Env}{Q:Env->Shared->Prop}
  (hQ:Q (newEnv scope s.heap.objs.size globals (cellsFrom (s.heap.objs.size+1) scope.names cl) qual none .none (some env) builtinsNs) {s with heap:=pushCells (s.heap.push {cls:=.type "dict",data:=.dict #[]}) scope.names}) :
  wpAny M A (newFunctionEnv scope globals cl [] qual none .none (some env)) Q E s:=by
 simp only[newFunctionEnv,Option.isSome_some,if_true];refine qB (wpAny_alloc ?_);refine qB (wpAny_layCells _ (λname kind cells=>by cases hkc:kind==NameKind.cell<;>simp[hkc]) _ _ _ _ ?_);rw[show({s with heap:=s.heap.push {cls:=.type "dict",data:=.dict #[]}}:Shared).heap.objs.size=s.heap.objs.size+1 from size_push ..]
 rw[List.forIn_nil];exact qB (qC (qC hQ))
section
variable{X:Cx}{elt target iter:Expr}{ifs:List Expr}{scope:Scope}{pos:Pos}{nl:Nat}{caps:List Nat}{N':List Str}
def vd{wi:TI}{g:TG}{tt:TT}{te:TE}{use:Option (Value->Sem Unit)}{QQ:Value->Shared->Prop}{pins:List (Addr×Obj)}{s:Shared}{O:St}{H:Hp}{Q:VK}{p0:Pos}(hx:∀e s,¬X.xe e s)(hc:X.calm=true)(hkind:scope.kind=.function)(hnames:∀y∈scope.names,y.2=.local->scope.names.lookup y.1=some .local)(hcell:∀y∈scope.names,y.2=.cell->scope.names.lookup y.1=some .cell)
  (hfree:(scope.names.all λy=>y.2 != .free||X.env.kindOf y.1==some .cell)=true)
  (hlen:N'.length=nl+caps.length) (hcap:∀(i j:Nat),caps[i]?=some j->∃x,N'[nl+i]?=some x/\X.N[j]?=some x/\scope.names.lookup x=some .free)
  (hi:PI X target iter wi) (hg:∀cl C ex s H,PG (cxB X N' scope cl C ex s H) target g) (ht:∀cl C ex s H,zDz (cxB X N' scope cl C ex s H) ifs tt) (he:∀cl C ex s H,PE (cxB X N' scope cl C ex s H) elt te)
  (hs:∀x,foldedSetIterable iter X.env x=pure x) (I:Inv X pins O H s) (h:zCp nl caps wi g tt te O H Q)
  (hfin:∀(D C:Addr) (H5:Hp) (s6:Shared) (m6:Str->Option Value),Inv X pins O H5 s6->zDg X pins H5 C->s6.heap.Ns C m6->Q (.ref D) H5->compPost (model X.prog X.w) X.A X.xe use QQ (.ref D) C (.ok .next) s6) :
  wpAny (model X.prog X.w) X.A (comprehension (.ListComp elt [⟨target,iter,ifs,0⟩] scope pos) scope X.env p0 (newList []) false (eval iter X.env) use) QQ X.xe s:=by
 have hfr:∀y∈scope.names,y.2=.free->X.env.kindOf y.1=some .cell:=λy hy e=>by
  have:=all_eq_true.mp hfree y hy;rw[e]at this;simpa using this
 have hcl:∀y∈scope.names,y.2=.free->∃c,X.env.cells.lookup y.1=some c:=λy hy e=>I.ok.has y.1 (.inl (hfr y hy e))
 have hclos:closureFor scope X.env=pure (Qj X.env scope.names []):=by
  simp only[closureFor];rw[YR scope.names [] hcl];rfl
 have cl1:∀x c,(Qj X.env scope.names []).lookup x=some c->X.env.cells.lookup x=some c:=λx c e=>(j9 scope.names [] x hcl (λ_ z=>by cases z)).1 c e
 have cl2:∀x,(∃y∈scope.names,y.1=x/\y.2=.free)->∃c,(Qj X.env scope.names []).lookup x=some c:=λx q=>(j9 scope.names [] x hcl (λ_ z=>by cases z)).2 (.inr q)
 generalize Qj X.env scope.names []=cl at hclos cl1 cl2;refine wpAny_comprehension_free (use:=use) rfl hs hclos hkind hnames (thn (hi pins s O H _ I h) λxv s1 h1=>thn h1 λitv s2 h2=>?_);obtain⟨it,fp,tn,J,H2,e,I2,T,st2,f2,turn⟩:=h2;subst e;refine wpAny_newObj_type (Yz ?_) (by show(#[]:Array Value).size<=sizeLine;simp);dsimp only;generalize hH3:s2.heap.push {cls:=.type "list",dict:=none,data:=.seq ([]:List Value).toArray}=h3;have hC:h3.objs.size=s2.heap.objs.size+1:=by rw[<- hH3,size_push]
 have hD:H2 s2.heap.objs.size=none:=I2.hok.fresh (le_refl _);obtain⟨W,⟨m0,w0⟩,step⟩:=turn s2.heap.objs.size hD
 -- the state at the block's entry
 have I3:Inv X pins O (upd H2 s2.heap.objs.size (.l [])) {s2 with heap:=h3}:=by
  rw[<- hH3];exact I2.laid (t':=s2.toks) (λb o q=>qA _ q) (le_refl _) ⟨zero_le _,[],0,.nil,get?_push_size _ rfl⟩
 have hcfr:∀x,scope.names.lookup x=some .free->(x,NameKind.cell)∉scope.names:=λx e z=>by
  have:=hcell _ z rfl;rw[e]at this;cases this
 have szp:(h3.push {cls:=.type "dict",data:=.dict #[]}).objs.size=h3.objs.size+1:=size_push ..;have cw:∀x c,(cellsFrom (h3.objs.size+1) scope.names cl).lookup x=some c->cl.lookup x=some c\/((x,NameKind.cell)∈scope.names/\h3.objs.size+1<=c/\(pushCells (h3.push {cls:=.type "dict",data:=.dict #[]}) scope.names).IsCell c none):=λx c e=>by
  rw[<- szp]at e ⊢;exact Zc _ _ _ x c e
 have cfr:∀x,scope.names.lookup x=some .free->(cellsFrom (h3.objs.size+1) scope.names cl).lookup x=cl.lookup x:=λx e=>Wu _ _ _ x (hcfr x e)
 have chas:∀x,scope.names.lookup x=some .cell->∃c,(cellsFrom (h3.objs.size+1) scope.names cl).lookup x=some c:=λx e=>by
  have:=cellsFrom_some scope.names (h3.objs.size+1) cl (x:=x) (.inl e);exact Option.isSome_iff_exists.mp this
 have clt:∀x c,cl.lookup x=some c->c<h3.objs.size:=λx c e=>by
  obtain⟨v,q⟩:=I3.cell x c (cl1 x c e);exact q.lt
 have cinj:=zAX scope.names (h3.objs.size+1) cl (λx y c e1 e2=>I.ok.inj x y c (cl1 x c e1) (cl1 y c e2)) λx c e=>Nat.lt_succ_of_lt (clt x c e)
 have hns₁:(pushCells (h3.push {cls:=.type "dict",data:=.dict #[]}) scope.names).Ns h3.objs.size λ_=>none:=(Heap.Ns.new h3 (.type "dict")).keeps (pushCells_keeps _ _)
 have old:∀b o,h3.get? b=some o->(pushCells (h3.push {cls:=.type "dict",data:=.dict #[]}) scope.names).get? b=some o:=λb o e=>pushCells_keeps _ _ b o (qA _ e)
 generalize hh1:pushCells (h3.push {cls:=.type "dict",data:=.dict #[]}) scope.names=h₁ at hns₁ old cw ⊢;generalize hcs:cellsFrom (h3.objs.size+1) scope.names cl=cs at cw cfr chas cinj ⊢;have fpD:∀b∈fp,b≠s2.heap.objs.size:=λb hb z=>by
  obtain⟨o,e,_⟩:=T.obj 0 s2.heap st2 b hb;subst z;exact absurd (lt_size e) (lt_irrefl _)
 have fp3:∀b∈fp,upd H2 s2.heap.objs.size (.l []) b=none:=λb hb=>by rw[zH (fpD b hb)];exact(f2 b hb).1
 have fpC:∀b∈fp,b≠h3.objs.size:=λb hb z=>by
  obtain⟨o,e,_⟩:=T.obj 0 s2.heap st2 b hb;have q:b<s2.heap.objs.size:=lt_size e;rw[z,hC]at q;exact absurd q (not_lt.mpr (le_succ _))
 have hCn:upd H2 s2.heap.objs.size (.l []) h3.objs.size=none:=I3.hok.fresh (le_refl _);have fpok:∀b∈fp,(b∈X.ex\/X.s₀.heap.objs.size<=b)/\b≠X.env.locals/\(∀x c,X.env.cells.lookup x=some c->c≠b)/\∀p∈X.pn++pins,p.1≠b:=λb hb=>by
  obtain⟨_,q2,_,q4,q5,q6⟩:=f2 b hb;exact⟨q4,q2,q5,q6⟩
 have fpH:∀b∈fp,b<h3.objs.size:=λb hb=>by
  obtain⟨o,e,_⟩:=T.obj 0 s2.heap st2 b hb;have q:b<s2.heap.objs.size:=lt_size e;rw[hC];exact Nat.lt_succ_of_lt q
 have fpcs:∀b∈fp,∀x c,cs.lookup x=some c->c≠b:=λb hb x c e=>by
  rcases cw x c e with q|⟨_,q,_⟩
  ·exact(fpok b hb).2.2.1 x c (cl1 x c q)
  ·intro z;subst z
   exact absurd (lt_of_lt_of_le (fpH _ hb) (Nat.le_of_succ_le q)) (lt_irrefl _)
 let Y:Cx:=cxB X N' scope cs h3.objs.size fp {s2 with heap:=h3} (upd H2 s2.heap.objs.size (.l []))
 have kindY:∀x k,Y.env.kindOf x=some k->∃k0,scope.names.lookup x=some k0/\(k=k0\/(k0=.free/\k=.cell)):=λx k e=>JD e
 have okY:Y.Ok:={
  mod:=I.ok.mod
  kind:=hkind
  glob:=I.ok.glob
  blt:=I.ok.blt
  above:=le_refl _
  inj:=cinj
  has:=λx q=>by
   have:scope.names.lookup x=some .cell\/scope.names.lookup x=some .free:=by
    rcases q with q|q
    ·obtain⟨k0,e,z⟩:=kindY x _ q
     rcases z with z|z
     ·subst z;exact .inl e
     ·rw[z.1]at e;exact .inr e
    ·obtain⟨k0,e,z⟩:=kindY x _ q
     rcases z with z|z
     ·subst z;exact .inr e
     ·rw[z.1]at e;exact .inr e
   rcases this with q|q
   ·exact chas x q
   ·obtain⟨c,e⟩:=cl2 x ⟨(x,.free),PySem.mem_of_lookup q,rfl,rfl⟩
    exact⟨c,by show cs.lookup x=_;rw[cfr x q];exact e⟩
  cab:=λx c z e=>by
   have z:scope.names.lookup x=some .cell:=by
    have z:(scope.names.lookup x==some NameKind.cell)=true:=z;simpa using z
   have e:cs.lookup x=some c:=e;rw[<- hcs]at e;exact le_trans (le_succ _) (zAW _ _ _ x c (PySem.mem_of_lookup z) e)
  hd:=I.ok.hd
  frames:=I.ok.frames
  stk:=.inl rfl
  exf:=λb hb=>⟨fpC b hb,fpcs b hb⟩
  bs:=λb o e=>I3.bs b o e
  bsz:=le_trans I.ok.bsz I3.sz
  noex:=λb o e hb=>by
   obtain⟨q,_⟩:=fpok b hb;rcases q with q|q
   ·exact I.ok.noex b o e q
   ·exact absurd (lt_of_lt_of_le (lt_size e) I.ok.bsz) (not_lt.mpr q)
  exfs:=λb hb z=>by
   have:=I2.stkSub b z;rcases mem_cons.mp this with q|q
   ·exact(fpok b hb).2.1 q
   ·exact(f2 b hb).2.2.1 q
  funs:=I3.stack
  frf:=I3.stkFree}
 have keep1:∀b o,h3.get? b=some o->h₁.get? b=some o:=old;have lenY:(yS nl caps O).length=N'.length:=by unfold yS;simp[hlen]
 have IY:Inv Y [] (yS nl caps O) (upd H2 s2.heap.objs.size (.l [])) {s2 with heap:=h₁}:={
  ok:=okY
  os:=rfl
  bare:=I3.bare
  base:=Un.kept keep1
  loc:=by
   refine⟨_,hns₁,λi x v e1 e2 e3=>?_⟩;have e1:N'[i]?=some x:=e1;have hi:nl<=i:=by
    by_cases z:nl<=i
    ·exact z
    ·unfold yS at e2
     rw[List.getElem?_append_left (by simp;omega),List.getElem?_replicate]at e2;split at e2<;>cases e2
   unfold yS at e2;rw[List.getElem?_append_right (by simpa using hi),List.length_replicate,List.getElem?_map]at e2;cases ej:caps[i-nl]? with
   |none=>rw[ej]at e2;cases e2
   |some j =>
    rw[ej]at e2;simp only[Option.map_some,Option.some.injEq]at e2;obtain⟨x',c1,c2,c3⟩:=hcap (i-nl) j ej;have ex:x'=x:=by
     rw[show nl+(i-nl)=i by omega,e1]at c1;exact(qJ c1).symm
    subst ex;have e4:O[j]?=some (some v):=by
     cases z:O[j]? with
     |none=>rw[z]at e2;cases e2|some o=>rw[z]at e2;simp at e2;rw[e2]
    have kx:X.env.kindOf x'=some .cell:=hfr (x',.free) (PySem.mem_of_lookup c3) rfl;obtain⟨mm,_,lk⟩:=I3.loc;obtain⟨u,ru,lu⟩:=lk j x' v c2 e4 (.inr (.inl kx));refine⟨u,ru,?_⟩;rcases lu with⟨z,_⟩|⟨_,c,d1,d2⟩
    ·rw[kx]at z;cases z
    ·obtain⟨c',d3⟩:=cl2 x' ⟨(x',.free),PySem.mem_of_lookup c3,rfl,rfl⟩
     have:c'=c:=by have:=cl1 x' c' d3;rw[d1]at this;exact(qJ this).symm
     subst this;exact .inr ⟨.inl (Yn c3 I.ok.kind kx),c',by show cs.lookup _=_;rw[cfr x' c3];exact d3,d2.keeps old⟩
  cell:=λx c e=>by
   rcases cw x c e with e|⟨_,_,q⟩
   ·obtain⟨v,q⟩:=I3.cell x c (cl1 x c e)
    exact⟨v,q.keeps old⟩
   ·exact⟨_,q⟩
  free:=hCn
  freeC:=λx c e=>by
   rcases cw x c e with e|⟨_,q,_⟩
   ·exact I3.freeC x c (cl1 x c e)
   ·exact I3.hok.fresh (le_trans (le_succ _) q)
  pin:=λp hp=>absurd (show p∈([]:List (Addr×Obj))from hp) (by simp)
  hok:=I3.hok.kept old
  len:=lenY}
 have st1:tn 0 h₁:=T.keep 0 s2.heap h₁ st2 λb hb o e=>old b o (by rw[<- hH3];exact qA _ e)
 have fpY:∀{H':Hp},(∀b∈fp,H' b=none)->∀b∈fp,zDg Y [] H' b:=λhn b hb =>
  ⟨hn b hb,fpC b hb,okY.exfs b hb,.inl hb,fpcs b hb,λp hp=>absurd (show p∈([]:List (Addr×Obj))from hp) (by simp)⟩
 have hA:Y.A=X.A:=rfl;have noE:∀{E':Value->Shared->Prop} {e:Value} {s:Shared},X.xe e s->E' e s:=λq=>absurd q (hx _ _)
 have fin:∀s₄:Shared,s₄={s2 with heap:=h₁} ->
   codeAny (model X.prog X.w) X.A (.compLoop (.ListComp elt [⟨target,iter,ifs,0⟩] scope pos) 0 (.ref it) (.ref s2.heap.objs.size) Y.env)
    (compPost (model X.prog X.w) X.A X.xe use QQ (.ref s2.heap.objs.size) h3.objs.size) s₄:=by
  rintro s₄ rfl
  refine JR (λn s'=>∃i O' H',Inv Y [] O' H' s'/\tn i s'.heap/\(∀b∈fp,H' b=none)/\W i n O' H') ?_ m0 ⟨0,yS nl caps O,_,IY,st1,fp3,w0⟩
  rintro n s5 ⟨i,O5,H5,I5,st5,fr5,w5⟩
  rcases step i n O5 H5 w5 with⟨stop,q⟩|⟨go,Nx,hN,turn⟩
  ·refine wpAny_mono (T.done Y rfl rfl rfl hc i [] s5 O5 H5 (λ_ _=>False) I5 (fpY fr5) st5 stop) (λr s6 ⟨hr,I6⟩=>?_) (λ_ _ z=>z.elim)
   subst hr;obtain⟨m6,n6,_⟩:=I6.loc;have u:Un (frs X.stack) fp (upd H2 s2.heap.objs.size (.l [])) H5 h3 s6.heap:=I6.base;have I7:Inv X pins O H5 s6:=I3.call' (s':=s6) (ch:=fp) I6.os u I6.hok I6.bare fpok;exact hfin _ _ H5 s6 m6 I7 (I3.fpOk (le_refl _) I6.free) n6 q
  ·refine wpAny_mono (T.item Y rfl rfl rfl hc i [] s5 O5 H5 (λ_ _=>False) I5 (fpY fr5) st5 go) (λr s6 ⟨u,hr,h6⟩=>?_) (λ_ _ z=>z.elim)
   subst hr;refine wpAny_mono h6 (λ_ s7 ⟨x,H7,I7,r7,y7,st7,fr7⟩=>?_) (λ_ _ z=>z.elim);have I7':=I7.pinned (fpY fr7) (T.obj _ _ st7);refine wpAny_mono (hg _ _ _ _ _ _ s7 O5 H7 x u _ I7' r7 (turn x H7 y7)) (λ_ s8 ⟨O8,H8,I8,q8⟩=>?_) (λ_ _ z=>noE z);refine wpAny_mono (ht _ _ _ _ _ _ s8 O8 H8 _ I8 q8) (λb s9 ⟨H9,I9,q9⟩=>?_) (λ_ _ z=>noE z);have again:∀{O7:St} {H':Hp} {s':Shared},Inv Y ([]++vH fp s7.heap) O7 H' s'->Nx O7 H'->∃m,m<n/\∃i O' H',Inv Y [] O' H' s'/\tn i s'.heap/\(∀b∈fp,H' b=none)/\W i m O' H':=λ{O7 H' s'} I' n7=>by
    obtain⟨m',hm,w7⟩:=hN O7 H' n7;refine⟨m',hm,i+1,O7,H',I'.unpinned,T.keep _ _ _ st7 λb hb o e=>(I'.pin (b,o) (qK _ (qK _ (wg hb e)))).1,λb hb=>?_,w7⟩;obtain⟨o,e,d⟩:=T.obj _ _ st7 b hb;exact(I'.pin (b,o) (qK _ (qK _ (wg hb e)))).2.1
   cases b with
   |false =>
    rw[if_neg qF]at q9 ⊢;exact again I9 q9
   |true =>
    rw[if_pos rfl]at q9 ⊢;refine wpAny_mono (he _ _ _ _ _ _ s9 O8 H9 _ I9 q9) (λy s10 ⟨vy,H10,I10,r10,ys,hy,hz,n10⟩=>?_) (λ_ _ z=>noE z);have ap:=vR (X:=Y) _ s10 O8 H10 (.ref s2.heap.objs.size) [vy] (.ref s2.heap.objs.size) [y] (λv H'=>Nx O8 H') I10 rfl (.cons r10 .nil) ⟨_,ys,vy,rfl,rfl,hy,hz,n10⟩;refine wpAny_mono ap (λ_ s11 ⟨v11,H11,I11,_,n11⟩=>?_) (λ_ _ z=>noE z);exact again I11 n11
 exact codeAny_compStart_list (fin _ rfl) (T.self X.A 0 _ _ _ st1 (fin _ rfl))
def pe_comp{wi:TI}{g:TG}{tt:TT}{te:TE}(hx:∀e s,¬X.xe e s)(hc:X.calm=true)(hkind:scope.kind=.function)(hnames:∀y∈scope.names,y.2=.local->scope.names.lookup y.1=some .local)(hcell:∀y∈scope.names,y.2=.cell->scope.names.lookup y.1=some .cell)
  (hfree:(scope.names.all λy=>y.2 != .free||X.env.kindOf y.1==some .cell)=true)
  (hlen:N'.length=nl+caps.length) (hcap:∀(i j:Nat),caps[i]?=some j->∃x,N'[nl+i]?=some x/\X.N[j]?=some x/\scope.names.lookup x=some .free)
  (hi:PI X target iter wi) (hg:∀cl C ex s H,PG (cxB X N' scope cl C ex s H) target g) (ht:∀cl C ex s H,zDz (cxB X N' scope cl C ex s H) ifs tt) (he:∀cl C ex s H,PE (cxB X N' scope cl C ex s H) elt te)
  (hs:∀x,foldedSetIterable iter X.env x=pure x:=by intro _;rfl):PE X (.ListComp elt [⟨target,iter,ifs,0⟩] scope pos) (zCp nl caps wi g tt te):=by
 intro pins s O H Q I h;rw[eval_ListComp];refine vd (use:=none) hx hc hkind hnames hcell hfree hlen hcap hi hg ht he hs I h λD C H5 s6 m6 I7 f n6 q=>?_
 refine⟨m6,n6,λh' hs'=>?_⟩;obtain⟨f1,f2,f3,f4,f5,f6⟩:=f;exact⟨.ref D,H5,I7.turned (it:=C) (t':=s6.toks) (λb o hb e=>hs'.extBut b o hb e) f1 (λz=>f2 z) f4 f5 f6,rfl,q⟩
def ps_setC{i:Nat}{y:Str}{py spos:Pos}{wi:TI}{g:TG}{tt:TT}{te:TE}(hN:X.N.Nodup)(hi':X.N[i]?=some y)(hy:Loc X.env.scope y)(hf:X.fn y=true\/X.env.scope.names.lookup y=some .local)(hx:∀e s,¬X.xe e s)(hc:X.calm=true)(hkind:scope.kind=.function)(hnames:∀y∈scope.names,y.2=.local->scope.names.lookup y.1=some .local)(hcell:∀y∈scope.names,y.2=.cell->scope.names.lookup y.1=some .cell)
  (hfree:(scope.names.all λy=>y.2 != .free||X.env.kindOf y.1==some .cell)=true)
  (hlen:N'.length=nl+caps.length) (hcap:∀(i j:Nat),caps[i]?=some j->∃x,N'[nl+i]?=some x/\X.N[j]?=some x/\scope.names.lookup x=some .free)
  (hi:PI X target iter wi) (hg:∀cl C ex s H,PG (cxB X N' scope cl C ex s H) target g) (ht:∀cl C ex s H,zDz (cxB X N' scope cl C ex s H) ifs tt) (he:∀cl C ex s H,PE (cxB X N' scope cl C ex s H) elt te)
  (hs:∀x,foldedSetIterable iter X.env x=pure x) (hsw:swapsWith (.ListComp elt [⟨target,iter,ifs,0⟩] scope pos) (some (.Name y py)) spos.line X.env=pure true) :
  PS X (.Assign [.Name y py] (.ListComp elt [⟨target,iter,ifs,0⟩] scope pos) spos) (tAsg (zCp nl caps wi g tt te) (uY i)):=by
 intro pins s O H D I h;rw[exec_Assign_Name_used _ _ _ _ hsw];refine qB (wpAny_standAt (qB ?_));show wpAny _ X.A (do let _ <- comprehension (.ListComp elt [⟨target,iter,ifs,0⟩] scope pos) scope X.env _ (newList []) false (eval iter X.env) (some (assign (.Name y py) X.env))) _ _ s;refine qB (wpAny_mono (vd (use:=some (assign (.Name y py) X.env)) (QQ:=λ_ s'=>SP X pins D .next s') hx hc hkind hnames hcell hfree hlen hcap hi hg ht he hs I h λDa C H5 s6 m6 I7 f n6 q=>?_) (λ_ s' hq=>qC (qC hq)) λ_ _ e=>e);obtain⟨f1,f2,f3,f4,f5,f6⟩:=f;show wpAny _ X.A (assign (.Name y py) X.env (.ref Da)) _ _ s6;refine wpAny_assign_Name (vD I7 hN hi' hy (v:=.ref Da) rfl (λs7 I8 ⟨a,sb,ha⟩=>?_) hf);have hne:C≠a:=by
  rcases ha with ha|ha
  ·rw[ha];exact f2
  ·exact λz=>f5 y a ha z.symm
 refine⟨m6,n6.sameBut sb hne,λh' hs'=>?_⟩;exact⟨_,H5,I8.turned (it:=C) (t':=s7.toks) (λb o hb e=>hs'.extBut b o hb e) f1 (λz=>f2 z) f4 f5 f6,q⟩
end
end L2
namespace DV
open PySem L2
section
variable{X:Cx}{K:qH}{mg:Str->Option Value}{O:St}{M:Addr->Prop}{E:zQ}{H:Hp}{T0 Z T:Fz}
structure ItOk(K:qH)(mg:Str->Option Value)(J:It)(ds:List D)(Iv:Hp->Prop):Prop where
 mono:∀H H',YJ H H'->Iv H->Iv H'
 go:∀i Hh H,YJ Hh H->Iv Hh->i<ds.length->J.go i H
 yld:∀i Hh H x H',YJ Hh H->Iv Hh->i<ds.length->J.yld i H x H'->∃d,ds[i]?=some d/\((H'=H/\Rep K mg Hh d x)\/∃q xs es,H q=none/\H'=upd H q (.t xs)/\x=.ref q/\d=.t es/\Reps K mg Hh es xs)
 stop:∀i Hh H,YJ Hh H->Iv Hh->ds.length<=i->J.stop i H
abbrev MI:=zQ->Out (List D×zQ)
def tMI(X:Cx)(m:MI):TI:=λO H R=>∃M E,E.length=O.length/\FR X.K X.mg M H (O.zip E)/\match m E with
 | .z=>False| .ok (ds,E')=>∀J Iv H',ItOk X.K X.mg J ds Iv->Iv (Hm (Mo M (O.zip E')) H')->Got X.K X.mg M O E H [] O E' H' []->R J H'| .exc x E'=>∀H',Got X.K X.mg M O E H [] O E' H' []->XE X O H' x
abbrev IOk(X:Cx)(tg e:Expr)(m:MI):Prop:=PI X tg e (tMI X m)
def GW{tg e:Expr}{t t':TI}(h:PI X tg e t)(i:∀O H R,t' O H R->t O H R):PI X tg e t':=λpins s O H R I q=>h pins s O H R I (i O H R q)
def iL(m:ME):MI:=λE=>match m E with
 | .z=>.z| .exc x E1=>.exc x E1
 | .ok (r,E1)=>match r.d with
  | .l ds=>.ok (ds,E1)|_=>.z
def iT(m:ME):MI:=λE=>match m E with
 | .z=>.z| .exc x E1=>.exc x E1
 | .ok (r,E1)=>match r.d with
  | .t ds=>.ok (ds,E1)|_=>.z
def it_list{a:Addr}{xs:List V}{ds:List D}:ItOk K mg (Itl K a) ds (λH=>SqL K H a xs/\Reps K mg H ds xs) where
 mono:=λH H' s h=>⟨s.seq h.1,h.2.mono s⟩
 go:=λi Hh H s h hi=>⟨xs,xs[i]'(by rw[h.2.length];exact hi),s.seq h.1,by simp⟩
 yld:=λi Hh H x H' s h hi y=>by
  obtain⟨e,y⟩:=y;obtain⟨d,h1,h2⟩:=h.2.get (y xs (s.seq h.1));exact⟨d,h1,.inl ⟨e,h2⟩⟩
 stop:=λi Hh H s h hi=>⟨xs,s.seq h.1,by rw[h.2.length];exact hi⟩
def it_tup{a:Addr}{xs:List V}{ds:List D}:ItOk K mg (Itt K a) ds (λH=>SqT K H a xs/\Reps K mg H ds xs) where
 mono:=λH H' s h=>⟨yA s h.1,h.2.mono s⟩
 go:=λi Hh H s h hi=>⟨xs,xs[i]'(by rw[h.2.length];exact hi),yA s h.1,by simp⟩
 yld:=λi Hh H x H' s h hi y=>by
  obtain⟨e,y⟩:=y;obtain⟨d,h1,h2⟩:=h.2.get (y xs (yA s h.1));exact⟨d,h1,.inl ⟨e,h2⟩⟩
 stop:=λi Hh H s h hi=>⟨xs,yA s h.1,by rw[h.2.length];exact hi⟩
def ve:∀(n i:Nat) (lo:Int),i<n->(zb lo n)[i]?=some (.int (lo+i)):=λn i lo h=>by
 have:=j8 n i lo h;have e:((zb lo n).drop i)[0]?=some (.int (lo+i)):=by rw[this];rfl
 rw[List.getElem?_drop]at e;simpa using e
def it_rng{lo:Int}{n:Nat}:ItOk K mg (Itr lo n) (zb lo n) (λ_=>True) where
 mono:=λ_ _ _ h=>h
 go:=λi Hh H s h hi=>by rw[yP]at hi;exact hi
 yld:=λi Hh H x H' s h hi y=>by
  obtain⟨e,y⟩:=y;rw[yP]at hi;exact⟨_,ve n i lo hi,.inl ⟨e,by rw[y];simp only[Rep]⟩⟩
 stop:=λi Hh H s h hi=>by rw[yP]at hi;exact hi
def io_list{tg e:Expr}{m:ME}(h:EOk X e m):IOk X tg e (iL m):=GW (Qr h) λO H R ⟨M,E,hl,fr,k⟩=>by
 unfold iL at k;refine zk (T0:=[]) hl fr ?_;cases ea:m E with
 |z=>rw[ea]at k;exact k|exc x E1=>rw[ea]at k;exact k
 |ok p =>
  obtain⟨r,E1⟩:=p;rw[ea]at k;intro v H1 g;dsimp only at k;cases ed:r.d with
  |l ds =>
   rw[ed]at k;have rl:=g.rep;rw[ed]at rl;obtain⟨a,xs,rfl,q1,q2⟩:=zO rl;exact⟨a,rfl,⟨xs,zL.seq q1⟩,k _ _ H1 it_list ⟨q1,q2⟩ g.dropAll⟩
  |_=>rw[ed]at k;exact k.elim
def io_tup{tg e:Expr}{m:ME}(h:EOk X e m):IOk X tg e (iT m):=GW (pi_tup h) λO H R ⟨M,E,hl,fr,k⟩=>by
 unfold iT at k;refine zk (T0:=[]) hl fr ?_;cases ea:m E with
 |z=>rw[ea]at k;exact k|exc x E1=>rw[ea]at k;exact k
 |ok p =>
  obtain⟨r,E1⟩:=p;rw[ea]at k;intro v H1 g;dsimp only at k;cases ed:r.d with
  |t ds =>
   rw[ed]at k;have rl:=g.rep;rw[ed]at rl;obtain⟨a,xs,rfl,q1,q2⟩:=zd rl;exact⟨a,rfl,⟨xs,yA zL q1⟩,k _ _ H1 it_tup ⟨q1,q2⟩ g.dropAll⟩
  |_=>rw[ed]at k;exact k.elim
def iR1(m:MA):MI:=λE=>match m E with
 | .z=>.z| .exc x E1=>.exc x E1
 | .ok ([r],E1)=>match r.d with
  | .int j=>if -(2^62)<=j/\j<2^62 then .ok (zb 0 j.toNat,E1)else .z|_=>.z
 |_=>.z
def io_r1{tg a:Expr}{m:MA}{p cpos:Pos}(hgl:Gl X "range")(hm:X.mg "range"=none)(ha:AOk X [a] m)(hst:zW a=false:=by rfl):IOk X tg (.Call (.Name "range" p) [a] [] cpos) (iR1 m):=GW (vG hgl hm ha (star1 hst)) λO H R ⟨M,E,hl,fr,k⟩=>by
 unfold iR1 at k;refine ZU (T0:=[]) hl fr ?_;cases ea:m E with
 |z=>rw[ea]at k;exact k|exc x E1=>rw[ea]at k;exact k
 |ok p =>
  obtain⟨rs,E1⟩:=p;rw[ea]at k
  match rs,k with
  | [r],k =>
   intro vs H1 hv g1;have rp:=Got.reps hv g1;dsimp only at k;cases ed:r.d with
   |int j =>
    rw[ed]at k;simp only[List.map,ed]at rp;obtain⟨v,rfl,h1⟩:=YN rp;dsimp only at k;by_cases hc:-(2^62)<=j/\j<2^62
    ·rw[if_pos hc]at k
     exact⟨j,by rw[zK h1],hc.1,hc.2,k _ _ H1 it_rng trivial g1.dropAll⟩
    ·rw[if_neg hc]at k;exact k.elim
   |_=>rw[ed]at k;exact k.elim
  | [],k=>exact k.elim|_::_::_,k=>exact k.elim
def Jr(tg:MG)(tt:MT)(el:ME):List D->zQ->List D->Out (List D×zQ)
 | [],E,acc=>.ok (acc,E)
 |d::ds,E,acc=>match tg d E with
  | .ok E1=>match tt E1 with
   | .ok (true,E2)=>match el E2 with
    | .ok (r,E3)=>if acc.length<cap then Jr tg tt el ds E3 (acc++[r.d])else .z|_=>.z
   | .ok (false,E2)=>Jr tg tt el ds E2 acc|_=>.z
  |_=>.z
def JS(E:zQ):List Nat->Out (List AR)
 | []=>.ok []
 |j::js=>match E[j]? with
  |some (.v d)=>match JS E js with
   | .ok as=>.ok (.tmp d::as)|_=>.z
  |some s=>match s.list? with
   |some _=>match JS E js with
    | .ok as=>.ok (.ln j::as)|_=>.z
   |none=>.z
  |none=>.z
def Zd(nl:Nat)(caps:List Nat)(mi:MI)(tg:MG)(tt:MT)(el:ME):ME:=λE=>match mi E with
 | .z=>.z| .exc x E1=>.exc x E1
 | .ok (ds,E1)=>match JS E1 caps with
  | .ok ars=>match zN ars E1 with
   | .ok (ss,E2)=>match Jr tg tt el ds (replicate nl .e++ss) []with
    | .ok (res,Eb)=>match zM ars ((yH (replicate nl .e++ss) Eb).drop nl) E1 E2 with
     | .ok E3=>.ok (.own res,E3)|_=>.z
    |_=>.z
   |_=>.z
  |_=>.z
def zAY:MT:=λE=>.ok (true,E)
abbrev IfOk(X:Cx)(ifs:List Expr)(m:MT):Prop:=zDz X ifs (tMT X m)
def Wv{ifs:List Expr}{t t':TT}(h:zDz X ifs t)(i:∀O H Q,t' O H Q->t O H Q):zDz X ifs t':=λpins s O H Q I q=>h pins s O H Q I (i O H Q q)
def zAZ:IfOk X [] zAY:=Wv pif_nil λO H Q ⟨M,E,hl,fr,k⟩=>k H (Got.refl (T0:=[]) hl fr)
def zAa{c:Expr}{m:MT}(h:TOk X c m):IfOk X [c] m:=pif_one h
theorem zAb:∀(js:List Nat) {as:List AR} {T:Fz},E.length=O.length->JS E js=.ok as->FR K mg M H (T++O.zip E) ->
  ∃vs,AV O as vs/\vs.map some=js.map (λj=>(O[j]?).getD none)/\FR K mg M H (T++(zt vs as++O.zip E))/\∀b,b∈yE (T++(zt vs as++O.zip E))->b∈yE (T++O.zip E)
 | [],as,T,hl,e,f=>by
  cases e;exact⟨[],by simp only[AV],rfl,f,λb q=>q⟩
 |j::js,as,T,hl,e,f=>by
  simp only[JS]at e;cases ej:E[j]? with
  |none=>rw[ej]at e;cases e
  |some s =>
   rw[ej]at e;obtain⟨o,h1,h2⟩:=j7 hl ej;have lnk:∀{ds:List D},s.list?=some ds->(match JS E js with | .ok as=>Out.ok (AR.ln j::as)|_=>.z)=.ok as->∃vs,AV O as vs/\vs.map some=(j::js).map (λj=>(O[j]?).getD none)/\FR K mg M H (T++(zt vs as++O.zip E))/\∀b,b∈yE (T++(zt vs as++O.zip E))->b∈yE (T++O.zip E):=λ{ds} hs e=>by
    cases ec:JS E js with
    |z=>rw[ec]at e;cases e|exc _ _=>rw[ec]at e;cases e
    |ok as1 =>
     rw[ec]at e;cases e;obtain⟨a,xs,ev,_⟩:=f.own o s ds (qK _ h2) hs;subst ev;obtain⟨vs,q1,q2,q3,q4⟩:=zAb js hl ec f;have p:(T++(((some (V.ref a),Slot.e)::zt vs as1)++O.zip E)).Perm ((some (V.ref a),Slot.e)::(T++(zt vs as1++O.zip E))):=perm_middle;have fe:FR K mg M H ((some (V.ref a),Slot.e)::(T++(zt vs as1++O.zip E))):=q3.mask (.extra (by
      have:∀W:Fz,Mask W W:=by
       intro W
       induction W with
       |nil=>exact .nil _|cons x W ih=>exact .keep ih
      exact this _))
     refine⟨.ref a::vs,by simp only[AV];exact⟨_,vs,rfl,h1,q1⟩,by simp[h1,q2],fe.perm p.symm,λb hb=>?_⟩;have:=zC p b hb;rw[yg]at this;exact q4 b this
   cases s with
   |e=>cases e|own ds=>exact lnk rfl e|par ds=>exact lnk rfl e
   |v d =>
    dsimp only at e;cases ec:JS E js with
    |z=>rw[ec]at e;cases e|exc _ _=>rw[ec]at e;cases e
    |ok as1 =>
     rw[ec]at e;cases e;obtain⟨v,ev,r⟩:=f.val o d (qK _ h2);subst ev;obtain⟨vs,q1,q2,q3,q4⟩:=zAb js hl ec f;obtain⟨v',ev',r'⟩:=q3.val (some v) d (qK _ (qK _ h2));cases ev';have p:(T++(((some v,Slot.v d)::zt vs as1)++O.zip E)).Perm ((some v,Slot.v d)::(T++(zt vs as1++O.zip E))):=perm_middle;refine⟨v::vs,by simp only[AV];exact⟨v,vs,rfl,q1⟩,by simp[h1,q2],(q3.add r').perm p.symm,λb hb=>?_⟩;have:=zC p b hb;rw[za]at this;exact q4 b this
def zAc(n:Nat)(Z:Fz):yE (replicate n ((none:Option V),Slot.e)++Z)=yE Z:=by rw[zc,Ws,nil_append]
def FR.emps0(f:FR K mg M H Z)(n:Nat):FR K mg M H (replicate n (none,.e)++Z):=(f.emps n).perm perm_append_comm
end
def tN(K:qH)(mg:Str->Option Value)(m:ME):TE:=λO H Q=>∃M E,E.length=O.length/\FR K mg M H (O.zip E)/\match m E with
 | .ok (r,E')=>∀v H',Got K mg M O E H [] O E' H' [(some v,r.slot)]->Q v H'|_=>False
def tNT(K:qH)(mg:Str->Option Value)(m:MT):TT:=λO H Q=>∃M E,E.length=O.length/\FR K mg M H (O.zip E)/\match m E with
 | .ok (b,E')=>∀H',Got K mg M O E H [] O E' H' []->Q b H'|_=>False
section
variable{X:Cx}{K:qH}{mg:Str->Option Value}{O:St}{M:Addr->Prop}{E:zQ}{H:Hp}{T0 Z T:Fz}
def tN_M{m:ME}{Q:VK}(h:tN X.K X.mg m O H Q):tM X m O H Q:=by
 obtain⟨M,E,hl,fr,k⟩:=h;refine⟨M,E,hl,fr,?_⟩;cases e:m E with
 |z=>rw[e]at k;exact k|exc x E1=>rw[e]at k;exact k.elim|ok p=>rw[e]at k;exact k
def tNT_M{m:MT}{Q:Bool->Hp->Prop}(h:tNT X.K X.mg m O H Q):tMT X m O H Q:=by
 obtain⟨M,E,hl,fr,k⟩:=h;refine⟨M,E,hl,fr,?_⟩;cases e:m E with
 |z=>rw[e]at k;exact k|exc x E1=>rw[e]at k;exact k.elim|ok p=>rw[e]at k;exact k
def tN_run{m:ME}{r:R}{E':zQ}{Q:VK}(hl:E.length=O.length)(h:FR K mg M H (T0++O.zip E))(e:m E=.ok (r,E'))(k:∀v H',Got K mg M O E H T0 O E' H' [(some v,r.slot)]->Q v H'):tN K mg m O H Q:=by
 refine⟨Mo M T0,E,hl,h.inner,?_⟩;rw[e];exact λv H' g=>k v H' (g.outer h)
def tNT_run{m:MT}{b:Bool}{E':zQ}{Q:Bool->Hp->Prop}(hl:E.length=O.length)(h:FR K mg M H (T0++O.zip E))(e:m E=.ok (b,E'))(k:∀H',Got K mg M O E H T0 O E' H' []->Q b H'):tNT K mg m O H Q:=by
 refine⟨Mo M T0,E,hl,h.inner,?_⟩;rw[e];exact λH' g=>k H' (g.outer h)
def zAd{ars:List AR}{E1 E2 E3:zQ}{ss outs:List Slot}{r:R}{vs:List V}{v:V}{H1 H':Hp}(e1:zN ars E1=.ok (ss,E2))(e3:zM ars outs E1 E2=.ok E3)
  (av:AV O ars vs) (f1':FR K mg M H1 (O.zip E2++(vs.map some).zip ss)) (st1:Step M H (O.zip E) H1 (O.zip E2++(vs.map some).zip ss)) (l2:E2.length=O.length) (pk:PKp O E O E1)
  (f2:FR K mg (Mo M (O.zip E2)) H' ((some v,r.slot)::(vs.map some).zip outs)) (s2:Step (Mo M (O.zip E2)) H1 ((vs.map some).zip ss) H' ((some v,r.slot)::(vs.map some).zip outs)):Got K mg M O E H [] O E3 H' [(some v,r.slot)]:=by
 have f3:=FR.outer f1' f2 s2;have s3:=Step.outer s2;have p:(O.zip E2++((some v,r.slot)::(vs.map some).zip outs)).Perm ([(some v,r.slot)]++((vs.map some).zip outs++O.zip E2)):=by
  refine perm_append_comm.trans ?_;exact List.Perm.refl _
 obtain⟨f4,o4,l4⟩:=Wq ars l2 av e3 (f3.perm p);refine⟨l4,f4,?_,pk.trans (zAV e1 e3)⟩;have st2:=st1.trans s3;exact st2.weak λb hb=>zC p.symm b (o4 b hb)
theorem Js:∀(n:Nat) {Z W:Fz},Mask Z W->Mask Z (W.drop n)
 |0,_,_,h=>h|n+1,_,_,.nil Z=>by simp only[List.drop_nil];exact .nil _|n+1,_,_,.keep h=>.skip (Js n h)|n+1,_,_,.skip h=>.skip (Js (n+1) h)|n+1,_,_,.extra h=>Js n h
theorem vf{α β:Type}:∀(n:Nat) (l:List α) (m:List β),(l.zip m).drop n=(l.drop n).zip (m.drop n)
 |0,_,_=>rfl|n+1,[],_=>by simp|n+1,_::_,[]=>by simp|n+1,_::l,_::m=>by simp[vf n l m]
def yld_got{J:It}{ds:List D}{Iv:Hp->Prop}{O0 O':St}{E0 E':zQ}{H1 H' H'':Hp}{Da:Addr}{acc:List D}{i:Nat}{x:V}(it:ItOk K mg J ds Iv)(hlt:i<ds.length)(gb:Got K mg M O0 E0 H1 [] O' E' H' [(some (.ref Da),.own acc)])(ivb:Iv (Hm (Mo M ((some (.ref Da),Slot.own acc)::O'.zip E')) H'))(y:J.yld i H' x H'') :
  ∃d,ds[i]?=some d/\Got K mg M O0 E0 H1 [] O' E' H'' [(some (.ref Da),.own acc)]/\Iv (Hm (Mo M ((some (.ref Da),Slot.own acc)::O'.zip E')) H'')/\Rep K mg (Hm (Mo M ((some (.ref Da),Slot.own acc)::O'.zip E')) H'') d x:=by
 obtain⟨d,hd,h⟩:=it.yld i _ _ x _ zL ivb hlt y;rcases h with⟨rfl,rx⟩|⟨q,xs,es,hq,rfl,rfl,rfl,rs⟩
 ·exact⟨d,hd,gb,ivb,rx⟩
 ·have f:FR K mg M H' ((some (.ref Da),Slot.own acc)::O'.zip E'):=gb.fr
  have f1:=f.newTup hq rs;have s1:Step M H' ((some (.ref Da),Slot.own acc)::O'.zip E') (upd H' q (.t xs)) ((some (.ref q),.v (.t es))::((some (.ref Da),Slot.own acc)::O'.zip E')):=Step.newVal hq;obtain⟨v,ev,rv⟩:=f1.val _ _ qE;cases ev;have sm:=s1.same;rw[ZT]at rv sm;have s2:Step M H' ((some (.ref Da),Slot.own acc)::O'.zip E') (upd H' q (.t xs)) ((some (.ref Da),Slot.own acc)::O'.zip E'):=⟨sm,s1.keep⟩;exact⟨_,hd,⟨gb.len,f1.tail,gb.st.trans s2,gb.pk⟩,it.mono _ _ sm ivb,rv⟩
def GX{nl:Nat}{caps:List Nat}{mi:MI}{tg:MG}{tt:MT}{el:ME}{g:TG}{Q:VK}(ho:GOk X g tg)(h:tM X (Zd nl caps mi tg tt el) O H Q):zCp nl caps (tMI X mi) g (tNT X.K X.mg tt) (tN X.K X.mg el) O H Q:=by
 obtain⟨M,E,hl,fr,k⟩:=h;unfold Zd at k;refine⟨M,E,hl,fr,?_⟩;cases ei:mi E with
 |z=>rw[ei]at k;exact k|exc x E1=>rw[ei]at k;exact k
 |ok p =>
  obtain⟨ds,E1⟩:=p;rw[ei]at k;intro J Iv H1 it iv g1 D hD;dsimp only at k;cases ec:JS E1 caps with
  |z=>rw[ec]at k;exact k.elim|exc _ _=>rw[ec]at k;exact k.elim
  |ok ars =>
   rw[ec]at k;dsimp only at k;cases el1:zN ars E1 with
   |z=>rw[el1]at k;exact k.elim|exc _ _=>rw[el1]at k;exact k.elim
   |ok p =>
    obtain⟨ss,E2⟩:=p;rw[el1]at k;dsimp only at k;cases em:Jr tg tt el ds (replicate nl .e++ss) []with
    |z=>rw[em]at k;exact k.elim|exc _ _=>rw[em]at k;exact k.elim
    |ok p =>
     obtain⟨res,Eb⟩:=p;rw[em]at k;dsimp only at k;cases eb:zM ars ((yH (replicate nl .e++ss) Eb).drop nl) E1 E2 with
     |z=>rw[eb]at k;exact k.elim|exc _ _=>rw[eb]at k;exact k.elim
     |ok E3 =>
      rw[eb]at k;obtain⟨vs,av,evs,f1,o1⟩:=zAb (T:=[]) caps g1.len ec g1.fr;obtain⟨f2,o2,l2,l3⟩:=ZZ (T:=[]) ars g1.len av el1 f1;have hv:=av.length;have f2':FR X.K X.mg M H1 (O.zip E2++(vs.map some).zip ss):=FR.perm (T:=O.zip E2++(vs.map some).zip ss) (Z:=(vs.map some).zip ss++O.zip E2) f2 perm_append_comm;have osub:∀b,b∈yE (O.zip E2++(vs.map some).zip ss)->b∈yE (O.zip E1):=λb hb =>
       o1 b ((o2 b).mpr (zC (T:=O.zip E2++(vs.map some).zip ss) (Z:=(vs.map some).zip ss++O.zip E2) perm_append_comm b hb))
      have st1:Step M H (O.zip E) H1 (O.zip E2++(vs.map some).zip ss):=g1.st.weak osub;have eO:yS nl caps O=replicate nl none++vs.map some:=by unfold L2.yS;rw[evs]
      rw[eO];have ez:(replicate nl (none:Option V)++vs.map some).zip (replicate nl Slot.e++ss)=replicate nl (none,.e)++(vs.map some).zip ss:=by
       rw[List.zip_append (by simp),ul]
      have f4:FR X.K X.mg (Mo M (O.zip E2)) H1 ((replicate nl (none:Option V)++vs.map some).zip (replicate nl Slot.e++ss)):=by
       rw[ez];exact(FR.inner f2').emps0 nl
      have oo:yE ((replicate nl (none:Option V)++vs.map some).zip (replicate nl Slot.e++ss))=yE ((vs.map some).zip ss):=by rw[ez,zAc]
      generalize hO0:replicate nl (none:Option V)++vs.map some=O0 at f4 oo ⊢;generalize hE0:replicate nl Slot.e++ss=E0 at f4 oo em eb ⊢;have hl0:E0.length=O0.length:=by rw[<- hO0,<- hE0];simp[l2,hv]
      have f5:=f4.newOwn (ds:=[]) (xs:=[]) hD Reps.nil;have s5:=Step.newOwn (ds:=[]) (xs:=[]) f4 hD;have iv5:Iv (Hm (Mo (Mo M (O.zip E2)) ((some (.ref D),Slot.own [])::O0.zip E0)) (upd H1 D (.l []))):=by
       refine it.mono _ _ s5.same (it.mono _ _ (jh λb hb=>?_) iv);rcases hb with hb|hb
       ·rcases hb with hb|hb
        ·exact .inl hb
        ·exact .inr (osub b (by rw[zc];exact mem_append_left _ hb))
       ·rw[oo]at hb
        exact .inr (osub b (by rw[zc];exact qK _ hb))
      refine⟨λi m O' H'=>m=ds.length-i/\i<=ds.length/\∃E' acc,Got X.K X.mg (Mo M (O.zip E2)) O0 E0 H1 [] O' E' H' [(some (.ref D),.own acc)]/\Iv (Hm (Mo (Mo M (O.zip E2)) ((some (.ref D),Slot.own acc)::O'.zip E')) H')/\Jr tg tt el (ds.drop i) E' acc=.ok (res,Eb),
       ⟨ds.length,by simp,zero_le _,E0,[],⟨hl0,f5,s5,PKp.refl⟩,iv5,em⟩,?_⟩
      rintro i m O' H' ⟨rfl,hi,E',acc,gb,ivb,cm⟩
      by_cases hlt:i<ds.length
      ·refine .inr ⟨it.go i _ H' zL ivb hlt,λO'' H''=>(i+1<=ds.length/\∃E' acc,Got X.K X.mg (Mo M (O.zip E2)) O0 E0 H1 [] O'' E' H'' [(some (.ref D),.own acc)]/\Iv (Hm (Mo (Mo M (O.zip E2)) ((some (.ref D),Slot.own acc)::O''.zip E')) H'')/\Jr tg tt el (ds.drop (i+1)) E' acc=.ok (res,Eb)),
        λO'' H'' q=>⟨ds.length-(i+1),by omega,rfl,q⟩,λx H'' y=>?_⟩
       obtain⟨d,hd,gb,ivb,rx⟩:=yld_got it hlt gb ivb y;have ed:ds.drop i=d::ds.drop (i+1):=by
        obtain⟨hi',rfl⟩:=qG.mp hd;exact List.drop_eq_getElem_cons hi'
       rw[ed]at cm;simp only[Jr]at cm;cases e1:tg d E' with
       |z=>rw[e1]at cm;cases cm|exc _ _=>rw[e1]at cm;cases cm
       |ok Ea =>
        rw[e1]at cm;dsimp only at cm;refine ho _ O' E' _ [(some (.ref D),.own acc)] x d Ea _ gb.len (gb.fr.add rx) e1 λO2 ga=>?_
        have g2:=gb.trans' ga;cases e2:tt Ea with
        |z=>rw[e2]at cm;cases cm|exc _ _=>rw[e2]at cm;cases cm
        |ok p =>
         obtain⟨b,Eb2⟩:=p;rw[e2]at cm;refine tNT_run ga.len ga.fr e2 λH3 gt=>?_
         have g3:=g2.trans' gt;have iv3:=it.mono _ _ (ga.st.same.trans gt.st.same) ivb;cases b with
         |false =>
          refine iteF ⟨hlt,Eb2,acc,g3,iv3,cm⟩
         |true =>
          refine iteT ?_;dsimp only at cm;cases e3:el Eb2 with
          |z=>rw[e3]at cm;cases cm|exc _ _=>rw[e3]at cm;cases cm
          |ok p =>
           obtain⟨r,Ec⟩:=p;rw[e3]at cm;dsimp only at cm;by_cases hcap:acc.length<cap
           ·rw[if_pos hcap]at cm
            refine tN_run g3.len g3.fr e3 λyv H4 ge=>?_
            have g4:=g3.trans' ge;have fz:FR X.K X.mg (Mo M (O.zip E2)) H4 ((some yv,.v r.d)::((some (.ref D),Slot.own acc)::O2.zip Ec)):=g4.fr.frz;obtain⟨yv',ey,ry⟩:=fz.val _ _ qE;cases ey;rw[ZT]at ry;have fo:=fz.tail;obtain⟨a,ys,ea,ha,_,rys⟩:=fo.own _ _ acc qE rfl;cases ea;refine⟨ys,ha,by rw[rys.length];exact lt_of_lt_of_le hcap (wN (le_refl _)),hlt,Ec,acc++[r.d],?_⟩;obtain⟨fm,sm⟩:=FR.mut (i:=0) (s:=.own acc) fo rfl rfl (rys.append (Reps.cons ry Reps.nil));have fm':FR X.K X.mg (Mo M (O.zip E2)) (upd H4 D (.l (ys++[yv]))) ((some (.ref D),Slot.own (acc++[r.d]))::O2.zip Ec):=fm;have sm':Step (Mo M (O.zip E2)) H4 ((some (.ref D),Slot.own acc)::O2.zip Ec) (upd H4 D (.l (ys++[yv]))) ((some (.ref D),Slot.own (acc++[r.d]))::O2.zip Ec):=sm;have sz:Step (Mo M (O.zip E2)) H3 ((some (.ref D),Slot.own acc)::O2.zip Eb2) H4 ((some (.ref D),Slot.own acc)::O2.zip Ec):=ge.st.weak (zD (sublist_cons_self _ _));have sz0:Step (Mo M (O.zip E2)) H1 (O0.zip E0) H4 ((some (.ref D),Slot.own acc)::O2.zip Ec):=g4.st.weak (zD (sublist_cons_self _ _));exact⟨⟨g4.len,fm',sz0.trans sm',g4.pk⟩,it.mono _ _ (sz.same.trans sm'.same) iv3,cm⟩
           ·rw[if_neg hcap]at cm;cases cm
      ·have ei2:i=ds.length:=by omega
       subst ei2;rw[List.drop_length]at cm;simp only[Jr]at cm;cases cm;refine .inl ⟨it.stop _ _ H' zL ivb (le_refl _),k _ H' ?_⟩;have mk0:Mask (O'.zip Eb) (O0.zip (yH E0 Eb)):=ZB E0 O0 O' Eb gb.len (hl0.symm) λj ds' e=>(gb.pk j ds' e).2
       have mk:Mask (O'.zip Eb) ((vs.map some).zip ((yH E0 Eb).drop nl)):=by
        have:=Js nl mk0;have e:(O0.zip (yH E0 Eb)).drop nl=(vs.map some).zip ((yH E0 Eb).drop nl):=by
         rw[vf,<- hO0];congr 1;rw[List.drop_left' (by simp)]
        rw[e]at this;exact this
       refine zAd (r:=.own res) el1 eb av f2' st1 l3 g1.pk (gb.fr.mask (.keep mk)) ?_;refine(gb.st.weak λb hb=>(Mask.keep mk).sub.subset hb).left λb hb=>?_
       show b∈yE _
       rw[nil_append,oo]at hb;exact hb
end
section
variable{X:Cx}{elt target iter:Expr}{ifs:List Expr}{scope:Scope}{pos:Pos}
def ok_comp{mi:MI}{tg:MG}{tt:MT}{el:ME}{g:TG}(nl:Nat)(caps:List Nat)(N':List Str)(hx:∀e s,¬X.xe e s)(hc:X.calm=true)(hkind:scope.kind=.function)(hnames:∀y∈scope.names,y.2=.local->scope.names.lookup y.1=some .local)(hcell:∀y∈scope.names,y.2=.cell->scope.names.lookup y.1=some .cell)
  (hfree:(scope.names.all λy=>y.2 != .free||X.env.kindOf y.1==some .cell)=true)
  (hlen:N'.length=nl+caps.length) (hcap:∀(i j:Nat),caps[i]?=some j->∃x,N'[nl+i]?=some x/\X.N[j]?=some x/\scope.names.lookup x=some .free)
  (hi:IOk X target iter mi) (hg:∀cl C ex s H,PG (cxB X N' scope cl C ex s H) target g) (ho:GOk X g tg) (ht:∀cl C ex s H,IfOk (cxB X N' scope cl C ex s H) ifs tt) (he:∀cl C ex s H,EOk (cxB X N' scope cl C ex s H) elt el)
  (hs:∀x,foldedSetIterable iter X.env x=pure x:=by intro _;rfl):EOk X (.ListComp elt [⟨target,iter,ifs,0⟩] scope pos) (Zd nl caps mi tg tt el) :=
 zf (pe_comp (te:=tN X.K X.mg el) (tt:=tNT X.K X.mg tt) hx hc hkind hnames hcell hfree hlen hcap hi hg (λcl C ex s H=>Wv (ht cl C ex s H) λO H Q q=>tNT_M (X:=cxB X N' scope cl C ex s _) q) (λcl C ex s H=>zf (he cl C ex s H) λO H Q q=>tN_M (X:=cxB X N' scope cl C ex s _) q) hs) λO H Q=>GX ho
def sk_comp{mi:MI}{tg:MG}{tt:MT}{el:ME}{g:TG}{i:Nat}{y:Str}{py spos:Pos}(nl:Nat)(caps:List Nat)(N':List Str)(hN:X.N.Nodup)(hi':X.N[i]?=some y)(hy:Loc X.env.scope y)(hf:X.fn y=true\/X.env.scope.names.lookup y=some .local)(hx:∀e s,¬X.xe e s)(hc:X.calm=true)(hkind:scope.kind=.function)(hnames:∀y∈scope.names,y.2=.local->scope.names.lookup y.1=some .local)(hcell:∀y∈scope.names,y.2=.cell->scope.names.lookup y.1=some .cell)
  (hfree:(scope.names.all λy=>y.2 != .free||X.env.kindOf y.1==some .cell)=true)
  (hlen:N'.length=nl+caps.length) (hcap:∀(i j:Nat),caps[i]?=some j->∃x,N'[nl+i]?=some x/\X.N[j]?=some x/\scope.names.lookup x=some .free)
  (hi:IOk X target iter mi) (hg:∀cl C ex s H,PG (cxB X N' scope cl C ex s H) target g) (ho:GOk X g tg) (ht:∀cl C ex s H,IfOk (cxB X N' scope cl C ex s H) ifs tt) (he:∀cl C ex s H,EOk (cxB X N' scope cl C ex s H) elt el)
  (hs:∀x,foldedSetIterable iter X.env x=pure x) (hsw:swapsWith (.ListComp elt [⟨target,iter,ifs,0⟩] scope pos) (some (.Name y py)) spos.line X.env=pure true) :
  SOk X (.Assign [.Name y py] (.ListComp elt [⟨target,iter,ifs,0⟩] scope pos) spos) (sSet i (Zd nl caps mi tg tt el)) :=
 wM (ps_setC (te:=tN X.K X.mg el) (tt:=tNT X.K X.mg tt) hN hi' hy hf hx hc hkind hnames hcell hfree hlen hcap hi hg (λcl C ex s H=>Wv (ht cl C ex s H) λO H Q q=>tNT_M (X:=cxB X N' scope cl C ex s _) q) (λcl C ex s H=>zf (he cl C ex s H) λO H Q q=>tN_M (X:=cxB X N' scope cl C ex s _) q) hs hsw) λD O H h=>GX ho (zAR h)
end
def mem7{P:String->Prop}(h1:P "NoneType")(h2:P "bool")(h3:P "int")(h4:P "str")(h5:P "tuple")(h6:P "list")(h7:P "dict"):∀t∈["NoneType","bool","int","str","tuple","list","dict"],P t:=by
 intro t ht;simp only[mem_cons,mem_nil_iff,or_false]at ht;rcases ht with rfl|rfl|rfl|rfl|rfl|rfl|rfl<;>assumption
abbrev Kit(K:qH)(T:String):Prop:=∀t∈["NoneType","bool","int","str","tuple","list","dict"],kitOne K (.type t) (.type T)=some (Wo t T)
def kit_int(K:qH):Kit K "int":=mem7 rfl rfl rfl rfl rfl rfl rfl
def zCq(K:qH):Kit K "bool":=mem7 rfl rfl rfl rfl rfl rfl rfl
def zAe(K:qH):Kit K "tuple":=mem7 rfl rfl rfl rfl rfl rfl rfl
def zCr(K:qH):Kit K "list":=mem7 rfl rfl rfl rfl rfl rfl rfl
def kit_str(K:qH):Kit K "str":=mem7 rfl rfl rfl rfl rfl rfl rfl
def zCs(K:qH):Kit K "dict":=mem7 rfl rfl rfl rfl rfl rfl rfl
def wA:bootBuiltins "isinstance"=some (.builtin "isinstance"):=by decide +kernel
def zD0:bootBuiltins "len"=some (.builtin "len"):=by decide +kernel
def bt_max:bootBuiltins "max"=some (.builtin "max"):=by decide +kernel
def bt_all:bootBuiltins "all"=some (.builtin "all"):=by decide +kernel
def zAf:bootBuiltins "int"=some (.type "int"):=by decide +kernel
def bt_bool:bootBuiltins "bool"=some (.type "bool"):=by decide +kernel
def GY:bootBuiltins "tuple"=some (.type "tuple"):=by decide +kernel
def zAg:bootBuiltins "list"=some (.type "list"):=by decide +kernel
def zD1:bootBuiltins "str"=some (.type "str"):=by decide +kernel
def bt_dict:bootBuiltins "dict"=some (.type "dict"):=by decide +kernel
section
variable{X:Cx}{K:qH}{mg:Str->Option Value}{O:St}{H:Hp}
def eNeg(a:ME):ME:=λE=>match a E with
 | .ok (.v (.int i),E1)=>.ok (.v (.int (-i)),E1)| .exc x E1=>.exc x E1|_=>.z
def ok_neg{a:Expr}{m:ME}{pos:Pos}(h:EOk X a m):EOk X (.UnaryOp .USub a pos) (eNeg m):=zf (pe_un zDi h) λO H Q ⟨M,E,hl,fr,k⟩=>by
 unfold eNeg at k;refine zk (T0:=[]) hl fr ?_;cases ea:m E with
 |z=>rw[ea]at k;exact k|exc x E1=>rw[ea]at k;exact k
 |ok p =>
  obtain⟨r,E1⟩:=p;rw[ea]at k;cases r with
  |own ds=>exact k.elim
  |v d =>
   cases d with
   |int i =>
    intro v H' g;exact⟨i,zK g.rep,k _ H' (g.flat (d:=.int (-i)) rfl)⟩
   |_=>exact k.elim
def JE(p p':Int->Int->Bool)(a b c:ME):ME:=λE=>match a E with
 | .z=>.z| .exc x E1=>.exc x E1
 | .ok (.v (.int i),E1)=>match b E1 with
  | .z=>.z| .exc x E2=>.exc x E2
  | .ok (.v (.int j),E2)=>if p i j=true then match c E2 with
    | .z=>.z| .exc x E3=>.exc x E3| .ok (.v (.int k),E3)=>.ok (.v (.bl (p' j k)),E3)|_=>.z
   else .ok (.v (.bl false),E2)
  |_=>.z
 |_=>.z
def vg{p p':Int->Int->Bool}{a b c:ME}{Q:VK}(h:tM X (JE p p' a b c) O H Q):Qz (rI0 λi j=>.bl (p i j)) (rI0 λi j=>.bl (p' i j)) (tM X a) (tM X b) (tM X c) O H Q:=by
 obtain⟨M,E,hl,fr,k⟩:=h;unfold JE at k;refine zk (T0:=[]) hl fr ?_;cases ea:a E with
 |z=>rw[ea]at k;exact k|exc x E1=>rw[ea]at k;exact k
 |ok q =>
  obtain⟨r,E1⟩:=q;rw[ea]at k;cases r with
  |own ds=>exact k.elim
  |v d =>
   cases d with
   |int i =>
    intro x H1 g1;have g1':=g1.dropAll;refine zk (T0:=[]) g1'.len g1'.fr ?_;dsimp only at k;cases eb:b E1 with
    |z=>rw[eb]at k;exact k|exc x E2=>rw[eb]at k;exact λH' g=>k H' (g1'.trans' g)
    |ok q =>
     obtain⟨r2,E2⟩:=q;rw[eb]at k;cases r2 with
     |own ds=>exact k.elim
     |v d2 =>
      cases d2 with
      |int j =>
       intro y H2 g2;have g12:=(g1'.trans' g2).dropAll;refine⟨i,j,zK g1.rep,zK g2.rep,p i j,rfl,?_⟩;dsimp only at k;cases ep:p i j with
       |false =>
        rw[ep]at k;exact iteF (k _ H2 (g12.flat (d:=.bl false) rfl))
       |true =>
        rw[ep]at k;simp only[if_true]at k;refine iteT (zk (T0:=[]) g12.len g12.fr ?_);cases ec:c E2 with
        |z=>rw[ec]at k;exact k|exc x E3=>rw[ec]at k;exact λH' g=>k H' (g12.trans' g)
        |ok q =>
         obtain⟨r3,E3⟩:=q;rw[ec]at k;cases r3 with
         |own ds=>exact k.elim
         |v d3 =>
          cases d3 with
          |int n =>
           intro w H3 g3;exact⟨j,n,zK g2.rep,zK g3.rep,k _ H3 ((g12.trans' g3).flat (d:=.bl (p' j n)) rfl)⟩
          |_=>exact k.elim
      |_=>exact k.elim
   |_=>exact k.elim
def zCt{op op':CmpOp}{p p':Int->Int->Bool}{a b c:Expr}{ma mb mc:ME}{pos:Pos}(ho:OpR X (compareOp op) (rI0 λi j=>.bl (p i j)))(ho':OpR X (compareOp op') (rI0 λi j=>.bl (p' i j)))(ha:EOk X a ma)(hb:EOk X b mb)(hc:EOk X c mc)
  (hm:lastMarks [op,op'] [b,c]=false:=by with_unfolding_all rfl):EOk X (.Compare a [op,op'] [b,c] pos) (JE p p' ma mb mc):=zf (zCC ho ho' ha hb hc hm) λO H Q=>vg
def zAh{op op':CmpOp}{p p':Int->Int->Bool}{a b c:Expr}{ma mb mc:ME}{pos:Pos}(ho:OpR X (compareOp op) (rI0 λi j=>.bl (p i j)))(ho':OpR X (compareOp op') (rI0 λi j=>.bl (p' i j)))(ha:EOk X a ma)(hb:EOk X b mb)(hc:EOk X c mc)
  (hm:lastMarks [op,op'] [b,c]=false:=by with_unfolding_all rfl):TOk X (.Compare a [op,op'] [b,c] pos) (tT (JE p p' ma mb mc)):=WP (zCD ho ho' ha hb hc hm) λO H Q q=>vg (GP q)
abbrev ltB:Int->Int->Bool:=λi j=>decide (i<j)
abbrev leB:Int->Int->Bool:=λi j=>decide (i<=j)
abbrev gtB:Int->Int->Bool:=λi j=>decide (j<i)
abbrev geB:Int->Int->Bool:=λi j=>decide (j<=i)
def zAi(X:Cx)(scope:Scope):List Nat->List Str->Prop
 | [],[]=>True|j::js,x::xs=>X.N[j]?=some x/\scope.names.lookup x=some .free/\zAi X scope js xs|_,_=>False
theorem Jt{scope:Scope}{loc:List Str}:∀{caps:List Nat} {capn:List Str},zAi X scope caps capn->capn.length=caps.length/\∀(i j:Nat),caps[i]?=some j->∃x,capn[i]?=some x/\X.N[j]?=some x/\scope.names.lookup x=some .free
 | [],[],h=>⟨rfl,λi j e=>by simp at e⟩| [],_::_,h=>h.elim|_::_,[],h=>h.elim
 |j::js,x::xs,h=>by
  obtain⟨h1,h2,h3⟩:=h;obtain⟨i1,i2⟩:=Jt (loc:=loc) h3;refine⟨by simp[i1],λi k e=>?_⟩;cases i with
  |zero=>simp at e;subst e;exact⟨x,rfl,h1,h2⟩|succ i=>simp at e;obtain⟨y,q⟩:=i2 i k e;exact⟨y,by simpa using q⟩
def ok_lc{elt target iter:Expr}{ifs:List Expr}{scope:Scope}{pos:Pos}{mi:MI}{tg:MG}{tt:MT}{el:ME}{g:TG}{nl:Nat}{caps:List Nat}(loc capn:List Str)(hnl:loc.length=nl)(hx:∀e s,¬X.xe e s)(hc:X.calm=true)(hkind:scope.kind=.function)(hnames:∀y∈scope.names,y.2=.local->scope.names.lookup y.1=some .local)(hcell:∀y∈scope.names,y.2=.cell->scope.names.lookup y.1=some .cell)
  (hfree:(scope.names.all λy=>y.2 != .free||X.env.kindOf y.1==some .cell)=true) (hcap:zAi X scope caps capn)
  (hi:IOk X target iter mi) (hg:∀cl C ex s H,PG (cxB X (loc++capn) scope cl C ex s H) target g) (ho:GOk X g tg) (ht:∀cl C ex s H,IfOk (cxB X (loc++capn) scope cl C ex s H) ifs tt) (he:∀cl C ex s H,EOk (cxB X (loc++capn) scope cl C ex s H) elt el)
  (hs:∀x,foldedSetIterable iter X.env x=pure x:=by intro _;rfl):EOk X (.ListComp elt [⟨target,iter,ifs,0⟩] scope pos) (Zd nl caps mi tg tt el):=by
 obtain⟨c1,c2⟩:=Jt (loc:=loc) hcap;refine ok_comp nl caps (loc++capn) hx hc hkind hnames hcell hfree (by simp[hnl,c1]) (λi j e=>?_) hi hg ho ht he hs;obtain⟨x,q1,q2,q3⟩:=c2 i j e;refine⟨x,?_,q2,q3⟩;rw[List.getElem?_append_right (by omega),hnl,Nat.add_sub_cancel_left];exact q1
def sk_lc{elt target iter:Expr}{ifs:List Expr}{scope:Scope}{pos:Pos}{mi:MI}{tg:MG}{tt:MT}{el:ME}{g:TG}{nl:Nat}{caps:List Nat}{i:Nat}{y:Str}{py spos:Pos}(loc capn:List Str)(hN:X.N.Nodup)(hi':X.N[i]?=some y)(hy:Loc X.env.scope y)(hf:X.fn y=true\/X.env.scope.names.lookup y=some .local)(hnl:loc.length=nl)(hx:∀e s,¬X.xe e s)(hc:X.calm=true)(hkind:scope.kind=.function)(hnames:∀y∈scope.names,y.2=.local->scope.names.lookup y.1=some .local)(hcell:∀y∈scope.names,y.2=.cell->scope.names.lookup y.1=some .cell)
  (hfree:(scope.names.all λy=>y.2 != .free||X.env.kindOf y.1==some .cell)=true) (hcap:zAi X scope caps capn)
  (hi:IOk X target iter mi) (hg:∀cl C ex s H,PG (cxB X (loc++capn) scope cl C ex s H) target g) (ho:GOk X g tg) (ht:∀cl C ex s H,IfOk (cxB X (loc++capn) scope cl C ex s H) ifs tt) (he:∀cl C ex s H,EOk (cxB X (loc++capn) scope cl C ex s H) elt el)
  (hs:∀x,foldedSetIterable iter X.env x=pure x) (hsw:swapsWith (.ListComp elt [⟨target,iter,ifs,0⟩] scope pos) (some (.Name y py)) spos.line X.env=pure true) :
  SOk X (.Assign [.Name y py] (.ListComp elt [⟨target,iter,ifs,0⟩] scope pos) spos) (sSet i (Zd nl caps mi tg tt el)):=by
 obtain⟨c1,c2⟩:=Jt (loc:=loc) hcap;refine sk_comp nl caps (loc++capn) hN hi' hy hf hx hc hkind hnames hcell hfree (by simp[hnl,c1]) (λi j e=>?_) hi hg ho ht he hs hsw;obtain⟨x,q1,q2,q3⟩:=c2 i j e;refine⟨x,?_,q2,q3⟩;rw[List.getElem?_append_right (by omega),hnl,Nat.add_sub_cancel_left];exact q1
end
section
variable(P:Program)(w:World)(K:qH)(mg:Str->Option Value)(base:Heap)
def JT(x:Str)(st:Stmt)(ps:List Str):Prop:=∃(a:Addr) (fd:FuncData),mg x=some (.ref a)/\Fun K x x st a fd/\Jj K fd ps []
def FOk(c:Bool)(x:Str)(k:Nat)(ps:List Str)(F:MF):Prop:=∃(a:Addr) (fd:FuncData),mg x=some (.ref a)/\keepIn K (.ref a)=true/\Jj K fd ps []/\FnOkN c P w K mg base k a fd ps (spM K mg ps.length F)
end
mutual
def deq:D->D->Bool
 | .t a,d=>match d with
  | .t b=>deqs a b|_=>false
 | .l a,d=>match d with
  | .l b=>deqs a b|_=>false
 |a,d=>match d with
  | .t _=>false| .l _=>false|b=>eqV (flV a) (flV b)
def deqs:List D->List D->Bool
 | [],[]=>true|a::as,b::bs=>deq a b&&deqs as bs| [],_::_=>false|_::_,[]=>false
end
def eqb:Nat->D->Bool
 |_,.non=>true|_,.bl _=>true|_,.int _=>true|_,.str _=>true|n+1,.t ds=>ds.all (eqb n)|n+1,.l ds=>ds.all (eqb n)|_,_=>false
theorem wB:∀(a b:List D),deqs a b=((List.range (min a.length b.length)).all (λj=>deq (a.getD j .non) (b.getD j .non))&&a.length==b.length)
 | [],[]=>by simp[deqs]| [],_::_=>by simp[deqs]|_::_,[]=>by simp[deqs]
 |a::as,b::bs=>by
  simp only[deqs,wB as bs,length_cons];have e:min (as.length+1) (bs.length+1)=min as.length bs.length+1:=by omega
  rw[e,List.range_succ_eq_map,all_cons,List.all_map];simp[Function.comp_def,Bool.and_assoc]
section
variable{X:Cx}{pins:List (Addr×Obj)}{O:St}{H:Hp}{s:Shared}
def jZ{d:D}(h:eqb 0 d=true):flat d=true:=by cases d<;>first|rfl|(cases h)
def GZ{v:V}(h:ww v=true):eqV v v=true:=by cases v<;>simp[ww]at h<;>simp[eqV]
def wn{a b:D}(ha:flat a=true)(hb:flat b=true):deq a b=eqV (flV a) (flV b):=by
 cases a<;>cases b<;>first|(simp[flat]at ha;done)|(simp[flat]at hb;done)|simp[deq]
def zo{n:Nat}{d:D}(h:eqb n d=true):flat d=true\/(∃m ds,n=m+1/\d=.t ds/\∀e∈ds,eqb m e=true)\/(∃m ds,n=m+1/\d=.l ds/\∀e∈ds,eqb m e=true):=by
 cases d with
 |t ds =>
  cases n with
  |zero=>cases h|succ m=>exact .inr (.inl ⟨m,ds,rfl,rfl,all_eq_true.mp h⟩)
 |l ds =>
  cases n with
  |zero=>cases h|succ m=>exact .inr (.inr ⟨m,ds,rfl,rfl,all_eq_true.mp h⟩)
 |fn x=>cases n<;>cases h
 |dic=>cases n<;>cases h
 |exn x y=>cases n<;>cases h
 |_=>exact .inl rfl
def Ga(I:Inv X pins O H s):∀(n:Nat) (d e:D) (x:V),eqb n d=true->eqb n e=true->Rep X.K X.mg H d x->Rep X.K X.mg H e x->deq d e=true:=by
 intro n
 induction n with
 |zero =>
  intro d e x hd he rd re;have fd:=jZ hd;have fe:=jZ he;rw[wn fd fe,<- zV fd rd,<- zV fe re];exact GZ (by rw[zV fd rd];exact yB fd)
 |succ n ih =>
  intro d e x hd he rd re;have seq:∀(ds es:List D) (xs:List V),(∀e∈ds,eqb n e=true)->(∀e∈es,eqb n e=true)->Reps X.K X.mg H ds xs->Reps X.K X.mg H es xs->deqs ds es=true:=by
   intro ds
   induction ds with
   |nil =>
    intro es xs _ _ r1 r2;simp only[Reps]at r1;subst r1;cases es with
    |nil=>rfl|cons e es=>simp only[Reps]at r2;obtain⟨v,r,q,_⟩:=r2;cases q
   |cons d ds ihd =>
    intro es xs h1 h2 r1 r2;simp only[Reps]at r1;obtain⟨v,r,rfl,a1,a2⟩:=r1;cases es with
    |nil=>simp only[Reps]at r2;cases r2
    |cons e es =>
     simp only[Reps]at r2;obtain⟨v',r',q,b1,b2⟩:=r2;cases q;simp only[deqs,Bool.and_eq_true];exact⟨ih d e v (h1 d qE) (h2 e qE) a1 b1,ihd es r (λz hz=>h1 z (qD _ hz)) (λz hz=>h2 z (qD _ hz)) a2 b2⟩
  have isRef:∀{d:D} {a:Addr},flat d=true->Rep X.K X.mg H d (.ref a)->False:=λ{d a} fd r=>by
   have:=zV fd r;cases d<;>simp[flat]at fd<;>cases this
  have kinds:∀{a:Addr} {xs ys:List V},SqT X.K H a xs->SqL X.K H a ys->False:=λ{a xs ys} h1 h2=>by
   obtain⟨i1,_,⟨o,e1,c1,_⟩,_⟩:=I.tuple h1;obtain⟨i2,_,⟨o2,n2,e2,c2,_⟩,_⟩:=I.list h2;rw[e1]at e2;cases e2;rw[c1]at c2;simp at c2
  rcases zo hd with fd|⟨m,ds,em,rfl,hds⟩|⟨m,ds,em,rfl,hds⟩
  ·rcases zo he with fe|⟨m,es,em,rfl,hes⟩|⟨m,es,em,rfl,hes⟩
   ·rw[wn fd fe,<- zV fd rd,<- zV fe re]
    exact GZ (by rw[zV fd rd];exact yB fd)
   ·obtain⟨a,xs,rfl,_,_⟩:=zd re
    exact(isRef fd rd).elim
   ·obtain⟨a,xs,rfl,_,_⟩:=zO re
    exact(isRef fd rd).elim
  ·cases em
   obtain⟨a,xs,rfl,q1,q2⟩:=zd rd;rcases zo he with fe|⟨m,es,em,rfl,hes⟩|⟨m,es,em,rfl,hes⟩
   ·exact(isRef fe re).elim
   ·cases em
    obtain⟨b,ys,e,p1,p2⟩:=zd re;cases e;have:=I.tuple_inj q1 p1;subst this;simp only[deq];exact seq ds es xs hds hes q2 p2
   ·obtain⟨b,ys,e,p1,p2⟩:=zO re
    cases e;exact(kinds q1 p1).elim
  ·cases em
   obtain⟨a,xs,rfl,q1,q2⟩:=zO rd;rcases zo he with fe|⟨m,es,em,rfl,hes⟩|⟨m,es,em,rfl,hes⟩
   ·exact(isRef fe re).elim
   ·obtain⟨b,ys,e,p1,p2⟩:=zd re
    cases e;exact(kinds p1 q1).elim
   ·cases em
    obtain⟨b,ys,e,p1,p2⟩:=zO re;cases e;have:=I.list_inj q1 p1;subst this;simp only[deq];exact seq ds es xs hds hes q2 p2
def YS{ds:List D}{xs:List V}{us:List Value}(r:Reps X.K X.mg H ds xs)(v:zn xs us){j:Nat}(h:j<us.length):j<ds.length/\∃x,Rep X.K X.mg H (ds.getD j .non) x/\z9 x us[j]:=by
 have l1:=r.length;have l2:=v.length;have hd:j<ds.length:=by omega
 refine⟨hd,?_⟩;obtain⟨x,q1,q2⟩:=r.get' (i:=j) (d:=ds[j]) (by simp[hd]);obtain⟨u,e1,e2⟩:=v.get q1;have:us[j]=u:=by
  have:=qG.mp e1;exact this.2
 refine⟨x,?_,by rw[this];exact e2⟩;rw[getD_eq_getElem?_getD,getElem?_eq_getElem hd];exact q2
def eqAt_ft{A:Around}{d:D}{x:V}{u:Value}{b:Addr}{its:Array Value}(hd:flat d=true)(rx:z9 x u)(ex:x=flV d)(hb:s.heap.IsTuple b its)(hu:A.units<cLine):SeqAt.EqAt A s u (.ref b) false:=by
 subst ex;cases d with
 |non=>cases rx;exact SeqAt.EqAt.none_tuple hb hu|bl c=>cases rx;exact SeqAt.EqAt.bool_tuple c hb hu|int i=>obtain⟨t,rfl⟩:=rx;exact SeqAt.EqAt.int_tuple i t hb hu|str z=>obtain⟨t,rfl⟩:=rx;exact SeqAt.EqAt.str_tuple z t hb hu|_=>simp[flat]at hd
def eqAt_fl{A:Around}{d:D}{x:V}{u:Value}{b:Addr}{its:Array Value}(hd:flat d=true)(rx:z9 x u)(ex:x=flV d)(hb:s.heap.IsList b its)(hu:A.units<cLine):SeqAt.EqAt A s u (.ref b) false:=by
 subst ex;cases d with
 |non=>cases rx;exact SeqAt.EqAt.none_list hb hu|bl c=>cases rx;exact SeqAt.EqAt.bool_list c hb hu|int i=>obtain⟨t,rfl⟩:=rx;exact SeqAt.EqAt.int_list i t hb hu|str z=>obtain⟨t,rfl⟩:=rx;exact SeqAt.EqAt.str_list z t hb hu|_=>simp[flat]at hd
def eqAt_tf{A:Around}{d:D}{x:V}{u:Value}{b:Addr}{its:Array Value}(hd:flat d=true)(rx:z9 x u)(ex:x=flV d)(hb:s.heap.IsTuple b its)(hu:A.units<cLine):SeqAt.EqAt A s (.ref b) u false:=by
 subst ex;cases d with
 |non=>cases rx;exact SeqAt.EqAt.tuple_none hb hu|bl c=>cases rx;exact SeqAt.EqAt.tuple_bool c hb hu|int i=>obtain⟨t,rfl⟩:=rx;exact SeqAt.EqAt.tuple_int i t hb hu|str z=>obtain⟨t,rfl⟩:=rx;exact SeqAt.EqAt.tuple_str z t hb hu|_=>simp[flat]at hd
def eqAt_lf{A:Around}{d:D}{x:V}{u:Value}{b:Addr}{its:Array Value}(hd:flat d=true)(rx:z9 x u)(ex:x=flV d)(hb:s.heap.IsList b its)(hu:A.units<cLine):SeqAt.EqAt A s (.ref b) u false:=by
 subst ex;cases d with
 |non=>cases rx;exact SeqAt.EqAt.list_none hb hu|bl c=>cases rx;exact SeqAt.EqAt.list_bool c hb hu|int i=>obtain⟨t,rfl⟩:=rx;exact SeqAt.EqAt.list_int i t hb hu|str z=>obtain⟨t,rfl⟩:=rx;exact SeqAt.EqAt.list_str z t hb hu|_=>simp[flat]at hd
def zAj{d:D}{ds:List D}(h:flat d=true):deq d (.t ds)=false:=by cases d<;>simp[flat]at h<;>simp[deq]
def zAk{d:D}{ds:List D}(h:flat d=true):deq d (.l ds)=false:=by cases d<;>simp[flat]at h<;>simp[deq]
def zAl{d:D}{ds:List D}(h:flat d=true):deq (.t ds) d=false:=by cases d<;>simp[flat]at h<;>simp[deq]
def zAm{d:D}{ds:List D}(h:flat d=true):deq (.l ds) d=false:=by cases d<;>simp[flat]at h<;>simp[deq]
def eqAtD(I:Inv X pins O H s):∀(n:Nat) (A:Around) (d e:D) (x y:V) (u v:Value),eqb n d=true->eqb n e=true->Rep X.K X.mg H d x->Rep X.K X.mg H e y->z9 x u->z9 y v->A.units+n<cLine->SeqAt.EqAt A s u v (deq d e):=by
 intro n
 induction n with
 |zero =>
  intro A d e x y u v hd he rd re rx ry hu;have fd:=jZ hd;have fe:=jZ he;rw[wn fd fe,<- zV fd rd,<- zV fe re];exact Q6 rx ry (by rw[zV fd rd];exact yB fd) (by rw[zV fe re];exact yB fe)
 |succ n ih =>
  intro A d e x y u v hd he rd re rx ry hu;have hu0:A.units<cLine:=by omega
  have item:∀{ds es:List D} {xs ys:List V} {us vs:List Value},(∀e∈ds,eqb n e=true)->(∀e∈es,eqb n e=true)->Reps X.K X.mg H ds xs->Reps X.K X.mg H es ys->zn xs us->zn ys vs ->
    ∀j (h1:j<us.toArray.size) (h2:j<vs.toArray.size),SeqAt.EqAt A.in1 s us.toArray[j] vs.toArray[j] (deq (ds.getD j .non) (es.getD j .non)):=by
   intro ds es xs ys us vs k1 k2 r1 r2 v1 v2 j h1 h2;have h1':j<us.length:=by simpa using h1
   have h2':j<vs.length:=by simpa using h2
   obtain⟨l1,x1,a1,b1⟩:=YS r1 v1 h1';obtain⟨l2,x2,a2,b2⟩:=YS r2 v2 h2';rw[getElem_toArray,getElem_toArray];have m1:ds.getD j .non∈ds:=by rw[getD_eq_getElem?_getD,getElem?_eq_getElem l1];exact getElem_mem l1
   have m2:es.getD j .non∈es:=by rw[getD_eq_getElem?_getD,getElem?_eq_getElem l2];exact getElem_mem l2
   exact ih A.in1 _ _ x1 x2 _ _ (k1 _ m1) (k2 _ m2) a1 a2 b1 b2 (by show A.units+1+n<cLine;omega)
  rcases zo hd with fd|⟨m,ds,em,rfl,hds⟩|⟨m,ds,em,rfl,hds⟩
  ·have ex:=zV fd rd
   rcases zo he with fe|⟨m,es,em,rfl,hes⟩|⟨m,es,em,rfl,hes⟩
   ·rw[wn fd fe,<- zV fd rd,<- zV fe re]
    exact Q6 rx ry (by rw[zV fd rd];exact yB fd) (by rw[zV fe re];exact yB fe)
   ·obtain⟨b,ys,rfl,p1,p2⟩:=zd re
    cases ry;obtain⟨its,_,pl,_⟩:=I.tuple p1;rw[zAj fd];exact eqAt_ft fd rx ex pl hu0
   ·obtain⟨b,ys,rfl,p1,p2⟩:=zO re
    cases ry;obtain⟨its,_,pl,_⟩:=I.list p1;rw[zAk fd];exact eqAt_fl fd rx ex pl.isList hu0
  ·cases em
   obtain⟨a,xs,rfl,q1,q2⟩:=zd rd;cases rx;obtain⟨us,v1,pl1,_⟩:=I.tuple q1;rcases zo he with fe|⟨m,es,em,rfl,hes⟩|⟨m,es,em,rfl,hes⟩
   ·rw[zAl fe];exact eqAt_tf fe ry (zV fe re) pl1 hu0
   ·cases em
    obtain⟨b,ys,rfl,p1,p2⟩:=zd re;cases ry;obtain⟨vs,v2,pl2,_⟩:=I.tuple p1;by_cases hab:a=b
    ·subst hab
     rw[Ga I (n+1) _ _ _ hd he rd re];exact SeqAt.EqAt.same _
    ·have q:=SeqAt.EqAt.of_refs hab (SeqAt.RcAt.tuples pl1 pl2 hu0 (item hds hes q2 p2 v1 v2))
     simp only[deq];rw[wB];have l1:us.toArray.size=ds.length:=by rw[size_toArray,<- v1.length,q2.length]
     have l2:vs.toArray.size=es.length:=by rw[size_toArray,<- v2.length,p2.length]
     rw[l1,l2]at q;exact q
   ·obtain⟨b,ys,rfl,p1,p2⟩:=zO re
    cases ry;obtain⟨vs,v2,pl2,_⟩:=I.list p1;simp only[deq];exact SeqAt.EqAt.tuple_list pl1 pl2.isList hu0
  ·cases em
   obtain⟨a,xs,rfl,q1,q2⟩:=zO rd;cases rx;obtain⟨us,v1,pl1,_⟩:=I.list q1;rcases zo he with fe|⟨m,es,em,rfl,hes⟩|⟨m,es,em,rfl,hes⟩
   ·rw[zAm fe];exact eqAt_lf fe ry (zV fe re) pl1.isList hu0
   ·obtain⟨b,ys,rfl,p1,p2⟩:=zd re
    cases ry;obtain⟨vs,v2,pl2,_⟩:=I.tuple p1;simp only[deq];exact SeqAt.EqAt.list_tuple pl1.isList pl2 hu0
   ·cases em
    obtain⟨b,ys,rfl,p1,p2⟩:=zO re;cases ry;obtain⟨vs,v2,pl2,_⟩:=I.list p1;have l1:us.toArray.size=ds.length:=by rw[size_toArray,<- v1.length,q2.length]
    have l2:vs.toArray.size=es.length:=by rw[size_toArray,<- v2.length,p2.length]
    by_cases hab:a=b
    ·subst hab
     rw[Ga I (n+1) _ _ _ hd he rd re];exact SeqAt.EqAt.same _
    ·simp only[deq]
     rw[wB];by_cases hl:ds.length=es.length
     ·have q:=SeqAt.EqAt.of_refs hab (SeqAt.RcAt.lists pl1.isList pl2.isList (by rw[l1,l2,hl]) hu0 (item hds hes q2 p2 v1 v2))
      rw[l1]at q;rw[hl]at q ⊢;simpa using q
     ·have q:=SeqAt.EqAt.of_refs hab (SeqAt.RcAt.lists_lengths (A:=A) pl1.isList pl2.isList (by rw[l1,l2];simpa using hl) hu0)
      have e:(ds.length==es.length)=false:=by simpa using hl
      rw[e,Bool.and_false];exact q
def rcAt_V{A:Around}{y x:V}{u v:Value}(ry:z9 y u)(rx:z9 x v)(fy:ww y=true)(fx:ww x=true):SeqAt.RcAt A s u v (eqV y x):=by
 cases y with
 |non =>
  cases ry;cases x with
  |non=>cases rx;exact SeqAt.RcAt.none_none|bl b=>cases rx;exact SeqAt.RcAt.none_bool  b|int b=>obtain⟨t2,rfl⟩:=rx;exact SeqAt.RcAt.none_int  b t2|str b=>obtain⟨t2,rfl⟩:=rx;exact SeqAt.RcAt.none_str  b t2|_=>exact absurd (show false=true from fx) qF
 |bl a =>
  cases ry;cases x with
  |non=>cases rx;exact SeqAt.RcAt.bool_none a|bl b=>cases rx;exact SeqAt.RcAt.bool_bool a b|int b=>obtain⟨t2,rfl⟩:=rx;exact SeqAt.RcAt.bool_int a b t2|str b=>obtain⟨t2,rfl⟩:=rx;exact SeqAt.RcAt.bool_str a b t2|_=>exact absurd (show false=true from fx) qF
 |int a =>
  obtain⟨t,rfl⟩:=ry;cases x with
  |non=>cases rx;exact SeqAt.RcAt.int_none a t|bl b=>cases rx;exact SeqAt.RcAt.int_bool a t b|int b=>obtain⟨t2,rfl⟩:=rx;exact SeqAt.RcAt.int_int a t b t2|str b=>obtain⟨t2,rfl⟩:=rx;exact SeqAt.RcAt.int_str a t b t2|_=>exact absurd (show false=true from fx) qF
 |str a =>
  obtain⟨t,rfl⟩:=ry;cases x with
  |non=>cases rx;exact SeqAt.RcAt.str_none a t|bl b=>cases rx;exact SeqAt.RcAt.str_bool a t b|int b=>obtain⟨t2,rfl⟩:=rx;exact SeqAt.RcAt.str_int a t b t2|str b=>obtain⟨t2,rfl⟩:=rx;exact SeqAt.RcAt.str_str a t b t2|_=>exact absurd (show false=true from fx) qF
 |_=>exact absurd (show false=true from fy) qF
def rcNe_V{A:Around}{y x:V}{u v:Value}(ry:z9 y u)(rx:z9 x v)(fy:ww y=true)(fx:ww x=true):SeqAt.RcNeAt A s u v (!eqV y x):=by
 cases y with
 |non =>
  cases ry;cases x with
  |non=>cases rx;exact SeqAt.RcNeAt.none_none|bl b=>cases rx;exact SeqAt.RcNeAt.none_bool  b|int b=>obtain⟨t2,rfl⟩:=rx;exact SeqAt.RcNeAt.none_int  b t2|str b=>obtain⟨t2,rfl⟩:=rx;exact SeqAt.RcNeAt.none_str  b t2|_=>exact absurd (show false=true from fx) qF
 |bl a =>
  cases ry;cases x with
  |non=>cases rx;exact SeqAt.RcNeAt.bool_none a|bl b=>cases rx;exact SeqAt.RcNeAt.bool_bool a b|int b=>obtain⟨t2,rfl⟩:=rx;exact SeqAt.RcNeAt.bool_int a b t2|str b=>obtain⟨t2,rfl⟩:=rx;exact SeqAt.RcNeAt.bool_str a b t2|_=>exact absurd (show false=true from fx) qF
 |int a =>
  obtain⟨t,rfl⟩:=ry;cases x with
  |non=>cases rx;exact SeqAt.RcNeAt.int_none a t|bl b=>cases rx;exact SeqAt.RcNeAt.int_bool a t b|int b=>obtain⟨t2,rfl⟩:=rx;exact SeqAt.RcNeAt.int_int a t b t2|str b=>obtain⟨t2,rfl⟩:=rx;exact SeqAt.RcNeAt.int_str a t b t2|_=>exact absurd (show false=true from fx) qF
 |str a =>
  obtain⟨t,rfl⟩:=ry;cases x with
  |non=>cases rx;exact SeqAt.RcNeAt.str_none a t|bl b=>cases rx;exact SeqAt.RcNeAt.str_bool a t b|int b=>obtain⟨t2,rfl⟩:=rx;exact SeqAt.RcNeAt.str_int a t b t2|str b=>obtain⟨t2,rfl⟩:=rx;exact SeqAt.RcNeAt.str_str a t b t2|_=>exact absurd (show false=true from fx) qF
 |_=>exact absurd (show false=true from fy) qF
def rc_ft{A:Around}{d:D}{x:V}{u:Value}{b:Addr}{its:Array Value}(hd:flat d=true)(rx:z9 x u)(ex:x=flV d)(hb:s.heap.IsTuple b its)(hu:A.units<cLine):SeqAt.RcAt A s u (.ref b) false:=by
 subst ex;cases d with
 |non=>cases rx;exact SeqAt.RcAt.none_tuple hb hu|bl c=>cases rx;exact SeqAt.RcAt.bool_tuple c hb hu|int c=>obtain⟨t,rfl⟩:=rx;exact SeqAt.RcAt.int_tuple c t hb hu|str c=>obtain⟨t,rfl⟩:=rx;exact SeqAt.RcAt.str_tuple c t hb hu|_=>simp[flat]at hd
def rc_fl{A:Around}{d:D}{x:V}{u:Value}{b:Addr}{its:Array Value}(hd:flat d=true)(rx:z9 x u)(ex:x=flV d)(hb:s.heap.IsList b its)(hu:A.units<cLine):SeqAt.RcAt A s u (.ref b) false:=by
 subst ex;cases d with
 |non=>cases rx;exact SeqAt.RcAt.none_list hb hu|bl c=>cases rx;exact SeqAt.RcAt.bool_list c hb hu|int c=>obtain⟨t,rfl⟩:=rx;exact SeqAt.RcAt.int_list c t hb hu|str c=>obtain⟨t,rfl⟩:=rx;exact SeqAt.RcAt.str_list c t hb hu|_=>simp[flat]at hd
def rc_tf{A:Around}{d:D}{x:V}{u:Value}{b:Addr}{its:Array Value}(hd:flat d=true)(rx:z9 x u)(ex:x=flV d)(hb:s.heap.IsTuple b its)(hu:A.units<cLine):SeqAt.RcAt A s (.ref b) u false:=by
 subst ex;cases d with
 |non=>cases rx;exact SeqAt.RcAt.tuple_none hb hu|bl c=>cases rx;exact SeqAt.RcAt.tuple_bool c hb hu|int c=>obtain⟨t,rfl⟩:=rx;exact SeqAt.RcAt.tuple_int c t hb hu|str c=>obtain⟨t,rfl⟩:=rx;exact SeqAt.RcAt.tuple_str c t hb hu|_=>simp[flat]at hd
def rc_lf{A:Around}{d:D}{x:V}{u:Value}{b:Addr}{its:Array Value}(hd:flat d=true)(rx:z9 x u)(ex:x=flV d)(hb:s.heap.IsList b its)(hu:A.units<cLine):SeqAt.RcAt A s (.ref b) u false:=by
 subst ex;cases d with
 |non=>cases rx;exact SeqAt.RcAt.list_none hb hu|bl c=>cases rx;exact SeqAt.RcAt.list_bool c hb hu|int c=>obtain⟨t,rfl⟩:=rx;exact SeqAt.RcAt.list_int c t hb hu|str c=>obtain⟨t,rfl⟩:=rx;exact SeqAt.RcAt.list_str c t hb hu|_=>simp[flat]at hd
def rn_ft{A:Around}{d:D}{x:V}{u:Value}{b:Addr}{its:Array Value}(hd:flat d=true)(rx:z9 x u)(ex:x=flV d)(hb:s.heap.IsTuple b its)(hu:A.units<cLine):SeqAt.RcNeAt A s u (.ref b) true:=by
 subst ex;cases d with
 |non=>cases rx;exact SeqAt.RcNeAt.none_tuple hb hu|bl c=>cases rx;exact SeqAt.RcNeAt.bool_tuple c hb hu|int c=>obtain⟨t,rfl⟩:=rx;exact SeqAt.RcNeAt.int_tuple c t hb hu|str c=>obtain⟨t,rfl⟩:=rx;exact SeqAt.RcNeAt.str_tuple c t hb hu|_=>simp[flat]at hd
def rn_fl{A:Around}{d:D}{x:V}{u:Value}{b:Addr}{its:Array Value}(hd:flat d=true)(rx:z9 x u)(ex:x=flV d)(hb:s.heap.IsList b its)(hu:A.units<cLine):SeqAt.RcNeAt A s u (.ref b) true:=by
 subst ex;cases d with
 |non=>cases rx;exact SeqAt.RcNeAt.none_list hb hu|bl c=>cases rx;exact SeqAt.RcNeAt.bool_list c hb hu|int c=>obtain⟨t,rfl⟩:=rx;exact SeqAt.RcNeAt.int_list c t hb hu|str c=>obtain⟨t,rfl⟩:=rx;exact SeqAt.RcNeAt.str_list c t hb hu|_=>simp[flat]at hd
def rn_tf{A:Around}{d:D}{x:V}{u:Value}{b:Addr}{its:Array Value}(hd:flat d=true)(rx:z9 x u)(ex:x=flV d)(hb:s.heap.IsTuple b its)(hu:A.units<cLine):SeqAt.RcNeAt A s (.ref b) u true:=by
 subst ex;cases d with
 |non=>cases rx;exact SeqAt.RcNeAt.tuple_none hb hu|bl c=>cases rx;exact SeqAt.RcNeAt.tuple_bool c hb hu|int c=>obtain⟨t,rfl⟩:=rx;exact SeqAt.RcNeAt.tuple_int c t hb hu|str c=>obtain⟨t,rfl⟩:=rx;exact SeqAt.RcNeAt.tuple_str c t hb hu|_=>simp[flat]at hd
def rn_lf{A:Around}{d:D}{x:V}{u:Value}{b:Addr}{its:Array Value}(hd:flat d=true)(rx:z9 x u)(ex:x=flV d)(hb:s.heap.IsList b its)(hu:A.units<cLine):SeqAt.RcNeAt A s (.ref b) u true:=by
 subst ex;cases d with
 |non=>cases rx;exact SeqAt.RcNeAt.list_none hb hu|bl c=>cases rx;exact SeqAt.RcNeAt.list_bool c hb hu|int c=>obtain⟨t,rfl⟩:=rx;exact SeqAt.RcNeAt.list_int c t hb hu|str c=>obtain⟨t,rfl⟩:=rx;exact SeqAt.RcNeAt.list_str c t hb hu|_=>simp[flat]at hd
def rcAtD(I:Inv X pins O H s)(n:Nat)(A:Around)(d e:D)(x y:V)(u v:Value)(hd:eqb n d=true)(he:eqb n e=true)(rd:Rep X.K X.mg H d x)(re:Rep X.K X.mg H e y)(rx:z9 x u)(ry:z9 y v)(hu:A.units+n<cLine):SeqAt.RcAt A s u v (deq d e):=by
 have hu0:A.units<cLine:=by omega
 have item:∀{m:Nat} {ds es:List D} {xs ys:List V} {us vs:List Value},n=m+1->(∀e∈ds,eqb m e=true)->(∀e∈es,eqb m e=true)->Reps X.K X.mg H ds xs->Reps X.K X.mg H es ys->zn xs us->zn ys vs ->
   ∀j (h1:j<us.toArray.size) (h2:j<vs.toArray.size),SeqAt.EqAt A.in1 s us.toArray[j] vs.toArray[j] (deq (ds.getD j .non) (es.getD j .non)):=by
  intro m ds es xs ys us vs hm k1 k2 r1 r2 v1 v2 j h1 h2;have h1':j<us.length:=by simpa using h1
  have h2':j<vs.length:=by simpa using h2
  obtain⟨l1,x1,a1,b1⟩:=YS r1 v1 h1';obtain⟨l2,x2,a2,b2⟩:=YS r2 v2 h2';rw[getElem_toArray,getElem_toArray];have m1:ds.getD j .non∈ds:=by rw[getD_eq_getElem?_getD,getElem?_eq_getElem l1];exact getElem_mem l1
  have m2:es.getD j .non∈es:=by rw[getD_eq_getElem?_getD,getElem?_eq_getElem l2];exact getElem_mem l2
  exact eqAtD I m A.in1 _ _ x1 x2 _ _ (k1 _ m1) (k2 _ m2) a1 a2 b1 b2 (by show A.units+1+m<cLine;omega)
 rcases zo hd with fd|⟨m,ds,em,rfl,hds⟩|⟨m,ds,em,rfl,hds⟩
 ·have ex:=zV fd rd
  rcases zo he with fe|⟨m,es,em,rfl,hes⟩|⟨m,es,em,rfl,hes⟩
  ·rw[wn fd fe,<- zV fd rd,<- zV fe re]
   exact rcAt_V rx ry (by rw[zV fd rd];exact yB fd) (by rw[zV fe re];exact yB fe)
  ·obtain⟨b,ys,rfl,p1,p2⟩:=zd re
   cases ry;obtain⟨its,_,pl,_⟩:=I.tuple p1;rw[zAj fd];exact rc_ft fd rx ex pl hu0
  ·obtain⟨b,ys,rfl,p1,p2⟩:=zO re
   cases ry;obtain⟨its,_,pl,_⟩:=I.list p1;rw[zAk fd];exact rc_fl fd rx ex pl.isList hu0
 ·obtain⟨a,xs,rfl,q1,q2⟩:=zd rd
  cases rx;obtain⟨us,v1,pl1,_⟩:=I.tuple q1;rcases zo he with fe|⟨m',es,em',rfl,hes⟩|⟨m',es,em',rfl,hes⟩
  ·rw[zAl fe];exact rc_tf fe ry (zV fe re) pl1 hu0
  ·have:m=m':=by omega
   subst this;obtain⟨b,ys,rfl,p1,p2⟩:=zd re;cases ry;obtain⟨vs,v2,pl2,_⟩:=I.tuple p1;have q:=SeqAt.RcAt.tuples pl1 pl2 hu0 (item em hds hes q2 p2 v1 v2);simp only[deq];rw[wB];have l1:us.toArray.size=ds.length:=by rw[size_toArray,<- v1.length,q2.length]
   have l2:vs.toArray.size=es.length:=by rw[size_toArray,<- v2.length,p2.length]
   rw[l1,l2]at q;exact q
  ·obtain⟨b,ys,rfl,p1,p2⟩:=zO re
   cases ry;obtain⟨vs,v2,pl2,_⟩:=I.list p1;simp only[deq];exact SeqAt.RcAt.tuple_list pl1 pl2.isList hu0
 ·obtain⟨a,xs,rfl,q1,q2⟩:=zO rd
  cases rx;obtain⟨us,v1,pl1,_⟩:=I.list q1;rcases zo he with fe|⟨m',es,em',rfl,hes⟩|⟨m',es,em',rfl,hes⟩
  ·rw[zAm fe];exact rc_lf fe ry (zV fe re) pl1.isList hu0
  ·obtain⟨b,ys,rfl,p1,p2⟩:=zd re
   cases ry;obtain⟨vs,v2,pl2,_⟩:=I.tuple p1;simp only[deq];exact SeqAt.RcAt.list_tuple pl1.isList pl2 hu0
  ·have:m=m':=by omega
   subst this;obtain⟨b,ys,rfl,p1,p2⟩:=zO re;cases ry;obtain⟨vs,v2,pl2,_⟩:=I.list p1;have l1:us.toArray.size=ds.length:=by rw[size_toArray,<- v1.length,q2.length]
   have l2:vs.toArray.size=es.length:=by rw[size_toArray,<- v2.length,p2.length]
   simp only[deq];rw[wB];by_cases hl:ds.length=es.length
   ·have q:=SeqAt.RcAt.lists pl1.isList pl2.isList (by rw[l1,l2,hl]) hu0 (item em hds hes q2 p2 v1 v2)
    rw[l1]at q;rw[hl]at q ⊢;simpa using q
   ·have q:=SeqAt.RcAt.lists_lengths (A:=A) pl1.isList pl2.isList (by rw[l1,l2];simpa using hl) hu0
    have e:(ds.length==es.length)=false:=by simpa using hl
    rw[e,Bool.and_false];exact q
def rcNeD(I:Inv X pins O H s)(n:Nat)(A:Around)(d e:D)(x y:V)(u v:Value)(hd:eqb n d=true)(he:eqb n e=true)(rd:Rep X.K X.mg H d x)(re:Rep X.K X.mg H e y)(rx:z9 x u)(ry:z9 y v)(hu:A.units+n<cLine):SeqAt.RcNeAt A s u v (!deq d e):=by
 have hu0:A.units<cLine:=by omega
 have item:∀{m:Nat} {ds es:List D} {xs ys:List V} {us vs:List Value},n=m+1->(∀e∈ds,eqb m e=true)->(∀e∈es,eqb m e=true)->Reps X.K X.mg H ds xs->Reps X.K X.mg H es ys->zn xs us->zn ys vs ->
   ∀j (h1:j<us.toArray.size) (h2:j<vs.toArray.size),SeqAt.EqAt A.in1 s us.toArray[j] vs.toArray[j] (deq (ds.getD j .non) (es.getD j .non)):=by
  intro m ds es xs ys us vs hm k1 k2 r1 r2 v1 v2 j h1 h2;have h1':j<us.length:=by simpa using h1
  have h2':j<vs.length:=by simpa using h2
  obtain⟨l1,x1,a1,b1⟩:=YS r1 v1 h1';obtain⟨l2,x2,a2,b2⟩:=YS r2 v2 h2';rw[getElem_toArray,getElem_toArray];have m1:ds.getD j .non∈ds:=by rw[getD_eq_getElem?_getD,getElem?_eq_getElem l1];exact getElem_mem l1
  have m2:es.getD j .non∈es:=by rw[getD_eq_getElem?_getD,getElem?_eq_getElem l2];exact getElem_mem l2
  exact eqAtD I m A.in1 _ _ x1 x2 _ _ (k1 _ m1) (k2 _ m2) a1 a2 b1 b2 (by show A.units+1+m<cLine;omega)
 rcases zo hd with fd|⟨m,ds,em,rfl,hds⟩|⟨m,ds,em,rfl,hds⟩
 ·have ex:=zV fd rd
  rcases zo he with fe|⟨m,es,em,rfl,hes⟩|⟨m,es,em,rfl,hes⟩
  ·rw[wn fd fe,<- zV fd rd,<- zV fe re]
   exact rcNe_V rx ry (by rw[zV fd rd];exact yB fd) (by rw[zV fe re];exact yB fe)
  ·obtain⟨b,ys,rfl,p1,p2⟩:=zd re
   cases ry;obtain⟨its,_,pl,_⟩:=I.tuple p1;rw[zAj fd];exact rn_ft fd rx ex pl hu0
  ·obtain⟨b,ys,rfl,p1,p2⟩:=zO re
   cases ry;obtain⟨its,_,pl,_⟩:=I.list p1;rw[zAk fd];exact rn_fl fd rx ex pl.isList hu0
 ·obtain⟨a,xs,rfl,q1,q2⟩:=zd rd
  cases rx;obtain⟨us,v1,pl1,_⟩:=I.tuple q1;rcases zo he with fe|⟨m',es,em',rfl,hes⟩|⟨m',es,em',rfl,hes⟩
  ·rw[zAl fe];exact rn_tf fe ry (zV fe re) pl1 hu0
  ·have:m=m':=by omega
   subst this;obtain⟨b,ys,rfl,p1,p2⟩:=zd re;cases ry;obtain⟨vs,v2,pl2,_⟩:=I.tuple p1;have q:=SeqAt.RcNeAt.tuples pl1 pl2 hu0 (item em hds hes q2 p2 v1 v2);simp only[deq];rw[wB];have l1:us.toArray.size=ds.length:=by rw[size_toArray,<- v1.length,q2.length]
   have l2:vs.toArray.size=es.length:=by rw[size_toArray,<- v2.length,p2.length]
   rw[l1,l2]at q;exact q
  ·obtain⟨b,ys,rfl,p1,p2⟩:=zO re
   cases ry;obtain⟨vs,v2,pl2,_⟩:=I.list p1;simp only[deq];exact SeqAt.RcNeAt.tuple_list pl1 pl2.isList hu0
 ·obtain⟨a,xs,rfl,q1,q2⟩:=zO rd
  cases rx;obtain⟨us,v1,pl1,_⟩:=I.list q1;rcases zo he with fe|⟨m',es,em',rfl,hes⟩|⟨m',es,em',rfl,hes⟩
  ·rw[zAm fe];exact rn_lf fe ry (zV fe re) pl1.isList hu0
  ·obtain⟨b,ys,rfl,p1,p2⟩:=zd re
   cases ry;obtain⟨vs,v2,pl2,_⟩:=I.tuple p1;simp only[deq];exact SeqAt.RcNeAt.list_tuple pl1.isList pl2 hu0
  ·have:m=m':=by omega
   subst this;obtain⟨b,ys,rfl,p1,p2⟩:=zO re;cases ry;obtain⟨vs,v2,pl2,_⟩:=I.list p1;have l1:us.toArray.size=ds.length:=by rw[size_toArray,<- v1.length,q2.length]
   have l2:vs.toArray.size=es.length:=by rw[size_toArray,<- v2.length,p2.length]
   simp only[deq];rw[wB];by_cases hl:ds.length=es.length
   ·have q:=SeqAt.RcNeAt.lists pl1.isList pl2.isList (by rw[l1,l2,hl]) hu0 (item em hds hes q2 p2 v1 v2)
    rw[l1]at q;rw[hl]at q ⊢;simpa using q
   ·have q:=SeqAt.RcNeAt.lists_lengths (A:=A) pl1.isList pl2.isList (by rw[l1,l2];simpa using hl) hu0
    have e:(ds.length==es.length)=false:=by simpa using hl
    rw[e,Bool.and_false];exact q
end
section
variable{X:Cx}{K:qH}{mg:Str->Option Value}
def rEqD(K:qH)(mg:Str->Option Value)(neg:Bool):R2:=λx y H Q=>∃d e,eqb 20 d=true/\eqb 20 e=true/\Rep K mg H d x/\Rep K mg H e y/\Q (.bl (if neg then !deq d e else deq d e)) H
def zD2(hu:X.A.units+20<cLine):OpR X (compareOp .Eq) (rEqD X.K X.mg false):=by
 intro pins s O H x y v u Q I rx ry h;obtain⟨d,e,h1,h2,r1,r2,q⟩:=h;exact rcAtD I 20 X.A d e x y v u h1 h2 r1 r2 rx ry hu X.prog X.w _ _ ⟨.bl (deq d e),H,I,rfl,q⟩
def zD3(hu:X.A.units+20<cLine):OpR X (compareOp .NotEq) (rEqD X.K X.mg true):=by
 intro pins s O H x y v u Q I rx ry h;obtain⟨d,e,h1,h2,r1,r2,q⟩:=h;exact rcNeD I 20 X.A d e x y v u h1 h2 r1 r2 rx ry hu X.prog X.w _ _ ⟨.bl (!deq d e),H,I,rfl,q⟩
def eqDD(neg:Bool)(d e:D):Option R:=if eqb 20 d=true/\eqb 20 e=true then some (.v (.bl (if neg then !deq d e else deq d e)))else none
def zD4{neg:Bool}:ROk K mg (rEqD K mg neg) (eqDD neg):=by
 intro M H Z x y d1 d2 res Q f r1 r2 e k;unfold eqDD at e;split at e
 ·rename_i hc
  cases e;exact⟨d1,d2,hc.1,hc.2,r1.mono zL,r2.mono zL,k.flat f rfl⟩
 ·cases e
end
end DV
namespace L2
open PySem PySem.Spec PyProof.Rows
section
variable{X:Cx}
def maxAt(ns:List Int):Int:=ns.getD (argBest (λi j=>decide (ns.getD i 0 > ns.getD j 0)) (ns.length-1)) 0
def QO(a:Int)(t:Tok)(l:Addr)(its:Array Value)(n:Nat)(dd:Option Addr)(sl:Array (Option Value)) :
  Meets (Builtin.«int.__rmul__» ⟨[.int a t,.ref l],[]⟩) (λ_ R s=>s.heap.get? l=some {cls:=.type "list",dict:=dd,data:=.seq its n,slots:=sl}/\R (.ok (.ret Value.notImplemented)) s) :=
 .of_wp λprog w A R s h=>by
  obtain⟨hp,g,d,tk,os⟩:=s;obtain⟨hl,h⟩:=h
  wp_walk
  exact⟨_,rfl,h⟩
def zAn(l:Addr)(its:Array Value)(n:Nat)(dd:Option Addr)(sl:Array (Option Value))(k:Int)(u:Tok)(h0:¬(!Builtin.List.listFitsIndex k)=true)(h1:¬its.size*k.toNat > (2^63-1)/8)(h2:¬Builtin.List.listTooLong (its.size*k.toNat)=true) :
  Meets (Builtin.«list.__mul__» ⟨[.ref l,.int k u],[]⟩) (λ_ R s=>s.heap.get? l=some {cls:=.type "list",dict:=dd,data:=.seq its n,slots:=sl} /\
   R (.ok (.ret (Value.ref s.heap.objs.size))) {s with heap:=s.heap.push {cls:=Value.type "list",data:=Data.seq (foldl (λa b=>a++b) #[] (replicate (if its.isEmpty=true then 0 else k.toNat) its))},toks:=s.toks}) :=
 .of_wp λprog w A R s h=>by
  obtain⟨hp,g,d,tk,os⟩:=s;obtain⟨hl,h⟩:=h;have fits:=AutoListH.joined_fits h2
  wp_walk
  refine wpAny_ite_false (decide_eq_false (not_lt.mpr fits)) ?_
  wp_walk
  exact⟨_,rfl,h⟩
def rRepL(K:qH):R2:=λx y H Q=>∃l k xs,x=.ref l/\y=.int k/\SqL K H l xs/\-(2^63)<=k/\k<2^63/\xs.length*k.toNat<=sizeLine /\
 ∀p,H p=none->Q (.ref p) (upd H p (.l (replicate k.toNat xs).flatten))
def op_repL:OpR X (binaryOp .Mult) (rRepL X.K):=by
 intro pins s O H x y v u Q I rx ry h;obtain⟨l,k,xs,rfl,rfl,hH,h1,h2,hz,q⟩:=h;cases rx;obtain⟨t,rfl⟩:=ry;obtain⟨its,r,pl,_⟩:=I.list hH;have hl:=r.length;obtain⟨⟨cls,dd,data,sl⟩,n,ho,hc,hdd,hd⟩:=pl;simp only at hc hd;subst hc hd;have hlen:its.toArray.size*k.toNat<=sizeLine:=by rw[size_toArray,<- hl];exact hz
 have c1:¬its.toArray.size*k.toNat > (2^63-1)/8:=by
  have:(sizeLine:Nat)<=(2^63-1)/8:=by decide
  omega
 have c2:¬(!Builtin.List.listFitsIndex k)=true:=by rw[fitsIndex_both h1 h2];exact qF
 have c3:¬Builtin.List.listTooLong (its.toArray.size*k.toNat)=true:=by rw[zCI hlen];exact qF
 have hnew:foldl (λa b=>a++b) #[] (replicate (if its.toArray.isEmpty=true then 0 else k.toNat) its.toArray)=(replicate k.toNat its).flatten.toArray:=by
  have f0:∀m:Nat,foldl (λa b=>a++b) #[] (replicate m its.toArray)=(replicate m its).flatten.toArray:=λm=>by
   have:=ZQ its m [];rw[nil_append]at this;exact this
  rw[f0];cases its with
  |nil=>simp|cons a r'=>rw[if_neg (by simp)]
 refine wpAny_binaryOp_repeat_ref (T:="list") (U:="int") (by decide) ⟨_,ho,rfl⟩ (λs'=>typeIs_int s' k t) noFill_list_mul F.fills_int_mul F.slot_int_rmul repeat_list F.slot_int_index.lookup
  (call_meets F.slot_int_rmul (typeIs_int s k t) F.entry_int_rmul (F.args_int_rmul_2 _ _) (QO k t l its.toArray n dd sl) ⟨ho,rfl,⟨_,ho,rfl⟩,?_⟩)
 refine call_meets F.slot_list_mul ⟨_,ho,rfl⟩ F.entry_list_mul (F.args_list_mul_2 _ _) (zAn l its.toArray n dd sl k t c2 c1 c3) ⟨ho,?_⟩;rw[hnew];exact⟨.ref _,_,I.lnew (t':=s.toks) (r.rep k.toNat) (by rw[ub,mul_comm];exact hz),rfl,q _ I.fresh⟩
def isV:V->V->Option Bool
 | .non,.non=>some true| .ref _,.non=>some false|_,_=>none
def same_of{x y:V}{u v:Value}{b:Bool}(h:isV x y=some b)(rx:z9 x u)(ry:z9 y v):isSame u v=pure b:=by
 cases x<;>cases y<;>simp[isV]at h<;>subst h<;>first
  | (cases rx;cases ry;rfl)
  | (rename_i a b;cases rx;cases ry;cases a<;>cases b<;>rfl)
  | (cases rx;obtain⟨t,rfl⟩:=ry;rfl)
  | (obtain⟨t,rfl⟩:=rx;cases ry;rfl)
def op_is:OpR X (compareOp .Is) (λx y H Q=>∃b,isV x y=some b/\Q (.bl b) H):=by
 intro pins s O H x y v u Q I rx ry h;obtain⟨b,hb,q⟩:=h;show wpAny _ _ (isSame v u >>= λc=>pure (Value.bool c)) _ _ _;rw[same_of hb rx ry];exact qC ⟨.bl b,H,I,rfl,q⟩
end
def evens{α:Type}:List α->List α
 | []=>[]| [a]=>[a]|a::_::r=>a::evens r
theorem Yo{α:Type}:∀xs:List α,(evens xs).length=(xs.length+1)/2
 | []=>by simp[evens]| [a]=>by simp[evens]
 |a::_::r=>by
  simp only[evens,length_cons,Yo r];omega
theorem YT{α:Type}:∀(xs:List α),(List.range ((xs.length+1)/2)).filterMap (λk=>xs[2*k]?)=evens xs
 | []=>by simp[evens]| [a]=>by simp[evens,List.range_succ]
 |a::b::r=>by
  have e:((a::b::r).length+1)/2=(r.length+1)/2+1:=by simp only[length_cons];omega
  rw[e,List.range_succ_eq_map,filterMap_cons];simp only[Nat.mul_zero,List.getElem?_cons_zero,filterMap_map,evens];congr 1;rw[<- YT r];congr 1
def Gb{α:Type}(xs:List α):(List.range xs.length).filterMap (λk=>xs[xs.length-1-k]?)=xs.reverse:=by
 have key:∀m,m<=xs.length->(List.range m).filterMap (λk=>xs[xs.length-1-k]?)=xs.reverse.take m:=by
  intro m
  induction m with
  |zero=>intro _;simp
  |succ m ih =>
   intro hm;rw[List.range_succ,List.filterMap_append,ih (by omega),List.take_add_one];congr 1;rw[List.getElem?_reverse (by omega)];have h:xs.length-1-m<xs.length:=by omega
   simp[getElem?_eq_getElem h]
 rw[key _ (le_refl _)];rw[show xs.length=xs.reverse.length by simp,List.take_length]
theorem Ju{α β:Type}{f g:α->Option β}:∀{l:List α},(∀x∈l,f x=g x)->l.filterMap f=l.filterMap g
 | [],_=>rfl
 |a::l,h=>by
  rw[filterMap_cons,filterMap_cons,h a qE,Ju λx hx=>h x (qD _ hx)]
def neg1:(- -1:Int)=1:=rfl
def jA{α:Type}(k:Bool)(xs:List α):List α:=if k then evens xs else xs.reverse
def yQ(k:Bool):Int:=if k then 2 else -1
def wU{α:Type}(k:Bool)(xs:List α):(jA k xs).length<=xs.length:=by
 cases k
 ·simp[jA]
 ·simp[jA,Yo];omega
theorem zn.evens:∀{xs:List V} {us:List Value},zn xs us->zn (evens xs) (L2.evens us)
 |_,_,.nil=>.nil|_,_,.cons a .nil=>.cons a .nil|_,_,.cons a (.cons b r)=>.cons a (zn.evens r)
def zn.rev{xs:List V}{us:List Value}(r:zn xs us):zn xs.reverse us.reverse:=by
 induction r with
 |nil=>exact .nil|cons a r ih=>rw[reverse_cons,reverse_cons];exact ih.append (.cons a .nil)
def zn.step(k:Bool){xs:List V}{us:List Value}(r:zn xs us):zn (jA k xs) (jA k us):=by
 cases k
 ·simp only[jA,Bool.false_eq_true,if_false];exact r.rev
 ·simp only[jA,if_true];exact r.evens
def um(k:Bool)(n:Nat):Builtin.Slice.sliceAdjust none none (yQ k) (n:Int)=(if k then((0:Int),(n:Int))else((n:Int)-1,-1)):=by
 cases k
 ·simp[Builtin.Slice.sliceAdjust,yQ]
 ·simp[Builtin.Slice.sliceAdjust,yQ]
def uo(k:Bool)(xs:Array Value):((List.range (Builtin.Slice.slicePlaces (if k then(0:Int)else(xs.size:Int)-1) (if k then(xs.size:Int)else -1) (yQ k))).filterMap λ(m:Nat)=>xs[((if k then(0:Int)else(xs.size:Int)-1)+(m:Int)*yQ k).toNat]?)=jA k xs.toList:=by
 cases k
 ·have e:Builtin.Slice.slicePlaces ((xs.size:Int)-1) (-1) (-1)=xs.size:=by
   simp only[Builtin.Slice.slicePlaces];rw[if_neg (by decide)];by_cases h:(xs.size:Int)-1 > -1
   ·rw[if_pos h,neg1,Int.ediv_one];omega
   ·rw[if_neg h];omega
  simp only[yQ,jA,Bool.false_eq_true,if_false,e];rw[<- Gb xs.toList];rw[Array.length_toList];refine Ju λm hm=>?_
  have hm:m<xs.size:=by simpa using hm
  rw[show(((xs.size:Int)-1)+(m:Int) * -1).toNat=xs.size-1-m by omega];simp
 ·have e:Builtin.Slice.slicePlaces (0:Int) (xs.size:Int) 2=(xs.size+1)/2:=by
   simp only[Builtin.Slice.slicePlaces];rw[if_pos (by decide)];by_cases h:(0:Int)<(xs.size:Int)
   ·rw[if_pos h];omega
   ·rw[if_neg h];omega
  simp only[yQ,jA,if_true,e];rw[<- YT xs.toList];rw[Array.length_toList];refine Ju λm hm=>?_
  rw[show((0:Int)+(m:Int)*2).toNat=2*m by omega];simp
section
variable{prog:Program}{w:World}{A:Around}{E:Value->Shared->Prop}{s:Shared}
def vh(k:Bool){sl:Addr}{t:Tok}{n:Nat}{Q:Int×Int×Nat->Shared->Prop}(hs:s.heap.IsSliceOf sl .none .none (.int (yQ k) t))
  (h:Q ((if k then(0:Int)else(n:Int)-1),yQ k,Builtin.Slice.slicePlaces (if k then(0:Int)else(n:Int)-1) (if k then(n:Int)else -1) (yQ k)) s):wpAny (model prog w) A (Builtin.Slice.sliceApplied (.ref sl) (pure (n:Int))) Q E s:=by
 obtain⟨os,o1,o2,o3⟩:=id hs;unfold Builtin.Slice.sliceApplied;unfold Builtin.Slice.sliceFields;refine qB (qB (wpAny_field o1 o3 (x:=.none) rfl ?_));refine qB (wpAny_field o1 o3 (x:=.none) rfl ?_);refine qB (wpAny_field o1 o3 (x:=.int (yQ k) t) rfl (qC ?_));refine qB (HT.slicePart_ (.int (yQ k) t) ?_);show wpAny _ _ (if(yQ k==0)=true then _ else _) _ _ s;rw[if_neg (by cases k<;>decide)];refine qB (HT.slicePart_ .none ?_);refine qB (HT.slicePart_ .none ?_);refine qB (qC ?_);show wpAny _ _ (match Builtin.Slice.sliceAdjust none none (yQ k) (n:Int)with|(lo,hi)=>pure (lo,yQ k,Builtin.Slice.slicePlaces lo hi (yQ k))) _ _ s
 rw[um k n];cases k<;>exact qC h
def Jv(k:Bool){a sl:Addr}{t:Tok}{its:Array Value}{Q:Value->Shared->Prop}(ht:IsTup s.heap a its)(hs:s.heap.IsSliceOf sl .none .none (.int (yQ k) t))(hz:its.size<=sizeLine)
  (h:Q (.ref s.heap.objs.size) {s with heap:=s.heap.push {cls:=.type "tuple",data:=.seq (jA k its.toList).toArray}}):wpAny (model prog w) A (getItem (.ref a) (.ref sl)) Q E s:=by
 obtain⟨os,o1,o2,o3⟩:=id hs;have ts:s.TypeIs (.ref sl) "slice":=⟨os,o1,o2⟩;have hfit:sizeOk (.seq (jA k its.toList).toArray):=by
  show(jA k its.toList).toArray.size<=sizeLine
  have h1:=wU k its.toList;have h2:its.toList.length=its.size:=Array.length_toList;rw[size_toArray];omega
 unfold getItem
 try with_reducible refine wpAny_holding ?_
 first|refine qB (qC ?_)|skip
 refine qB (wpAny_sequenceKey ht.typeIs (by decide) ?_);refine qB (wpAny_callSpecial?_slot (name:=Str.ofString "__getitem__") ht.typeIs PyProof.Rows.slot_tuple_getitem
  (wpAny_call_entry PyProof.Rows.slot_tuple_getitem ht.typeIs entry_tuple_getitem ?_ (args_tuple_getitem _ _)))
 show wpAny _ _ (Builtin.Tuple.tupleItemsOf (.ref a) >>= _) _ _ s
 refine qB (tupleItemsOf_ ht ?_);refine qB (wpAny_typeOf ts ?_);rw[if_pos (by decide)];refine qB (vh k hs ?_);have hno:¬(((if k then(0:Int)else(its.size:Int)-1)==0&&yQ k==1&&(Builtin.Slice.slicePlaces (if k then(0:Int)else(its.size:Int)-1) (if k then(its.size:Int)else -1) (yQ k))==its.size)=true):=by
  intro q;rw[Bool.and_eq_true,Bool.and_eq_true]at q;have q1:=q.1.2;cases k<;>simp[yQ]at q1
 show wpAny _ _ (if((if k then(0:Int)else(its.size:Int)-1)==0&&yQ k==1&&(Builtin.Slice.slicePlaces (if k then(0:Int)else(its.size:Int)-1) (if k then(its.size:Int)else -1) (yQ k))==its.size)=true then _ else _) _ _ s
 rw[if_neg hno,uo]
 first
  |exact qB (m:=Builtin.Tuple.tupleExact _) (wpAny_newObj_type (qC ⟨_,rfl,qC h⟩) hfit)
  |exact qB (qB (m:=Builtin.Tuple.tupleExact _) (wpAny_newObj_type (qC ⟨_,rfl,qC h⟩) hfit))
end
def WA(k:Bool)(its:Array Value):slicePick its none none (some (yQ k))=(jA k its.toList).toArray:=by
 unfold slicePick;congr 1;cases k
 ·simp only[yQ,sliceBounds,Option.getD_some,Bool.false_eq_true,if_false,jA,sliceRange]
  simp only[show ¬((-1:Int) > 0)by decide,if_false];have e:(if(its.size:Int)-1 > -1 then((its.size:Int)-1 - -1 - -1-1)/(- -1)else 0).toNat=its.size:=by
   by_cases h:(its.size:Int)-1 > -1
   ·rw[if_pos h,neg1,Int.ediv_one];omega
   ·rw[if_neg h];omega
  rw[e,filterMap_map,<- Gb its.toList,Array.length_toList];refine Ju λm hm=>?_
  have hm:m<its.size:=by simpa using hm
  show its[(((its.size:Int)-1)+-1*(m:Int)).toNat]?=_
  rw[show(((its.size:Int)-1)+-1*(m:Int)).toNat=its.size-1-m by omega];simp
 ·simp only[yQ,sliceBounds,Option.getD_some,if_true,jA,sliceRange]
  simp only[show((2:Int) > 0)by decide,if_true];have e:(if(0:Int)<(its.size:Int)then((its.size:Int)-0+2-1)/2 else 0).toNat=(its.size+1)/2:=by
   by_cases h:(0:Int)<(its.size:Int)
   ·rw[if_pos h];omega
   ·rw[if_neg h];omega
  rw[e,filterMap_map,<- YT its.toList,Array.length_toList];refine Ju λm hm=>?_
  show its[((0:Int)+2*(m:Int)).toNat]?=_
  rw[show((0:Int)+2*(m:Int)).toNat=2*m by omega];simp
section
variable{X:Cx}{e st:Expr}{te:TE}{pos p2:Pos}
def rStep(K:qH)(k:Bool):V->Hp->VK->Prop:=λx H Q=>∃a xs,x=.ref a/\((SqT K H a xs/\∀p,H p=none->Q (.ref p) (upd H p (.t (jA k xs))))\/(SqL K H a xs/\∀p,H p=none->Q (.ref p) (upd H p (.l (jA k xs)))))
def pe_step(k:Bool)(he:PE X e te)(hst:PE X st (tC (.int (yQ k)))):PE X (.Subscript e (.Slice none none (some st) p2) pos) (λO H Q=>te O H λx H1=>rStep X.K k x H1 Q):=by
 intro pins s O H Q I h;refine Subscript_ (thn (he pins s O H _ I h) λv s1 ⟨x,H1,I1,r1,q1⟩=>?_);refine wpAny_Slice ?_;rw[evalPart_none];refine qC ?_;refine qC ?_;rw[evalPart_some];refine thn (hst pins s1 O H1 (λz H'=>z=.int (yQ k)/\rStep X.K k x H' Q) I1 ⟨rfl,q1⟩) λvs s2 ⟨z,H2,I2,rz,ez,q2⟩=>?_
 subst ez;obtain⟨t,rfl⟩:=rz;have I3:Inv X pins O H2 {s2 with heap:=s2.heap.push {cls:=.type "slice",data:=.fields #[.none,.none,.int (yQ k) t]}}:=I2.kept (t':=s2.toks) λb ob q=>qA _ q
 have hsl:(s2.heap.push {cls:=.type "slice",data:=.fields #[.none,.none,.int (yQ k) t]}).IsSliceOf s2.heap.objs.size .none .none (.int (yQ k) t):=Heap.IsSliceOf.new ..;generalize hs3:s2.heap.push {cls:=.type "slice",data:=.fields #[.none,.none,.int (yQ k) t]}=h3 at I3 hsl;obtain⟨a,xs,rfl,q3⟩:=q2;cases r1;rcases q3 with⟨hx,q⟩|⟨hx,q⟩
 ·obtain⟨its,r,ht,hz⟩:=I3.tuple hx
  have hlen:=r.length;refine tail_any (ops:=[.ref a,.ref s2.heap.objs.size]) ht.typeIs PyProof.Rows.slot_tuple_getitem.lookup (Jv k ht hsl (by rw[size_toArray];omega) ?_) (by with_unfolding_all rfl)
  exact⟨.ref _,_,I3.laid (t':=s2.toks) (o:=.t (jA k xs)) (λb ob q=>qA _ q) (le_refl _) ⟨le_trans (wU k xs) hz,_,r.step k,IsTup.new _ _⟩,rfl,q _ (I3.hok.fresh (le_refl _))⟩
 ·obtain⟨its,r,ht,hz⟩:=I3.list hx
  have hlen:=r.length;refine tail_any (ops:=[.ref a,.ref s2.heap.objs.size]) ht.isList.typeIs slot_list_getitem.lookup (wpAny_getItem_list_slice ht.isList hsl .none .none (.int (yQ k) t) (by cases k<;>simp[yQ]) ?_ (by rw[size_toArray];omega)) (by with_unfolding_all rfl)
  rw[WA];exact⟨.ref _,_,I3.laid (t':=s2.toks) (o:=.l (jA k xs)) (λb ob q=>qA _ q) (le_refl _) ⟨le_trans (wU k xs) hz,_,0,r.step k,get?_push_size _ rfl⟩,rfl,q _ (I3.hok.fresh (le_refl _))⟩
end
end L2
namespace DV
open PySem PySem.W PyProof.Rows
variable{κ:Nat->Int}
def ev(κ:Nat->Int){α:Type}:KasT α->α
 | .ret a=>a| .ask i j k=>ev κ (k (decide (κ i<κ j)))
def Kp(κ:Nat->Int)(p:Array Nat)(t:Nat):Int:=κ (p.getD t 0)
def getD_q(p:Array Nat)(t:Nat):p.getD t 0=(p[t]?).getD 0:=by simp
def Srt(κ:Nat->Int)(p:Array Nat)(m:Nat):Prop:=∀i,0<i->i<m->Kp κ p (i-1)<=Kp κ p i
def Dsc(κ:Nat->Int)(p:Array Nat)(m:Nat):Prop:=∀i,0<i->i<m->Kp κ p i<=Kp κ p (i-1)
theorem Srt.le{p:Array Nat}{m:Nat}(h:Srt κ p m):∀(d i:Nat),i+d<m->Kp κ p i<=Kp κ p (i+d)
 |0,i,_=>Int.le_refl _
 |d+1,i,hi=>by
  have h1:=Srt.le h d i (by omega);have h2:=h (i+(d+1)) (by omega) hi;rw[show i+(d+1)-1=i+d by omega]at h2;omega
def Srt.same{p q:Array Nat}{m:Nat}(h:Srt κ p m)(e:∀t,Kp κ q t=Kp κ p t):Srt κ q m:=λi h0 hi=>by rw[e,e];exact h i h0 hi
def Dsc.same{p q:Array Nat}{m:Nat}(h:Dsc κ p m)(e:∀t,Kp κ q t=Kp κ p t):Dsc κ q m:=λi h0 hi=>by rw[e,e];exact h i h0 hi
def zCu(p:Array Nat)(i j:Nat):(kas_rev p i j).Perm p:=mirror_perm _ _ _ _
def Bd(n:Nat)(p:Array Nat):Prop:=0<n/\∀x∈p,x<n
def Bd.at{n:Nat}{p:Array Nat}(h:Bd n p)(t:Nat):p.getD t 0<n:=by
 rw[getD_q];cases e:p[t]? with
 |none=>exact h.1|some x=>exact h.2 x (Array.mem_of_getElem? e)
def Bd.perm{n:Nat}{p q:Array Nat}(h:Bd n p)(e:q.Perm p):Bd n q:=⟨h.1,λx hx=>h.2 x (e.mem_iff.mp hx)⟩
def Bd.rev{n:Nat}{p:Array Nat}(h:Bd n p)(i j:Nat):Bd n (kas_rev p i j):=h.perm (zCu _ _ _)
end DV
namespace L2
open PySem PySem.Spec PyProof.Rows PySem.W
end L2
namespace DV
open PySem L2 PyProof.Rows PySem.W
def tlt:List D->List D->Option Bool
 | [],[]=>some false| [],_::_=>some true|_::_,[]=>some false
 |p::ps,q::qs=>if deq p q=true then tlt ps qs else match p,q with
  | .int i,.int j=>some (decide (i<j))|_,_=>none
def zAo:D->List D
 | .t es=>es|_=>[]
def ltAtD(ds:List D)(i j:Nat):Option Bool:=tlt (zAo (ds.getD i .non)) (zAo (ds.getD j .non))
def rkD(ds:List D)(i:Nat):Int:=(((List.range ds.length).filter λk=>ltAtD ds k i==some true).length:Nat)
structure SortOk(ds:List D):Prop where
 few:ds.length<64
 tups:∀d∈ds,∃es,d=.t es/\(∀e∈es,eqb 18 e=true)/\(2<=ds.length->∃i r,es=.int i::r)
 lt:∀i j,i<ds.length->j<ds.length->ltAtD ds i j=some (decide (rkD ds i<rkD ds j))
 one:∀i j,i<ds.length->j<ds.length->rkD ds i=rkD ds j->ds.getD i .non=ds.getD j .non
end DV
namespace L2
open PySem PySem.Spec PyProof.Rows
end L2
namespace DV
open PySem L2
section
variable{X:Cx}{K:qH}{mg:Str->Option Value}
def eqG(d e:D):Option R:=match eqF d e with
 |some r=>some r|none=>eqDD false d e
def neG(d e:D):Option R:=match neF d e with
 |some r=>some r|none=>eqDD true d e
def zD5:ROk K mg (λx y H Q=>rEq x y H Q\/rEqD K mg false x y H Q) eqG:=by
 intro M H Z x y d1 d2 res Q f r1 r2 e k;unfold eqG at e;cases h:eqF d1 d2 with
 |some r=>rw[h]at e;cases e;exact .inl (ro_eq M H Z x y d1 d2 res Q f r1 r2 h k)|none=>rw[h]at e;exact .inr (zD4 M H Z x y d1 d2 res Q f r1 r2 e k)
def zD6:ROk K mg (λx y H Q=>rNe x y H Q\/rEqD K mg true x y H Q) neG:=by
 intro M H Z x y d1 d2 res Q f r1 r2 e k;unfold neG at e;cases h:neF d1 d2 with
 |some r=>rw[h]at e;cases e;exact .inl (ro_ne M H Z x y d1 d2 res Q f r1 r2 h k)|none=>rw[h]at e;exact .inr (zD4 M H Z x y d1 d2 res Q f r1 r2 e k)
def isD:D->D->Option Bool
 | .non,.non=>some true| .t _,.non=>some false|_,_=>none
def isG(neg:Bool)(d e:D):Option R:=(isD d e).map λb=>.v (.bl (if neg then !b else b))
def isV_of{H:Hp}{d e:D}{x y:V}{b:Bool}(h:isD d e=some b)(rx:Rep K mg H d x)(ry:Rep K mg H e y):isV x y=some b:=by
 cases d<;>cases e<;>simp only[isD]at h<;>first
  | (cases h;done)
  | (cases h;rw[jC rx,jC ry];rfl)
  | (cases h;rw[yc rx,yc ry];rfl)
  | (cases h;rw[jC rx,yc ry];rfl)
  | (cases h;rw[yc rx,jC ry];rfl)
  | (cases h;rw[jC rx,zK ry];rfl)
  | (cases h;rw[zK rx,jC ry];rfl)
  | (cases h;rw[jC rx,ze ry];rfl)
  | (cases h;rw[ze rx,jC ry];rfl)
  | (cases h;rw[zK rx,yc ry];rfl)
  | (cases h;rw[yc rx,zK ry];rfl)
  | (cases h;rw[ze rx,yc ry];rfl)
  | (cases h;rw[yc rx,ze ry];rfl)
  | (cases h;obtain⟨a,xs,rfl,_⟩:=zd rx;rw[jC ry];rfl)
  | (cases h;obtain⟨a,xs,rfl,_⟩:=zO rx;rw[jC ry];rfl)
  | (cases h;obtain⟨a,xs,rfl,_⟩:=zd rx;rw[yc ry];rfl)
  | (cases h;obtain⟨a,xs,rfl,_⟩:=zO rx;rw[yc ry];rfl)
def ro_is:ROk K mg (λx y H Q=>∃b,isV x y=some b/\Q (.bl b) H) (isG false):=by
 intro M H Z x y d1 d2 res Q f r1 r2 e k;unfold isG at e;cases h:isD d1 d2 with
 |none=>rw[h]at e;cases e|some b=>rw[h]at e;cases e;exact⟨b,isV_of h r1 r2,k.flat f rfl⟩
def mulG(d e:D):Option R:=match mulD d e with
 |some r=>some r
 |none=>match d,e with
  | .l a,.int k=>if -(2^63)<=k/\k<2^63/\a.length*k.toNat<=cap then some (.own (replicate k.toNat a).flatten)else none|_,_=>none
def ro_mulG:ROk K mg (λx y H Q=>rMulD K x y H Q\/rRepL K x y H Q) mulG:=by
 intro M H Z x y d1 d2 res Q f r1 r2 e k;unfold mulG at e;cases h:mulD d1 d2 with
 |some r=>rw[h]at e;cases e;exact .inl (ro_mul M H Z x y d1 d2 res Q f r1 r2 h k)
 |none =>
  rw[h]at e;cases d1 with
  |l a =>
   cases d2 with
   |int n =>
    dsimp only at e;split at e
    ·rename_i hc
     cases e;obtain⟨p,xs,rfl,h1,h2⟩:=zO r1;rw[zK r2];exact .inr ⟨p,n,xs,rfl,rfl,zL.seq h1,hc.1,hc.2.1,by rw[h2.length];exact wN hc.2.2,λq hq=>k.own f hq (h2.flatten _)⟩
    ·cases e
   |_=>cases e
  |_=>cases e
def Ze:List D->Option (List Int)
 | []=>some []| .int i::ds=>(Ze ds).map (i::·)|_::_=>none
theorem YU{H:Hp}:∀{ds:List D} {xs:List V} {ns:List Int},Ze ds=some ns->Reps K mg H ds xs->xs=ns.map V.int
 | [],_,_,e,h=>by cases e;simp only[Reps]at h;subst h;rfl
 |d::ds,_,ns,e,h=>by
  simp only[Reps]at h;obtain⟨v,r,rfl,h1,h2⟩:=h;cases d with
  |int i =>
   simp only[Ze]at e;cases eb:Ze ds with
   |none=>rw[eb]at e;cases e
   |some cs =>
    rw[eb]at e;cases e;rw[zK h1,YU eb h2];rfl
  |_=>cases e
def maxG:List D->Option R
 | [.int i,.int j]=>maxD [.int i,.int j]
 | [.l ds]=>match Ze ds with
  |some ns=>if 0<ns.length then some (.v (.int (maxAt ns)))else none|none=>none
 |_=>none
end
section
variable{X:Cx}{O:St}{H:Hp}
def eUn(f:D->Option R)(m:ME):ME:=λE=>match m E with
 | .z=>.z| .exc x E1=>.exc x E1
 | .ok (r,E1)=>match f r.d with
  |some r'=>.ok (r',E1)|none=>.z
def Ww{rel:V->Hp->VK->Prop}{f:D->Option R}{m:ME}{Q:VK}(hr:∀(M:Addr->Prop) (H:Hp) (Z:Fz) (x:V) (d:D) (res:R) (Q:VK),FR X.K X.mg M H Z->Rep X.K X.mg (Hm (Mo M Z) H) d x->f d=some res->Kt X.K X.mg M H Z res Q->rel x H Q)
  (h:tM X (eUn f m) O H Q):tM X m O H λx H1=>rel x H1 Q:=by
 obtain⟨M,E,hl,fr,k⟩:=h;unfold eUn at k;refine zk (T0:=[]) hl fr ?_;cases ea:m E with
 |z=>rw[ea]at k;exact k|exc x E1=>rw[ea]at k;exact k
 |ok p =>
  obtain⟨r,E1⟩:=p;rw[ea]at k;intro v H1 g;dsimp only at k;cases ef:f r.d with
  |none=>rw[ef]at k;exact k.elim
  |some res =>
   rw[ef]at k;exact hr M H1 _ v r.d res Q g.frame g.rep ef λv' H' f' s'=>k v' H' (g.more (T:=[(some v',res.slot)]) f' s')
def zCv(k:Bool):D->Option R
 | .t ds=>some (.v (.t (jA k ds)))| .l ds=>some (.own (jA k ds))|_=>none
theorem Reps.evens{K:qH}{mg:Str->Option Value}{H:Hp}:∀{ds:List D} {xs:List V},Reps K mg H ds xs->Reps K mg H (L2.evens ds) (L2.evens xs)
 | [],_,h=>by simp only[Reps]at h;subst h;simp only[L2.evens];exact Reps.nil
 | [d],_,h=>by
  simp only[Reps]at h;obtain⟨v,r,rfl,h1,rfl⟩:=h;simp only[L2.evens];exact Reps.cons h1 Reps.nil
 |d::e::ds,_,h=>by
  simp only[Reps]at h;obtain⟨v,r,rfl,h1,v',r',rfl,h2,h3⟩:=h;simp only[L2.evens];exact Reps.cons h1 (Reps.evens h3)
theorem Reps.rev{K:qH}{mg:Str->Option Value}{H:Hp}:∀{ds:List D} {xs:List V},Reps K mg H ds xs->Reps K mg H ds.reverse xs.reverse
 | [],_,h=>by simp only[Reps]at h;subst h;exact Reps.nil
 |d::ds,_,h=>by
  simp only[Reps]at h;obtain⟨v,r,rfl,h1,h2⟩:=h;rw[reverse_cons,reverse_cons];exact(Reps.rev h2).append (Reps.cons h1 Reps.nil)
def Reps.step{K:qH}{mg:Str->Option Value}{H:Hp}(k:Bool){ds:List D}{xs:List V}(h:Reps K mg H ds xs):Reps K mg H (jA k ds) (jA k xs):=by
 cases k
 ·simp only[jA,Bool.false_eq_true,if_false];exact h.rev
 ·simp only[jA,if_true];exact h.evens
def ok_step(k:Bool){e st:Expr}{m:ME}{p2 pos:Pos}(he:EOk X e m)(hst:PE X st (tC (.int (yQ k)))):EOk X (.Subscript e (.Slice none none (some st) p2) pos) (eUn (zCv k) m) :=
 zf (pe_step k he hst) λO H Q=>Ww λM H Z x d res Q f r e kk=>by
  cases d with
  |t ds =>
   cases e;obtain⟨a,xs,rfl,h1,h2⟩:=zd r;exact⟨a,xs,rfl,.inl ⟨yA zL h1,λp hp=>kk.tup f hp (h2.step k)⟩⟩
  |l ds =>
   cases e;obtain⟨a,xs,rfl,h1,h2⟩:=zO r;exact⟨a,xs,rfl,.inr ⟨zL.seq h1,λp hp=>kk.own f hp (h2.step k)⟩⟩
  |_=>cases e
def sk_any{st:Stmt}:SOk X st (λ_=>.z):=wM zB8 λD O H ⟨M,E,hl,fr,k⟩=>k
end
section
variable{X:Cx}{pins:List (Addr×Obj)}{O:L2.St}{H:Hp}{s:Shared}
def zAp{A:Around}{M:Model}{E:Value->Shared->Prop}{i:Nat}{x:Str}{v:V}{Q:Unit->Shared->Prop}(I:Inv X pins O H s)(hN:X.N.Nodup)(hi:X.N[i]?=some x)(hx:X.env.scope.names.lookup x=some .local)(hv:O[i]?=some (some v))
  (h:∀s',Inv X pins (O.set i none) H s'->Q () s'):wpAny M A (unbindName X.env x) Q E s:=by
 obtain⟨m,hn,hl⟩:=id I.loc;have hcls:(X.env.scope.kind==.class||(X.env.scope.kind==.module&&X.env.locals != X.env.globals))=false:=by rw[I.ok.kind];rfl
 obtain⟨u,_,lk⟩:=hl i x v hi hv (.inl hx);have hm:m x=some u:=by
  rcases lk with⟨_,e⟩|⟨z,_⟩
  ·exact e
  ·have z':X.env.scope.names.lookup x=some .cell\/X.env.scope.names.lookup x=some .free:=z
   rcases z' with z'|z'<;>(rw[hx]at z';cases z')
 refine wpAny_unbindName_local hx hn hm hcls λh' u' hn' hs=>?_
 obtain⟨oL,_,_,hoL,_⟩:=id hn;have keep:∀b,b≠X.env.locals->h'.get? b=s.heap.get? b:=λb hb=>hs.2 b hb
 have neL:∀b o,X.s₀.heap.get? b=some o->b≠X.env.locals:=λb o e=>ne_of_lt (lt_of_lt_of_le (lt_size e) I.ok.above)
 refine h _ ⟨I.ok,I.os,I.bare,⟨λb o e n hb hx=>(keep b (neL b o e)).trans (I.base.keep b o e n hb hx),λb o e n hb hx=>?_,I.base.free,λb o e hx=>?_,I.base.tups,I.base.frzs,I.base.tbls⟩,⟨_,hn',λj y v' e1 e2 e3=>?_⟩,λy c e=>?_,I.free,I.freeC,λp hp=>?_,λb o e=>?_,by simpa using I.len⟩
 ·obtain⟨sl,q⟩:=I.base.slot b o e n hb hx
  exact⟨sl,(keep b (neL b o e)).trans q⟩
 ·obtain⟨o',q⟩:=I.base.there b o e hx
  exact⟨o',(keep b (neL b o e)).trans q⟩
 ·have hiO:i<O.length:=(qG.mp hv).1
  have hj:j≠i:=λz=>by
   subst z;rw[getElem?_set_self hiO]at e2;cases e2
  rw[getElem?_set_ne (Ne.symm hj)]at e2;obtain⟨u2,r2,q⟩:=hl j y v' e1 e2 e3;refine⟨u2,r2,?_⟩;rcases q with⟨k,e⟩|⟨k,c,e,z⟩
  ·have ny:y≠x:=λe=>hj (Wf hN e1 (e▸hi))
   exact .inl ⟨k,by simp[ny,e]⟩
  ·exact .inr ⟨k,c,e,z.sameBut hs (I.cne y c e)⟩
 ·obtain⟨w',z⟩:=I.cell y c e
  exact⟨w',z.sameBut hs (I.cne y c e)⟩
 ·obtain⟨e,n,ne,nf,d⟩:=I.pin p hp
  exact⟨(keep p.1 ne).trans e,n,ne,nf,d⟩
 ·refine(I.hok b o e).stay (λc w' hc q=>(keep c λz=>?_).trans q) (λ_ q=>q) λ_ _ q=>q
  subst z;rcases hc with rfl|hc
  ·rw[I.free]at e;cases e
  ·rw[I.free]at hc;cases hc
def zAq{sc:Shared}{Hc:Hp}{B:Heap}{a C:Addr}{t:Value}{h6:Heap}(I:Inv X pins O H s)(Ic:Inv X pins O Hc sc)(un:Un (frs X.stack) [] Hc H sc.heap s.heap)(fl:Heap.FlyingW B X.stack a (.ref C) t s.heap)(kb:zB1 B H sc.heap (frs X.stack) s.heap)(hn:H a=none)
  (fl6:Heap.FlyingW B X.stack a (.ref C) t h6) (sl:s.heap.UpToSlots h6) {oX:HO} (hX:yJ X.prog X.w (upd H a oX) h6 a oX):Inv X pins O (upd H a oX) {s with heap:=h6}:=by
 obtain⟨oe,vs,he,hec,hed,_⟩:=fl.first;have naf:a∉frs X.stack:=λz=>by
  obtain⟨_,o,q,nd⟩:=I.stack.mem z;rw[he]at q;cases q;exact nd vs hed
 have nac:sc.heap.get? a=none:=by
  cases q:sc.heap.get? a with
  |none=>rfl
  |some o =>
   have:=kb a oe he (.inl ⟨o,q⟩) naf;rw[fl.2.1]at this;cases this
 have kb':zB1 B H sc.heap (a::frs X.stack) s.heap:=λb o e z nf=>kb b o e z λq=>nf (qD _ q)
 have hN:∀b∈a::frs X.stack,H b=none:=λb hb=>by
  rcases mem_cons.mp hb with rfl|hb
  ·exact hn
  ·exact I.stkFree b hb
 have hfs:∀b∈frs X.stack,∀o,s.heap.get? b=some o->∃sl,h6.get? b=some {o with slots:=sl}:=λb hb o e=>by
  obtain⟨_,o',q,nd⟩:=I.stack.mem hb;rw[e]at q;cases q;exact sl b o e nd
 have u6:=un_on un I.hok kb' fl6.1 nac hfs;have ok6:HOk X.prog X.w H h6:=zAD I.hok kb' fl6.1 hN;have ne:∀{b:Addr} {o:HO},H b=some o->b≠a:=λ{b o} e z=>by subst z;rw[hn]at e;cases e
 refine Ic.call' (s':={s with heap:=h6}) (ch:=[]) (I.os.trans Ic.os.symm) ?_ (λb o e=>?_) I.bare (λb z=>absurd z (by simp))
 ·exact⟨u6.keep,u6.slot,λb o e n hx=>by
   have:b≠a:=λz=>by subst z;rw[nac]at e;cases e
   rw[zH this];exact u6.free b o e n hx,u6.there,λb xs e=>by have q:=u6.tups b xs e;rw[zH (ne q)];exact q,λb o u e=>by have q:=u6.frzs b o u e;rw[zH (ne q)];exact q,λb ps e=>by obtain⟨m,q⟩:=u6.tbls b ps e;exact⟨m,by rw[zH (ne q)];exact q⟩⟩
 ·by_cases hb:b=a
  ·subst hb
   rw[zU]at e;cases e;exact hX
  ·rw[zH hb]at e
   exact(ok6 b o e).stay (λc w' _ q=>q) (λc q=>by rw[zH (ne q)];exact q) λc xs q=>by rw[zH (ne q)];exact q
abbrev trX(X:Cx)(pn:List (Addr×Obj))(E:Value->Shared->Prop):Cx:={X with pn:=pn,xe:=E}
abbrev hdX(X:Cx)(a:Addr):Cx:={X with A:=X.A.mark (some (.ref a)),calm:=false,xe:=λ_ _=>False}
def inv_tr(I:Inv X pins O H s)(E:Value->Shared->Prop):Inv (trX X (X.pn++pins) E) [] O H s :=
 ⟨⟨I.ok.mod,I.ok.kind,I.ok.glob,I.ok.blt,I.ok.above,I.ok.inj,I.ok.has,I.ok.cab,I.ok.hd,I.ok.frames,I.ok.stk,I.ok.exf,I.ok.bs,I.ok.bsz,I.ok.noex,I.ok.exfs,I.ok.funs,I.ok.frf⟩,I.os,I.bare,I.base,I.loc,I.cell,I.free,I.freeC,λp hp=>I.pin p (by simpa using hp),I.hok,I.len⟩
def wo{pins':List (Addr×Obj)}{E:Value->Shared->Prop}(I:Inv (trX X (X.pn++pins) E) pins' O H s):Inv X pins O H s :=
 ⟨⟨I.ok.mod,I.ok.kind,I.ok.glob,I.ok.blt,I.ok.above,I.ok.inj,I.ok.has,I.ok.cab,I.ok.hd,I.ok.frames,I.ok.stk,I.ok.exf,I.ok.bs,I.ok.bsz,I.ok.noex,I.ok.exfs,I.ok.funs,I.ok.frf⟩,I.os,I.bare,I.base,I.loc,I.cell,I.free,I.freeC,λp hp=>I.pin p (mem_append_left _ hp),I.hok,I.len⟩
def Wx{pins':List (Addr×Obj)}{E:Value->Shared->Prop}{D:Ends}{f:Flow}{s':Shared}(h:SP (trX X (X.pn++pins) E) pins' D f s'):SP X pins D f s':=by
 cases f with
 |next=>obtain⟨O',H',I,q⟩:=h;exact⟨O',H',wo I,q⟩|brk=>obtain⟨O',H',I,q⟩:=h;exact⟨O',H',wo I,q⟩|cont=>obtain⟨O',H',I,q⟩:=h;exact⟨O',H',wo I,q⟩|ret u=>obtain⟨v,O',H',I,r,q⟩:=h;exact⟨v,O',H',wo I,r,q⟩
def zD7(I:Inv X pins O H s)(a:Addr):Inv (hdX X a) pins O H s:=YL I _ false _ (λz=>by cases z) I.ok.frames
def zCw{a:Addr}(I:Inv (hdX X a) pins O H s)(hd:X.calm=true->X.A.handled=none):Inv X pins O H s :=
 ⟨⟨I.ok.mod,I.ok.kind,I.ok.glob,I.ok.blt,I.ok.above,I.ok.inj,I.ok.has,I.ok.cab,hd,I.ok.frames,I.ok.stk,I.ok.exf,I.ok.bs,I.ok.bsz,I.ok.noex,I.ok.exfs,I.ok.funs,I.ok.frf⟩,I.os,I.bare,I.base,I.loc,I.cell,I.free,I.freeC,I.pin,I.hok,I.len⟩
def sTry(cl:List Str)(i:Nat)(b h:MS):MS:=λE=>match b E with
 | .exc x E1=>if(!x.made&&cl.contains x.cls)=true then(match YO i (.v (.exn x.cls x.vs)) E1 with
   | .ok E2=>(match h E2 with
    | .ok (.ret r,E3)=>.ok (.ret r,E3)|_=>.z)
   |_=>.z)else .z
 |o=>o
def sk_try{body suite:List Stmt}{b0:Stmt}{n t:Str}{i:Nat}{T:Addr}{np hp pos:Pos}{mb mh:MS}{cl:List Str}(hst:X.stack=X.env::X.outer/\X.env.frame=some X.env.locals)(hN:X.N.Nodup)(hi:X.N[i]?=some n)(hx:X.env.scope.names.lookup n=some .local)
  (hg:Gl X t) (hd:(t==("__debug__":Str))=false) (hm:X.mg t=some (.ref T)) (hT:TCls X.K T) (hcl:∀c∈cl,∃C,X.mg c=some (.ref C)/\XCls X.K c C T)
  (hb:∀pn E,Qi (trX X pn E) body mb) (hh:∀a,Qi (hdX X a) (b0::suite) mh) :
  SOk X (.Try body [.ExceptHandler (some (.Name t np)) (some n) (b0::suite) hp] [] [] pos) (sTry cl i mb mh):=by
 intro pins s O H D I ⟨M,E,hl,fr,k⟩;rw[arm_exec_Try];refine qB (wpAny_standAt (wpAny_tryStmt_except ?_));unfold sTry at k;refine wpAny_mono (hb (X.pn++pins) _ [] s O H D (inv_tr I _) ⟨M,E,hl,fr,?_⟩) (λf s1 q=>?_) λ_ _ z=>z
 ·cases eb:mb E with
  |z=>rw[eb]at k;exact k
  |ok p =>
   rw[eb]at k;obtain⟨fl,E1⟩:=p;cases fl<;>exact k
  |exc x E1 =>
   rw[eb]at k;dsimp only at k;intro O1 H1 g;intro pins' s1 e I1 ⟨a,C,od,he,hmx,hn,hf,rel⟩;subst he;cases hq:(!x.made&&cl.contains x.cls)with
   |false=>rw[hq]at k;exact k.elim
   |true =>
   rw[hq]at k;simp only[Bool.and_eq_true,Bool.not_eq_true']at hq;obtain⟨hmd,hin⟩:=hq;rcases rel with⟨z,_⟩|⟨_,sc,Hc,Ic,un,⟨B,tt,fl,kb⟩,dl⟩
   ·rw[hmd]at z;cases z
   obtain⟨C',hmc,FC⟩:=hcl x.cls (by simpa using hin);have ec:C=C':=by
    have z:X.mg x.cls=some (.ref C):=hmx;rw[hmc]at z;cases z;rfl
   subst ec;have J1:Inv X pins O1 H1 s1:=wo I1;have Jc:Inv X pins O1 Hc sc:=wo Ic;have hfr:X.A.frames=some (X.env::X.outer):=by rw[<- hst.1];exact J1.ok.frames
   have fl':Heap.FlyingW B (X.env::X.outer) a (.ref C) (.ref tt) s1.heap:=by rw[<- hst.1];exact fl
   obtain⟨oX,hX,hR⟩:∃oX:HO,(∀(h':Heap) (o:Obj) (vs:Array Value),h'.get? a=some o->o.cls=.ref C->o.data=.fields vs->Z6 a od h'->yJ X.prog X.w (upd H1 a oX) h' a oX) /\
     ((x.vs=[]/\oX=ExO C a)\/∃d,oX=ExA C d a/\H1 d=some (XD d (fsV x.cls x.vs))):=by
    rcases hf with hv|⟨d,e1,e2⟩
    ·exact⟨ExO C a,λh' o _ q c _ _=>zAB q c,.inl ⟨hv,rfl⟩⟩
    ·refine⟨ExA C d a,λh' o _ q c dt l=>?_,.inr ⟨d,rfl,e2⟩⟩
     obtain⟨o',q',k'⟩:=l d e1;rw[q]at q';cases q';exact zAC q c k' dt
   refine wpAny_mono (jq (vT _ _) (wpAny_looks_onW (E:=λ_ _=>False) (Q:=λ_ z=>∃h',z={s1 with heap:=h'}/\Heap.HeldW B (X.env::X.outer) a (.ref C) (.ref tt) X.env.locals h'/\s1.heap.UpToSlots h') hfr hst.2 fl' λh4 held sl4=>⟨h4,rfl,held,sl4⟩)) (λ_ z4 ⟨⟨h4,ez4,held,sl4⟩,kd4⟩=>?_) λ_ _ z=>z.1.elim
   subst ez4;refine wpAny_mono (jq (jg _ _) (wpAny_landsW (E:=λ_ _=>False) (Q:=λ_ z=>∃h',z={s1 with heap:=h'}/\Heap.FlyingW B (X.env::X.outer) a (.ref C) (.ref tt) h'/\h4.UpToSlots h') held λh5 fl5 sl5=>⟨h5,rfl,fl5,sl5⟩)) (λ_ z5 ⟨⟨h5,ez5,fl5,sl5⟩,kd5⟩=>?_) λ_ _ z=>z.1.elim
   subst ez5;have dl5:=(dl.on kd4).on kd5;have fl5':Heap.FlyingW B X.stack a (.ref C) (.ref tt) h5:=by rw[hst.1];exact fl5
   obtain⟨o5,v5,e5,c5,d5,_⟩:=fl5.first;have J5:=zAq J1 Jc un fl kb hn fl5' (sl4.trans sl5) (hX h5 o5 v5 e5 c5 d5 dl5);refine wpAny_handleBy_cons (codeAny_handlers_test ?_) (by intro z;cases z);refine YI (X:=hdX X a) (zD7 J5 a) hg hm ?_ hd;refine ue FC hT J5.kIn e5 c5 ?_;refine codeAny_handlers_suite_as ?_;refine wpAny_mono (jq (jg _ _) (PyProof.Rows.lands_againW (E:=λ_ _=>False) (Q:=λ_ z=>∃h',z={s1 with heap:=h'}/\Heap.FlyingW B (X.env::X.outer) a (.ref C) (.ref tt) h'/\h5.UpToSlots h') fl5 λh6 fl6 sl6=>⟨h6,rfl,fl6,sl6⟩)) (λ_ z6 ⟨⟨h6,ez6,fl6,sl6⟩,kd6⟩=>?_) λ_ _ z=>z.1.elim
   subst ez6;have fl6':Heap.FlyingW B X.stack a (.ref C) (.ref tt) h6:=by rw[hst.1];exact fl6
   obtain⟨o6,v6,e6,c6,d6,_⟩:=fl6.first;have J6:=zAq J1 Jc un fl kb hn fl6' ((sl4.trans sl5).trans sl6) (hX h6 o6 v6 e6 c6 d6 (dl5.on kd6));have g2:Got X.K X.mg M O E H [] O1 E1 (upd H1 a oX) [(some (.ref a),R.slot (.v (.exn x.cls x.vs)))]:=by
    refine g.more (T:=[(some (.ref a),.v (.exn x.cls x.vs))]) ((g.frame.grow hn).add ?_) (Step.newVal hn);simp only[Rep];have ha:Hm (Mo M (O1.zip E1)) (upd H1 a oX) a=some oX:=zP.mpr ⟨Jo g.frame hn,zU⟩;refine⟨a,C,rfl,hmx,?_⟩;rcases hR with⟨hv,rfl⟩|⟨d,rfl,hd⟩
    ·exact .inl ⟨hv,ha⟩
    ·refine .inr ⟨d,ha,zP.mpr ⟨λq=>?_,?_⟩⟩
     ·obtain⟨xs,q⟩:=g.frame.moAl d q
      exact XD_ne hd q
     ·rw[zH (yR hd hn)];exact hd
   cases ep:YO i (.v (.exn x.cls x.vs)) E1 with
   |z=>rw[ep]at k;exact k.elim|exc _ _=>rw[ep]at k;exact k.elim
   |ok E2 =>
   rw[ep]at k;dsimp only at k;have g3:=YQ g2 ep;refine Y5 (i:=i) (v:=.ref a) J6 hN hi (.inl hx) rfl (λs7 J7=>?_) (.inr hx);refine wpAny_mono (hh a pins s7 (O1.set i (some (.ref a))) (upd H1 a oX) {D with nx:=λ_ _=>False,bk:=λ_ _=>False,ct:=λ_ _=>False} (zD7 J7 a) (va (T0:=[]) g3.len g3.fr ?_)) (λf s8 q=>?_) λ_ _ z=>z.elim
   ·cases eh:mh E2 with
    |z=>rw[eh]at k;exact k.elim|exc _ _=>rw[eh]at k;exact k.elim
    |ok p =>
     obtain⟨fl,E3⟩:=p;rw[eh]at k;cases fl with
     |nx=>exact k.elim|bk=>exact k.elim|ct=>exact k.elim|ret r=>exact λv O' H' g4=>k v O' H' (g3.trans' g4)
   ·cases f with
    |next=>obtain⟨_,_,_,z⟩:=q;exact z.elim|brk=>obtain⟨_,_,_,z⟩:=q;exact z.elim|cont=>obtain⟨_,_,_,z⟩:=q;exact z.elim
    |ret u =>
     obtain⟨v,O3,H3,J8,ru,dr⟩:=q;have J8':=zCw J8 I.ok.hd;refine qB (wpAny_bindName (Y5 (i:=i) (v:=.non) J8' hN hi (.inl hx) rfl (λs9 J9=>?_) (.inr hx)));unfold unbindBehindTheSuite;refine wpAny_onRaise ?_;refine zAp (v:=.non) J9 hN hi hx ?_ λs10 J10=>⟨v,_,H3,J10,ru,dr⟩
     have:i<O3.length:=by rw[J8.len];exact(qG.mp hi).1
     rw[getElem?_set_self this]
 ·cases f with
  |next=>exact wpAny_execs_nil (Wx q)|brk=>exact Wx q|cont=>exact Wx q|ret u=>exact Wx q
end
section
variable{X:Cx}{O:L2.St}{H:Hp}
def Gc{cl:List Str}{v:V}{cv:Value}{b:Str->Bool}(rv:∀u,z9 v u->u=cv)(hk:∀c∈cl,∃C T,X.mg c=some (.ref C)/\XCls X.K c C T/\kitOne X.K (.ref C) cv=some (b c)) :
  jp X (.builtin "isinstance") (λxs H Q=>∃x c vs,xs=[x,v]/\Rep X.K X.mg H (.exn c vs) x/\c∈cl/\Q (.bl (b c)) H):=by
 intro pins s O H xs us Q I r h;obtain⟨x,c,vs,rfl,rd,hc,q⟩:=h;obtain⟨u,w',rfl,rx,ry⟩:=vals2 r;obtain rfl:=rv w' ry;simp only[Rep]at rd;obtain⟨a,C,rfl,hm,ha⟩:=rd;obtain⟨C',T,hm',F,kq⟩:=hk c hc;rw[hm]at hm';cases hm';cases (show u=Value.ref a from rx);have φ:∃o,s.heap.get? a=some o/\o.cls=.ref C:=by
  rcases ha with⟨_,ha⟩|⟨d,ha,_⟩
  ·exact(show yJ X.prog X.w H s.heap a (ExO C a)from I.hok a _ ha).1
  ·obtain⟨⟨o,h1,h2,_⟩,_⟩:=(show yJ X.prog X.w H s.heap a (ExA C d a)from I.hok a _ ha)
   exact⟨o,h1,h2⟩
 exact kia_one (kit_exc F) I.kIn φ kq (λz=>nomatch z) λtk=>⟨.bl _,H,I.tok tk,rfl,q⟩
def eIsX(cl:List Str)(b:Str->Bool)(m:ME):ME:=λE=>match m E with
 | .z=>.z| .exc x E1=>.exc x E1| .ok (.v (.exn c _),E1)=>if cl.contains c=true then .ok (.v (.bl (b c)),E1)else .z|_=>.z
def zAr{cl:List Str}{v:V}{b:Str->Bool}{m:ME}{Q:VK}(h:tM X (eIsX cl b m) O H Q):tM X m O H λx H1=>∃y c vs,[x,v]=[y,v]/\Rep X.K X.mg H1 (.exn c vs) y/\c∈cl/\Q (.bl (b c)) H1:=by
 obtain⟨M,E,hl,fr,k⟩:=h;unfold eIsX at k;refine zk (T0:=[]) hl fr ?_;cases ea:m E with
 |z=>rw[ea]at k;exact k|exc x E1=>rw[ea]at k;exact k
 |ok pr =>
  obtain⟨r,E1⟩:=pr;rw[ea]at k;cases r with
  |own ds=>exact k.elim
  |v d =>
   cases d with
   |exn c vs =>
    dsimp only at k;intro v H' g;cases hc:cl.contains c with
    |false=>rw[hc]at k;exact k.elim
    |true =>
     rw[hc]at k;exact⟨v,c,vs,rfl,g.rep.mono zL,by simpa using hc,k _ H' (g.flat (d:=.bl (b c)) rfl)⟩
   |_=>exact k.elim
def ok_isC{cl:List Str}{y:Str}{Y T:Addr}{a:Expr}{m:ME}{p p1 pos:Pos}(hcl:∀c∈cl,∃C,X.mg c=some (.ref C)/\XCls X.K c C T)(hy:X.mg y=some (.ref Y))(FY:XCls X.K y Y T)(hYT:Y≠T)(hg:Gl X "isinstance")(hm:X.mg "isinstance"=none)
  (hgY:Gl X y) (ha:EOk X a m) (hv:bootBuiltins "isinstance"=some (.builtin "isinstance")) (hd:(y==("__debug__":Str))=false) (he:zW a=false) :
  EOk X (.Call (.Name "isinstance" p) [a,.Name y p1] [] pos) (eIsX cl (·==y) m) :=
 zf (Jk (Gc (cl:=cl) (v:=.ref Y) (cv:=.ref Y) (b:=(·==y)) (λu h=>h) λc hc=>by
  obtain⟨C,h1,h2⟩:=hcl c hc;exact⟨C,T,h1,h2,kit_own h2 FY hYT λe=>by subst e;rw[h1]at hy;cases hy;rfl⟩) hg hm hv (yN ha (yN (Qm (v:=.ref Y) hgY hy rfl hd) wL (zJ rfl)) (zJ he)) (by decide) (by decide) (zJ he) (y9 rfl)) λO H Q h=>zAr h
def ok_isV{cl:List Str}{T:Addr}{a:Expr}{m:ME}{p p1 pos:Pos}(hcl:∀c∈cl,∃C,X.mg c=some (.ref C)/\XCls X.K c C T)(hg:Gl X "isinstance")(hm:X.mg "isinstance"=none)
  (hgV:Gl X "ValueError") (hmV:X.mg "ValueError"=none) (hvV:bootBuiltins "ValueError"=some (.type "ValueError")) (ha:EOk X a m) (hv:bootBuiltins "isinstance"=some (.builtin "isinstance")) (he:zW a=false) :
  EOk X (.Call (.Name "isinstance" p) [a,.Name "ValueError" p1] [] pos) (eIsX cl (λ_=>true) m) :=
 zf (Jk (Gc (cl:=cl) (v:=.ty "ValueError") (cv:=.type "ValueError") (b:=λ_=>true) (λu h=>h) λc hc=>by
  obtain⟨C,h1,h2⟩:=hcl c hc;exact⟨C,T,h1,h2,kit_val h2⟩) hg hm hv (yN ha (yN (Qn (v:=.ty "ValueError") hgV hmV hvV rfl (by decide) (by decide)) wL (zJ rfl)) (zJ he)) (by decide) (by decide) (zJ he) (y9 rfl)) λO H Q h=>zAr h
end
section
variable{X:Cx}{O:L2.St}{H:Hp}
def vi(k:Bool):Value->Bool
 | .bool b=>b==k|_=>false
def zD8(k:Int):Value->Bool
 | .int b _=>b==k|_=>false
theorem YV:∀{bs:List Bool} {us:List Value},zn (bs.map V.bl) us->us=bs.map Value.bool
 | [],_,.nil=>rfl
 |b::bs,_,.cons r t=>by
  cases (show _=Value.bool b from r);rw[YV t];rfl
theorem Jw:∀{ns:List Int} {us:List Value},zn (ns.map V.int) us->∀u∈us,∃i t,u=.int i t
 | [],_,.nil,_,h=>by cases h
 |n::ns,_,.cons r t,u,h=>by
  rcases mem_cons.mp h with rfl|h
  ·obtain⟨tk,e⟩:=r;exact⟨n,tk,e⟩
  ·exact Jw t u h
theorem wV(k:Int):∀{ns:List Int} {us:List Value},zn (ns.map V.int) us->us.countP (zD8 k)=ns.count k
 | [],_,.nil=>rfl
 |n::ns,_,.cons r t=>by
  obtain⟨tk,e⟩:=r;subst e;rw[List.countP_cons,List.count_cons,wV k t];rfl
def zCx:MtM X "list.count" (λx vs H Q=>∃l,x=.ref l/\((∃(bs:List Bool) (k:Bool),vs=[.bl k]/\SqL X.K H l (bs.map V.bl)/\Q (.int (bs.count k:Nat)) H)\/(∃(ns:List Int) (k:Int),vs=[.int k]/\SqL X.K H l (ns.map V.int)/\Q (.int (ns.count k:Nat)) H))):=by
 intro pins s O H x vs v us Q I rx rv h;obtain⟨l,rfl,h⟩:=h;cases rx;rcases h with⟨bs,k,rfl,hs,q⟩|⟨ns,k,rfl,hs,q⟩
 ·obtain⟨u,rfl,ru⟩:=rv.one
  cases (show u=Value.bool k from ru);obtain⟨its,r,p,_⟩:=I.list hs;obtain⟨⟨c0,dd,dt,sl⟩,n,e,ec,ed,es⟩:=p;dsimp only at ec ed es;subst ec ed es;have hb:=YV r;subst hb;refine call_meets PySem.F.slot_list_count ⟨_,e,rfl⟩ PySem.F.entry_list_count (PySem.F.args_list_count_2 _ _) (SeqAt.list_countAt l _ n none sl (.bool k) (vi k)) ⟨e,λy hy=>?_,?_⟩
  ·have hy':y∈bs.map Value.bool:=by simpa using hy
   obtain⟨b,_,rfl⟩:=mem_map.mp hy';exact SeqAt.EqAt.bool_bool b k
  ·have:(bs.map Value.bool).countP (vi k)=bs.count k:=by rw[List.countP_map,List.count];rfl
   rw[show(bs.map Value.bool).toArray.toList=bs.map Value.bool from rfl,this];exact⟨.int _,H,I.tok _,⟨_,rfl⟩,q⟩
 ·obtain⟨u,rfl,ru⟩:=rv.one
  obtain⟨tk,eu⟩:=(show ∃t,u=Value.int k t from ru);subst eu;obtain⟨its,r,p,_⟩:=I.list hs;obtain⟨⟨c0,dd,dt,sl⟩,n,e,ec,ed,es⟩:=p;dsimp only at ec ed es;subst ec ed es;refine call_meets PySem.F.slot_list_count ⟨_,e,rfl⟩ PySem.F.entry_list_count (PySem.F.args_list_count_2 _ _) (SeqAt.list_countAt l _ n none sl (.int k tk) (zD8 k)) ⟨e,λy hy=>?_,?_⟩
  ·obtain⟨i,t,rfl⟩:=Jw r y (by simpa using hy)
   exact SeqAt.EqAt.int_int i t k tk
  ·rw[show its.toArray.toList=its from rfl,wV k r]
   exact⟨.int _,H,I.tok _,⟨_,rfl⟩,q⟩
def zCy:MtM X "list.index" (λx vs H Q=>∃l,x=.ref l/\∃(bs:List Bool) (k:Bool) (j:Nat),vs=[.bl k]/\SqL X.K H l (bs.map V.bl)/\bs.findIdx? (·==k)=some j/\j<1000000/\Q (.int (j:Nat)) H):=by
 intro pins s O H x vs v us Q I rx rv h;obtain⟨l,rfl,bs,k,j,rfl,hs,hj,hj2,q⟩:=h;cases rx;obtain⟨u,rfl,ru⟩:=rv.one;cases (show u=Value.bool k from ru);obtain⟨its,r,p,_⟩:=I.list hs;obtain⟨⟨c0,dd,dt,sl⟩,n,e,ec,ed,es⟩:=p;dsimp only at ec ed es;subst ec ed es;have hb:=YV r;subst hb;obtain⟨h1,h2,h3⟩:=List.findIdx?_eq_some_iff_getElem.mp hj;refine call_meets PySem.F.slot_list_index ⟨_,e,rfl⟩ PySem.F.entry_list_index (PySem.F.args_list_index_2 _ _) (SeqAt.list_indexAt l _ n none sl (.bool k) (vi k) j (by simpa using h1) (by omega) ?_ ?_) ⟨e,λy hy=>?_,⟨.int _,H,I.tok _,⟨_,rfl⟩,q⟩⟩
 ·simpa[vi]using h2
 ·intro m hm hlt
  have:=h3 m hlt;simpa[vi]using this
 ·have hy':y∈bs.map Value.bool:=by simpa using hy
  obtain⟨b,_,rfl⟩:=mem_map.mp hy';exact SeqAt.EqAt.bool_bool b k
def eMet(f:D->D->Option R)(a b:ME):ME:=λE=>match a E with
 | .z=>.z| .exc x E1=>.exc x E1
 | .ok (r1,E1)=>match r1.d with
  | .l _=>(match b E1 with
   | .z=>.z| .exc x E2=>.exc x E2
   | .ok (r2,E2)=>match f r1.d r2.d with
    |some r=>.ok (r,E2)|none=>.z)
  |_=>.z
def cntD:D->D->Option R
 | .l ds,.bl k=>(jD ds).map λbs=>.v (.int (bs.count k:Nat))| .l ds,.int k=>(Ze ds).map λns=>.v (.int (ns.count k:Nat))|_,_=>none
def idxD:D->D->Option R
 | .l ds,.bl k=>(jD ds).bind λbs=>match bs.findIdx? (·==k)with
  |some j=>if j<1000000 then some (.v (.int (j:Nat)))else none|none=>none
 |_,_=>none
def zAs{f:D->D->Option R}{rel:V->List V->Hp->VK->Prop}{a b:ME}{Q:VK}(hr:ROk X.K X.mg (λx y H Q=>rel x [y] H Q) f)(h:tM X (eMet f a b) O H Q):tBM X.K "list" rel (tM X a) (uZ (tM X b) tNil) O H Q:=by
 obtain⟨M,E,hl,fr,k⟩:=h;unfold eMet at k;refine zk (T0:=[]) hl fr ?_;cases ea:a E with
 |z=>rw[ea]at k;exact k|exc x E1=>rw[ea]at k;exact k
 |ok p =>
  obtain⟨r1,E1⟩:=p;rw[ea]at k;intro x H1 g1;dsimp only at k;cases ed:r1.d with
  |l ds =>
   rw[ed]at k;have rx:=g1.rep;rw[ed]at rx;obtain⟨l,xs,ex,hs,_⟩:=zO rx;subst ex;refine⟨(show tyV X.K "list" (.ref l) H1 from .inl ⟨rfl,xs,zL.seq hs⟩),?_⟩;refine zk (T0:=[(some (.ref l),r1.slot)]) g1.len g1.fr ?_;dsimp only at k;cases eb:b E1 with
   |z=>rw[eb]at k;exact k|exc x E2=>rw[eb]at k;exact λH' g=>k H' (g1.trans' g).dropAll
   |ok p =>
    obtain⟨r2,E2⟩:=p;rw[eb]at k;intro y H2 g2;have g:=g1.trans' g2;have rp:=Got.reps (vs:=[y,.ref l]) (rs:=[r2,r1]) rfl g;simp only[List.map,Reps]at rp;obtain⟨y',_,e1,ry,x',_,e2,rx,_⟩:=rp;cases e1;cases e2;dsimp only at k;cases ef:f (.l ds) r2.d with
    |none=>rw[ef]at k;exact k.elim
    |some r =>
     rw[ef]at k;rw[ed]at rx;exact hr M H2 _ (.ref l) y (.l ds) r2.d r Q g.frame rx ry ef λv H' f' s'=>k v H' (g.more (T:=[(some v,r.slot)]) f' s')
  |_=>rw[ed]at k;exact k.elim
def ro_cnt{K:qH}{mg:Str->Option Value}:ROk K mg (λx y H Q=>∃l,x=.ref l/\((∃(bs:List Bool) (k:Bool),[y]=[.bl k]/\SqL K H l (bs.map V.bl)/\Q (.int (bs.count k:Nat)) H)\/(∃(ns:List Int) (k:Int),[y]=[.int k]/\SqL K H l (ns.map V.int)/\Q (.int (ns.count k:Nat)) H))) cntD:=by
 intro M H Z x y d1 d2 res Q f r1 r2 e k;cases d1 with
 |l ds =>
  obtain⟨l,xs,rfl,hs,rs⟩:=zO r1;refine⟨l,rfl,?_⟩;cases d2 with
  |bl b =>
   simp only[cntD]at e;cases eb:jD ds with
   |none=>rw[eb]at e;cases e
   |some bs =>
    rw[eb]at e;cases e;rw[wk eb rs]at hs;exact .inl ⟨bs,b,by rw[yc r2],zL.seq hs,k.flat f rfl⟩
  |int i =>
   simp only[cntD]at e;cases eb:Ze ds with
   |none=>rw[eb]at e;cases e
   |some ns =>
    rw[eb]at e;cases e;rw[YU eb rs]at hs;exact .inr ⟨ns,i,by rw[zK r2],zL.seq hs,k.flat f rfl⟩
  |_=>cases e
 |_=>cases e
def ro_idx{K:qH}{mg:Str->Option Value}:ROk K mg (λx y H Q=>∃l,x=.ref l/\∃(bs:List Bool) (k:Bool) (j:Nat),[y]=[.bl k]/\SqL K H l (bs.map V.bl)/\bs.findIdx? (·==k)=some j/\j<1000000/\Q (.int (j:Nat)) H) idxD:=by
 intro M H Z x y d1 d2 res Q f r1 r2 e k;cases d1 with
 |l ds =>
  obtain⟨l,xs,rfl,hs,rs⟩:=zO r1;refine⟨l,rfl,?_⟩;cases d2 with
  |bl b =>
   simp only[idxD]at e;cases eb:jD ds with
   |none=>rw[eb]at e;cases e
   |some bs =>
    rw[eb,Option.bind_some]at e;cases ej:bs.findIdx? (·==b)with
    |none=>rw[ej]at e;cases e
    |some j =>
     rw[ej]at e;dsimp only at e;split at e
     ·rename_i hj
      cases e;rw[wk eb rs]at hs;exact⟨bs,b,j,by rw[yc r2],zL.seq hs,ej,hj,k.flat f rfl⟩
     ·cases e
  |_=>cases e
 |_=>cases e
def ok_cnt{o e:Expr}{a b:ME}{apos cpos:Pos}(ho:EOk X o a)(he:EOk X e b)(hbase:attributeBase o "count" X.env (eval o X.env)=eval o X.env)(hs:zW e=false)(hline:(apos.endLine==cpos.line)=true)
  (hfew:((backTo cpos (starEach (e::[]) X.env)).all (λx=>!x.1)&&(backToKw cpos (keywordEach [] X.env)).all (λx=>x.1.isSome)&&decide ((e::([]:List Expr)).length+([]:List Keyword).length+(if([]:List Keyword).isEmpty then 0 else 1)<30))=true) :
  EOk X (.Call (.Attribute o "count" apos) [e] [] cpos) (eMet cntD a b) :=
 zf (Q7 PySem.F.plainAttrs_list PySem.F.slot_list_count PySem.F.type_list_count zCx ho (yN he wL (zJ hs)) hbase hfew hline (zJ hs) rfl) λO H Q h=>zAs ro_cnt h
def ok_idx{o e:Expr}{a b:ME}{apos cpos:Pos}(ho:EOk X o a)(he:EOk X e b)(hbase:attributeBase o "index" X.env (eval o X.env)=eval o X.env)(hs:zW e=false)(hline:(apos.endLine==cpos.line)=true)
  (hfew:((backTo cpos (starEach (e::[]) X.env)).all (λx=>!x.1)&&(backToKw cpos (keywordEach [] X.env)).all (λx=>x.1.isSome)&&decide ((e::([]:List Expr)).length+([]:List Keyword).length+(if([]:List Keyword).isEmpty then 0 else 1)<30))=true) :
  EOk X (.Call (.Attribute o "index" apos) [e] [] cpos) (eMet idxD a b) :=
 zf (Q7 PySem.F.plainAttrs_list PySem.F.slot_list_index PySem.F.type_list_index zCy ho (yN he wL (zJ hs)) hbase hfew hline (zJ hs) rfl) λO H Q h=>zAs ro_idx h
end
end DV
namespace DV
open PySem L2 PyProof.Rows
def ns_is{K:qH}{h:Heap}{N:Addr}{mg:Str->Option Value}{n:Str}{v:Value}(X:K.In h)(G:h.Ns N mg)(e:nsIn K N n=some (some v)):mg n=some v:=by
 obtain⟨o,es,ep,ho,hd,_,hf⟩:=G;unfold nsIn at e;split at e
 ·rename_i q
  have z:=X _ _ q;rw[ho]at z;cases z;cases hd;split at e
  ·rename_i he
   cases e;rw[<- hf];unfold nsFind findBy;rw[<- Array.find?_toList,he];rfl
  ·split at e<;>cases e
 ·cases e
def zD9{K:qH}{C f:Addr}{h:Heap}(X:K.In h)(q:uV K C f=true) :
  ∃bm N nm q bs hdct sn sub ab col dd k0 k1 k2 k3 k5 mN,h.get? C=some (excClassObj nm q C N bs bm hdct sn sub ab col dd k0 k1 k2 k3 k5 "ValueError.__new__")/\h.Ns N mN/\mN "__init__"=some (.ref f)/\OwnTail h VB bm:=by
 unfold uV at q;split at q
 ·rename_i dd cd sl ho
  split at q
  ·rename_i C' bm a0 a1 a2 a3 id a5 hm hs
   simp only[Bool.and_eq_true,beq_iff_eq,Bool.not_eq_true']at q;obtain⟨⟨⟨q1,q2⟩,q3,q4⟩,q5,q6⟩:=q;subst q1 q2;obtain⟨l⟩:=sl;have hs':l=[a0,a1,a2,a3,some (.builtin "ValueError.__new__"),a5]:=hs;subst hs';obtain⟨nm,bs,mro,ns,qn,hd,sn,sub,ab,col,del⟩:=cd;cases hm;cases q3;exact⟨bm,ns,nm,qn,bs,hd,sn,sub,ab,col,dd,a0,a1,a2,a3,a5,_,X _ _ ho,.of_isNs (isNs_of_in X q5),ns_is X (.of_isNs (isNs_of_in X q5)) q6,PySem.W.tail_of_in X q4⟩
  ·cases q
 ·cases q
def XO(C a:Addr)(od:Option Addr):HO:=.ext λh=>∃o t,h.get? a=some o/\o.cls=.ref C/\o.dict=od/\o.data=.fields #[.ref t,.none,.none,.none,.bool false,.none]
def Wy{P:Program}{w:World}{H:Hp}{h:Heap}{C a t:Addr}{o:Obj}{od:Option Addr}(e:h.get? a=some o)(c:o.cls=.ref C)(k:o.dict=od)(dt:o.data=.fields #[.ref t,.none,.none,.none,.bool false,.none]):yJ P w H h a (XO C a od) :=
 ⟨⟨o,t,e,c,k,dt⟩,⟨o,e⟩,λh1 h2 ⟨o1,t1,e1,r⟩ k=>⟨o1,t1,k o1 e1,r⟩⟩
def spI(c:Str)(C:Addr):Sp:=λvs H Q _=>∃(a:Addr) (ns:List Int),vs=.ref a::ns.map V.int/\ns.length=(yt c).length/\(∀n∈ns,n.natAbs.log2<1920)/\H a=some (XO C a none)/\∀d,H d=none->Q .non (upd (upd H d (XD d (fsV c ns))) a (XO C a (some d)))
section
variable{X:Cx}{pins:List (Addr×Obj)}{O:L2.St}{H:Hp}{s:Shared}
def raise_x{M:Model}{A:Around}{E:Value->Shared->Prop}{s:Shared}{x:Sem Value}{Q:Flow->Shared->Prop}{env:Env}{C:Addr}{nm q:Str}{N:Addr}{bs bm:List Value}{hdct:Bool}{sn:List Str}{sub:List Value}{ab:Bool}{col:Option Bool}{dd:Option Addr}{k0 k1 k2 k3 k5:Option Value}{newId:String}(hbase:bm.contains (.type "BaseException")=true)(hh:A.handled=none)
  (h:wpAny M A x (λv s₁=>∃e t od sl,v=.ref e/\s₁.heap.get? C=some (excClassObj nm q C N bs bm hdct sn sub ab col dd k0 k1 k2 k3 k5 newId) /\
   s₁.heap.get? e=some ⟨.ref C,od,.fields #[.ref t,.none,.none,.none,.bool false,.none],sl⟩/\E (.ref e) s₁) E s) :
  wpAny M A (raiseStmt env (some x) none) Q E s:=by
 have hcB:(Value.ref C::bm).contains (.type "BaseException")=true:=by rw[List.contains_cons,hbase,Bool.or_true]
 unfold raiseStmt;refine qB (wpAny_mono h (λv s₁ h₁=>?_) λ_ _ x=>x);obtain⟨e,t,od,sl,rfl,hC,he,hE⟩:=h₁;obtain⟨hp,g,d,tk,os⟩:=s₁
 repeat (first|with_reducible refine wpAny_loadPart_at he ?_|with_reducible refine wpAny_loadPart_at hC ?_|(with_reducible refine wpAny_isSubtype_exc hC ?_;rw[hcB])|wp_step)
 exact wpAny_raiseNew_none hh hE
def hide_x{s3:Shared}{H3:Hp}{a d:Addr}{C:Addr}{fs:List (Str×V)}{us:List Value}(I:Inv X pins O H s)(ha:a=s.heap.objs.size+1)(os:s3.os=s.os)(bare:AllBare s3.gens)
  (un:Un (frs X.stack) [] (upd H a (XO C a none)) H3 (zAK s.heap C us) s3.heap) (hok:HOk X.prog X.w H3 s3.heap) (hd:H d=none) (e3:H3=upd (upd (upd H a (XO C a none)) d (XD d fs)) a (XO C a (some d))) (hda:d≠a) :
  Inv X pins O (upd H d (XD d fs)) {s3 with heap:=hideAll s3.heap [a]}/\MadeD (hideAll s3.heap [a]) s3.heap a (.ref C) (some d):=by
 have kp:∀b o,s.heap.get? b=some o->(zAK s.heap C us).get? b=some o:=λb o e=>qA _ (qA _ e)
 have nea:∀b o,s.heap.get? b=some o->b≠a:=λb o e z=>by have:=lt_size e;rw[z,ha]at this;exact absurd this (not_lt.mpr (le_succ _))
 have hHa:H a=none:=I.hok.fresh (by rw[ha];exact le_succ _);have h3d:H3 d=some (XD d fs):=by rw[e3,zH hda,zU]
 have h3a:H3 a=some (XO C a (some d)):=by rw[e3,zU]
 have h3:∀b,b≠a->b≠d->H3 b=H b:=λb n1 n2=>by rw[e3,zH n1,zH n2,zH n1]
 have ned:∀b o,s.heap.get? b=some o->H b=none->b≠d:=λb o e n z=>by
  subst z;have:=un.free b o (kp b o e) (by rw[zH hda];exact n) (by simp);rw[h3d]at this;cases this
 have hid:∀{b o},s3.heap.get? b=some o->b≠a->(hideAll s3.heap [a]).get? b=some o:=λe n=>hideAll_get _ e (by simpa using n)
 have ned2:∀{b:Addr} {o:HO},H b=some o->b≠d:=λe z=>by subst z;rw[hd]at e;cases e
 have nea2:∀{b:Addr} {o:HO},H b=some o->b≠a:=λe z=>by subst z;rw[hHa]at e;cases e
 have u1:Un (frs X.stack) [] H (upd H d (XD d fs)) s.heap (hideAll s3.heap [a]):=by
  refine⟨λb o e n hb hx=>?_,λb o e n hb hx=>?_,λb o e n hx=>?_,λb o e hx=>?_,λb xs e=>?_,λb o u e=>?_,λb ps e=>?_⟩
  ·exact hid (un.keep b o (kp b o e) (by rw[zH (nea b o e)];exact n) hb hx) (nea b o e)
  ·obtain⟨sl,q⟩:=un.slot b o (kp b o e) (by rw[zH (nea b o e)];exact n) hb hx
   exact⟨sl,hid q (nea b o e)⟩
  ·rw[zH (ned b o e n)];exact n
  ·obtain⟨o',q⟩:=un.there b o (kp b o e) hx
   exact⟨o',hid q (nea b o e)⟩
  ·rw[zH (ned2 e)];exact e
  ·rw[zH (ned2 e)];exact e
  ·exact⟨#[],by rw[zH (ned2 e)];simpa using e⟩
 have h1:HOk X.prog X.w (upd H d (XD d fs)) (hideAll s3.heap [a]):=λb o e=>by
  by_cases hb:b=d
  ·subst hb
   rw[zU]at e;cases e;obtain⟨φ,⟨o',q⟩,mono⟩:=(show yJ X.prog X.w H3 s3.heap b (XD b fs)from hok b _ h3d);exact⟨mono _ _ φ λo q=>hid q hda,⟨o',hid q hda⟩,mono⟩
  ·rw[zH hb]at e
   have e':H3 b=some o:=by rw[h3 b (nea2 e) hb];exact e
   have back:∀{c:Addr} {u:HO},H3 c=some u->c≠a->c≠d->upd H d (XD d fs) c=some u:=λ{c u} q n1 n2=>by rw[zH n2,<- h3 c n1 n2];exact q
   refine(hok b o e').stay (λc u hc q=>hid q ?_) (λc q=>back q ?_ ?_) λc xs q=>back q ?_ ?_
   ·rcases hc with rfl|hc
    ·exact nea2 e
    ·intro z;subst z;rw[h3a]at hc;unfold XO at hc;cases hc
   ·intro z;subst z;rw[h3a]at q;unfold XO at q;cases q
   ·intro z;subst z;rw[h3d]at q;unfold XD at q;cases q
   ·intro z;subst z;rw[h3a]at q;unfold XO at q;cases q
   ·intro z;subst z;rw[h3d]at q;unfold XD at q;cases q
 refine⟨I.call' (ch:=[]) os u1 h1 bare (λb z=>absurd z (by simp)),λb o e=>of_hideAll _ e,PySem.W.hideAll_none _ (by simp),?_⟩;obtain⟨⟨o,t,q1,q2,q3,q4⟩,_⟩:=(show yJ X.prog X.w H3 s3.heap a (XO C a (some d))from hok a _ h3a);exact⟨o,_,t,q1,q2,λd' z=>by cases z;exact q3,q4,rfl,rfl⟩
end
def RIok(P:Program)(w:World)(K:qH)(mg:Str->Option Value)(base:Heap)(c:Str):Prop:=∃C f fd,mg c=some (.ref C)/\keepIn K (.ref C)=true/\uV K C f=true/\typeIn K (.ref f)=some (.type "function") /\
 Jj K fd ("self"::yt c) []/\FnOkN true P w K mg base 2 f fd ("self"::yt c) (spI c C)
def sRaiseA(c:Str)(m:MA):MS:=λE=>match m E with
 | .z=>.z| .exc x E1=>.exc x E1
 | .ok (rs,E1)=>match Ze (rs.map R.d)with
  |some ns=>if(ns.length==(yt c).length&&ns.all λn=>decide (n.natAbs.log2<1920))=true then .exc ⟨c,true,ns⟩ E1 else .z|none=>.z
section
variable{X:Cx}{O:L2.St}{H:Hp}
def zAt(X:Cx)(c:Str)(ta:TA):TS:=λ_ O H=>ta O H λvs H1=>∃ns:List Int,vs=ns.map V.int/\ns.length=(yt c).length/\(∀n∈ns,n.natAbs.log2<1920)/\∀d,H1 d=none->XE X O (upd H1 d (XD d (fsV c ns))) ⟨c,true,ns⟩
def QP{c:Str}{m:MA}{D:Ends}(h:tS X (sRaiseA c m) D O H):zAt X c (tMA X m) D O H:=by
 obtain⟨M,E,hl,fr,k⟩:=h;unfold sRaiseA at k;refine ZU (T0:=[]) hl fr ?_;cases ea:m E with
 |z=>rw[ea]at k;exact k|exc x E1=>rw[ea]at k;exact λH' g=>k O H' g
 |ok p =>
  obtain⟨rs,E1⟩:=p;rw[ea]at k;intro vs H1 hv g;have rp:=Got.reps hv g;dsimp only at k;cases ef:Ze (rs.map R.d)with
  |none=>rw[ef]at k;exact k.elim
  |some ns =>
   rw[ef]at k;dsimp only at k;split at k
   ·rename_i hc
    simp only[Bool.and_eq_true,beq_iff_eq,all_eq_true,decide_eq_true_eq]at hc;refine⟨ns,YU ef rp,hc.1,hc.2,λd hd=>k O _ ?_⟩;have g0:=g.dropAll;exact g0.more (T:=[]) (g0.frame.grow hd) (Step.grow hd)
   ·exact k.elim
def zAu(c:Str):(yt c).length<=2:=by
 unfold yt;split
 ·exact le_refl 2
 ·split
  ·exact le_succ 1
  ·exact zero_le 2
def Gd{vs:List V}{us:List Value}(r:zn vs us):us.length=vs.length:=r.length.symm
def zAv{c:Str}{e:Expr}{es:List Expr}{ta:TA}{np cpos pos:Pos}(hc:X.calm=true)(hr:RoomN 3 X.A)(hg:Gl X c)(R:RIok X.prog X.w X.K X.mg X.base c)(hd:(c==("__debug__":Str))=false)(ha:PA X (e::es) ta)(he:zW e=false)(hpl:yM es=true) :
  PS X (.Raise (some (.Call (.Name c np) (e::es) [] cpos)) none pos) (zAt X c ta):=by
 intro pins s O H D I h;obtain⟨C,f,fd,hm,hk,hx,hft,hb,F⟩:=R;have hh:=I.ok.hd hc;obtain⟨bm,N,nm,qn,bs,hdct,sn,sub,ab,col,dd,k0,k1,k2,k3,k5,mN,hC,hN,hi,T⟩:=zD9 I.ok.mod.kin hx;have hfl:∃of,X.K.lookup f=some of/\of.cls=.type "function":=by
  unfold typeIn at hft;cases q:X.K.lookup f with
  |none=>simp[q]at hft|some o=>exact⟨o,rfl,by simpa[q]using hft⟩
 obtain⟨of,hf1,hf2⟩:=hfl;rw[arm_exec_Raise];refine qB (wpAny_standAt (raise_x (C:=C) (nm:=nm) (q:=qn) (N:=N) (bs:=bs) (bm:=bm) (hdct:=hdct) (sn:=sn) (sub:=sub) (ab:=ab) (col:=col) (dd:=dd) (k0:=k0) (k1:=k1) (k2:=k2) (k3:=k3) (k5:=k5) (newId:="ValueError.__new__") (T.hasType (by decide +kernel)) hh ?_));refine qB (wpAny_mono (Q:=λv s₁=>∃e t od sl,v=.ref e/\s₁.heap.get? C=some (excClassObj nm qn C N bs bm hdct sn sub ab col dd k0 k1 k2 k3 k5 "ValueError.__new__") /\
   s₁.heap.get? e=some ⟨.ref C,od,.fields #[.ref t,.none,.none,.none,.bool false,.none],sl⟩/\X.xe (.ref e) s₁) ?_ (λv s3 h3=>qB (wpAny_standAt (qC h3))) λ_ _ z=>z)
 refine wpAny_Call_Name_kw (YI I hg hm ?_ hd);refine callWith_K (h₀:=X.base) I.ok.mod.kin hk (thn (ha cpos pins s O H _ I h) λus s1 ⟨vs,H1,I1,r,ns,ev,hln,hsm,q⟩=>⟨I1.kIn,?_⟩) (zJ he) (y9 hpl);subst ev;have hul:us.length<=sizeLine:=by
  rw[Gd r,length_map,hln];exact le_trans (zAu c) (by decide +kernel)
 obtain⟨hp,g,dr,tk,os⟩:=s1;have kp:∀b o,hp.get? b=some o->(zAK hp C us).get? b=some o:=λb o e=>qA _ (qA _ e)
 have hget:(zAK hp C us).get? (hp.objs.size+1)=some {cls:=.ref C,data:=.fields #[.ref hp.objs.size,.none,.none,.none,.bool false,.none]}:=by heap_get
 have I2:Inv X pins O (upd H1 (hp.objs.size+1) (XO C (hp.objs.size+1) none)) ⟨zAK hp C us,g,dr,tk,os⟩ :=
  I1.laid (t':=tk) kp (le_succ _) (Wy (P:=X.prog) (w:=X.w) hget rfl rfl rfl)
 have bk:=λ(b:Addr) (o:Obj) (z:X.base.get? b=some o)=>I1.bk b o z
 refine make_x (A:=X.A) (T.keeps bk) (bk _ _ hC) (hN.keeps bk) hi (I1.kIn _ _ hf1) hf2 hul ?_;have r2:zn (V.ref (hp.objs.size+1)::ns.map V.int) (Value.ref (hp.objs.size+1)::us):=.cons rfl r;have hl2:(Value.ref (hp.objs.size+1)::us++[]).length=(("self":Str)::yt c).length:=by
  rw[append_nil,length_cons,length_cons,Gd r,length_map,hln]
 have hbd:=hb ⟨zAK hp C us,g,dr,tk,os⟩ (Value.ref (hp.objs.size+1)::us) I2.kIn hl2;rw[append_nil]at hbd;have hR2:Room 2 (X.A.under (.builtin "type.__call__" ⟨.ref C::us,[]⟩)):=(hr.room hh).make C us [];refine codeAny_mono (F.run _ X.stack _ _ ⟨Value.ref (hp.objs.size+1)::us,[]⟩ (Value.ref (hp.objs.size+1)::us) _ (λv H3=>v=.non/\∃d,upd H1 (hp.objs.size+1) (XO C (hp.objs.size+1) none) d=none/\H3=upd (upd (upd H1 (hp.objs.size+1) (XO C (hp.objs.size+1) none)) d (XD d (fsV c ns))) (hp.objs.size+1) (XO C (hp.objs.size+1) (some d))) (λ_ _ _=>False) (λ_=>hR2.hd) (GN hR2) (I2.env0.make C us []) hbd r2 ⟨_,ns,rfl,hln,hsm,zU,λd hd=>⟨rfl,d,hd,rfl⟩⟩) λres s3 hq=>?_
 cases res with
 |error e=>obtain⟨_,_,_,_,_,_,_,_,_,_,_,_,z⟩:=hq;exact z.elim
 |ok fl =>
  cases fl with
  |ret u =>
   obtain⟨v,H3,os3,bare3,un3,hok3,rv,rfl,d,hd,e3⟩:=hq;have hda:d≠hp.objs.size+1:=λz=>by rw[z,zU]at hd;cases hd
   rw[zH hda]at hd;obtain⟨J,md⟩:=hide_x (a:=hp.objs.size+1) I1 rfl os3 bare3 un3 hok3 hd e3 hda;have kpm:∀b o,(hideAll s3.heap [hp.objs.size+1]).get? b=some o->s3.heap.get? b=some o:=λb o z=>of_hideAll _ z
   have J3:Inv X pins O (upd H1 d (XD d (fsV c ns))) s3:=J.kept (h':=s3.heap) (t':=s3.toks) kpm;obtain⟨⟨o,t,q1,q2,q3,q4⟩,_⟩:=(show yJ X.prog X.w H3 s3.heap (hp.objs.size+1) (XO C (hp.objs.size+1) (some d))from hok3 _ _ (by rw[e3,zU]));obtain⟨oc,od,odt,osl⟩:=o;cases q2;cases q4;refine⟨rv,_,t,od,osl,rfl,J3.bk _ _ hC,q1,q d hd pins s3 _ J3 ⟨_,C,some d,rfl,hm,?_,.inr ⟨d,rfl,zU⟩,.inl ⟨rfl,_,J,rfl,md⟩⟩⟩;rw[zH (Ne.symm hda)];exact I1.hok.fresh (le_succ _)
  |next=>exact False.elim hq|brk=>exact False.elim hq|cont=>exact False.elim hq
def zAw{c:Str}{e:Expr}{es:List Expr}{m:MA}{np cpos pos:Pos}(hc:X.calm=true)(hr:RoomN 3 X.A)(hg:Gl X c)(R:RIok X.prog X.w X.K X.mg X.base c)(hd:(c==("__debug__":Str))=false)(ha:AOk X (e::es) m)(he:zW e=false)(hpl:yM es=true) :
  SOk X (.Raise (some (.Call (.Name c np) (e::es) [] cpos)) none pos) (sRaiseA c m):=wM (zAv hc hr hg R hd ha he hpl) λD O H=>QP
end
end DV
namespace DV
open PySem L2 PyProof.Rows
open PySem.W (Looks)
section
variable{prog:Program}{w:World}{A:Around}{E:Value->Shared->Prop}{h:Heap}{g:Array GenState}{d:Drawn}{tk:Nat}{os:OsState}
variable{nm q:Str}{C N a t:Addr}{bs bm:List Value}{hdct:Bool}{sn:List Str}{sub:List Value}{ab:Bool}{col:Option Bool}{dd:Option Addr}{k0 k1 k2 k3 k5:Option Value}{oe:Obj}{v:Value}
def bx_init{Q:Value->Shared->Prop}(T:OwnTail h VB bm)(hC:h.get? C=some (excClassObj nm q C N bs bm hdct sn sub ab col dd k0 k1 k2 k3 k5 "ValueError.__new__"))(he:h.get? a=some oe)(hcls:oe.cls=.ref C)(hdt:oe.data=.fields #[.ref t,.none,.none,.none,.bool false,.none])
  (hq:∀h' t',(∀b o,b≠a->h.get? b=some o->h'.get? b=some o)->h'.get? a=some {oe with data:=.fields #[.ref t',.none,.none,.none,.bool false,.none]}->Q .none ⟨h',g,d,tk,os⟩) :
  wpAny (model prog w) A (call (.builtin "ValueError.__init__") [.ref a,v]) Q E ⟨h,g,d,tk,os⟩:=by
 have F:=PySem.F.excBase_ValueError;refine wpAny_call (codeAny_call_builtin F.init.plain F.initEntry (wpAny_check_init_subT F T hC he hcls ?_));have he1:(h.push {cls:=.type "tuple",data:=.seq [v].toArray}).get? a=some oe:=qA _ he;unfold Builtin.«BaseException.__init__»;refine qB (m:=newTuple [v]) (wpAny_newTuple ?_);refine qB ?_;unfold Builtin.BaseException.bexcPut;refine qB (wpAny_field he1 hdt (x:=.ref t) rfl ?_);refine qB (wpAny_setField he1 hdt (show 0<6 by decide) ?_);have hf:(Obj.mapFields (·.setIfInBounds 0 (.ref h.objs.size)) oe)={oe with data:=.fields #[.ref h.objs.size,.none,.none,.none,.bool false,.none]}:=by
  obtain⟨c,dd,dt,sl⟩:=oe;cases hdt;rfl
 have fin:Q .none ⟨(h.push {cls:=.type "tuple",data:=.seq [v].toArray}).update a (Obj.mapFields (·.setIfInBounds 0 (.ref h.objs.size))),g,d,tk,os⟩:=by
  refine hq _ h.objs.size (λb o hb e=>(Heap.get?_update_other _ _ (Ne.symm hb)).trans (qA _ e)) ?_;rw[<- hf];exact Heap.get?_update_self _ he1 (Obj.isFreed_of_fields (Obj.data_mapFields hdt _))
 show wpAny _ _ (letGo [.ref t]) _ _ _
 unfold letGo
 refine qB (wpAny_holding (wpAny_point ?_));exact qC (qC fin)
def meth_x{env:Env}{o:Expr}{name:Str}{apos pos:Pos}{args:List Expr}{s:Shared}{Q:Value->Shared->Prop}(hbase:attributeBase o name env (eval o env)=eval o env)
  (hfew:((backTo pos (starEach args env)).all (λx=>!x.1)&&(backToKw pos (keywordEach [] env)).all (λx=>x.1.isSome)&&decide (args.length+([]:List Keyword).length+(if([]:List Keyword).isEmpty then 0 else 1)<30))=true) (hline:(apos.endLine==pos.line)=true)
  (h:wpAny (model prog w) A (eval o env) (λov s₁=>∀pl,wpAny (model prog w) A (getMethod ov name pl) (λfx s₂=>wpAny (model prog w) A (callWith pos fx.1 fx.2 (backTo pos (starEach args env)) []) Q E s₂) E s₁) E s) :
  wpAny (model prog w) A (eval (.Call (.Attribute o name apos) args [] pos) env) Q E s:=by
 rw[arm_eval_Call,hbase];refine qB (wpAny_mono h (λov s₁ h₁=>?_) λ_ _ e=>e);refine qB (wpAny_standAt ?_);have hform:methodCallForm (args.length+([]:List Keyword).length) (backTo pos (starEach args env)) (backToKw pos (keywordEach [] env))=true:=hfew;have hpos:methodCallPos true o env apos pos=pure pos:=by unfold methodCallPos;simp[hline]
 unfold methodCall;rw[hform];refine qB (wpAny_holding (wpAny_mono (h₁ _) (λfx s₂ h₂=>?_) λ_ _ e=>e));exact qB (wpAny_of_eq hpos h₂)
end
structure TGet(K:qH)(T:Addr):Prop where
 rd:readsIn K T (.type "type")=true
 sp:specialIn K (.ref T) "__getattribute__"=some (some (.builtin "type.__getattribute__"))
 fc:findCls K (.ref T) (.type "type") "__init__"=some (.val (.builtin "ValueError.__init__"))
section
variable{X:Cx}{O:L2.St}{H:Hp}
def Ge(N:List Str):Expr->Bool
 | .FormattedValue (.Name x _) c none _=>c == -1&&N.contains x| .Constant (.str y) _ _=>decide (y.length<=1000)|_=>false
theorem Gf{N:List Str}(hv:∀x∈N,∃i,∀p,PE X (.Name x p) (Z5 i)/\∃n:Int,O[i]?=some (some (.int n))/\n.natAbs.log2<1920):∀(vs:List Expr) (acc:Str) (k:Nat) (pins:List (Addr×Obj)) (s:Shared) (Q:Str->Shared->Prop),vs.all (Ge N)=true->Inv X pins O H s->acc.length<=2000*k->k+vs.length<=100 ->
  (∀out s',Inv X pins O H s'->out.length<=200000->Q out s')->Joins (model X.prog X.w) X.A X.xe (evalEach vs X.env) acc Q s
 | [],acc,k,pins,s,Q,_,I,hl,hk,hq=>hq acc s I (by simp at hk;omega)
 |v::vs,acc,k,pins,s,Q,hp,I,hl,hk,hq=>by
  simp only[all_cons,Bool.and_eq_true]at hp;obtain⟨h1,h2⟩:=hp;simp only[length_cons]at hk;have sz:(200000:Nat)<=sizeLine:=by decide +kernel
  have go:∀(y:Str) (t:Tok) (s1:Shared),Inv X pins O H s1->y.length<=2000->∃y' t',Value.str y t=.str y' t'/\(acc++y').length<=sizeLine/\Joins (model X.prog X.w) X.A X.xe (evalEach vs X.env) (acc++y') Q s1:=λy t s1 I1 hy=>by
   have e:(acc++y).length=acc.length+y.length:=strLen_append acc y;refine⟨y,t,rfl,by rw[e];omega,Gf hv vs (acc++y) (k+1) pins s1 Q h2 I1 (by rw[e];omega) (by omega) hq⟩
  show wpAny _ _ (eval v X.env) _ _ s
  unfold Ge at h1;split at h1
  ·rename_i x p c p'
   simp only[Bool.and_eq_true,beq_iff_eq]at h1;obtain⟨rfl,hx⟩:=h1;obtain⟨i,hi⟩:=hv x (by simpa using hx);obtain⟨pe,n,hn,hz⟩:=hi p;refine wpAny_FormattedValue_plain (thn (pe pins s O H (λz H1=>z=.int n/\H1=H) I ⟨_,hn,rfl,rfl⟩) λu s1 ⟨z,H1,I1,rz,e1,e2⟩=>?_);subst e1 e2;obtain⟨tk,rfl⟩:=rz;refine wpAny_formatField_int hz (go _ _ _ (I1.tok _) ?_);have:=int_text_length_le (k:=1920) (by decide) hz;have e:(Str.ofString (toString n)).length=(toString n).length:=PySem.ofString_length _;rw[e];omega
  ·rename_i y k' p
   exact thn (zDe (X:=X) (x:=y) pins s O H (λz H1=>z=.str y/\H1=H) I ⟨rfl,rfl⟩) λu s1 ⟨z,H1,I1,rz,e1,e2⟩=>by
    subst e1 e2;obtain⟨tk,rfl⟩:=rz;exact go _ _ _ I1 (by have:=of_decide_eq_true h1;omega)
  ·cases h1
end
section
variable{X:Cx}{C T:Addr}
def upd_id{H:Hp}{a:Addr}{o:HO}(h:H a=some o):upd H a o=H:=by
 funext b;unfold upd;split
 ·rename_i e;rw[e,h]
 ·rfl
def Nums(X:Cx)(O:L2.St)(ns:List Str):Prop:=∀x∈ns,∃i,∀p,PE X (.Name x p) (Z5 i)/\∃n:Int,O[i]?=some (some (.int n))/\n.natAbs.log2<1920
def pe_init{f:Addr}{ns:List Str}{v1 v2:Expr}{jW:List Expr}{p1 p2 p3 ap cp:Pos}(hx:uV X.K C f=true)(hg:Gl X "ThrowError")(hm:X.mg "ThrowError"=some (.ref T))(hT:TGet X.K T)(hself:∀p,PE X (.Name "self" p) (Z5 0))(hp:(v1::v2::jW).all (Ge ns)=true)(hlen:(v1::v2::jW).length<=50)(hline:(ap.endLine==cp.line)=true) :
  PE X (.Call (.Attribute (.Name "ThrowError" p1) "__init__" ap) [.Name "self" p2,.JoinedStr (v1::v2::jW) p3] [] cp) (λO H Q=>∃a,O[0]?=some (some (.ref a))/\H a=some (XO C a none)/\Nums X O ns/\Q .non H):=by
 intro pins s O H Q I ⟨a,h0,ha,hv,q⟩;obtain⟨bm,N,nm,qn,bs,hdct,sn,sub,ab,col,dd,k0,k1,k2,k3,k5,mN,hC,hN,hi,TT⟩:=zD9 I.ok.mod.kin hx;refine meth_x rfl rfl hline ?_;refine YI I hg hm (λpl=>?_) (by decide);refine PySem.W.method_cls I.kIn hT.sp (PySem.W.cls_value I.kIn hT.rd hT.fc rfl ?_);refine Calls.callWith_builtin rfl ?_;have I0:Inv X pins O H {s with toks:=s.toks+1}:=I.tok _
 refine Calls.evalArgs_plain (Calls.spliced_cons (thn (hself p2 pins _ O H (λz H1=>z=.ref a/\H1=H) I0 ⟨_,h0,rfl,rfl⟩) λu s1 ⟨z,H1,I1,rz,e1,e2⟩=>?_));subst e1 e2;obtain rfl:u=Value.ref a:=rz;refine Calls.spliced_cons (wpAny_JoinedStr (pos:=p3) (Gf hv (v1::v2::jW) Str.empty 0 pins s1 _ hp I1 (zero_le _) (by omega) λout s2 I2 ho=>?_));refine⟨le_trans ho (by decide +kernel),?_⟩;refine Calls.spliced_nil ?_;obtain⟨hp2,g,d,tk,os⟩:=s2;obtain⟨⟨oe,t,he,hcls,hdict,hdt⟩,_⟩:=(show yJ X.prog X.w H1 hp2 a (XO C a none)from I2.hok a _ ha);have bk:=λ(b:Addr) (o:Obj) (z:X.base.get? b=some o)=>I2.bk b o z
 refine bx_init (TT.keeps bk) (bk _ _ hC) he hcls hdt λh' t' hk hn=>?_
 have J:=I2.write (t':=tk+1) (x:=a) (e:=a) (o:=XO C a none) (h':=h') (by rw[ha];trivial) (.inl rfl) (λb u hb e=>hk b u hb e) ⟨_,hn⟩ (Wy (P:=X.prog) (w:=X.w) hn hcls hdict rfl);rw[upd_id ha]at J;exact⟨.non,H1,J,rfl,q⟩
def xd_one{P:Program}{w:World}{H:Hp}{h:Heap}{d:Addr}{nm:Str}{v:V}{u:Value}(hn:h.Ns1 d (λy=>if y=nm then some u else none))(r:z9 v u):yJ P w H h d (XD d [(nm,v)]):=by
 obtain⟨o,es,ep,e,rr⟩:=id hn;refine⟨⟨_,hn,λf=>?_⟩,⟨o,e⟩,λh1 h2 ⟨mA,⟨o1,es1,ep1,e1,r1⟩,hf⟩ k=>⟨mA,⟨o1,es1,ep1,k _ e1,r1⟩,hf⟩⟩;by_cases hb:f=nm
 ·subst hb;simp[lookup,RelO,r]
 ·have:(f==nm)=false:=by simpa using hb
  simp[lookup,this,hb,RelO]
def QR{fs:List (Str×V)}{nm f:Str}{v:V}(h:fs.lookup nm=none):(fs++[(nm,v)]).lookup f=if f=nm then some v else fs.lookup f:=by
 induction fs with
 |nil =>
  by_cases hb:f=nm
  ·simp[lookup,hb]
  ·have:(f==nm)=false:=by simpa using hb
   simp[lookup,hb,this]
 |cons p fs ih =>
  obtain⟨k,x⟩:=p;simp only[lookup]at h;split at h
  ·cases h
  ·rename_i hk
   simp only[cons_append,lookup];by_cases hf:f==k
   ·have hf':f=k:=by simpa using hf
    subst hf';have:f≠nm:=λz=>by subst z;simp at hk
    simp[this]
   ·have hf':(f==k)=false:=by simpa using hf
    simp only[hf'];exact ih h
def xd_more{P:Program}{w:World}{H:Hp}{h:Heap}{d:Addr}{nm:Str}{v:V}{u:Value}{fs:List (Str×V)}{mA:Str->Option Value}(hm:∀f,RelO (fs.lookup f) (mA f))(hl:fs.lookup nm=none)(hn:h.Ns1 d (λy=>if y=nm then some u else mA y))(r:z9 v u):yJ P w H h d (XD d (fs++[(nm,v)])):=by
 obtain⟨o,es,ep,e,rr⟩:=id hn;refine⟨⟨_,hn,λf=>?_⟩,⟨o,e⟩,λh1 h2 ⟨mA,⟨o1,es1,ep1,e1,r1⟩,hf⟩ k=>⟨mA,⟨o1,es1,ep1,k _ e1,r1⟩,hf⟩⟩;rw[QR hl];by_cases hb:f=nm
 ·simp only[hb,if_true];exact r
 ·simp only[hb,if_false];exact hm f
theorem WV:∀{fs:List (Str×V)} {f:Str},fs.lookup f≠none->f∈fs.map (·.1)
 | [],f,h=>absurd rfl h
 | (k,x)::fs,f,h=>by
  by_cases hk:f=k
  ·simp[hk]
  ·have:(f==k)=false:=by simpa using hk
   simp only[lookup,this]at h;exact qD _ (WV h)
def ps_attr{i:Nat}{nm:Str}{q1 q2 q3 q4:Pos}(S:XSet X.K C T)(hna:findIn X.K (.ref C) nm=some none)(hself:∀p,PE X (.Name "self" p) (Z5 0))(hv:∀p,PE X (.Name nm p) (Z5 i)) :
  PS X (.Assign [.Attribute (.Name "self" q1) nm q2] (.Name nm q3) q4) (λD O H=>∃a n,O[0]?=some (some (.ref a))/\O[i]?=some (some (.int n)) /\
   ((H a=some (XO C a none)/\∀d,H d=none->D.nx O (upd (upd H d (XD d [(nm,.int n)])) a (XO C a (some d)))) \/
    ∃d fs,H a=some (XO C a (some d))/\H d=some (XD d fs)/\fs.length<=50/\fs.lookup nm=none/\D.nx O (upd H d (XD d (fs++[(nm,.int n)]))))):=by
 intro pins s O H D I ⟨a,n,h0,h1,h⟩;refine plainObj_wpAny_Assign_Attribute (thn (hv q3 pins s O H (λz H1=>z=.int n/\H1=H) I ⟨_,h1,rfl,rfl⟩) λu s1 ⟨z,H1,I1,rz,e1,e2⟩=>?_) rfl;subst e1 e2;refine thn (hself q1 pins s1 O H1 (λz H2=>z=.ref a/\H2=H1) I1 ⟨_,h0,rfl,rfl⟩) λov s2 ⟨z,H2,I2,ro,e1,e2⟩=>?_
 subst e1 e2;obtain rfl:ov=Value.ref a:=ro;obtain⟨hp,g,dr,tk,os⟩:=s2;rcases h with⟨ha,q⟩|⟨d,fs,ha,hd,hl,hk,q⟩
 ·obtain⟨⟨oe,t,he,hcls,hdict,hdt⟩,_⟩:=(show yJ X.prog X.w H2 hp a (XO C a none)from I2.hok a _ ha)
  refine zAJ S hna I2.kIn he hcls hdt ⟨λ_ h' tk' k1 k2 k3=>?_,λdx z=>by rw[hdict]at z;cases z⟩;have hda:hp.objs.size≠a:=Nat.ne_of_gt (lt_size he);have hfr:H2 hp.objs.size=none:=I2.hok.fresh (le_refl _);have w1:HOk X.prog X.w (upd H2 a (XO C a (some hp.objs.size))) h':=I2.hok.write (e:=a) (by rw[ha];trivial) (.inl rfl) (λb u hb e=>k1 b u hb e) ⟨_,k3⟩ (Wy (P:=X.prog) (w:=X.w) k3 hcls rfl hdt);have e0:upd (upd H2 hp.objs.size (XD hp.objs.size [(nm,.int n)])) a (XO C a (some hp.objs.size))=upd (upd H2 a (XO C a (some hp.objs.size))) hp.objs.size (XD hp.objs.size [(nm,.int n)]):=by
   funext b
   by_cases hb:b=a
   ·subst hb;rw[zU,zH (Ne.symm hda),zU]
   ·rw[zH hb]
    by_cases hb2:b=hp.objs.size
    ·subst hb2;rw[zU,zU]
    ·rw[zH hb2,zH hb2,zH hb]
  have hf1:upd H2 a (XO C a (some hp.objs.size)) hp.objs.size=none:=by rw[zH hda];exact hfr
  have w2:HOk X.prog X.w (upd (upd H2 a (XO C a (some hp.objs.size))) hp.objs.size (XD hp.objs.size [(nm,.int n)])) h':=λb o e=>by
   by_cases hb:b=hp.objs.size
   ·subst hb;rw[zU]at e;cases e
    exact xd_one k2 rz
   ·rw[zH hb]at e
    refine(w1 b o e).stay (λ_ _ _ z=>z) (λc z=>?_) λc xs z=>?_
    ·rw[zH (yR z hf1)];exact z
    ·rw[zH (yR z hf1)];exact z
  have ne1:∀b o,hp.get? b=some o->b≠hp.objs.size:=λb o e=>ne_of_lt (lt_size e)
  have ne2:∀b,H2 b=none->b≠a:=λb n z=>by subst z;rw[ha]at n;cases n
  have nt:∀{b:Addr} {o:HO},H2 b=some o->¬Mut (some o)->upd (upd H2 a (XO C a (some hp.objs.size))) hp.objs.size (XD hp.objs.size [(nm,.int n)]) b=some o:=λ{b o} e nm=>by
   rw[zH (yR e hfr),zH (λz=>nm (by subst z;rw[ha]at e;cases e;trivial))];exact e
  have un:Un X.fs [] H2 (upd (upd H2 a (XO C a (some hp.objs.size))) hp.objs.size (XD hp.objs.size [(nm,.int n)])) hp h':=by
   refine⟨λb o e n _ _=>k1 b o (ne2 b n) e,λb o e n _ _=>⟨o.slots,k1 b o (ne2 b n) e⟩,λb o e n _=>by rw[zH (ne1 b o e),zH (ne2 b n)];exact n,λb o e _=>?_,λb xs e=>nt e λz=>z,λb o u e=>nt e λz=>z,λb ps e=>⟨#[],by rw[nt e λz=>z];simp⟩⟩;by_cases hb:b=a
   ·subst hb;exact⟨_,k3⟩
   ·exact⟨o,k1 b o hb e⟩
  have J:=I2.un (t':=tk') un w2;rw[<- e0]at J;exact⟨O,_,J,q _ hfr⟩
 ·obtain⟨⟨oe,t,he,hcls,hdict,hdt⟩,_⟩:=(show yJ X.prog X.w H2 hp a (XO C a (some d))from I2.hok a _ ha)
  obtain⟨⟨mA,hn,hm⟩,_⟩:=(show yJ X.prog X.w H2 hp d (XD d fs)from I2.hok d _ hd);refine zAJ S hna I2.kIn he hcls hdt ⟨λz=>(by rw[hdict]at z;cases z),λdx z=>?_⟩;rw[hdict]at z;cases z;refine⟨mA,fs.map (·.1),hn,λy hy=>WV λz=>?_,by rw[length_map];omega,λh' tk' k1 k2=>?_⟩
  ·have:=hm y
   rw[z]at this;cases e:mA y with
   |none=>exact hy e|some u=>rw[e]at this;exact this
  ·obtain⟨o,es,ep,e,_⟩:=id k2
   exact⟨O,_,I2.write (t':=tk') (x:=d) (e:=d) (by rw[hd];trivial) (.inl rfl) (λb u hb e=>k1 b u hb e) ⟨_,e⟩ (xd_more hm hk k2 rz),q⟩
end
def zCz(as:List Str):Stmt->Bool
 | .Expr (.Call (.Attribute (.Name t _) i ap) [.Name s _,.JoinedStr (v1::v2::jW) _] [] cp) _=>t == "ThrowError"&&i == "__init__"&&s == "self"&&ap.endLine==cp.line&&(v1::v2::jW).all (Ge as)&&decide ((v1::v2::jW).length<=50)|_=>false
def zAx(n:Str):Stmt->Bool
 | .Assign [.Attribute (.Name s _) a _] (.Name b _) _=>s == "self"&&a==n&&b==n|_=>false
def bodyI:List Str->List Stmt->Bool
 | [n],[s0,s1]=>zCz [n] s0&&zAx n s1| [n,m],[s0,s1,s2]=>zCz [n,m] s0&&zAx n s1&&zAx m s2&&n != m|_,_=>false
def zEA(as:List Str)(sc:Scope)(body:List Stmt):Bool:=bodyI as body&&sc.names.lookup ("ThrowError":Str)==some NameKind.globalImplicit&&(("self":Str)::as).all λx=>sc.names.lookup x==some NameKind.local&&!(x==("__debug__":Str))&&!(x==("__classdict__":Str))
structure RiAt(K:qH)(mg:Str->Option Value)(c:Str)(st:Stmt):Prop where
 ex:∃C T f fd qual,mg c=some (.ref C)/\mg "ThrowError"=some (.ref T)/\keepIn K (.ref C)=true/\uV K C f=true/\typeIn K (.ref f)=some (.type "function")/\Fun K "__init__" qual st f fd/\Jj K fd ("self"::yt c) []/\TGet K T/\XSet K C T/\∀n∈yt c,findIn K (.ref C) n=some none
section
variable{X:Cx}{C T:Addr}
def zAy{f:Addr}{as:List Str}{st:Stmt}(h:zCz as st=true)(hx:uV X.K C f=true)(hg:Gl X "ThrowError")(hm:X.mg "ThrowError"=some (.ref T))(hT:TGet X.K T)(hself:∀p,PE X (.Name "self" p) (Z5 0)) :
  PS X st (λD O H=>∃a,O[0]?=some (some (.ref a))/\H a=some (XO C a none)/\Nums X O as/\D.nx O H):=by
 unfold zCz at h;split at h
 ·simp only[Bool.and_eq_true,beq_iff_eq,decide_eq_true_eq]at h
  obtain⟨⟨⟨⟨⟨rfl,rfl⟩,rfl⟩,h4⟩,h5⟩,h6⟩:=h;exact wM (Qo (pe_init hx hg hm hT hself h5 h6 (by simpa using h4))) λD O H q=>q
 ·cases h
def st_at{i:Nat}{n:Str}{st:Stmt}(h:zAx n st=true)(S:XSet X.K C T)(hna:findIn X.K (.ref C) n=some none)(hself:∀p,PE X (.Name "self" p) (Z5 0))(hv:∀p,PE X (.Name n p) (Z5 i)) :
  PS X st (λD O H=>∃a k,O[0]?=some (some (.ref a))/\O[i]?=some (some (.int k)) /\
   ((H a=some (XO C a none)/\∀d,H d=none->D.nx O (upd (upd H d (XD d [(n,.int k)])) a (XO C a (some d)))) \/
    ∃d fs,H a=some (XO C a (some d))/\H d=some (XD d fs)/\fs.length<=50/\fs.lookup n=none/\D.nx O (upd H d (XD d (fs++[(n,.int k)]))))):=by
 unfold zAx at h;split at h
 ·simp only[Bool.and_eq_true,beq_iff_eq]at h
  obtain⟨⟨rfl,rfl⟩,rfl⟩:=h;exact ps_attr S hna hself hv
 ·cases h
end
def ris_nil{R:Str->Prop}:∀c∈([]:List Str),R c:=λ_ h=>by cases h
def zC0{R:Str->Prop}{c:Str}{cs:List Str}(h:R c)(t:∀c∈cs,R c):∀d∈c::cs,R d:=λd hd=>by
 rcases mem_cons.mp hd with rfl|hd
 ·exact h
 ·exact t d hd
def ri_of{P:Program}{w:World}{K:qH}{mg:Str->Option Value}{base:Heap}{c:Str}{st:Stmt}(R:RiAt K mg c st)(S:FnScope ("self"::yt c) ("self"::yt c) (zT st))(h:zEA (yt c) (zT st) (yW st)=true):RIok P w K mg base c:=by
 obtain⟨C,T,f,fd,qual,hm,hT,hk,hx,hft,F,hb,tg,xs,hna⟩:=R.ex;refine⟨C,f,fd,hm,hk,hx,hft,hb,?_⟩;obtain⟨oc,od,kV,doc,pm,an,cdv,ct,osl,rfl,lk,hcd⟩:=F.ex;simp only[zEA,Bool.and_eq_true,beq_iff_eq,all_eq_true,Bool.not_eq_true']at h;obtain⟨⟨hbd,hgl⟩,hnm⟩:=h;refine zDn lk hcd S (λvs H Q E ⟨a,ns,e,hl,_⟩=>by rw[e];simp[hl]) λA outer s H vs Q E hd hr ⟨a,ns,ev,hl,hsm,ha,q⟩=>?_
 subst ev;have vis:∀(i:Nat) (x:Str),(("self":Str)::yt c)[i]?=some x->∀p,PE (cxN true P w K mg base ("self"::yt c) qual (zT st) f cdv A outer s H E) (.Name x p) (Z5 i):=λi x hi p=>by
  obtain⟨⟨h1,h2⟩,h3⟩:=hnm x (mem_of_getElem? hi);exact zDd hi (.inl h1) h2 h3
 have hs:=vis 0 "self" rfl;generalize eA:yt c=as at *;unfold bodyI at hbd;split at hbd
 ·rename_i n s0 s1 hbody
  simp only[Bool.and_eq_true]at hbd;obtain⟨b0,b1⟩:=hbd;obtain⟨k,rfl⟩:∃k,ns=[k]:=by
   match ns,hl with
   | [k],_=>exact⟨k,rfl⟩
  rw[hbody];have hv1:=vis 1 n rfl;refine⟨_,Y6 (zAy (T:=T) b0 hx hgl hT tg hs) (uX (st_at (i:=1) b1 xs (hna n (by simp)) hs hv1)),?_⟩;refine⟨a,rfl,ha,λx hx'=>?_,a,k,rfl,rfl,.inl ⟨ha,λd hd=>?_⟩⟩
  ·rw[mem_singleton.mp hx'];exact⟨1,λp=>⟨hv1 p,k,rfl,hsm k (by simp)⟩⟩
  ·have:=q d hd
   unfold fsV at this;rw[eA]at this;exact this
 ·rename_i n m s0 s1 s2 hbody
  simp only[Bool.and_eq_true,bne_iff_ne,ne_eq]at hbd;obtain⟨⟨⟨b0,b1⟩,b2⟩,b3⟩:=hbd;obtain⟨k,l,rfl⟩:∃k l,ns=[k,l]:=by
   match ns,hl with
   | [k,l],_=>exact⟨k,l,rfl⟩
  rw[hbody];have hv1:=vis 1 n rfl;have hv2:=vis 2 m rfl;refine⟨_,Y6 (zAy (T:=T) b0 hx hgl hT tg hs) (Y6 (st_at (i:=1) b1 xs (hna n (by simp)) hs hv1) (uX (st_at (i:=2) b2 xs (hna m (by simp)) hs hv2))),?_⟩;refine⟨a,rfl,ha,λx hx'=>?_,a,k,rfl,rfl,.inl ⟨ha,λd hd=>⟨a,l,rfl,rfl,.inr ⟨d,[(n,.int k)],zU,?_,by simp,?_,?_⟩⟩⟩⟩
  ·rcases mem_cons.mp hx' with rfl|hx'
   ·exact⟨1,λp=>⟨hv1 p,k,rfl,hsm k (by simp)⟩⟩
   ·rw[mem_singleton.mp hx'];exact⟨2,λp=>⟨hv2 p,l,rfl,hsm l (by simp)⟩⟩
  ·have hda:d≠a:=λz=>by subst z;rw[ha]at hd;cases hd
   rw[zH hda,zU]
  ·have:(m==n)=false:=by simpa using λz:m=n=>b3 z.symm
   simp[lookup,this]
  ·have:=q d hd
   unfold fsV at this;rw[eA]at this;have hda:d≠a:=λz=>by subst z;rw[ha]at hd;cases hd
   have e:upd (upd (upd H d (XD d [(n,.int k)])) a (XO C a (some d))) d (XD d ([(n,V.int k)]++[(m,V.int l)]))=upd (upd H d (XD d ([n,m].zip ([k,l].map V.int)))) a (XO C a (some d)):=by
    funext b
    by_cases hb:b=a
    ·subst hb;rw[zH (Ne.symm hda),zU,zU]
    ·by_cases hb2:b=d
     ·subst hb2;rw[zU,zH hda,zU];rfl
     ·rw[zH hb2,zH hb,zH hb2,zH hb,zH hb2]
   rw[e];exact this
 ·cases hbd
def RAok(K:qH)(mg:Str->Option Value)(c:Str):Prop:=∃C T,mg c=some (.ref C)/\mg "ThrowError"=some (.ref T)/\XSet K C T/\∀n∈yt c,findIn K (.ref C) n=some none
def ra_of{K:qH}{mg:Str->Option Value}{c:Str}{st:Stmt}(R:RiAt K mg c st):RAok K mg c:=by
 obtain⟨C,T,f,fd,qual,hm,hT,hk,hx,hft,F,hb,tg,xs,hna⟩:=R.ex;exact⟨C,T,hm,hT,xs,hna⟩
def eAtr(ri:List Str)(f:Str)(m:ME):ME:=λE=>match m E with
 | .z=>.z| .exc x E1=>.exc x E1
 | .ok (.v (.exn c vs),E1)=>if ri.contains c=true then(match((yt c).zip vs).lookup f with
  |some n=>.ok (.v (.int n),E1)|none=>.z)else .z
 |_=>.z
theorem WW:∀(as:List Str) (vs:List Int) (f:Str),(as.zip (vs.map V.int)).lookup f=((as.zip vs).lookup f).map V.int
 | [],_,_=>rfl|a::as,[],_=>rfl
 |a::as,v::vs,f=>by
  simp only[map_cons,zip_cons_cons,lookup];cases f==a with
  |true=>rfl|false=>exact WW as vs f
theorem vj:∀{as:List Str} {vs:List Int} {f:Str} {n:Int},(as.zip vs).lookup f=some n->f∈as
 | [],_,_,_,e=>by cases e|a::as,[],_,_,e=>by cases e
 |a::as,v::vs,f,n,e=>by
  simp only[zip_cons_cons,lookup]at e;cases h:f==a with
  |true=>simp[beq_iff_eq.mp h]|false=>rw[h]at e;exact qD _ (vj e)
section
variable{X:Cx}{O:L2.St}{H:Hp}
def pe_atr{ri:List Str}{e:Expr}{f:Str}{pos:Pos}{ta:TE}{T:Addr}(hT:X.mg "ThrowError"=some (.ref T))(hri:∀c∈ri,RAok X.K X.mg c/\∃C,X.mg c=some (.ref C)/\XCls X.K c C T)(he:PE X e ta)(hb:attributeBase e f X.env (eval e X.env)=eval e X.env) :
  PE X (.Attribute e f pos) (λO H Q=>ta O H λx H1=>∃c vs n,Rep X.K X.mg H1 (.exn c vs) x/\c∈ri/\((yt c).zip vs).lookup f=some n/\Q (.int n) H1):=by
 intro pins s O H Q I h;refine attr_of hb (thn (he pins s O H _ I h) λu s1 ⟨x,H1,I1,rx,c,vs,n,rd,hc,hl,q⟩=>?_);simp only[Rep]at rd;obtain⟨a,C,rfl,hm,hd⟩:=rd;obtain⟨⟨C1,T1,hm1,hT1,xs,hna⟩,C2,hm2,xc⟩:=hri c hc;rw[hm]at hm1 hm2;cases hm1;cases hm2;rw[hT]at hT1;cases hT1;obtain rfl:u=Value.ref a:=rx;rcases hd with⟨rfl,_⟩|⟨d,ha,hd⟩
 ·simp only[List.zip_nil_right,lookup]at hl;cases hl
 ·obtain⟨⟨o,e1,e2,e3,ws,e4⟩,_⟩:=(show yJ X.prog X.w H1 s1.heap a (ExA C d a)from I1.hok a _ ha)
  obtain⟨⟨mA,hn,hm⟩,_⟩:=(show yJ X.prog X.w H1 s1.heap d (XD d (fsV c vs))from I1.hok d _ hd);have hf:=hm f;unfold fsV at hf;rw[WW,hl]at hf;cases ev:mA f with
  |none=>rw[ev]at hf;exact hf.elim
  |some v =>
   rw[ev]at hf;obtain⟨tk,rfl⟩:=(show ∃t,v=Value.int n t from hf);exact ga_attr xc xs (hna f (vj hl)) I1.kIn e1 e2 e4 e3 hn ev rfl ⟨.int n,H1,I1.tok _,⟨_,rfl⟩,q⟩
def atr_run{ri:List Str}{f:Str}{m:ME}{Q:VK}(h:tM X (eAtr ri f m) O H Q):tM X m O H λx H1=>∃c vs n,Rep X.K X.mg H1 (.exn c vs) x/\c∈ri/\((yt c).zip vs).lookup f=some n/\Q (.int n) H1:=by
 obtain⟨M,E,hl,fr,k⟩:=h;unfold eAtr at k;refine zk (T0:=[]) hl fr ?_;cases ea:m E with
 |z=>rw[ea]at k;exact k|exc x E1=>rw[ea]at k;exact k
 |ok pr =>
  obtain⟨r,E1⟩:=pr;rw[ea]at k;cases r with
  |own ds=>exact k.elim
  |v d =>
   cases d with
   |exn c vs =>
    dsimp only at k;intro v H' g;cases hc:ri.contains c with
    |false=>rw[hc]at k;exact k.elim
    |true =>
     rw[hc]at k;cases hn:((yt c).zip vs).lookup f with
     |none=>rw[hn]at k;exact k.elim
     |some n =>
      rw[hn]at k;exact⟨c,vs,n,g.rep.mono zL,by simpa using hc,hn,k _ H' (g.flat (d:=.int n) rfl)⟩
   |_=>exact k.elim
def ok_atr{ri:List Str}{e:Expr}{f:Str}{m:ME}{pos:Pos}{T:Addr}(hT:X.mg "ThrowError"=some (.ref T))(hri:∀c∈ri,RAok X.K X.mg c/\∃C,X.mg c=some (.ref C)/\XCls X.K c C T)(he:EOk X e m)(hb:attributeBase e f X.env (eval e X.env)=eval e X.env) :
  EOk X (.Attribute e f pos) (eAtr ri f m):=zf (pe_atr hT hri he hb) λO H Q=>atr_run
end
end DV
namespace DV
open PySem L2
mutual
def pyD:D->Option PyData
 | .non=>some .none| .bl b=>some (.bool b)| .int i=>some (.int i)| .str x=>some (.str x)| .t ds=>(pyDs ds).map .tuple| .l ds=>(pyDs ds).map .list| .dic=>some (.dict [])|_=>none
def pyDs:List D->Option (List PyData)
 | []=>some []
 |d::ds=>match pyD d,pyDs ds with
  |some x,some xs=>some (x::xs)|_,_=>none
end
section
variable{X:Cx}{O:L2.St}{pins:List (Addr×Obj)}{H:Hp}{s:Shared}
def SmOk(K:qH):Prop:=∃o es n,K.lookup sysModules=some o/\o.data=.dict es n
def sm_ne(I:Inv X pins O H s)(S:SmOk X.K){a:Addr}{o:Obj}{vs:Array Value}{n:Nat}(e1:s.heap.get? a=some o)(e2:o.data=.seq vs n):sysModules≠a:=by
 obtain⟨p,es,m,q1,q2⟩:=S;intro e;have:=I.kIn _ _ q1;rw[e,e1]at this;cases this;rw[q2]at e2;cases e2
mutual
theorem Gg(I:Inv X pins O H s)(S:SmOk X.K):∀{d:D} {v:V} {u:Value} {x:PyData},Rep X.K X.mg H d v->z9 v u->pyD d=some x->∃as,Reads s.heap u x as/\sysModules∉as
 | .non,v,u,x,r,rv,e=>by cases e;rw[jC r]at rv;cases (show u=Value.none from rv);exact⟨_,.none,by simp⟩| .bl b,v,u,x,r,rv,e=>by cases e;rw[yc r]at rv;cases (show u=Value.bool b from rv);exact⟨_,.bool b,by simp⟩| .int i,v,u,x,r,rv,e=>by cases e;rw[zK r]at rv;obtain⟨t,q⟩:=(show ∃t,u=Value.int i t from rv);subst q;exact⟨_,.int i t,by simp⟩| .str y,v,u,x,r,rv,e=>by cases e;rw[ze r]at rv;obtain⟨t,q⟩:=(show ∃t,u=Value.str y t from rv);subst q;exact⟨_,.str y t,by simp⟩
 | .t ds,v,u,x,r,rv,e=>by
  obtain⟨a,xs,rfl,h1,h2⟩:=zd r;cases (show u=Value.ref a from rv);obtain⟨its,r1,p,_⟩:=I.tuple h1;obtain⟨o,e1,e2,n,e3⟩:=p;simp only[pyD]at e;cases eq:pyDs ds with
  |none=>rw[eq]at e;cases e
  |some ys =>
   rw[eq]at e;cases e;obtain⟨as,q,z⟩:=readss_of I S h2 r1 eq;exact⟨_,.tuple e1 e2 e3 (by simpa using q),z⟩
 | .l ds,v,u,x,r,rv,e=>by
  obtain⟨a,xs,rfl,h1,h2⟩:=zO r;cases (show u=Value.ref a from rv);obtain⟨its,r1,p,_⟩:=I.list h1;obtain⟨o,n,e1,e2,_,e3⟩:=p;simp only[pyD]at e;cases eq:pyDs ds with
  |none=>rw[eq]at e;cases e
  |some ys =>
   rw[eq]at e;cases e;obtain⟨as,q,z⟩:=readss_of I S h2 r1 eq;exact⟨_,.list e1 e2 e3 (by simpa using q),λhm=>(mem_cons.mp hm).elim (sm_ne I S e1 e3) z⟩
 | .fn y,v,u,x,r,rv,e=>by cases e
 | .dic,v,u,x,r,rv,e=>by
  cases e;simp only[Rep]at r;obtain⟨a,rfl,h1⟩:=r;cases (show u=Value.ref a from rv);obtain⟨_,hS,vs,kv,o,es,ep,g1,g2,g3,_,g5,_⟩:(([]:List (Key×V)).length<=sizeLine)/\(a==sysModules)=false/\∃vs,KV [] vs/\s.heap.DictOf (uW X.prog X.w) a vs:=I.hok a _ h1;cases kv;have e0:es.toList=[]:=by cases h:es.toList with|nil=>rfl|cons y ys=>rw[h]at g5;cases g5
  refine⟨_,.dict g1 g2.1 g3 (kvs:=[]) (by rw[e0];exact .nil) (by rw[e0];exact .nil),λhm=>?_⟩;rcases mem_cons.mp hm with hm|hm
  ·exact beq_eq_false_iff_ne.mp hS hm.symm
  ·cases hm
 | .exn y z,v,u,x,r,rv,e=>by cases e
theorem readss_of(I:Inv X pins O H s)(S:SmOk X.K):∀{ds:List D} {vs:List V} {us:List Value} {xs:List PyData},Reps X.K X.mg H ds vs->zn vs us->pyDs ds=some xs->∃as,ReadsAll s.heap us xs as/\sysModules∉as
 | [],vs,us,xs,r,rv,e=>by
  cases e;simp only[Reps]at r;subst r;cases rv;exact⟨_,.nil,by simp⟩
 |d::ds,vs,us,xs,r,rv,e=>by
  simp only[Reps]at r;obtain⟨v,vs',rfl,r1,r2⟩:=r;cases rv with
  |cons p q =>
   simp only[pyDs]at e;cases e1:pyD d with
   |none=>rw[e1]at e;cases e
   |some x =>
    cases e2:pyDs ds with
    |none=>rw[e1,e2]at e;cases e
    |some ys =>
     rw[e1,e2]at e;cases e;obtain⟨as,a1,z1⟩:=Gg I S r1 p e1;obtain⟨bs,a2,z2⟩:=readss_of I S r2 q e2;exact⟨_,.cons a1 a2,λhm=>(mem_append.mp hm).elim z1 z2⟩
end
def QS(d:D):Option R:=match pyD d with
 |some x=>if x.showable=true/\x.depth<=60/\x.shown.length<=cap then some (.v (.str x.shown))else none|none=>none
def QT(S:SmOk X.K)(hg:X.A.guards=some [])(hu:X.A.units+64<cLine):jp X (.builtin "repr") (λxs H Q=>∃x d r,xs=[x]/\Rep X.K X.mg H d x/\QS d=some r/\∃t,r=.v (.str t)/\Q (.str t) H):=by
 intro pins s O H xs us Q I rv h;obtain⟨x,d,r,rfl,rd,er,t,rfl,q⟩:=h;obtain⟨u,rfl,ru⟩:=rv.one;unfold QS at er;cases ep:pyD d with
 |none=>rw[ep]at er;cases er
 |some p =>
  rw[ep]at er;dsimp only at er;split at er
  ·rename_i hc
   cases er;obtain⟨as,rs,z⟩:=Gg I S rd ru ep;have fin:∀h' tk tk2,(∀b o,s.heap.get? b=some o->h'.get? b=some o)->EP X pins O Q (.str p.shown tk) {s with heap:=h',toks:=tk2}:=λh' tk tk2 hk=>⟨.str _,H,I.kept (t':=tk2) hk,⟨_,rfl⟩,q⟩
   have fin0:EP X pins O Q (.str p.shown s.toks) {s with toks:=s.toks+1}:=⟨.str _,H,I.tok _,⟨_,rfl⟩,q⟩
   cases rs with
   |none=>exact PySem.P.repr_of_none fin0|bool b=>exact PySem.P.repr_of_bool fin0
   |int i t =>
    have hi:(decide (i.natAbs.log2<1920))=true:=hc.1;exact PySem.P.repr_of_int (of_decide_eq_true hi) fin0
   |str y t=>exact PySem.P.repr_of_str fin0 (wN hc.2.2)|list h1 h2 h3 h4=>exact repr_of_reads' (.list h1 h2 h3 h4) hc.1 (λ_=>z) hg (by have:=hc.2.1;omega) (λ_ _ e=>e) (λh' u tk hk=>fin h' u tk hk) (wN hc.2.2)|tuple h1 h2 h3 h4=>exact repr_of_reads' (.tuple h1 h2 h3 h4) hc.1 (λ_=>z) hg (by have:=hc.2.1;omega) (λ_ _ e=>e) (λh' u tk hk=>fin h' u tk hk) (wN hc.2.2)|dict h1 h2 h3 h4 h5=>exact repr_of_reads' (.dict h1 h2 h3 h4 h5) hc.1 (λ_=>z) hg (by have:=hc.2.1;omega) (λ_ _ e=>e) (λh' u tk hk=>fin h' u tk hk) (wN hc.2.2)
  ·cases er
def reprG:List D->Option R
 | [d]=>QS d|_=>none
def co_repr{K:qH}{mg:Str->Option Value}:COk K mg (λxs H Q=>∃x d r,xs=[x]/\Rep K mg H d x/\QS d=some r/\∃t,r=.v (.str t)/\Q (.str t) H) reprG:=by
 intro M H Z xs ds res Q f r e k
 match ds,e with
 | [d],e =>
  simp only[Reps]at r;obtain⟨v,r',rfl,r1,rfl⟩:=r;have e':=e;replace e':QS d=some res:=e';unfold QS at e';cases ep:pyD d with
  |none=>rw[ep]at e';cases e'
  |some p =>
   rw[ep]at e';dsimp only at e';split at e'
   ·cases e'
    exact⟨v,d,_,rfl,r1.mono zL,e,_,rfl,k.flat f rfl⟩
   ·cases e'
end
end DV
namespace L2
open PySem PySem.Spec PyProof.Rows
end L2
namespace DV
open PySem
section
variable{prog:Program}{w:World}{A:Around}{E:Value->Shared->Prop}{s:Shared}
structure Src(prog:Program)(w:World)(A:Around)(it l:Addr)(items:Array Value)(st:Nat->Heap->Prop):Prop where
 keep:∀{i:Nat} {h h':Heap},st i h->(∀b,b=it\/b=l->∀o,h.get? b=some o->h'.get? b=some o)->st i h'
 lt:∀{i:Nat} {h:Heap},st i h->it<h.objs.size
 next:∀{i:Nat} {s:Shared} {Q:Value->Shared->Prop} {E:Value->Shared->Prop},st i s.heap->(∀x,items[i]?=some x->∀h',st (i+1) h'->Heap.SameBut it s.heap h'->Q x {s with heap:=h'}) ->
  (items[i]?=none->∀h' e,Heap.ExtBut it s.heap h'->(∃o,h'.get? e=some o/\o.cls=.type "StopIteration")->E (.ref e) {s with heap:=h'})->wpAny (model prog w) A (Builtin.SmallTypes.nextOf (.ref it)) Q E s
end
abbrev itO(c:String)(l:Addr):Obj:={cls:=.type c,data:=.fields #[.ref l,.int 0 0]}
structure Zp(h h':Heap)(c1 c2:String)(l1 l2:Addr):Prop where
 z:IsZip h' (h.objs.size+4) (h.objs.size+2) (h.objs.size+3) .none
 a:IsPair h' (h.objs.size+2) (.ref h.objs.size) (.ref (h.objs.size+1))
 b:IsPair h' (h.objs.size+3) .none .none
 i1:h'.get? h.objs.size=some (itO c1 l1)
 i2:h'.get? (h.objs.size+1)=some (itO c2 l2)
 kp:∀c o,h.get? c=some o->h'.get? c=some o
end DV
namespace DV
open PySem L2 PySem.Spec PyProof.Rows
structure Five(z TI TO i1 i2:Addr):Prop where
 a1:TI≠z
 a2:TO≠z
 a3:i1≠z
 a4:i2≠z
 a5:TI≠TO
 a6:TI≠i1
 a7:TI≠i2
 a8:TO≠i1
 a9:TO≠i2
 a10:i1≠i2
section
variable{X:Cx}{K:qH}{mg:Str->Option Value}{O:L2.St}{H:Hp}
def uS(n:Addr):Five (n+4) (n+2) (n+3) n (n+1) :=
 have e:∀i j:Nat,i≠j->n+i≠n+j:=λi j h q=>h (Nat.add_left_cancel q)
 ⟨e 2 4 (by decide),e 3 4 (by decide),e 0 4 (by decide),e 1 4 (by decide),e 2 3 (by decide),e 2 0 (by decide),e 2 1 (by decide),e 3 0 (by decide),e 3 1 (by decide),e 0 1 (by decide)⟩
end
end DV
namespace DV
open PySem L2
end DV
namespace DV
open PySem L2 PySem.Spec PyProof.Rows
end DV
namespace DV
open PySem L2 PySem.Spec PyProof.Rows
open AutoSeq1 (wpAny_loadPart')
section
variable{prog:Program}{w:World}{A:Around}{E:Value->Shared->Prop}{s:Shared}
structure En(h h':Heap)(c:String)(l:Addr):Prop where
 e:IsEnum h' (h.objs.size+1) h.objs.size 0 .none
 i:h'.get? h.objs.size=some (itO c l)
 kp:∀b o,h.get? b=some o->h'.get? b=some o
end
end DV
namespace PySem
open Sem (wp)
open AutoSeq1 (wpAny_loadPart')
end PySem
namespace L2
open PySem PySem.Spec PyProof.Rows
end L2
namespace DV
open PySem L2
mutual
/-- no list within -/
def nol:D->Bool
 | .non=>true| .bl _=>true| .int _=>true| .str _=>true| .fn _=>true| .t ds=>nols ds|_=>false
def nols:List D->Bool
 | []=>true|d::ds=>nol d&&nols ds
end
def zEB:Slot->Bool
 | .own ds=>nols ds| .par ds=>nols ds|_=>true
open Classical in
def zAz(i:Nat)(t:MT):MT:=λE=>match E[i]? with
 |some (.own ds)=>if(E.set i .e).all zEB=true then(match t (E.set i (.v (.l ds)))with
  | .ok (b,E1)=>if E1=E.set i (.v (.l ds))then .ok (b,E)else .z|_=>.z)else .z
 |some (.v _)=>t E|_=>.z
section
variable{X:Cx}{K:qH}{mg:Str->Option Value}{P P':Addr->Prop}{H:Hp}{a:Addr}{xs:List V}
mutual
theorem rep_nol(ha:H a=some (.l xs))(hp:∀b,P' b->P b\/b=a):∀(d:D) (v:V),nol d=true->Rep K mg (Hm P H) d v->Rep K mg (Hm P' H) d v
 | .non,v,_,h=>h| .bl _,v,_,h=>h| .int _,v,_,h=>h| .str _,v,_,h=>h| .fn _,v,_,h=>h
 | .t ds,v,n,h=>by
  simp only[Rep]at h ⊢;obtain⟨c,ys,e,s,r⟩:=h;refine⟨c,ys,e,?_,reps_nol ha hp ds ys n r⟩;rcases s with(s|⟨o,s⟩)|s
  ·obtain⟨s1,s2⟩:=zP.mp s
   refine .inl (.inl (zP.mpr ⟨λq=>?_,s2⟩));rcases hp c q with q|q
   ·exact s1 q
   ·subst q;rw[ha]at s2;cases s2
  ·obtain⟨s1,s2⟩:=zP.mp s
   refine .inl (.inr ⟨o,zP.mpr ⟨λq=>?_,s2⟩⟩);rcases hp c q with q|q
   ·exact s1 q
   ·subst q;rw[ha]at s2;cases s2
  ·exact .inr s
 | .l _,v,n,h=>by cases n| .dic,v,n,h=>by cases n| .exn _ _,v,n,h=>by cases n
theorem reps_nol(ha:H a=some (.l xs))(hp:∀b,P' b->P b\/b=a):∀(ds:List D) (vs:List V),nols ds=true->Reps K mg (Hm P H) ds vs->Reps K mg (Hm P' H) ds vs
 | [],vs,_,h=>h
 |d::ds,vs,n,h=>by
  simp only[Reps]at h ⊢;obtain⟨v,r,e,h1,h2⟩:=h;obtain⟨n1,n2⟩:=Bool.and_eq_true_iff.mp n;exact⟨v,r,e,rep_nol ha hp d v n1 h1,reps_nol ha hp ds r n2 h2⟩
end
def ok_bor(i:Nat){e:Expr}{t:MT}(h:TOk X e t):TOk X e (zAz i t):=WP h λO H Q ⟨M,E,hl,f,k⟩=>by
 unfold zAz at k;cases ei:E[i]? with
 |none=>rw[ei]at k;exact k.elim
 |some sl =>
 rw[ei]at k;cases sl with
 |e=>exact k.elim|par ds=>exact k.elim|v d=>exact⟨M,E,hl,f,k⟩
 |own ds =>
  dsimp only at k;by_cases hb:(E.set i .e).all zEB=true
  ·rw[if_pos hb]at k
   obtain⟨o,h1,h2⟩:=YM hl ei;obtain⟨a,xs,rfl,q1,q2,q3⟩:=f.own o (.own ds) ds (mem_of_getElem? h2) rfl;have hlt:i<(O.zip E).length:=(qG.mp h2).1;have p:(O.zip E).Perm ((some (.ref a),R.slot (.own ds))::(O.zip E).eraseIdx i):=by
    have:=zr (some (V.ref a),Slot.own ds) (O.zip E) i hlt;rw[Y7 h2]at this;exact this
   have f1:=(f.perm p).frz;have f2:FR X.K X.mg M H ((O.zip E).set i (some (.ref a),.v (.l ds))):=f1.perm (zr _ _ _ hlt).symm;have ez:O.zip (E.set i (.v (.l ds)))=(O.zip E).set i (some (.ref a),.v (.l ds)):=yO (.v (.l ds)) h1;rw[<- ez]at f2;have pz:(O.zip (E.set i (.v (.l ds)))).Perm ((some (.ref a),Slot.v (.l ds))::(O.zip E).eraseIdx i):=by rw[ez];exact zr _ _ _ hlt
   -- what the one yE and the other
   have oz:∀b,b∈yE (O.zip E)↔b=a\/b∈yE (O.zip (E.set i (.v (.l ds)))):=λb=>by
    constructor
    ·intro q
     have q:=zC p b q;rcases mem_cons.mp (show b∈a::yE ((O.zip E).eraseIdx i)from q)with q|q
     ·exact .inl q
     ·exact .inr (zC pz.symm b (by rw[za];exact q))
    ·intro q
     rcases q with q|q
     ·subst q;exact jR (mem_of_getElem? h2) rfl rfl
     ·have q:=zC pz b q
      rw[za]at q;exact zC p.symm b (qD a q)
   have na:¬Mo M (O.zip (E.set i (.v (.l ds)))) a:=λq=>by
    rcases q with q|q
    ·exact q2 q
    ·have q:=zC pz a q
     rw[za]at q;have nd:(yE ((some (V.ref a),Slot.own ds)::(O.zip E).eraseIdx i)).Nodup:=(p.filterMap uQ).nodup_iff.mp f.nd;exact(nodup_cons.mp nd).1 q
   have mo:∀b,Mo M (O.zip E) b->Mo M (O.zip (E.set i (.v (.l ds)))) b\/b=a:=λb q=>by
    rcases q with q|q
    ·exact .inl (.inl q)
    ·rcases(oz b).mp q with q|q
     ·exact .inr q
     ·exact .inl (.inr q)
   have mo':∀b,Mo M (O.zip (E.set i (.v (.l ds)))) b->Mo M (O.zip E) b:=λb q=>by
    rcases q with q|q
    ·exact .inl q
    ·exact .inr ((oz b).mpr (.inr q))
   refine⟨M,E.set i (.v (.l ds)),by simp[hl],f2,?_⟩;cases et:t (E.set i (.v (.l ds)))with
   |z=>rw[et]at k;exact k.elim|exc x E1=>rw[et]at k;exact k.elim
   |ok pr =>
    obtain⟨b,E1⟩:=pr;rw[et]at k;dsimp only at k;by_cases hE:E1=E.set i (.v (.l ds))
    ·rw[if_pos hE]at k
     subst hE;intro H' g;refine k H' ⟨hl,?_,?_,PKp.refl⟩
     ·have ha:H' a=some (.l xs):=(zP.mp (g.st.same a _ (zP.mpr ⟨na,q1⟩))).2
      have sm:YJ (Hm (Mo M (O.zip E)) H) (Hm (Mo M (O.zip E)) H'):=λc u x=>by
       obtain⟨x1,x2⟩:=zP.mp x;exact zP.mpr ⟨x1,(zP.mp (g.st.same c u (zP.mpr ⟨λq=>x1 (mo' c q),x2⟩))).2⟩
      refine⟨λo d q=>?_,λo s es q es'=>?_,f.nd,g.fr.mal⟩
      ·obtain⟨v,e1,r⟩:=f.val o d q
       exact⟨v,e1,r.mono sm⟩
      ·obtain⟨c,ys,e1,e2,e3,r⟩:=f.own o s es q es'
       by_cases hc:c=a
       ·subst hc
        rw[e2]at q1;cases q1;exact⟨c,_,e1,ha,e3,r.mono sm⟩
       ·-- another one's list
        subst e1;obtain⟨j,hj⟩:=List.getElem?_of_mem q;replace hj:(O.zip E)[j]?=some (some (.ref c),s):=hj;have hij:j≠i:=λq=>by
         subst q;rw[hj]at h2;cases h2;exact hc rfl
        have hj':(O.zip (E.set i (.v (.l ds))))[j]?=some (some (.ref c),s):=by
         rw[ez,getElem?_set_ne (Ne.symm hij)];exact hj
        have nb:nols es=true:=by
         have hEj:(E.set i .e)[j]?=some s:=by
          rw[getElem?_set_ne (Ne.symm hij)];exact(List.getElem?_zip_eq_some.mp hj).2
         have:=all_eq_true.mp hb s (mem_of_getElem? hEj);cases s with
         |e=>cases es'|v d=>cases es'|own ds'=>cases es';exact this|par ds'=>cases es';exact this
        obtain⟨c',ys',e1',e2',e3',r'⟩:=g.fr.own _ s es (mem_of_getElem? hj') es';cases e1';exact⟨c,ys',rfl,e2',e3',reps_nol ha mo es ys' nb r'⟩
     ·refine⟨λc u x=>?_,g.st.keep⟩
      obtain⟨x1,x2⟩:=zP.mp x;exact zP.mpr ⟨x1,(zP.mp (g.st.same c u (zP.mpr ⟨λq=>x1 (mo' c q),x2⟩))).2⟩
    ·rw[if_neg hE]at k;exact k.elim
  ·rw[if_neg hb]at k;exact k.elim
end
def tupI:D->Option (List Int)
 | .t ds=>Ze ds|_=>none
def tupIs:List D->Option (List (List Int))
 | []=>some []
 |d::ds=>match tupI d,tupIs ds with
  |some a,some as=>some (a::as)|_,_=>none
def inT(neg:Bool)(d:D):D->Option R
 | .l ds=>match tupI d,tupIs ds with
  |some a,some as=>some (.v (.bl (if neg then !as.contains a else as.contains a)))|_,_=>none
 |_=>none
def inG(neg:Bool)(d e:D):Option R:=match inF neg d e with
 |some r=>some r|none=>inT neg d e
section
variable{X:Cx}{O:L2.St}{pins:List (Addr×Obj)}{H:Hp}{s:Shared}{K:qH}{mg:Str->Option Value}
def MtM.or{id:String}{r r':V->List V->Hp->VK->Prop}(h:MtM X id r)(h':MtM X id r'):MtM X id (λx vs H Q=>r x vs H Q\/r' x vs H Q):=by
 intro pins s O H x vs v us Q I rx rv q;rcases q with q|q
 ·exact h pins s O H x vs v us Q I rx rv q
 ·exact h' pins s O H x vs v us Q I rx rv q
end
end DV
namespace DV
open PySem L2 PyProof.Rows PySem.Calls
end DV
namespace DV
open PySem L2
end DV
namespace DV
open PySem PyProof.Rows
section
variable{prog:Program}{w:World}{A:Around}{E:Value->Shared->Prop}
theorem vk{it t:Addr}{items:Array Value}(hne:t≠it):∀(n i:Nat) (s:Shared) (Q:List Value->Shared->Prop),s.heap.IsListIter it t i->s.heap.IsList t items->i+n<=items.size ->
  (∀h',h'.IsListIter it t (i+n)->Heap.SameBut it s.heap h'->Q ((items.toList.drop i).take n) {s with heap:=h'})->wpAny (model prog w) A (draw (.ref it) n) Q E s
 |0,i,s,Q,hit,_,_,hQ=>by
  show wpAny _ _ (pure []) Q E s
  exact qC (by simpa using hQ s.heap hit (Heap.SameBut.refl ..))
 |n+1,i,s,Q,hit,ht,hle,hQ=>by
  have hlt:i<items.size:=by omega
  show wpAny _ _ (pyNext (.ref it) >>= _) Q E s
  refine qB (wpAny_pyNext_list_item hit ht (x:=items[i]) (by simp[hlt]) λh₁ hit₁ hs₁=>?_);have ht₁:h₁.IsList t items:=by
   obtain⟨o,ho,hc,n,hd⟩:=ht;exact⟨o,(hs₁.2 t hne).trans ho,hc,n,hd⟩
  refine qB (wpAny_holding (vk hne n (i+1) _ _ hit₁ ht₁ (by omega) λh₂ hit₂ hs₂=>qC ?_));have hd:items.toList.drop i=items[i]::items.toList.drop (i+1):=by simp[List.drop_eq_getElem_cons,hlt]
  have:=hQ h₂ (by rw[show i+(n+1)=i+1+n by omega];exact hit₂) (hs₁.trans hs₂);rw[hd,List.take_succ_cons]at this;exact this
variable{s:Shared}
end
end DV
namespace DV
open PySem L2
abbrev TA:=Addr->St->Hp->(St->Hp->Prop)->Prop
def PA(Y:Cx)(act:Value->Env->Sem PySem.Fin->Sem PySem.Fin)(ta:TA):Prop:=∀(D:Addr) (pins:List (Addr×Obj)) (s:Shared) (O:St) (H:Hp) (Nx:St->Hp->Prop) (k:Sem PySem.Fin) (Q:PySem.Fin->Shared->Prop) (E:Value->Shared->Prop),Inv Y pins O H s->ta D O H Nx ->
 (∀O' H' s',Inv Y pins O' H' s'->Nx O' H'->wpAny (model Y.prog Y.w) Y.A k Q E s')->wpAny (model Y.prog Y.w) Y.A (act (.ref D) Y.env k) Q E s
section
variable{X:Cx}{K:qH}{mg:Str->Option Value}{O:St}{M:Addr->Prop}{E:zQ}{H:Hp}{T0 Z T:Fz}
structure GA(K:qH)(mg:Str->Option Value)(M:Addr->Prop)(D:Addr)(O:St)(E:zQ)(H:Hp)(acc:List DV.D)(O':St)(E':zQ)(H':Hp)(acc':List DV.D):Prop where
 len:E'.length=O'.length
 fr:FR K mg M H' ((some (.ref D),.own acc')::O'.zip E')
 st:Step M H ((some (.ref D),.own acc)::O.zip E) H' ((some (.ref D),.own acc')::O'.zip E')
 pk:PKp O E O' E'
def GA.of{D:Addr}{acc:List DV.D}{O':St}{E':zQ}{H':Hp}(g:Got K mg M O E H [(some (.ref D),.own acc)] O' E' H' []):GA K mg M D O E H acc O' E' H' acc:=⟨g.len,g.fr,g.st,g.pk⟩
theorem GA.trans{D:Addr}{acc acc1 acc2:List DV.D}{O1 O2:St}{E1 E2:zQ}{H1 H2:Hp}(a:GA K mg M D O E H acc O1 E1 H1 acc1)(b:GA K mg M D O1 E1 H1 acc1 O2 E2 H2 acc2):GA K mg M D O E H acc O2 E2 H2 acc2:=⟨b.len,b.fr,a.st.trans b.st,a.pk.trans b.pk⟩
end
section
variable{K:qH}{mg:Str->Option Value}{X:Cx}{O:L2.St}{H:Hp}
def JF:List D->Option (List Str)
 | []=>some []| .str x::ds=>(JF ds).map (x::·)|_=>none
theorem YW:∀ts:List Str,JF (ts.map D.str)=some ts
 | []=>rfl
 |t::ts=>by
  show(JF (ts.map D.str)).map (t::·)=_
  rw[YW ts];rfl
theorem Zf:∀{ds:List D} {ts:List Str},JF ds=some ts->ds=ts.map D.str
 | [],_,e=>by cases e;rfl
 |d::ds,ts,e=>by
  cases d with
  |str x =>
   simp only[JF]at e;cases eb:JF ds with
   |none=>rw[eb]at e;cases e|some cs=>rw[eb]at e;cases e;rw[Zf eb];rfl
  |_=>cases e
theorem Zg{H:Hp}:∀{ts:List Str} {xs:List V},Reps K mg H (ts.map D.str) xs->xs=ts.map V.str
 | [],_,h=>by simp only[List.map,Reps]at h;subst h;rfl
 |t::ts,_,h=>by
  simp only[List.map,Reps]at h;obtain⟨v,r,rfl,h1,h2⟩:=h;rw[ze h1,Zg h2];rfl
theorem Zh{H:Hp}:∀ts:List Str,Reps K mg H (ts.map D.str) (ts.map V.str)
 | []=>Reps.nil|t::ts=>Reps.cons (by simp only[Rep]) (Zh ts)
theorem vm:∀{ts:List Str} {us:List Value},zn (ts.map V.str) us->∃l:List (Str×Tok),us=strValues l/\l.map (·.1)=ts
 | [],_,.nil=>⟨[],rfl,rfl⟩
 |t::ts,_,.cons r h=>by
  obtain⟨tk,rfl⟩:=r;obtain⟨l,rfl,e⟩:=vm h;exact⟨(t,tk)::l,rfl,by rw[<- e];rfl⟩
theorem vn:∀{ts:List Str} {l:List (Str×Tok)},l.map (·.1)=ts->zn (ts.map V.str) (strValues l)
 |_,[],rfl=>.nil|_,(t,tk)::l,rfl=>.cons ⟨tk,rfl⟩ (vn (l:=l) rfl)
def strF:List D->Option R
 | [.int i]=>if i.natAbs.log2<1920 then some (.v (.str (toString i)))else none|_=>none
def co_strF:COk K mg (λxs H Q=>∃i,xs=[.int i]/\i.natAbs.log2<1920/\Q (.str (toString i)) H) strF:=by
 intro M H Z xs ds res Q f r e k
 match ds,e with
 | [.int i],e =>
  simp only[strF]at e;split at e
  ·rename_i hz
   cases e;obtain⟨v,rfl,h⟩:=YN r;exact⟨i,by rw[zK h],hz,k.flat f rfl⟩
  ·cases e
def intT:List D->Option R
 | [.str x]=>if x.length<=640 then(PySem.intText? x).map λn=>.v (.int n)else none|_=>none
def zA0:jp X (.type "int") (λxs H Q=>∃x n,xs=[.str x]/\x.length<=640/\PySem.intText? x=some n/\Q (.int n) H):=by
 intro pins s O H xs us Q I r h;obtain⟨x,n,rfl,hl,hn,q⟩:=h;obtain⟨u,rfl,t,rfl⟩:=ZN r;exact PySem.W.KIN.call_text hn hl ⟨.int n,H,I.tok _,⟨_,rfl⟩,q⟩
def co_intT:COk K mg (λxs H Q=>∃x n,xs=[.str x]/\x.length<=640/\PySem.intText? x=some n/\Q (.int n) H) intT:=by
 intro M H Z xs ds res Q f r e k
 match ds,e with
 | [.str x],e =>
  simp only[intT]at e;split at e
  ·rename_i hz
   cases en:PySem.intText? x with
   |none=>rw[en]at e;cases e
   |some n =>
    rw[en]at e;cases e;obtain⟨v,rfl,h⟩:=YN r;exact⟨x,n,by rw[ze h],hz,en,k.flat f rfl⟩
  ·cases e
def lenT:List D->Option R
 | [.str x]=>if x.length<=sizeLine then some (.v (.int x.length))else none|_=>none
def co_lenT:COk K mg (λxs H Q=>∃z,xs=[.str z]/\z.length<=sizeLine/\Q (.int z.length) H) lenT:=by
 intro M H Z xs ds res Q f r e k
 match ds,e with
 | [.str x],e =>
  simp only[lenT]at e;split at e
  ·rename_i hz
   cases e;obtain⟨v,rfl,h⟩:=YN r;exact⟨x,by rw[ze h],hz,k.flat f rfl⟩
  ·cases e
def zC1:D->D->Option R
 | .str i,.str j=>if i.length+j.length<=sizeLine then some (.v (.str (i++j)))else none|_,_=>none
def ro_cat:ROk K mg (λx y H Q=>∃i j,x=.str i/\y=.str j/\i.length+j.length<=sizeLine/\Q (.str (i++j)) H) zC1:=by
 intro M H Z x y d1 d2 res Q f r1 r2 e k;cases d1 with
 |str i =>
  cases d2 with
  |str j =>
   simp only[zC1]at e;split at e
   ·rename_i hz
    cases e;exact⟨i,j,ze r1,ze r2,hz,k.flat f rfl⟩
   ·cases e
  |_=>cases e
 |_=>cases e
def ixT:D->D->Option R
 | .str z,.int i=>if z.length<=sizeLine then(atI z.cps.toList i).map λc=>.v (.str ⟨#[c]⟩)else none|_,_=>none
def ro_ixT:ROk K mg rIxS ixT:=by
 intro M H Z x y d1 d2 res Q f r1 r2 e k;cases d1 with
 |str z =>
  cases d2 with
  |int i =>
   simp only[ixT]at e;split at e
   ·rename_i hz
    cases ea:atI z.cps.toList i with
    |none=>rw[ea]at e;cases e
    |some c =>
     rw[ea]at e;cases e;exact⟨z,i,c,ze r1,zK r2,hz,ea,k.flat f rfl⟩
   ·cases e
  |_=>cases e
 |_=>cases e
def QU:MtR X "str.isascii" (λx vs H Q=>∃z,x=.str z/\vs=[]/\Q (.bl (Txt.isascii z)) H):=by
 intro pins s O H x vs v us Q I rx rv h;obtain⟨z,rfl,rfl,q⟩:=h;obtain⟨t,rfl⟩:=rx;cases rv;exact call_meets PySem.F.slot_str_isascii (typeIs_str _ _ _) PySem.F.entry_str_isascii (PySem.F.args_str_isascii_1 _) (PySem.gives_str_isascii z t).meets ⟨.bl _,H,I,rfl,q⟩
def QV:MtR X "str.isdigit" (λx vs H Q=>∃z,x=.str z/\vs=[]/\Q (.bl (Txt.isdigit z)) H):=by
 intro pins s O H x vs v us Q I rx rv h;obtain⟨z,rfl,rfl,q⟩:=h;obtain⟨t,rfl⟩:=rx;cases rv;exact call_meets PySem.F.slot_str_isdigit (typeIs_str _ _ _) PySem.F.entry_str_isdigit (PySem.F.args_str_isdigit_1 _) (PySem.gives_str_isdigit z t).meets ⟨.bl _,H,I,rfl,q⟩
def Yp(k:Bool):D->Option R
 | .str z=>some (.v (.bl (if k then Txt.isdigit z else Txt.isascii z)))|_=>none
def zC2{o:Expr}{a:ME}{apos cpos:Pos}(ho:EOk X o a)(hbase:attributeBase o "isascii" X.env (eval o X.env)=eval o X.env)(hline:(apos.endLine==cpos.line)=true) :
  EOk X (.Call (.Attribute o "isascii" apos) [] [] cpos) (eUn (Yp false) a) :=
 zf (zDm PySem.F.plainAttrs_str PySem.F.slot_str_isascii PySem.F.type_str_isascii QU ho hbase hline) λO H Q h=>Ww (rel:=λx H Q=>tyV X.K "str" x H/\∃z,x=.str z/\([]:List V)=[]/\Q (.bl (Txt.isascii z)) H) (λM H Z x d res Q f r e k=>by
  cases d with
  |str z=>cases e;cases ze r;exact⟨rfl,z,rfl,rfl,k.flat f rfl⟩|_=>cases e) h
def zC3{o:Expr}{a:ME}{apos cpos:Pos}(ho:EOk X o a)(hbase:attributeBase o "isdigit" X.env (eval o X.env)=eval o X.env)(hline:(apos.endLine==cpos.line)=true) :
  EOk X (.Call (.Attribute o "isdigit" apos) [] [] cpos) (eUn (Yp true) a) :=
 zf (zDm PySem.F.plainAttrs_str PySem.F.slot_str_isdigit PySem.F.type_str_isdigit QV ho hbase hline) λO H Q h=>Ww (rel:=λx H Q=>tyV X.K "str" x H/\∃z,x=.str z/\([]:List V)=[]/\Q (.bl (Txt.isdigit z)) H) (λM H Z x d res Q f r e k=>by
  cases d with
  |str z=>cases e;cases ze r;exact⟨rfl,z,rfl,rfl,k.flat f rfl⟩|_=>cases e) h
def mt_join:MtR X "str.join" (λx vs H Q=>∃z l ts,x=.str z/\vs=[.ref l]/\SqL X.K H l (ts.map V.str)/\JoinOk z ts=true/\Q (.str (Txt.join z ts)) H):=by
 intro pins s O H x vs v us Q I rx rv h;obtain⟨z,l,ts,rfl,rfl,hs,hok,q⟩:=h;obtain⟨t,rfl⟩:=rx;obtain⟨u,rfl,ru⟩:=ZN rv;cases ru;obtain⟨its,r,p,_⟩:=I.list hs;obtain⟨l',rfl,e⟩:=vm r;exact SC.join p.isList e hok λt' k=>⟨.str _,H,I.tok _,⟨_,rfl⟩,q⟩
def zC4:MtR X "str.split" (λx vs H Q=>∃z y,x=.str z/\vs=[.str y]/\(y.length==0)=false/\z.length<=1000/\∀l,H l=none->Q (.ref l) (upd H l (.l ((Txt.split z y).map V.str)))):=by
 intro pins s O H x vs v us Q I rx rv h;obtain⟨z,y,rfl,rfl,hy,hz,q⟩:=h;obtain⟨t,rfl⟩:=rx;obtain⟨w,rfl,u,rfl⟩:=ZN rv;have hln:=ZM;have hsl:(1002:Nat)<=sizeLine:=by decide +kernel
 have hle:=PyProof.Rows.split_le z y;have fin:∀(l:List (Str×Tok)) (c:Nat) (tk:Nat),l.map (·.1)=Txt.split z y->EP X pins O Q (.ref s.heap.objs.size) {s with heap:=s.heap.push {cls:=.type "list",data:=.seq (strValues l).toArray c},toks:=tk}:=λl c tk e =>
  ⟨.ref s.heap.objs.size,_,I.laid (t':=tk) (λb o e=>qA _ e) (le_refl _) (show yJ X.prog X.w _ _ _ (.l ((Txt.split z y).map V.str))from⟨by rw[length_map];omega,_,c,vn e,get?_push_size _ rfl⟩),rfl,q _ (I.hok.fresh (le_refl _))⟩
 cases h1:(decide (z.length<y.length)||decide (Builtin.Str.strKind z<Builtin.Str.strKind y))with
 |true=>exact call_meets PySem.F.slot_str_split (typeIs_str _ _ _) PySem.F.entry_str_split (PySem.F.args_str_split_2 _ _) (PySem.meets_str_split_cannot_occur z y t u h1) (fin [(z,t)] _ _ (if_pos h1).symm)
 |false =>
  cases hf:(Builtin.Str.occurrences z y 0 z.length (z.length+1)).isEmpty with
  |true=>exact call_meets PySem.F.slot_str_split (typeIs_str _ _ _) PySem.F.entry_str_split (PySem.F.args_str_split_2 _ _) (PySem.meets_str_split_not_found z y t u h1 hy hf) (fin [(z,t)] _ _ ((if_neg (ne_true_of_eq_false h1)).trans (if_pos hf)).symm)
  |false =>
   have es:Txt.split z y=Builtin.Str.partsBetween z (Builtin.Str.occurrences z y 0 z.length (z.length+1)) y.length:=(if_neg (ne_true_of_eq_false h1)).trans (if_neg (ne_true_of_eq_false hf));refine call_meets PySem.F.slot_str_split (typeIs_str _ _ _) PySem.F.entry_str_split (PySem.F.args_str_split_2 _ _) (PySem.meets_str_split_sep z y t u h1 hy hf (by omega) (by rw[<- es];omega)) ?_;show wants (EP X pins O Q) X.xe _ {s with toks:=_,heap:=s.heap.push {cls:=.type "list",data:=.seq (strsFrom s.toks (Builtin.Str.partsBetween z (Builtin.Str.occurrences z y 0 z.length (z.length+1)) y.length)).toArray}}
   rw[strsFrom_eq];exact fin _ _ _ ((numbered_texts _ _).trans es.symm)
def WB(f:D->D->Option R)(a b:ME):ME:=λE=>match a E with
 | .z=>.z| .exc x E1=>.exc x E1
 | .ok (r1,E1)=>match r1 with
  | .v (.str z)=>(match b E1 with
   | .z=>.z| .exc x E2=>.exc x E2
   | .ok (r2,E2)=>match f (.str z) r2.d with
    |some r=>.ok (r,E2)|none=>.z)
  |_=>.z
def WC:D->D->Option R
 | .str z,.l ds=>(JF ds).bind λts=>if JoinOk z ts=true then some (.v (.str (Txt.join z ts)))else none|_,_=>none
def jr:D->D->Option R
 | .str z,.str y=>if(y.length==0)=false/\z.length<=1000 then some (.own ((Txt.split z y).map D.str))else none|_,_=>none
def Gh{f:D->D->Option R}{rel:V->List V->Hp->VK->Prop}{a b:ME}{Q:VK}(hr:ROk X.K X.mg (λx y H Q=>rel x [y] H Q) f)(h:tM X (WB f a b) O H Q):tBM X.K "str" rel (tM X a) (uZ (tM X b) tNil) O H Q:=by
 obtain⟨M,E,hl,fr,k⟩:=h;unfold WB at k;refine zk (T0:=[]) hl fr ?_;cases ea:a E with
 |z=>rw[ea]at k;exact k|exc x E1=>rw[ea]at k;exact k
 |ok p =>
  obtain⟨r1,E1⟩:=p;rw[ea]at k;intro x H1 g1;dsimp only at k;cases r1 with
  |v d =>
   cases d with
   |str z =>
    have rx:=g1.rep;have ex:=ze rx;subst ex;refine⟨(show tyV X.K "str" (.str z) H1 from rfl),?_⟩;refine zk (T0:=[(some (.str z),R.slot (.v (.str z)))]) g1.len g1.fr ?_;dsimp only at k;cases eb:b E1 with
    |z=>rw[eb]at k;exact k|exc x E2=>rw[eb]at k;exact λH' g=>k H' (g1.trans' g).dropAll
    |ok p =>
     obtain⟨r2,E2⟩:=p;rw[eb]at k;intro y H2 g2;have g:=g1.trans' g2;have rp:=Got.reps (vs:=[y,.str z]) (rs:=[r2,.v (.str z)]) rfl g;simp only[List.map,Reps]at rp;obtain⟨y',_,e1,ry,x',_,e2,rx,_⟩:=rp;cases e1;cases e2;dsimp only at k;cases ef:f (.str z) r2.d with
     |none=>rw[ef]at k;exact k.elim
     |some r =>
      rw[ef]at k;exact hr M H2 _ (.str z) y (.str z) r2.d r Q g.frame (by simp only[Rep]) ry ef λv H' f' s'=>k v H' (g.more (T:=[(some v,r.slot)]) f' s')
   |_=>exact k.elim
  |_=>exact k.elim
def ro_join:ROk K mg (λx y H Q=>∃z l ts,x=.str z/\[y]=[.ref l]/\SqL K H l (ts.map V.str)/\JoinOk z ts=true/\Q (.str (Txt.join z ts)) H) WC:=by
 intro M H Z x y d1 d2 res Q f r1 r2 e k;cases d1 with
 |str z =>
  cases d2 with
  |l ds =>
   simp only[WC]at e;cases es:JF ds with
   |none=>rw[es]at e;cases e
   |some ts =>
    rw[es]at e;simp only[Option.bind_some]at e;split at e
    ·rename_i hz
     cases e;have:=Zf es;subst this;obtain⟨p,ys,rfl,h1,h2⟩:=zO r2;rw[Zg h2]at h1;exact⟨z,p,ts,ze r1,rfl,zL.seq h1,hz,k.flat f rfl⟩
    ·cases e
  |_=>cases e
 |_=>cases e
def zC5:ROk K mg (λx y H Q=>∃z u,x=.str z/\[y]=[.str u]/\(u.length==0)=false/\z.length<=1000/\∀l,H l=none->Q (.ref l) (upd H l (.l ((Txt.split z u).map V.str)))) jr:=by
 intro M H Z x y d1 d2 res Q f r1 r2 e k;cases d1 with
 |str z =>
  cases d2 with
  |str u =>
   simp only[jr]at e;split at e
   ·rename_i hz
    cases e;exact⟨z,u,ze r1,by rw[ze r2],hz.1,hz.2,λl hl=>k.own f hl (Zh _)⟩
   ·cases e
  |_=>cases e
 |_=>cases e
def ok_join{o e:Expr}{a b:ME}{apos cpos:Pos}(ho:EOk X o a)(he:EOk X e b)(hbase:attributeBase o "join" X.env (eval o X.env)=eval o X.env)(hs:zW e=false)(hline:(apos.endLine==cpos.line)=true)
  (hfew:((backTo cpos (starEach (e::[]) X.env)).all (λx=>!x.1)&&(backToKw cpos (keywordEach [] X.env)).all (λx=>x.1.isSome)&&decide ((e::([]:List Expr)).length+([]:List Keyword).length+(if([]:List Keyword).isEmpty then 0 else 1)<30))=true) :
  EOk X (.Call (.Attribute o "join" apos) [e] [] cpos) (WB WC a b) :=
 zf (Q7 PySem.F.plainAttrs_str PySem.F.slot_str_join PySem.F.type_str_join mt_join ho (yN he wL (zJ hs)) hbase hfew hline (zJ hs) rfl) λO H Q h=>Gh ro_join h
def zC6{o e:Expr}{a b:ME}{apos cpos:Pos}(ho:EOk X o a)(he:EOk X e b)(hbase:attributeBase o "split" X.env (eval o X.env)=eval o X.env)(hs:zW e=false)(hline:(apos.endLine==cpos.line)=true)
  (hfew:((backTo cpos (starEach (e::[]) X.env)).all (λx=>!x.1)&&(backToKw cpos (keywordEach [] X.env)).all (λx=>x.1.isSome)&&decide ((e::([]:List Expr)).length+([]:List Keyword).length+(if([]:List Keyword).isEmpty then 0 else 1)<30))=true) :
  EOk X (.Call (.Attribute o "split" apos) [e] [] cpos) (WB jr a b) :=
 zf (Q7 PySem.F.plainAttrs_str PySem.F.slot_str_split PySem.F.type_str_split zC4 ho (yN he wL (zJ hs)) hbase hfew hline (zJ hs) rfl) λO H Q h=>Gh zC5 h
end
end DV
namespace DV
open PySem PyProof.Rows
section
variable{prog:Program}{w:World}{A:Around}{E:Value->Shared->Prop}
def vo(hh:A.handled=none)(I ax:Addr)(hne:ax≠I)(items:Array Value)(n:Nat)(hn:n+1=items.size) :
  Walks prog w A I [I,ax] [I] n (λi v=>items[i+1]?=some v) (λi h=>h.IsListIter I ax (i+1)/\h.IsList ax items) where
 sub:=(Walks.list (prog:=prog) (w:=w) hh I ax hne items).sub
 frame:=λi h h' st k=>(Walks.list (prog:=prog) (w:=w) hh I ax hne items).frame (i+1) h h' st k
 item:=λi s Q E hi st hQ=>(Walks.list (prog:=prog) (w:=w) hh I ax hne items).item (i+1) s Q E (by omega) st hQ
 done:=λs Q E st hQ=>(Walks.list (prog:=prog) (w:=w) hh I ax hne items).done s Q E (by rw[<- hn];exact st) hQ
 self:=λi s Q E st hQ=>(Walks.list (prog:=prog) (w:=w) hh I ax hne items).self (i+1) s Q E st hQ
variable{s:Shared}
def uq{t:Addr}{x:Value}{r:List Value}{Q:List Value->Shared->Prop}(hh:A.handled=none)(ht:s.heap.IsList t (x::r).toArray)(hz:r.length<=sizeLine)
  (hQ:∀s':Shared,(∀b o,s.heap.get? b=some o->s'.heap.get? b=some o)->s'.gens=s.gens->s'.drawn=s.drawn->s'.os=s.os->Q [x,.ref s'.heap.objs.size] {s' with heap:=s'.heap.push {cls:=.type "list",data:=.seq r.toArray}}) :
  wpAny (model prog w) A (unpackItems (.ref t) 2 (some 1)) Q E s:=by
 have hlt:t≠s.heap.objs.size:=by obtain⟨o,ho,_⟩:=ht;exact ne_of_lt (lt_size ho)
 have keep:∀{h:Heap},(∀b o,b≠s.heap.objs.size->s.heap.get? b=some o->h.get? b=some o)->h.IsList t (x::r).toArray:=λk=>by
  obtain⟨o,ho,hc,n,hd⟩:=ht;exact⟨o,k t o hlt ho,hc,n,hd⟩
 unfold unpackItems notIterableAtAll;refine qB (qB (wpAny_specialOf ht.typeIs slot_list_iter.lookup (qC ?_)));simp only[Bool.false_eq_true,if_false];refine qB (wpAny_holding (wpAny_pyIter_list ht ?_));refine qB (wpAny_holding (vk hlt 1 0 _ _ ⟨_,get?_push_size _ rfl,rfl,rfl⟩ (keep λb o _ e=>qA _ e) (by simp) λh₁ hit₁ hs₁=>?_));rw[if_neg (by simp)];have ht₁:h₁.IsList t (x::r).toArray:=keep λb o hb e=>hs₁.extBut b o hb (qA _ e)
 have ext₁:∀b o,s.heap.get? b=some o->h₁.get? b=some o:=λb o e=>hs₁.extBut b o (ne_of_lt (lt_size e)) (qA _ e)
 have hitL:s.heap.objs.size<h₁.objs.size:=by obtain⟨o,e,_⟩:=hit₁;exact lt_size e
 have htL:t<h₁.objs.size:=by obtain⟨o,e,_⟩:=ht₁;exact lt_size e
 refine qB (wpAny_holding (wpAny_collect_iter (T:="list_iterator") (.inr (.inr (.inl rfl))) (vo (A:=A.in1) hh s.heap.objs.size t hlt (x::r).toArray r.length (by simp)).toS
  (λi s' st=>by obtain⟨⟨o,e,c,_⟩,_⟩:=st;exact⟨o,e,c⟩) ⟨hit₁,ht₁⟩ (λb hb=>?_) (qE) (λs' acc mv it=>?_) hz))
 ·rcases mem_cons.mp hb with rfl|hb
  ·exact hitL
  ·rw[mem_singleton.mp hb];exact htL
 ·have ea:acc.toList=r:=by
   obtain⟨h1,h2⟩:=it;refine List.ext_getElem? λj=>?_
   by_cases hj:j<r.length
   ·have e1:acc[j]?=some acc[j]:=by simp[h1,hj]
    have e2:=h2 j _ e1;rw[Array.getElem?_toList,e1];simpa using e2.symm
   ·rw[List.getElem?_eq_none (by simp[h1];omega),List.getElem?_eq_none (by omega)]
  rw[ea];dsimp only;rw[if_neg (by simp)];have e3:r.take (r.length-(2-1-1))=r:=by simp
  have e4:r.drop (r.length-(2-1-1))=[]:=by simp
  rw[e3,e4];refine qB (wpAny_newList ?_ hz);refine qC ?_;exact hQ s' (λb o e=>mv.heap b o (λz=>by
   have:=mem_singleton.mp z
   exact ne_of_lt (lt_size e) this) (ext₁ b o e)) mv.gens mv.drawn mv.os
end
end DV
namespace DV
open PySem L2
section
variable{X:Cx}{O:L2.St}{H:Hp}
def gStar(K:qH)(i j:Nat):TG:=λv O H Q=>∃a x xs,v=.ref a/\SqL K H a (x::xs)/\∀l,H l=none->Q ((O.set i (some x)).set j (some (.ref l))) (upd H l (.l xs))
def pg_star{x y:Str}{px py ps p:Pos}{k i j:Nat}(hc:X.calm=true)(h:PGs X [.Name x px,.Name y py] (JQ [i,j])):PG X (.Tuple [.Name x px,.Starred (.Name y py) ps] k p) (gStar X.K i j):=by
 intro pins s O H v u Q I r hw;obtain⟨a,z,xs,e1,hq,hw⟩:=hw;subst e1;cases r;obtain⟨its,rv,ht,hz⟩:=I.list hq;cases rv with
 |cons r1 r2 =>
 rename_i u0 us;have hl:=r2.length;rw[PyProof.Rows.assign_Tuple];refine qB (wpAny_standAt ?_);unfold unpack;refine qB (wpAny_holding (uq (I.ok.hd hc) ht.isList (by simp only[length_cons]at hz;omega) λs' kp eg ed eo=>?_));have es:s'={s with heap:=s'.heap,toks:=s'.toks}:=by
  obtain⟨a1,a2,a3,a4,a5⟩:=s';obtain⟨b1,b2,b3,b4,b5⟩:=s;cases eg;cases ed;cases eo;rfl
 have I1:Inv X pins O H s':=by rw[es];exact I.kept (t':=s'.toks) kp
 have I2:Inv X pins O (upd H s'.heap.objs.size (.l xs)) {s' with heap:=s'.heap.push {cls:=.type "list",data:=.seq us.toArray}} :=
  I1.laid (t':=s'.toks) (λb o e=>qA _ e) (le_refl _) (show yJ X.prog X.w _ _ _ (.l xs)from⟨by simp only[length_cons]at hz;omega,us,0,r2,get?_push_size _ rfl⟩)
 exact h pins _ O _ [z,.ref s'.heap.objs.size] _ Q I2 (.cons r1 (.cons rfl .nil)) ⟨z,_,rfl,⟨_,_,rfl,rfl,hw _ (I1.hok.fresh (le_refl _))⟩⟩
def sStar(i j:Nat)(m:ME):MS:=λE=>match m E with
 | .z=>.z| .exc x E1=>.exc x E1
 | .ok (r,E1)=>match r.d with
  | .l (.str z::ds)=>(match JF ds with
   |some _=>(match YO i (.v (.str z)) E1 with
    | .ok E2=>(match YO j (.own ds) E2 with
     | .ok E3=>.ok (.nx,E3)|_=>.z)
    |_=>.z)
   |none=>.z)
  |_=>.z
def zA1{i j:Nat}{m:ME}{D:Ends}(h:tS X (sStar i j m) D O H):tAsg (tM X m) (gStar X.K i j) D O H:=by
 obtain⟨M,E,hl,fr,k⟩:=h;unfold sStar at k;refine zk (T0:=[]) hl fr ?_;cases ea:m E with
 |z=>rw[ea]at k;exact k|exc x E1=>rw[ea]at k;exact λH' g=>k O H' g
 |ok p =>
  obtain⟨r,E1⟩:=p;rw[ea]at k;intro v H1 g;dsimp only at k;split at k
  ·rename_i z ds ed
   cases es:JF ds with
   |none=>rw[es]at k;exact k.elim
   |some ts =>
    rw[es]at k;have e0:=Zf es;subst e0;have g0:=g.dropAll;have rp:=g.rep;rw[ed]at rp;obtain⟨a,xs,rfl,h1,h2⟩:=zO rp;have e5:=Zg (ts:=z::ts) h2;subst e5;dsimp only at k;cases e1:YO i (.v (.str z)) E1 with
    |z=>rw[e1]at k;exact k.elim|exc _ _=>rw[e1]at k;exact k.elim
    |ok E2 =>
     rw[e1]at k;dsimp only at k;cases e2:YO j (.own (ts.map DV.D.str)) E2 with
     |z=>rw[e2]at k;exact k.elim|exc _ _=>rw[e2]at k;exact k.elim
     |ok E3 =>
      rw[e2]at k;refine⟨a,.str z,ts.map V.str,rfl,zL.seq h1,λl hl=>?_⟩;have g1:=g0.more (T:=[(some (.str z),R.slot (.v (.str z)))]) (FR.add g0.frame (by simp only[Rep])) Step.refl.add;have g2:=YQ g1 e1;have g3:=g2.more (T:=[(some (.ref l),R.slot (.own (ts.map DV.D.str)))]) (FR.newOwn g2.frame hl (Zh ts)) (Step.newOwn g2.frame hl);exact k _ _ (YQ g3 e2)
  ·exact k.elim
def sk_star{i j:Nat}{x y:Str}{px py ps:Pos}{e:Expr}{m:ME}{k:Nat}{p pos:Pos}(hc:X.calm=true)(h:PGs X [.Name x px,.Name y py] (JQ [i,j]))(he:EOk X e m)(hs:swapsWithSole [.Tuple [.Name x px,.Starred (.Name y py) ps] k p] e pos.line X.env=pure false)(hw:swappedStores [.Tuple [.Name x px,.Starred (.Name y py) ps] k p] e X.env=pure none) :
  SOk X (.Assign [.Tuple [.Name x px,.Starred (.Name y py) ps] k p] e pos) (sStar i j m) :=
 wM (zDf he (pg_star hc h) hs hw) λD O H=>zA1
end
section
variable{K:qH}{mg:Str->Option Value}{X:Cx}{O:L2.St}{H:Hp}
def rSlS:V->Option Int->Option Int->Hp->VK->Prop:=λx lo hi H Q=>∃z,x=.str z/\z.length<=sizeLine/\Q (.str (Txt.slice z lo hi)) H
def zA2{v:Value}{o:Option Int}(h:IsPart v o):∃p:Option (Int×Tok),v=partValue p/\p.map (·.1)=o:=by
 cases h with
 |none=>exact⟨none,rfl,rfl⟩|int i t=>exact⟨some (i,t),rfl,rfl⟩
def sl_str:SlR X rSlS:=by
 intro pins s O H x v vl vu lo hi sl Q I rx hs pl pu h;obtain⟨z,rfl,hz,q⟩:=h;obtain⟨t,rfl⟩:=rx;obtain⟨l,rfl,rfl⟩:=zA2 pl;obtain⟨u,rfl,rfl⟩:=zA2 pu;refine⟨"str",_,PySem.F.slot_str_getitem.lookup,typeIs_str _ _ _,wpAny_getItem_str_slice (l:=l) (u:=u) (st:=none) hs rfl (post_val_or_str ⟨le_trans (Txt.slice_le z _ _) hz,λt' k=>⟨.str _,H,I.tok _,⟨_,rfl⟩,q⟩⟩)⟩
def slTD:D->Option Int->Option Int->Option R
 | .str z,lo,hi=>if z.length<=sizeLine then some (.v (.str (Txt.slice z lo hi)))else none|_,_,_=>none
def slT_run{a:ME}{lo hi:MO}{Q:VK}(h:tM X (eSl slTD a lo hi) O H Q):tSl rSlS (tM X a) (tMO X lo) (tMO X hi) O H Q:=by
 obtain⟨M,E,hl,fr,k⟩:=h;unfold eSl at k;refine zk (T0:=[]) hl fr ?_;cases ea:a E with
 |z=>rw[ea]at k;exact k|exc x E1=>rw[ea]at k;exact λH' g=>k H' g
 |ok p =>
  obtain⟨r1,E1⟩:=p;rw[ea]at k;intro x H1 g1;refine Wn (T0:=[(some x,r1.slot)]) g1.len g1.fr ?_;dsimp only at k;cases eb:lo E1 with
  |z=>rw[eb]at k;exact k|exc x E2=>rw[eb]at k;exact λH' g=>k H' (g1.trans' g).dropAll
  |ok p =>
   obtain⟨l,E2⟩:=p;rw[eb]at k;intro H2 g2;have g12:=g1.trans' g2;refine Wn (T0:=[(some x,r1.slot)]) g12.len g12.fr ?_;dsimp only at k;cases ec:hi E2 with
   |z=>rw[ec]at k;exact k|exc x E3=>rw[ec]at k;exact λH' g=>k H' (g12.trans' g).dropAll
   |ok p =>
    obtain⟨u,E3⟩:=p;rw[ec]at k;intro H3 g3;have g:=g12.trans' g3;have rx:=g.rep;dsimp only at k;have f:=g.frame;cases ed:r1.d with
    |str z =>
     rw[ed]at k rx;simp only[slTD]at k;by_cases hz:z.length<=sizeLine
     ·rw[if_pos hz]at k
      have k':Kt X.K X.mg M H3 (O.zip E3) (.v (.str (Txt.slice z l u))) Q:=λv H' f' s'=>k v H' (g.more (T:=[(some v,_)]) f' s')
      exact⟨z,ze rx,hz,k'.flat f rfl⟩
     ·rw[if_neg hz]at k;exact k.elim
    |_=>rw[ed]at k;exact k.elim
def ok_slT{a:Expr}{lo hi:Option Expr}{ma:ME}{ml mh:MO}{p2 pos:Pos}(ha:EOk X a ma)(hl:OOk X lo ml)(hh:OOk X hi mh):EOk X (.Subscript a (.Slice lo hi none p2) pos) (eSl slTD ma ml mh) :=
 zf (GK sl_str ha hl hh) λO H Q=>slT_run
def zB2(z:Str)(n:Nat):Str:=⟨(replicate n z.cps).foldl (·++·) #[]⟩
def rMulT:R2:=λx y H Q=>∃z n,x=.str z/\y=.int (n:Nat)/\2<=n/\n<=1000/\1<=z.length/\z.length<=1000/\(zB2 z n).length<=1000000/\Q (.str (zB2 z n)) H
def op_mulT:OpR X (binaryOp .Mult) rMulT:=by
 intro pins s O H x y v u Q I rx ry h;obtain⟨z,n,rfl,rfl,h2,hn,h1,hz,hr,q⟩:=h;obtain⟨t,rfl⟩:=rx;obtain⟨t',rfl⟩:=ry;have hsl:(1000000:Nat)<=sizeLine:=by decide +kernel
 have c1:¬((n:Int)<1):=by omega
 have c2:¬((n:Int)==1||z.length==0)=true:=by
  simp only[Bool.or_eq_true,beq_iff_eq,not_or];exact⟨by omega,by omega⟩
 refine P.mul_str (by
  have a1:decide ((n:Int) < -(2^63:Int))=false:=decide_eq_false (by omega);have a2:decide ((n:Int) ≥ 2^63)=false:=decide_eq_false (by omega);rw[a1,a2];rfl) (λ_ _=>?_) (λ_ _=>?_) ?_
 ·have:(1000:Int)<=(2^63-1)/(n:Int):=(Int.le_ediv_iff_mul_le (by omega)).mpr (by omega)
  omega
 ·unfold Builtin.Str.tooLong
  refine decide_eq_false ?_;rw[Int.toNat_natCast];have:z.length*n<=1000*1000:=Nat.mul_le_mul hz hn;omega
 ·rw[if_neg c1,if_neg c2,Int.toNat_natCast]
  exact⟨le_trans hr hsl,⟨.str _,H,I.tok _,⟨_,rfl⟩,q⟩⟩
def Zi:D->D->Option R
 | .str z,.int n=>if 2<=n.toNat/\n.toNat<=1000/\1<=z.length/\z.length<=1000/\(zB2 z n.toNat).length<=1000000 then some (.v (.str (zB2 z n.toNat)))else none|_,_=>none
def ro_mulT:ROk K mg rMulT Zi:=by
 intro M H Z x y d1 d2 res Q f r1 r2 e k;cases d1 with
 |str z =>
  cases d2 with
  |int n =>
   simp only[Zi]at e;split at e
   ·rename_i hz
    cases e;obtain⟨h1,h2,h3,h4,h5⟩:=hz;exact⟨z,n.toNat,ze r1,by rw[zK r2];congr 1;omega,h1,h2,h3,h4,h5,k.flat f rfl⟩
   ·cases e
  |_=>cases e
 |_=>cases e
def inSD(neg:Bool):D->D->Option R
 | .str i,.str j=>some (.v (.bl (if neg then !(!(Builtin.Str.occurrences j i 0 j.length 1).isEmpty)else !(Builtin.Str.occurrences j i 0 j.length 1).isEmpty)))|_,_=>none
def zA3:ROk K mg (λx y H Q=>∃i j,x=.str i/\y=.str j/\Q (.bl (!(!(Builtin.Str.occurrences j i 0 j.length 1).isEmpty))) H) (inSD true):=by
 intro M H Z x y d1 d2 res Q f r1 r2 e k;cases d1 with
 |str i =>
  cases d2 with
  |str j=>cases e;exact⟨i,j,ze r1,ze r2,k.flat f rfl⟩|_=>cases e
 |_=>cases e
def sgV(z:Str):List V:=z.cps.toList.map λc=>V.str ⟨#[c]⟩
def sgD(z:Str):List D:=z.cps.toList.map λc=>D.str ⟨#[c]⟩
def reps_sg{H:Hp}(z:Str):Reps K mg H (sgD z) (sgV z):=by
 have:∀l:List Nat,Reps K mg H (l.map λc=>D.str ⟨#[c]⟩) (l.map λc=>V.str ⟨#[c]⟩):=λl=>by
  induction l with
  |nil=>exact Reps.nil|cons c l ih=>exact Reps.cons (by simp only[Rep]) ih
 exact this _
def vals_sg{z:Str}{acc:Array Value}(h:ItemsOf (SignAt z) acc z.cps.size):zn (sgV z) acc.toList:=by
 have gen:∀(l:List Nat) (vs:List Value),vs.length=l.length->(∀j v,vs[j]?=some v->∃(c:Nat) (u:Tok),l[j]?=some c/\v=Value.str ⟨#[c]⟩ u)->zn (l.map λc=>V.str ⟨#[c]⟩) vs:=λl=>by
  induction l with
  |nil=>intro vs hl _;have:vs=[]:=List.length_eq_zero_iff.mp hl;subst this;exact .nil
  |cons c l ih =>
   intro vs hl hv;cases vs with
   |nil=>cases hl
   |cons v vs =>
    obtain⟨c',u,e1,e2⟩:=hv 0 v rfl;have e1:=qJ e1;subst e1;refine .cons ⟨u,e2⟩ (ih vs (by simpa using hl) λj w hw=>hv (j+1) w (by simpa using hw))
 refine gen _ _ (by simpa using h.1) λj v hv=>?_
 obtain⟨c,u,hc,e⟩:=h.2 j v (by simpa using hv);exact⟨c,u,by simpa using hc,e⟩
def QW(hcm:X.calm=true):jp X (.type "list") (λxs H Q=>∃z,xs=[.str z]/\z.length<=sizeLine/\∀l,H l=none->Q (.ref l) (upd H l (.l (sgV z)))):=by
 intro pins s O H xs us Q I r h;obtain⟨z,rfl,hz,q⟩:=h;obtain⟨u,rfl,t,rfl⟩:=ZN r;refine call_list_str (hn:=hz) (I.ok.hd hcm) z t λh' tk acc c kp e hacc=>?_
 have hv:=vals_sg hacc;refine⟨.ref s.heap.objs.size,_,I.laid (t':=tk) kp (le_refl _) (show yJ X.prog X.w _ h' _ (.l (sgV z))from⟨by simp only[sgV,length_map,Array.length_toList];exact hz,acc.toList,c,hv,by simpa using e⟩),rfl,q _ (I.hok.fresh (le_refl _))⟩
def zA4:List D->Option R
 | [.str z]=>if z.length<=sizeLine then some (.own (sgD z))else none|_=>none
def zC7:COk K mg (λxs H Q=>∃z,xs=[.str z]/\z.length<=sizeLine/\∀l,H l=none->Q (.ref l) (upd H l (.l (sgV z)))) zA4:=by
 intro M H Z xs ds res Q f r e k
 match ds,e with
 | [.str z],e =>
  simp only[zA4]at e;split at e
  ·rename_i hz
   cases e;obtain⟨v,rfl,h⟩:=YN r;exact⟨z,by rw[ze h],hz,λl hl=>k.own f hl (reps_sg z)⟩
  ·cases e
def Its(z:Str):It:=⟨λi _=>i<z.cps.size,λi H x H'=>H'=H/\∃c,z.cps[i]?=some c/\x=.str ⟨#[c]⟩,λi _=>z.cps.size<=i⟩
def Gi{P:Program}{w:World}{K:qH}{tg:Expr}(it:Addr)(z:Str)(t:Tok)(ty:String)(hty:ty="str_ascii_iterator"\/ty="str_iterator"):Turn P w K tg (Its z) [it] it (λi h=>h.IsStrIter it ty z t i) where
 mem:=by simp
 obj:=λi h st b hb=>by
  have e:b=it:=by simpa using hb
  subst e;obtain⟨o,ho,hc,hd⟩:=st;exact⟨o,ho,λv q=>by rw[hd]at q;cases q⟩
 keep:=λi h h' st k=>by
  obtain⟨o,ho,r⟩:=st;exact⟨o,k it (by simp) _ ho,r⟩
 item:=by
  intro X hP hw hK hc i pins s O H E I hf st hg;subst hP hw hK;obtain⟨f0,f1,f2,f3,f4,f5⟩:=hf it (by simp);have fin:∀v h' tk,SignAt z i v->h'.IsStrIter it ty z t (i+1)->(∀b o,b∉[it]->s.heap.get? b=some o->h'.get? b=some o)->∃u,some v=some u/\wpAny (model X.prog X.w) X.A (letOwnedTupleGo tg (.ref it) u) (λ_ s2=>∃x H',Inv X pins O H' s2/\z9 x u/\(Its z).yld i H x H'/\s2.heap.IsStrIter it ty z t (i+1)/\∀b∈[it],H' b=none) E {s with heap:=h',toks:=tk}:=λv h' tk hv st' kk=>by
   obtain⟨c,u,hx,rfl⟩:=hv;have I1:Inv X pins O H {s with heap:=h',toks:=tk}:=I.turned (λb o hb e=>kk b o (by simpa using hb) e) f0 f1 f3 f4 f5
   obtain⟨o,ho,hcl,hd⟩:=id st';exact⟨_,rfl,Wg (s:={s with heap:=h',toks:=tk}) (n:=ty) ho hcl hd (by rcases hty with rfl|rfl<;>decide) ⟨.str ⟨#[c]⟩,H,I1,⟨u,rfl⟩,⟨rfl,c,hx,rfl⟩,st',λb hb=>(hf b hb).1⟩⟩
  rcases hty with rfl|rfl
  ·exact(Walks.strAscii (prog:=X.prog) (w:=X.w) (I.ok.hd hc) it z t).item i s _ _ hg st λv h' tk hv st' kk=>fin v h' tk hv st' kk
  ·exact(Walks.strWide (prog:=X.prog) (w:=X.w) (I.ok.hd hc) it z t).item i s _ _ hg st λv h' tk hv st' kk=>fin v h' tk hv st' kk
 done:=by
  intro X hP hw hK hc i pins s O H E I hf st hg;subst hP hw hK;obtain⟨f0,f1,f2,f3,f4,f5⟩:=hf it (by simp);have hn:z.cps[i]?=none:=by
   have hg:z.cps.size<=i:=hg;simp[hg]
  rcases hty with rfl|rfl
  ·exact wpAny_pyNext_ascii_end (I.ok.hd hc) st hn λh' eb=>⟨rfl,I.turned (t':=s.toks) (λb o hb e=>eb b o hb e) f0 f1 f3 f4 f5⟩
  ·exact wpAny_pyNext_wide_end (I.ok.hd hc) st hn λh' eb=>⟨rfl,I.turned (t':=s.toks) (λb o hb e=>eb b o hb e) f0 f1 f3 f4 f5⟩
 self:=λ_ _ _ _ _ st h=>by
  rcases hty with rfl|rfl
  ·exact wpAny_pyIter_striter_ascii st h
  ·exact wpAny_pyIter_striter_wide st h
def iText(tl:TE):TI:=λO H R=>tl O H λx H1=>∃z,x=.str z/\R (Its z) H1
def pi_text{tg l:Expr}{tl:TE}(hl:PE X l tl):PI X tg l (iText tl):=by
 intro pins s O H R I h;refine thn (hl pins s O H _ I h) λv s1 ⟨x,H1,I1,r1,q1⟩=>?_
 obtain⟨z,e,q⟩:=q1;subst e;obtain⟨t,rfl⟩:=r1;cases ha:z.cps.all (·<128)with
 |true =>
  refine wpAny_pyIter_ascii ha ⟨s1.heap.objs.size,[s1.heap.objs.size],_,_,H1,rfl,I1.kept (t':=s1.toks) λb o e=>qA _ e,Gi _ z t _ (.inl rfl),⟨_,get?_push_size _ rfl,rfl,rfl⟩,λb hb=>?_,q⟩;have e:b=s1.heap.objs.size:=by simpa using hb
  subst e;exact I1.fpOk (le_refl _) (I1.hok.fresh (le_refl _))
 |false =>
  refine wpAny_pyIter_wide ha ⟨s1.heap.objs.size,[s1.heap.objs.size],_,_,H1,rfl,I1.kept (t':=s1.toks) λb o e=>qA _ e,Gi _ z t _ (.inr rfl),⟨_,get?_push_size _ rfl,rfl,rfl⟩,λb hb=>?_,q⟩;have e:b=s1.heap.objs.size:=by simpa using hb
  subst e;exact I1.fpOk (le_refl _) (I1.hok.fresh (le_refl _))
def it_text{z:Str}:ItOk K mg (Its z) (sgD z) (λ_=>True) where
 mono:=λ_ _ _ _=>trivial
 go:=λi _ _ _ _ h=>show i<z.cps.size by simpa[sgD]using h
 yld:=λi Hh H x H' _ _ h y=>by
  obtain⟨rfl,c,hc,rfl⟩:=y;exact⟨.str ⟨#[c]⟩,by simp[sgD,hc],.inl ⟨rfl,by simp only[Rep]⟩⟩
 stop:=λi _ _ _ _ h=>show z.cps.size<=i by simpa[sgD]using h
def iS(m:ME):MI:=λE=>match m E with
 | .z=>.z| .exc x E1=>.exc x E1
 | .ok (r,E1)=>match r.d with
  | .str z=>.ok (sgD z,E1)|_=>.z
def io_text{tg e:Expr}{m:ME}(h:EOk X e m):IOk X tg e (iS m):=GW (pi_text h) λO H R ⟨M,E,hl,fr,k⟩=>by
 unfold iS at k;refine zk (T0:=[]) hl fr ?_;cases ea:m E with
 |z=>rw[ea]at k;exact k|exc x E1=>rw[ea]at k;exact k
 |ok p =>
  obtain⟨r,E1⟩:=p;rw[ea]at k;intro v H1 g;dsimp only at k;cases ed:r.d with
  |str z =>
   rw[ed]at k;have rl:=g.rep;rw[ed]at rl;exact⟨z,ze rl,k _ _ H1 it_text trivial g.dropAll⟩
  |_=>rw[ed]at k;exact k.elim
def rNir:R2:=λx y H Q=>∃i p lo hi,x=.int i/\y=.ref p/\H p=some (.rng lo hi)/\Q (.bl (!(decide (lo<=i)&&decide (i<hi)))) H
def zA5(a b x:Int):(Builtin.Range.rangePlace? a b 1 x).isSome=(decide (a<=x)&&decide (x<b)):=by
 unfold Builtin.Range.rangePlace?;simp only[show((1:Int) > 0)by decide,if_true,Int.emod_one,beq_self_eq_true,Bool.and_true];cases (decide (a<=x)&&decide (x<b))<;>rfl
def zEC:OpR X (compareOp .NotIn) rNir:=by
 intro pins s O H x y v u Q I rx ry h;obtain⟨i,p,lo,hi,rfl,rfl,hp,q⟩:=h;obtain⟨t,rfl⟩:=rx;cases ry;obtain⟨t1,t2,t3,ho⟩:=(show yJ X.prog X.w H s.heap p (.rng lo hi)from I.hok p _ hp);refine PyProof.Rows.NotIn_slot (T:="range") ⟨_,ho,rfl⟩ PySem.F.slot_range_contains (wpAny_call_entry PySem.F.slot_range_contains ⟨_,ho,rfl⟩ PySem.F.entry_range_contains ?_ (PySem.F.args_range_contains_2 _ _));have hf:∀(A:Around) (E':Value->Shared->Prop),wpAny (model X.prog X.w) A (Builtin.Range.rangeFields (.ref p)) (λx s'=>x=(lo,hi,1)/\s'=s) E' s:=by
  intro A E';unfold Builtin.Range.rangeFields
  repeat (any_goals (first|assumption|wp_step))
  exact⟨rfl,rfl⟩
 show wpAny _ _ (do rule "range.contains.reckoned";let (a,b,c) <- Builtin.Range.rangeFields (.ref p);ret (.bool (Builtin.Range.rangePlace? a b c i).isSome)) _ _ s
 refine qB (wpAny_rule ?_);refine qB (wpAny_mono (hf _ _) (λx s' hx=>?_) λ_ _ z=>z);obtain⟨rfl,rfl⟩:=hx;dsimp only;rw[zA5];exact qC ⟨_,rfl,wpAny_truthy_bool ⟨.bl _,H,I,rfl,q⟩⟩
def zED{lo hi:Int}{j1 j2:Nat}{p p1 p2 pos:Pos}(hg:Gl X "range")(hm:X.mg "range"=none):PE X (.Call (.Name "range" p) [.Constant (.int lo) j1 p1,.Constant (.int hi) j2 p2] [] pos) (λO H Q=>∀l,H l=none->Q (.ref l) (upd H l (.rng lo hi))):=by
 intro pins s O H Q I h;refine PyProof.Rows.Call_ (vF I hg hm PyProof.Rows.boot_range (PyProof.Rows.callWith_type1 (thn (L2.yN (X:=X) L2.vE (L2.yN L2.vE L2.wL rfl) rfl pos pins s O H (λvs H1=>vs=[V.int lo,V.int hi]/\H1=H) I ⟨rfl,rfl⟩) λus s1 ⟨vs,H1,I1,r1,q1⟩=>?_) rfl rfl));obtain⟨rfl,rfl⟩:=q1;cases r1 with
 |cons r rr =>
  cases rr with
  |cons r' rr =>
   cases rr;obtain⟨t,rfl⟩:=r;obtain⟨t',rfl⟩:=r';refine call_range_2 ⟨.ref s1.heap.objs.size,_,I1.laid (λb ob q=>qA _ q) (le_refl _) (show yJ X.prog X.w _ _ _ (.rng lo hi)from⟨_,_,_,get?_push_size _ rfl⟩),rfl,h _ (I1.hok.fresh (le_refl _))⟩
def nirD(lo hi:Int):D->Option R
 | .int i=>some (.v (.bl (!(decide (lo<=i)&&decide (i<hi)))))|_=>none
def zA6{lo hi:Int}{a:ME}{Q:VK}(h:tM X (eUn (nirD lo hi) a) O H Q):tOp rNir (tM X a) (λO H Q=>∀l,H l=none->Q (.ref l) (upd H l (.rng lo hi))) O H Q :=
 Ww (rel:=λx H Q=>∀l,H l=none->rNir x (.ref l) (upd H l (.rng lo hi)) Q) (λM H Z x d res Q f r e k=>by
  cases d with
  |int i =>
   cases e;intro l hl;exact⟨i,l,lo,hi,zK r,rfl,zU,k _ _ ((f.grow hl).add (by simp only[Rep])) (Step.newVal hl)⟩
  |_=>cases e) h
def ok_nir{a:Expr}{ma:ME}{lo hi:Int}{j1 j2:Nat}{p p1 p2 pos pos2:Pos}(hg:Gl X "range")(hm:X.mg "range"=none)(ha:EOk X a ma):EOk X (.Compare a [.NotIn] [.Call (.Name "range" p) [.Constant (.int lo) j1 p1,.Constant (.int hi) j2 p2] [] pos2] pos) (eUn (nirD lo hi) ma) :=
 zf (Qx zEC ha (zED hg hm) rfl) λO H Q h=>zA6 h
def ok_nirT{a:Expr}{ma:ME}{lo hi:Int}{j1 j2:Nat}{p p1 p2 pos pos2:Pos}(hg:Gl X "range")(hm:X.mg "range"=none)(ha:EOk X a ma):TOk X (.Compare a [.NotIn] [.Call (.Name "range" p) [.Constant (.int lo) j1 p1,.Constant (.int hi) j2 p2] [] pos2] pos) (tT (eUn (nirD lo hi) ma)) :=
 WP (Qy zEC ha (zED hg hm) rfl) λO H Q h=>zA6 (GP h)
structure NmAt(X:Cx)(i:Nat)(x:Str):Prop where
 n:X.N[i]?=some x
 v:Vis X.env.scope x
 d:(x==("__debug__":Str))=false
 c:(x==("__classdict__":Str))=false
def zEE{i:Nat}{x:Str}(N:NmAt X i x){pins:List (Addr×Obj)}{s:Shared}(I:Inv X pins O H s){v:V}(e:O[i]?=some (some v)):∃u,z9 v u/\∀(pos:Pos) (Q:Value->Shared->Prop) (E:Value->Shared->Prop),Q u s->wpAny (model X.prog X.w) X.A (eval (.Name x pos) X.env) Q E s:=by
 obtain⟨m,hn,hl⟩:=I.loc;obtain⟨u,r,l⟩:=hl i x v N.n e N.v;refine⟨u,r,λpos Q E fin=>?_⟩;rcases l with⟨hk,hm⟩|⟨hk,c,hc,hcell⟩
 ·exact wpAny_Name (wpAny_loadName_local I.ok.kind hk hn hm fin) N.d
 ·rcases hk with hk|hk
  ·exact wpAny_Name (wpAny_loadName_cell I.ok.kind hk hc hcell fin) N.d
  ·exact wpAny_Name (wpAny_loadName_free I.ok.kind hk hc hcell fin N.c) N.d
def zA7{prog:Program}{w:World}{A:Around}{E:Value->Shared->Prop}{s:Shared}{x y:Str}{t u:Tok}{Q:Value->Shared->Prop}(hz:x.length+y.length<=sizeLine)(h:∀t' k,s.toks<=k->Q (.str (x++y) t') {s with toks:=k}):wpAny (model prog w) A (binaryOp .Add (.str x t) (.str y u)) Q E s:=by
 refine P.add_str ?_;by_cases hx:(x.length==0)=true
 ·rw[if_pos hx]
  have:x++y=y:=by
   have e:x=⟨#[]⟩:=by
    obtain⟨a⟩:=x;have h0:a.size=0:=by simpa[Str.length]using hx
    exact congrArg Str.mk (Array.eq_empty_of_size_eq_zero h0)
   subst e;show(⟨#[]++y.cps⟩:Str)=y;simp
  have q:=h u s.toks (le_refl _);rw[this]at q;exact q
 ·rw[if_neg hx]
  by_cases hy:(y.length==0)=true
  ·rw[if_pos hy]
   have:x++y=x:=by
    have e:y=⟨#[]⟩:=by
     obtain⟨a⟩:=y;have h0:a.size=0:=by simpa[Str.length]using hy
     exact congrArg Str.mk (Array.eq_empty_of_size_eq_zero h0)
    subst e;show(⟨x.cps++#[]⟩:Str)=x;simp
   have q:=h t s.toks (le_refl _);rw[this]at q;exact q
  ·rw[if_neg hy]
   refine⟨?_,h _ _ (le_succ _)⟩;show(x.cps++y.cps).size<=sizeLine;rw[Array.size_append];exact hz
def tRp(i:Nat)(c0 c1 c2:Str)(t:L2.TA):L2.TA:=λO H Q=>∃z,O[i]?=some (some (.str z))/\z.length<=1000/\c0.length<=1000/\c2.length<=1000/\(c1==c2)=false/\t O H λxs H2=>Q (.str (z++c0)::.str (Txt.replace z c1 c2)::xs) H2
def pa_rp{i:Nat}{x:Str}{c0 c1 c2:Str}{t:L2.TA}{es:List Expr}{j0 j1 j2:Nat}{q0 q1 q2 q3 q4 q4' apos cpos:Pos}(N:NmAt X i x)(hr:L2.PA X es t)(hline:(apos.endLine==cpos.line)=true) :
  L2.PA X (.BinOp (.Name x q0) .Add (.Constant (.str c0) j0 q1) q2::.Call (.Attribute (.Name x q3) "replace" apos) [.Constant (.str c1) j1 q4,.Constant (.str c2) j2 q4'] [] cpos::es) (tRp i c0 c1 c2 t):=by
 intro pos pins s O H Q I h;obtain⟨z,e,hz,h0,h2,hne,h⟩:=h;show wpAny _ _ (spliced ((false,eval (.BinOp (.Name x q0) .Add (.Constant (.str c0) j0 q1) q2) X.env)::(false,eval (.Call (.Attribute (.Name x q3) "replace" apos) [.Constant (.str c1) j1 q4,.Constant (.str c2) j2 q4'] [] cpos) X.env)::backTo pos (starEach es X.env))) _ _ s;have hsl:(1002001:Nat)<=sizeLine:=by decide +kernel
 obtain⟨u,⟨tz,rfl⟩,ld⟩:=zEE N I e;refine Calls.spliced_cons (wpAny_BinOp (ld _ _ _ (Calls.Constant_str (zA7 (by omega) λt' k hk=>?_))));replace hk:s.toks+1<=k:=hk;have I1:Inv X pins O H {s with toks:=k}:=I.tok k
 obtain⟨u2,⟨tz2,rfl⟩,ld2⟩:=zEE N I1 e;refine Calls.spliced_cons (wpAny_Call_method_late (trees:=[(false,eval (.Constant (.str c1) j1 q4) X.env),(false,eval (.Constant (.str c2) j2 q4') X.env)]) rfl rfl hline rfl (ld2 _ _ _ ?_));refine⟨"str",_,PySem.F.plainAttrs_str,PySem.F.slot_str_replace,PySem.F.type_str_replace,typeIs_str _ _ _,(λa e=>nomatch e),?_⟩;refine Calls.callWith_builtin rfl (Calls.evalArgs_plain (Calls.spliced_cons (Calls.Constant_str (Calls.spliced_cons (Calls.Constant_str (Calls.spliced_nil ?_))))));refine SC.replace (u:=k) (v:=k+1) (by show k≠0;omega) (by show k+1≠0;omega) (by show k≠k+1;omega) hne (by
  have:(z.length+1)*c2.length<=1001*1000:=Nat.mul_le_mul (by omega) h2;omega) λt'' k'=>?_
 exact thn (hr pos pins _ O H _ (I.tok k') h) λus s2 ⟨xs,H2,I2,r2,q2⟩=>⟨.str (z++c0)::.str (Txt.replace z c1 c2)::xs,H2,I2,.cons ⟨_,rfl⟩ (.cons ⟨_,rfl⟩ r2),q2⟩
def aRp(i:Nat)(c0 c1 c2:Str)(m:MA):MA:=λE=>match E[i]? with
 |some (.v (.str z))=>if z.length<=1000/\c0.length<=1000/\c2.length<=1000/\(c1==c2)=false then(match m E with
  | .z=>.z| .exc x E1=>.exc x E1| .ok (rs,E1)=>.ok (.v (.str (z++c0))::.v (.str (Txt.replace z c1 c2))::rs,E1))else .z
 |_=>.z
def Gj{M:Addr->Prop}{O O':L2.St}{E E':zQ}{H H':Hp}{T0 T:Fz}(g:Got K mg M O E H T0 O' E' H' T){d:D}(h:flat d=true):Got K mg M O E H T0 O' E' H' ((some (flV d),.v d)::T) :=
 ⟨g.len,FR.add g.fr (Wl h),Step.add g.st,g.pk⟩
def ok_rp{i:Nat}{x:Str}{c0 c1 c2:Str}{m:MA}{es:List Expr}{j0 j1 j2:Nat}{q0 q1 q2 q3 q4 q4' apos cpos:Pos}(N:NmAt X i x)(hr:AOk X es m)(hline:(apos.endLine==cpos.line)=true) :
  AOk X (.BinOp (.Name x q0) .Add (.Constant (.str c0) j0 q1) q2::.Call (.Attribute (.Name x q3) "replace" apos) [.Constant (.str c1) j1 q4,.Constant (.str c2) j2 q4'] [] cpos::es) (aRp i c0 c1 c2 m) :=
 WQ (pa_rp N hr hline) λO H Q ⟨M,E,hl,fr,k⟩=>by
  unfold aRp at k;cases e:E[i]? with
  |none=>rw[e]at k;exact k.elim
  |some sl =>
  rw[e]at k;cases sl with
  |v d =>
   cases d with
   |str z =>
    dsimp only at k;by_cases hc:z.length<=1000/\c0.length<=1000/\c2.length<=1000/\(c1==c2)=false
    ·rw[if_pos hc]at k
     obtain⟨o,h1,h2⟩:=j7 hl e;obtain⟨v,rfl,r⟩:=fr.val o _ h2;have:=ze r;subst this;refine⟨z,h1,hc.1,hc.2.1,hc.2.2.1,hc.2.2.2,M,E,hl,fr,?_⟩;cases em:m E with
     |z=>rw[em]at k;exact k|exc x E1=>rw[em]at k;exact k
     |ok p =>
      obtain⟨rs,E1⟩:=p;rw[em]at k;intro vs H' hv g;exact k (.str (z++c0)::.str (Txt.replace z c1 c2)::vs) H' (by simp[hv]) (Gj (d:=.str (z++c0)) (Gj (d:=.str (Txt.replace z c1 c2)) g rfl) rfl)
    ·rw[if_neg hc]at k;exact k.elim
   |_=>exact k.elim
  |_=>exact k.elim
def zC8{c:Bool}{k:Nat}{f:Addr}{fd:FuncData}{ps:List Str}{F:MF}{x:Str}{p pos:Pos}(G:FnOkN c X.prog X.w X.K X.mg X.base k f fd ps (spM X.K X.mg ps.length F))(hd:c=true->X.A.handled=none)(hr:RoomN k X.A)(hg:Gl X x)(hm:X.mg x=some (.ref f))(hk:keepIn X.K (.ref f)=true)(hb:Jj X.K fd ps [])(hn:0=ps.length)
  (hdb:(x==("__debug__":Str))=false):EOk X (.Call (.Name x p) [] [] pos) (jK F []):=by
 intro pins s O H Q I h;obtain⟨M,E,hl,fr,k⟩:=GV (as:=[]) hn h;have q:spM X.K X.mg ps.length F [] H Q (EX X O):=k [] H (by simp only[AV]) (Got.refl (T0:=[]) hl fr);refine wpAny_Call_Name_kw (YI I hg hm ?_ hdb);exact PySem.W.callWith_K0 I.kIn hk (zAF (us:=[]) G hd hr hb I .nil q)
end
inductive Op2 where
 |add|sub|mul|fdiv|mod|pow
def Op2.op:Op2->Operator
 | .add=>.Add | .sub=>.Sub | .mul=>.Mult | .fdiv=>.FloorDiv | .mod=>.Mod | .pow=>.Pow
def Op2.f:Op2->D->D->Option R
 | .add=>vB | .sub=>subD | .mul=>mulG | .fdiv=>zCc | .mod=>modD | .pow=>powD
inductive Cp where
 |lt|le|gt|ge|eq|ne|inn|nin|is|ninS
def Cp.op:Cp->CmpOp
 | .lt=>.Lt | .le=>.LtE | .gt=>.Gt | .ge=>.GtE | .eq=>.Eq | .ne=>.NotEq | .inn=>.In | .nin=>.NotIn | .is=>.Is | .ninS=>.NotIn
def Cp.f:Cp->D->D->Option R
 | .lt=>ltD | .le=>leD | .gt=>gtD | .ge=>geD | .eq=>eqG | .ne=>neG | .inn=>inF false | .nin=>inF true | .is=>isG false | .ninS=>inSD true
def Cp.isI:Cp->Bool
 | .lt | .le | .gt | .ge=>true
 |_=>false
def Cp.b:Cp->Int->Int->Bool
 | .lt=>ltB | .le=>leB | .gt=>gtB|_=>geB
inductive Bi where
 |len|max|all|int|tuple|repr|strT|intT|lenT|lisT
def Bi.nm:Bi->Str
 | .len=>"len" | .max=>"max" | .all=>"all" | .int=>"int" | .tuple=>"tuple" | .repr=>"repr" | .strT=>"str" | .intT=>"int" | .lenT=>"len" | .lisT=>"list"
def Bi.f:Bi->List D->Option R
 | .len=>lenD | .max=>maxD | .all=>allD | .int=>intF | .tuple=>zDu | .repr=>reprG | .strT=>strF | .intT=>DV.intT | .lenT=>DV.lenT | .lisT=>DV.zA4
inductive Ty where
 |int|bool|tuple|list|str|dict
def Ty.s:Ty->String
 | .int=>"int" | .bool=>"bool" | .tuple=>"tuple" | .list=>"list" | .str=>"str" | .dict=>"dict"
def Ty.nm:Ty->Str
 | .int=>"int" | .bool=>"bool" | .tuple=>"tuple" | .list=>"list" | .str=>"str" | .dict=>"dict"
inductive Tg where
 |n (i:Nat)
 |t (is:List Nat)
def Tg.m:Tg->MG
 | .n i=>gN i| .t is=>gT is
mutual
inductive Ex where
 |c (d:D)|gl (d:D)|var (i:Nat)
 |bin (o:Op2) (a b:Ex)|cmp (o:Cp) (a b:Ex)|chain (o o':Cp) (a b c:Ex)
 |neg (a:Ex)|not (a:Ex)|and (a b:Ex)
 |ifx (t:Tx) (a b:Ex)|t (as:Ax)|l (as:Ax)|dic
 |ix (a b:Ex)|ixO (i:Nat) (b:Ex)|lenO (i:Nat)|sl (a:Ex) (l h:Ox)
 |comp (nl:Nat) (loc capn:List Str) (caps:List Nat) (it:Ix) (tg:Tg) (tt:Tx) (el:Ex)
 |is (T:Ty) (a:Ex)|cB (b:Bi) (as:Ax)|call (k:Nat) (as:Gx)
 |stp (k:Bool) (a:Ex)
 |isC (cl:List Str) (y:Str) (a:Ex)|isV (cl:List Str) (a:Ex)|cnt (a b:Ex)|idx (a b:Ex)
 |cat (a b:Ex)|ixT (a b:Ex)|joi (a b:Ex)|spl (a b:Ex)|asc (a:Ex)|dig (a:Ex)|atr (ri:List Str) (f:Str) (a:Ex)
 |slT (a:Ex) (l h:Ox)|mulT (a b:Ex)|nir (lo hi:Int) (a:Ex)|call0 (k:Nat)
inductive Tx where
 |tAnd (a b:Tx)|tOr (a b:Tx)|tNot (a:Tx)|tE (a:Ex)|tBor (i:Nat) (a:Tx)|tTr
inductive Ax where
 |nil|cons (a:Ex) (as:Ax)|rp (i:Nat) (c0 c1 c2:Str) (as:Ax)
inductive Gx where
 |nil|ev (a:Ex) (as:Gx)|lend (i:Nat) (as:Gx)
inductive Ox where
 |oN|oS (a:Ex)
inductive Ix where
 |iL (a:Ex)|iT (a:Ex)|iR1 (as:Ax)|iS (a:Ex)
end
mutual
inductive Sx where
 |sIf (t:Tx) (a b:Bx)|sSet (i:Nat) (a:Ex)|sRet (a:Ex)|sIx (i:Nat) (b a:Ex)|sApp (i:Nat) (a:Ex)
 |sForL (a:Ex) (tg:Tg) (b:Bx)|sForR1 (as:Ax) (tg:Tg) (b:Bx)
 |sAny|sStar (i j:Nat) (a:Ex)|sRaiseA (c:Str) (as:Ax)
 |sTry (cl:List Str) (b:Bx) (i:Nat) (h:Bx)
inductive Bx where
 |bNil|bOne (s:Sx)|bSeq (s:Sx) (b:Bx)
end
structure FI where
 x:Str
 n:Nat
 lv:Nat
 wild:Bool
 F:MF
def fiF(fs:List FI)(k:Nat):MF:=match fs[k]? with
 |some i=>i.F|none=>λ_=>.z
def fiX(fs:List FI)(k:Nat):Str:=match fs[k]? with
 |some i=>i.x|none=>""
def zEF(m:ME):ME:=λE=>match m E with
 | .exc _ _=>.z|o=>o
def zB3(m:MS):MS:=λE=>match m E with
 | .exc _ _=>.z|o=>o
def zA8{m:ME}{E:zQ}{p:R×zQ}(h:m E=.ok p):zEF m E=.ok p:=by simp only[zEF,h]
def zA9{m:MS}{E:zQ}{p:Fl×zQ}(h:m E=.ok p):zB3 m E=.ok p:=by simp only[zB3,h]
def no_E{X:Cx}{e:Expr}{m:ME}(h:EOk X.nox e m):EOk X e (zEF m):=zf h.nox λO H Q ⟨M,E,hl,fr,k⟩=>by
 unfold zEF at k;refine⟨M,E,hl,fr,?_⟩;cases e:m E with
 |z=>rw[e]at k;exact k|exc x E1=>rw[e]at k;exact k.elim|ok p=>rw[e]at k;exact k
def no_S{X:Cx}{st:Stmt}{m:MS}(h:SOk X.nox st m):SOk X st (zB3 m):=λpins s O H D I ⟨M,E,hl,fr,k⟩=>by
 refine wpAny_mono (h pins s O H D (I.wish _) ⟨M,E,hl,fr,?_⟩) (λ_ _ q=>q.unwish) λ_ _ z=>False.elim z
 unfold zB3 at k;cases e:m E with
 |z=>rw[e]at k;exact k|exc x E1=>rw[e]at k;exact k.elim
 |ok p =>
  rw[e]at k;obtain⟨fl,E1⟩:=p;cases fl<;>exact k
def no_set{i:Nat}{m:ME}:zB3 (sSet i m)=sSet i (zEF m):=by
 funext E
 simp only[zB3,sSet,zEF];cases m E with
 |z=>rfl|exc x E1=>rfl
 |ok p =>
  obtain⟨r,E1⟩:=p;dsimp only;cases YO i r E1<;>rfl
mutual
def dE(fs:List FI):Ex->ME
 | .c d=>eC d| .gl d=>eC d| .var i=>QL i| .bin o a b=>JB o.f (dE fs a) (dE fs b)| .cmp o a b=>JB o.f (dE fs a) (dE fs b)| .chain o o' a b c=>JE o.b o'.b (dE fs a) (dE fs b) (dE fs c)| .neg a=>eNeg (dE fs a)| .not a=>eNot (dE fs a)| .and a b=>zCW (dE fs a) (dE fs b)| .ifx t a b=>eIf (dT fs t) (dE fs a) (dE fs b)| .t as=>eTup (dA fs as)| .l as=>eLst (dA fs as)| .dic=>eC .dic| .ix a b=>JB ixD (dE fs a) (dE fs b)| .ixO i b=>zCh i (dE fs b)| .lenO i=>QN i| .sl a l h=>eSl slD (dE fs a) (dO fs l) (dO fs h)| .comp nl _ _ caps it tg tt el=>zEF (Zd nl caps (dI fs it) tg.m (dT fs tt) (dE fs el))| .is T a=>eIs T.s (dE fs a)| .cB b as=>eCB b.f (dA fs as)| .call k as=>jK (fiF fs k) (dG fs as)| .stp k a=>eUn (zCv k) (dE fs a)| .isC cl y a=>eIsX cl (·==y) (dE fs a)| .isV cl a=>eIsX cl (λ_=>true) (dE fs a)| .cnt a b=>eMet cntD (dE fs a) (dE fs b)| .idx a b=>eMet idxD (dE fs a) (dE fs b)| .cat a b=>JB zC1 (dE fs a) (dE fs b)| .ixT a b=>JB DV.ixT (dE fs a) (dE fs b)| .joi a b=>WB WC (dE fs a) (dE fs b)| .spl a b=>WB jr (dE fs a) (dE fs b)| .asc a=>eUn (Yp false) (dE fs a)| .dig a=>eUn (Yp true) (dE fs a)| .atr ri f a=>eAtr ri f (dE fs a)| .call0 k=>jK (fiF fs k) []| .slT a l h=>eSl slTD (dE fs a) (dO fs l) (dO fs h)| .mulT a b=>JB Zi (dE fs a) (dE fs b)| .nir lo hi a=>eUn (nirD lo hi) (dE fs a)
def dT(fs:List FI):Tx->MT
 | .tAnd a b=>uh (dT fs a) (dT fs b)| .tOr a b=>tOrM (dT fs a) (dT fs b)| .tNot a=>QM (dT fs a)| .tE a=>tT (dE fs a)| .tBor i a=>zAz i (dT fs a)| .tTr=>zAY
def dA(fs:List FI):Ax->MA
 | .nil=>aNil| .cons a as=>vZ (dE fs a) (dA fs as)| .rp i c0 c1 c2 as=>aRp i c0 c1 c2 (dA fs as)
def dG(fs:List FI):Gx->List Arg
 | .ev a as=>.ev (dE fs a)::dG fs as| .lend i as=>.lend i::dG fs as| .nil=>[]
def dO(fs:List FI):Ox->MO
 | .oN=>zCf| .oS a=>zAQ (dE fs a)
def dI(fs:List FI):Ix->MI
 | .iL a=>iL (dE fs a)| .iT a=>iT (dE fs a)| .iR1 as=>iR1 (dA fs as)| .iS a=>DV.iS (dE fs a)
end
mutual
def dS(fs:List FI):Sx->MS
 | .sIf t a b=>sIf (dT fs t) (dB fs a) (dB fs b)| .sSet i a=>sSet i (dE fs a)| .sRet a=>sRet (dE fs a)| .sIx i b a=>Ym i (dE fs b) (dE fs a)| .sApp i a=>sApp i (dE fs a)| .sStar i j a=>DV.sStar i j (dE fs a)| .sRaiseA c as=>DV.sRaiseA c (dA fs as)| .sForL a tg b=>zB3 (sForL (dE fs a) tg.m (dB fs b))| .sForR1 a tg b=>zB3 (sForR1 (dA fs a) tg.m (dB fs b))| .sAny=>λ_=>.z| .sTry cl b i h=>DV.sTry cl i (dB fs b) (dB fs h)
def dB(fs:List FI):Bx->MS
 | .bNil=>sNil| .bOne s=>dS fs s| .bSeq s b=>GT (dS fs s) (dB fs b)
end
def rE_c{fs d}:dE fs (.c d)=eC d:=rfl
def rE_gl{fs d}:dE fs (.gl d)=eC d:=rfl
def JG{fs i}:dE fs (.var i)=QL i:=rfl
def WX{fs o a b}:dE fs (.bin o a b)=JB o.f (dE fs a) (dE fs b):=rfl
def WY{fs o a b}:dE fs (.cmp o a b)=JB o.f (dE fs a) (dE fs b):=rfl
def ZC{fs o o' a b c}:dE fs (.chain o o' a b c)=JE o.b o'.b (dE fs a) (dE fs b) (dE fs c):=rfl
def rE_neg{fs a}:dE fs (.neg a)=eNeg (dE fs a):=rfl
def Gm{fs a b}:dE fs (.and a b)=zCW (dE fs a) (dE fs b):=rfl
def zEG{fs t a b}:dE fs (.ifx t a b)=eIf (dT fs t) (dE fs a) (dE fs b):=rfl
def rE_tup{fs as}:dE fs (.t as)=eTup (dA fs as):=rfl
def vq{fs as}:dE fs (.l as)=eLst (dA fs as):=rfl
def rE_ix{fs a b}:dE fs (.ix a b)=JB ixD (dE fs a) (dE fs b):=rfl
def vt{fs i b}:dE fs (.ixO i b)=zCh i (dE fs b):=rfl
def zBA{fs i}:dE fs (.lenO i)=QN i:=rfl
def rE_sl{fs a l h}:dE fs (.sl a l h)=eSl slD (dE fs a) (dO fs l) (dO fs h):=rfl
def zBB{fs nl u1 u2 caps it tg tt el}:dE fs (.comp nl u1 u2 caps it tg tt el)=zEF (Zd nl caps (dI fs it) tg.m (dT fs tt) (dE fs el)):=rfl
def rE_is{fs T a}:dE fs (.is T a)=eIs T.s (dE fs a):=rfl
def zC9{fs b as}:dE fs (.cB b as)=eCB b.f (dA fs as):=rfl
def yi{fs k as}:dE fs (.call k as)=jK (fiF fs k) (dG fs as):=rfl
def rE_stp{fs k a}:dE fs (.stp k a)=eUn (zCv k) (dE fs a):=rfl
def rE_cat{fs a b}:dE fs (.cat a b)=JB zC1 (dE fs a) (dE fs b):=rfl
def rE_ixT{fs a b}:dE fs (.ixT a b)=JB DV.ixT (dE fs a) (dE fs b):=rfl
def rE_joi{fs a b}:dE fs (.joi a b)=WB WC (dE fs a) (dE fs b):=rfl
def rE_spl{fs a b}:dE fs (.spl a b)=WB jr (dE fs a) (dE fs b):=rfl
def rE_asc{fs a}:dE fs (.asc a)=eUn (Yp false) (dE fs a):=rfl
def rE_dig{fs a}:dE fs (.dig a)=eUn (Yp true) (dE fs a):=rfl
def rE_atr{fs ri f a}:dE fs (.atr ri f a)=eAtr ri f (dE fs a):=rfl
def zDA{fs k}:dE fs (.call0 k)=jK (fiF fs k) []:=rfl
def rE_slT{fs a l h}:dE fs (.slT a l h)=eSl slTD (dE fs a) (dO fs l) (dO fs h):=rfl
def rE_mulT{fs a b}:dE fs (.mulT a b)=JB Zi (dE fs a) (dE fs b):=rfl
def rE_nir{fs lo hi a}:dE fs (.nir lo hi a)=eUn (nirD lo hi) (dE fs a):=rfl
def zBC{fs a b}:dT fs (.tAnd a b)=uh (dT fs a) (dT fs b):=rfl
def zEH{fs a b}:dT fs (.tOr a b)=tOrM (dT fs a) (dT fs b):=rfl
def rT_tNot{fs a}:dT fs (.tNot a)=QM (dT fs a):=rfl
def zBD{fs a}:dT fs (.tE a)=tT (dE fs a):=rfl
def rT_tBor{fs i a}:dT fs (.tBor i a)=zAz i (dT fs a):=rfl
def zEI{fs}:dT fs (.tTr)=zAY:=rfl
def zBE{fs}:dA fs (.nil)=aNil:=rfl
def ur{fs a as}:dA fs (.cons a as)=vZ (dE fs a) (dA fs as):=rfl
def rA_rp{fs i c0 c1 c2 as}:dA fs (.rp i c0 c1 c2 as)=aRp i c0 c1 c2 (dA fs as):=rfl
def Y0{fs a as}:dG fs (.ev a as)=.ev (dE fs a)::dG fs as:=rfl
def Zj{fs i as}:dG fs (.lend i as)=.lend i::dG fs as:=rfl
def jt{fs}:dG fs (.nil)=[]:=rfl
def rO_oN{fs}:dO fs (.oN)=zCf:=rfl
def rO_oS{fs a}:dO fs (.oS a)=zAQ (dE fs a):=rfl
def rI_iL{fs a}:dI fs (.iL a)=iL (dE fs a):=rfl
def rI_iT{fs a}:dI fs (.iT a)=iT (dE fs a):=rfl
def rI_iR1{fs as}:dI fs (.iR1 as)=iR1 (dA fs as):=rfl
def rI_iS{fs a}:dI fs (.iS a)=DV.iS (dE fs a):=rfl
def vv{fs t a b}:dS fs (.sIf t a b)=sIf (dT fs t) (dB fs a) (dB fs b):=rfl
def Zk{fs i a}:dS fs (.sSet i a)=sSet i (dE fs a):=rfl
def wC{fs a}:dS fs (.sRet a)=sRet (dE fs a):=rfl
def zBF{fs i b a}:dS fs (.sIx i b a)=Ym i (dE fs b) (dE fs a):=rfl
def rS_sApp{fs i a}:dS fs (.sApp i a)=sApp i (dE fs a):=rfl
def zDB{fs i j a}:dS fs (.sStar i j a)=DV.sStar i j (dE fs a):=rfl
def QX{fs c as}:dS fs (.sRaiseA c as)=DV.sRaiseA c (dA fs as):=rfl
def zDC{fs a tg b}:dS fs (.sForL a tg b)=zB3 (sForL (dE fs a) tg.m (dB fs b)):=rfl
def zBG{fs a tg b}:dS fs (.sForR1 a tg b)=zB3 (sForR1 (dA fs a) tg.m (dB fs b)):=rfl
def zBH{fs cl b i h}:dS fs (.sTry cl b i h)=DV.sTry cl i (dB fs b) (dB fs h):=rfl
def Wz{fs}:dB fs (.bNil)=sNil:=rfl
def wW{fs s}:dB fs (.bOne s)=dS fs s:=rfl
def wD{fs s b}:dB fs (.bSeq s b)=GT (dS fs s) (dB fs b):=rfl
structure Sg where
 N:List Str
 sc:Scope
 top:Bool
 cs:List (Str×D)
 fs:List FI
 bs:List Str
 lv:Nat
 calm:Bool
 cl:List Str
 rs:List Str
 oc:List Str
 ri:List Str
def kIs(sg:Sg)(x:Str)(k:NameKind):Bool:=sg.sc.names.lookup x==some k
def vis(sg:Sg)(i:Nat)(x:Str):Bool:=sg.N[i]?==some x&&(kIs sg x .local||(kIs sg x .cell||kIs sg x .free))&&(!(x==("__debug__":Str))&&!(x==("__classdict__":Str)))
def glb(sg:Sg)(x:Str):Bool:=kIs sg x .globalImplicit&&!(x==("__debug__":Str))
def locd(sg:Sg)(i:Nat)(x:Str):Bool:=sg.N[i]?==some x&&(kIs sg x .local||(kIs sg x .cell&&(sg.top||sg.oc.contains x)))
def cIs:D->Const->Bool
 | .non,.none=>true| .bl b,.bool c=>b==c| .int i,.int j=>i==j| .str x,.str y=>x==y|_,_=>false
def feq:D->D->Bool
 | .non,.non=>true| .bl b,.bl c=>b==c| .int i,.int j=>i==j| .str x,.str y=>x==y|_,_=>false
def geq:D->D->Bool
 | .t [.int a,.int b],.t [.int c,.int d]=>a==c&&b==d| .t [.non,.int b],.t [.non,.int d]=>b==d|d,e=>feq d e
def gIs(sg:Sg)(x:Str)(d:D):Bool:=match sg.cs.lookup x with
 |some d'=>geq d d'|none=>false
def fIs(sg:Sg)(k:Nat)(x:Str):Bool:=match sg.fs[k]? with
 |some i=>i.x==x|none=>false
def zEJ(sg:Sg)(n:Nat)(k:Nat):Bool:=match sg.fs[k]? with
 |some i=>i.n==n&&decide (i.lv<=sg.lv)&&(sg.calm||i.wild)
 |none=>false
def bIn(sg:Sg)(x:Str):Bool:=sg.bs.contains x
def gLen:Gx->Nat
 | .ev _ as=>gLen as+1| .lend _ as=>gLen as+1| .nil=>0
def Gn:Tg->Sg->Expr->Bool
 | .n i,sg,e=>match e with
  | .Name x _=>locd sg i x|_=>false
 | .t is,sg,e=>match e with
  | .Tuple es _ _=>all2 sg is es|_=>false
where all2 (sg:Sg):List Nat->List Expr->Bool
 | [],[]=>true
 |i::is,e::es=>(match e with | .Name x _=>locd sg i x|_=>false)&&all2 sg is es
 |_,_=>false
def relab(scope:Scope)(sc:Scope):Scope:={scope with names:=scope.names.map λ(n,k)=>if(k==NameKind.free&&sc.kind==.function&&sc.names.lookup n==some .cell)then(n,NameKind.cell)else(n,k)}
def capB(sg:Sg)(scope:Scope):List Nat->List Str->Bool
 | [],[]=>true|j::js,x::xs=>sg.N[j]?==some x&&scope.names.lookup x==some .free&&capB sg scope js xs|_,_=>false
def uT(sg:Sg)(N:List Str)(scope:Scope):Sg:={sg with N:=N,sc:=relab scope sg.sc,top:=false,oc:=(scope.names.filter λy=>y.2==.cell).map Prod.fst}
def zBI(sg:Sg)(nl:Nat)(loc capn:List Str)(caps:List Nat)(scope:Scope):Bool :=
 loc.length==nl&&scope.kind==.function&&decide (loc++capn).Nodup&&scope.names.all (λy=>y.2 != .local||scope.names.lookup y.1==some .local)&&scope.names.all (λy=>y.2 != .cell||scope.names.lookup y.1==some .cell)
  && scope.names.all (λy=>y.2 != .free||sg.sc.names.lookup y.1==some .cell)&&capB sg scope caps capn
def isCmp:Ex->Bool
 | .cmp _ _ _=>true| .chain _ _ _ _ _=>true| .nir _ _ _=>true|_=>false
def stIs:Bool->Expr->Bool
 |true,e=>match e with
  | .Constant (.int i) _ _=>i==2|_=>false
 |false,e=>match e with
  | .UnaryOp .USub (.Constant (.int i) _ _) _=>i==1|_=>false
def zBJ:Expr->Bool
 | .Tuple _ _ _=>false|_=>true
def swB(sg:Sg)(x:Str)(px:Pos)(scope:Scope)(vp:Pos):Bool:=kIs sg x .local&&px.line==vp.line&&!(scope.names.any λy=>y.1==x&&(y.2==.local||y.2==.cell))
def isCo:Ex->Bool
 | .comp _ _ _ _ _ _ _ _=>true|_=>false
def setOk(sg:Sg)(x:Str)(px:Pos)(a:Ex)(v:Expr):Bool:=match v with
 | .ListComp _ _ scope vp=>sg.sc.kind==.function&&(!swB sg x px scope vp||isCo a)
 |v=>ZV v
def isTr:Tx->Bool
 | .tTr=>true|_=>false
def chkZ:Ix->Expr->Bool
 |_,_=>true
mutual
def zg:Ex->Sg->Expr->Bool
 | .c d,_,e=>match e with
  | .Constant k _ _=>cIs d k|_=>false
 | .gl d,sg,e=>match e with
  | .Name x _=>glb sg x&&gIs sg x d|_=>false
 | .var i,sg,e=>match e with
  | .Name x _=>vis sg i x|_=>false
 | .bin o a b,sg,e=>match e with
  | .BinOp x op y _=>op==o.op&&(zg a sg x&&zg b sg y)|_=>false
 | .cmp o a b,sg,e=>match e with
  | .Compare x [op] [y] _=>op==o.op&&jG y&&(zg a sg x&&zg b sg y)|_=>false
 | .chain o o' a b c,sg,e=>match e with
  | .Compare x [op,op'] [y,z] _=>op==o.op&&op'==o'.op&&o.isI&&o'.isI&&jG z&&(zg a sg x&&(zg b sg y&&zg c sg z))|_=>false
 | .neg a,sg,e=>match e with
  | .UnaryOp .USub x _=>zg a sg x|_=>false
 | .not a,sg,e=>match e with
  | .UnaryOp .Not x _=>zg a sg x|_=>false
 | .and a b,sg,e=>match e with
  | .BoolOp .And (x::y::r) p=>zg a sg x&&(match r with | []=>zg b sg y|z::r'=>zg b sg (.BoolOp .And (y::z::r') p))
  |_=>false
 | .ifx t a b,sg,e=>match e with
  | .IfExp c x y _=>chkT t sg c&&(zg a sg x&&zg b sg y)|_=>false
 | .t as,sg,e=>match e with
  | .Tuple es _ _=>chkA as sg es|_=>false
 | .l as,sg,e=>match e with
  | .List es _=>chkA as sg es|_=>false
 | .dic,_,e=>match e with
  | .Dict [] [] _=>true|_=>false
 | .ix a b,sg,e=>match e with
  | .Subscript x y _=>Z7 y&&(zg a sg x&&zg b sg y)|_=>false
 | .ixO i b,sg,e=>match e with
  | .Subscript (.Name x _) y _=>vis sg i x&&Z7 y&&zg b sg y|_=>false
 | .lenO i,sg,e=>match e with
  | .Call (.Name f _) [.Name x _] [] _=>f == "len"&&glb sg "len"&&bIn sg "len"&&vis sg i x|_=>false
 | .sl a l h,sg,e=>match e with
  | .Subscript x (.Slice lo hi none _) _=>zg a sg x&&(chkO l sg lo&&chkO h sg hi)|_=>false
 | .comp nl loc capn caps it tg tt el,sg,e=>match e with
  | .ListComp elt [⟨target,iter,ifs,0⟩] scope _=>sg.calm&&(zBI sg nl loc capn caps scope&&jG iter&&((chkZ it target&&chkI it sg iter)&&(Gn tg (uT sg (loc++capn) scope) target&&((match ifs with | []=>isTr tt|c::cs=>cs.isEmpty&&chkT tt (uT sg (loc++capn) scope) c)&&zg el (uT sg (loc++capn) scope) elt))))
  |_=>false
 | .is T a,sg,e=>match e with
  | .Call (.Name f _) [x,.Name y _] [] _=>f == "isinstance"&&y==T.nm&&glb sg "isinstance"&&bIn sg "isinstance"&&glb sg T.nm&&bIn sg T.nm&&!zW x&&zg a sg x|_=>false
 | .cB b as,sg,e=>match e with
  | .Call (.Name f _) (x::es) [] _=>sg.calm&&(f==b.nm&&glb sg b.nm&&bIn sg b.nm&&yM (x::es)&&chkA as sg (x::es))|_=>false
 | .call k as,sg,e=>match e with
  | .Call (.Name f _) (x::es) [] _=>glb sg f&&fIs sg k f&&zEJ sg (gLen as) k&&yM (x::es)&&chkG as sg (x::es)|_=>false
 | .stp k a,sg,e=>match e with
  | .Subscript x (.Slice none none (some st) _) _=>stIs k st&&zg a sg x|_=>false
 | .isC cl y a,sg,e=>match e with
  | .Call (.Name f _) [x,.Name z _] [] _=>f == "isinstance"&&z==y&&glb sg "isinstance"&&bIn sg "isinstance"&&glb sg y&&(cl==sg.cl&&sg.cl.contains y)&&!zW x&&zg a sg x|_=>false
 | .isV cl a,sg,e=>match e with
  | .Call (.Name f _) [x,.Name z _] [] _=>f == "isinstance"&&z == "ValueError"&&glb sg "isinstance"&&bIn sg "isinstance"&&glb sg "ValueError"&&bIn sg "ValueError"&&(cl==sg.cl&&!sg.cl.isEmpty)&&!zW x&&zg a sg x|_=>false
 | .cnt a b,sg,e=>match e with
  | .Call (.Attribute (.Name x p) m ap) [v] [] cp=>m == "count"&&ap.endLine==cp.line&&!zW v&&(zg a sg (.Name x p)&&zg b sg v)|_=>false
 | .idx a b,sg,e=>match e with
  | .Call (.Attribute (.Name x p) m ap) [v] [] cp=>m == "index"&&ap.endLine==cp.line&&!zW v&&(zg a sg (.Name x p)&&zg b sg v)|_=>false
 | .cat a b,sg,e=>match e with
  | .BinOp x op y _=>op==.Add&&(zg a sg x&&zg b sg y)|_=>false
 | .ixT a b,sg,e=>match e with
  | .Subscript x y _=>Z7 y&&(zg a sg x&&zg b sg y)|_=>false
 | .joi a b,sg,e=>match e with
  | .Call (.Attribute (.Constant x y p) m ap) [v] [] cp=>m == "join"&&ap.endLine==cp.line&&!zW v&&(zg a sg (.Constant x y p)&&zg b sg v)|_=>false
 | .spl a b,sg,e=>match e with
  | .Call (.Attribute (.Name x p) m ap) [v] [] cp=>m == "split"&&ap.endLine==cp.line&&!zW v&&(zg a sg (.Name x p)&&zg b sg v)|_=>false
 | .asc a,sg,e=>match e with
  | .Call (.Attribute (.Name x p) m ap) [] [] cp=>m == "isascii"&&ap.endLine==cp.line&&zg a sg (.Name x p)|_=>false
 | .dig a,sg,e=>match e with
  | .Call (.Attribute (.Name x p) m ap) [] [] cp=>m == "isdigit"&&ap.endLine==cp.line&&zg a sg (.Name x p)|_=>false
 | .atr ri f a,sg,e=>match e with
  | .Attribute (.Name x p) g _=>g==f&&(ri==sg.ri&&!sg.cl.isEmpty)&&sg.ri.all (λc=>sg.cl.contains c)&&zg a sg (.Name x p)|_=>false
 | .call0 k,sg,e=>match e with
  | .Call (.Name f _) [] [] _=>glb sg f&&fIs sg k f&&zEJ sg 0 k|_=>false
 | .slT a l h,sg,e=>match e with
  | .Subscript x (.Slice lo hi none _) _=>zg a sg x&&(chkO l sg lo&&chkO h sg hi)|_=>false
 | .mulT a b,sg,e=>match e with
  | .BinOp x op y _=>op==.Mult&&(zg a sg x&&zg b sg y)|_=>false
 | .nir lo hi a,sg,e=>match e with
  | .Compare x [op] [.Call (.Name f _) [.Constant (.int i) _ _,.Constant (.int j) _ _] [] _] _=>op==.NotIn&&f == "range"&&glb sg "range"&&bIn sg "range"&&(i==lo&&j==hi)&&zg a sg x|_=>false
def chkT:Tx->Sg->Expr->Bool
 | .tAnd a b,sg,e=>match e with
  | .BoolOp .And (x::y::r) p=>chkT a sg x&&(match r with | []=>chkT b sg y|z::r'=>chkT b sg (.BoolOp .And (y::z::r') p))
  |_=>false
 | .tOr a b,sg,e=>match e with
  | .BoolOp .Or (x::y::r) p=>chkT a sg x&&(match r with | []=>chkT b sg y|z::r'=>chkT b sg (.BoolOp .Or (y::z::r') p))
  |_=>false
 | .tNot a,sg,e=>match e with
  | .UnaryOp .Not x _=>chkT a sg x|_=>false
 | .tE a,sg,e=>(zDp e||isCmp a)&&zg a sg e
 | .tBor _ a,sg,e=>chkT a sg e| .tTr,_,_=>false
def chkA:Ax->Sg->List Expr->Bool
 | .nil,_,es=>es.isEmpty
 | .cons a as,sg,es=>match es with
  |x::r=>!zW x&&(zg a sg x&&chkA as sg r)| []=>false
 | .rp i c0 c1 c2 as,sg,es=>match es with
  | .BinOp (.Name x _) op (.Constant (.str d0) _ _) _::.Call (.Attribute (.Name y _) m ap) [.Constant (.str d1) _ _,.Constant (.str d2) _ _] [] cp::r=>op==.Add&&m == "replace"&&ap.endLine==cp.line&&(y==x&&d0==c0&&d1==c1&&d2==c2)&&vis sg i x&&chkA as sg r|_=>false
def chkG:Gx->Sg->List Expr->Bool
 | .nil,_,es=>es.isEmpty
 | .ev a as,sg,es=>match es with
  |x::r=>!zW x&&(zg a sg x&&chkG as sg r)| []=>false
 | .lend i as,sg,es=>match es with
  | .Name x _::r=>vis sg i x&&chkG as sg r|_=>false
def chkO:Ox->Sg->Option Expr->Bool
 | .oN,_,o=>o.isNone
 | .oS a,sg,o=>match o with
  |some e=>zg a sg e|none=>false
def chkI:Ix->Sg->Expr->Bool
 | .iL a,sg,e=>zg a sg e| .iT a,sg,e=>zg a sg e| .iS a,sg,e=>zg a sg e
 | .iR1 as,sg,e=>match e with
  | .Call (.Name f _) [x] [] _=>f == "range"&&glb sg "range"&&bIn sg "range"&&!zW x&&chkA as sg [x]|_=>false
end
mutual
def chkS:Sx->Sg->Stmt->Bool
 | .sIf t a b,sg,e=>match e with
  | .If c x y _=>chkT t sg c&&(chkB a sg x&&chkB b sg y)|_=>false
 | .sSet i a,sg,e=>match e with
  | .Assign [.Name x px] v _=>locd sg i x&&setOk sg x px a v&&zg a sg v|_=>false
 | .sAny,_,_=>true
 | .sTry cl b i h,sg,e=>match e with
  | .Try body [.ExceptHandler (some (.Name t _)) (some n) (b0::suite) _] [] [] _=>t == "ThrowError"&&glb sg "ThrowError"&&(cl==sg.cl&&!sg.cl.isEmpty)&&sg.top&&(sg.N[i]?==some n&&kIs sg n .local)&&(chkB b sg body&&chkB h {sg with calm:=false} (b0::suite))
  |_=>false
 | .sRaiseA c as,sg,e=>match e with
  | .Raise (some (.Call (.Name x _) (y::es) [] _)) none _=>sg.calm&&(x==c&&glb sg c&&sg.ri.contains c&&decide (3<=sg.lv)&&yM (y::es)&&chkA as sg (y::es))|_=>false
 | .sStar i j a,sg,e=>match e with
  | .Assign [.Tuple [.Name x px,.Starred (.Name y py) ps] k p] v _=>sg.calm&&(Gn.all2 sg [i,j] [.Name x px,.Name y py]&&zBJ v&&zg a sg v)|_=>false
 | .sRet a,sg,e=>match e with
  | .Return (some v) _=>zg a sg v|_=>false
 | .sIx i b a,sg,e=>match e with
  | .Assign [.Subscript (.Name x _) y _] v _=>vis sg i x&&Z7 y&&ZV v&&(zg b sg y&&zg a sg v)|_=>false
 | .sApp i a,sg,e=>match e with
  | .Expr (.Call (.Attribute (.Name x _) m ap) [v] [] cp) _=>m == "append"&&ap.endLine==cp.line&&vis sg i x&&!zW v&&zg a sg v|_=>false
 | .sForL a tg b,sg,e=>match e with
  | .For t it body [] _=>sg.calm&&(jG it&&Gn tg sg t&&(zg a sg it&&chkB b sg body))|_=>false
 | .sForR1 as tg b,sg,e=>match e with
  | .For t (.Call (.Name f _) [x] [] _) body [] _=>sg.calm&&(f == "range"&&glb sg "range"&&bIn sg "range"&&!zW x&&Gn tg sg t&&(chkA as sg [x]&&chkB b sg body))|_=>false
def chkB:Bx->Sg->List Stmt->Bool
 | .bNil,_,l=>l.isEmpty
 | .bOne a,sg,l=>match l with
  | [s]=>chkS a sg s|_=>false
 | .bSeq a b,sg,l=>match l with
  |s::r=>chkS a sg s&&chkB b sg r|_=>false
end
structure SgOk(X:Cx)(sg:Sg):Prop where
 N:X.N=sg.N
 sc:X.env.scope=sg.sc
 fn:sg.top=true->∀x,X.fn x=true
 oc:∀x∈sg.oc,X.env.scope.names.lookup x=some .cell->X.fn x=true
 calm:sg.calm=true->X.calm=true
 hd:sg.calm=true->X.A.handled=none
 stk:sg.top=true->X.stack=X.env::X.outer/\X.env.frame=some X.env.locals
 nd:X.N.Nodup
 cs:∀x d,sg.cs.lookup x=some d->∃u v,X.mg x=some u/\z9 v u/\∀H,Rep X.K X.mg H d v
 fs:∀i∈sg.fs,∃f fd ps,X.mg i.x=some (.ref f)/\keepIn X.K (.ref f)=true/\Jj X.K fd ps []/\ps.length=i.n/\FnOkN (!i.wild) X.prog X.w X.K X.mg X.base i.lv f fd ps (spM X.K X.mg i.n i.F)
 bs:∀x∈sg.bs,X.mg x=none
 room:RoomN sg.lv X.A
 cl:sg.cl≠[]->∃T,X.mg "ThrowError"=some (.ref T)/\TCls X.K T/\∀c∈sg.cl,∃C,X.mg c=some (.ref C)/\XCls X.K c C T/\C≠T
 rs:∀c∈sg.rs,∃C,X.mg c=some (.ref C)/\excIn X.K C VB "ValueError.__new__"=true
 sm:SmOk X.K
 ri:∀c∈sg.ri,RIok X.prog X.w X.K X.mg X.base c/\RAok X.K X.mg c
section
variable{X:Cx}{sg:Sg}
def wO(G:SgOk X sg){x:Str}{k:NameKind}(h:kIs sg x k=true):X.env.scope.names.lookup x=some k:=by
 rw[G.sc];simpa[kIs]using h
def yX(G:SgOk X sg){x:Str}(h:glb sg x=true):Gl X x/\(x==("__debug__":Str))=false:=by
 simp only[glb,Bool.and_eq_true,Bool.not_eq_true']at h;exact⟨wO G h.1,h.2⟩
def WZ(G:SgOk X sg){x:Str}{i:Nat}{pos:Pos}(h:vis sg i x=true):PE X (.Name x pos) (Z5 i):=by
 simp only[vis,Bool.and_eq_true,Bool.or_eq_true,Bool.not_eq_true']at h;refine zDd (by rw[G.N];simpa using h.1.1) ?_ h.2.1 h.2.2;rcases h.1.2 with q|q|q
 ·exact .inl (wO G q)
 ·exact .inr (.inl (wO G q))
 ·exact .inr (.inr (wO G q))
def nm_at(G:SgOk X sg){x:Str}{i:Nat}(h:vis sg i x=true):NmAt X i x:=by
 simp only[vis,Bool.and_eq_true,Bool.or_eq_true,Bool.not_eq_true']at h;refine⟨by rw[G.N];simpa using h.1.1,?_,h.2.1,h.2.2⟩;rcases h.1.2 with q|q|q
 ·exact .inl (wO G q)
 ·exact .inr (.inl (wO G q))
 ·exact .inr (.inr (wO G q))
def ut(G:SgOk X sg){x:Str}{i:Nat}(h:locd sg i x=true):X.N[i]?=some x/\Loc X.env.scope x/\(X.fn x=true\/X.env.scope.names.lookup x=some .local):=by
 simp only[locd,Bool.and_eq_true,Bool.or_eq_true]at h;refine⟨by rw[G.N];simpa using h.1,?_⟩;rcases h.2 with q|q
 ·exact⟨.inl (wO G q),.inr (wO G q)⟩
 ·refine⟨.inr (wO G q.1),.inl ?_⟩
  rcases q.2 with q2|q2
  ·exact G.fn q2 x
  ·exact G.oc x (by simpa using q2) (wO G q.1)
def wX(G:SgOk X sg){x:Str}(h:bIn sg x=true):X.mg x=none:=G.bs x (by simpa[bIn]using h)
def feq_of{d d':D}(h:feq d d'=true):d=d':=by
 cases d<;>cases d'<;>simp[feq]at h<;>first|rfl|(subst h;rfl)
def geq_of{d d':D}(h:geq d d'=true):d=d':=by
 unfold geq at h;split at h
 ·obtain⟨h1,h2⟩:=Bool.and_eq_true_iff.mp h
  have:=beq_iff_eq.mp h1;have:=beq_iff_eq.mp h2
  subst_vars;rfl
 ·have:=beq_iff_eq.mp h
  subst_vars;rfl
 ·exact feq_of h
def ok_glR{x:Str}{d:D}{u:Value}{v:V}{pos:Pos}(hg:Gl X x)(hm:X.mg x=some u)(r:z9 v u)(hr:∀H,Rep X.K X.mg H d v)(hd:(x==("__debug__":Str))=false):EOk X (.Name x pos) (eC d) :=
 zf (Qm hg hm r hd) λO H Q ⟨M,E,hl,fr,k⟩=>k _ H ((Got.refl (T0:=[]) hl fr).more (T:=[(some v,.v d)]) (FR.add fr (hr _)) Step.refl.add)
def zEK{k:Nat}{x:Str}(h:fIs sg k x=true):∃i,sg.fs[k]?=some i/\i.x=x:=by
 unfold fIs at h;split at h
 ·rename_i i e;exact⟨i,e,by simpa using h⟩
 ·cases h
def zBK{k n:Nat}(h:zEJ sg n k=true):∃i,sg.fs[k]?=some i/\i.n=n/\i.lv<=sg.lv/\(sg.calm||i.wild)=true:=by
 unfold zEJ at h;split at h
 ·rename_i i e
  simp only[Bool.and_eq_true,decide_eq_true_eq,beq_iff_eq]at h;exact⟨i,e,h.1.1,h.1.2,by simpa using h.2⟩
 ·cases h
def hd_of(G:SgOk X sg){b:Bool}(h:(sg.calm||b)=true):(!b)=true->X.A.handled=none:=λhb=>G.hd (by
 cases b with
 |true=>cases hb|false=>simpa using h)
def zEL{fs:List FI}{k:Nat}{i:FI}(h:fs[k]?=some i):fiF fs k=i.F/\fiX fs k=i.x:=by
 unfold fiF fiX;rw[h];exact⟨rfl,rfl⟩
def YX{b:Expr}(h:Z7 b=true):Wh b:=by
 intro o i;cases b<;>first|rfl|(cases h)
def Yq(es:List Expr)(is:List Nat)(G:SgOk X sg)(h:Gn.all2 sg is es=true):PGs X es (JQ is)/\(assignEach es X.env).length=is.length/\(assignEach es X.env).findIdx? (·.1)=none:=by
 induction es generalizing is with
 |nil =>
  cases is with
  |nil=>exact⟨pgs_nil,rfl,rfl⟩|cons i is=>cases h
 |cons e es ih =>
  cases is with
  |nil=>cases h
  |cons i is =>
   simp only[Gn.all2,Bool.and_eq_true]at h;obtain⟨h1,h2⟩:=h;cases e with
   |Name x pos =>
    obtain⟨q1,q2,q3⟩:=ut G h1;obtain⟨i1,i2,i3⟩:=ih is h2;refine⟨zB9 (Qp G.nd q1 q2 q3) i1 rfl,?_,?_⟩
    ·show(assignEach es X.env).length+1=_
     rw[i2];rfl
    ·show List.findIdx? _ ((false,_)::assignEach es X.env)=none
     simp only[List.findIdx?_cons,i3];rfl
   |_=>cases h1
def gOf(K:qH):Tg->TG
 | .n i=>uY i| .t is=>gTup K is.length (JQ is)
def Wg(tg:Tg):GOk X (gOf X.K tg) tg.m:=by
 cases tg with
 |n i=>exact go_name i|t is=>exact go_tup is rfl
def zDD{tg:Tg}{t:Expr}(hcm:sg.calm=true)(G:SgOk X sg)(h:Gn tg sg t=true):PG X t (gOf X.K tg):=by
 cases tg with
 |n i =>
  simp only[Gn]at h;cases t with
  |Name x pos =>
   obtain⟨q1,q2,q3⟩:=ut G h;exact Qp G.nd q1 q2 q3
  |_=>cases h
 |t is =>
  simp only[Gn]at h;cases t with
  |Tuple es k pos =>
   obtain⟨q1,q2,q3⟩:=Yq es is G h;exact pg_tup (G.calm hcm) q1 q2 q3
  |_=>cases h
def Go(G:SgOk X sg){N:List Str}{scope:Scope}(hn:N.Nodup)(hcell:∀y∈scope.names,y.2=.cell->scope.names.lookup y.1=some .cell){cl C ex s H}:SgOk (cxB X N scope cl C ex s H) (uT sg N scope) where
 N:=rfl
 sc:=by
  show relabel scope X.env=relab scope sg.sc
  rw[<- G.sc];rfl
 fn:=λh=>by cases h
 oc:=λx h _=>by
  obtain⟨y,hy,rfl⟩:=mem_map.mp (show x∈(scope.names.filter λy=>y.2==.cell).map Prod.fst from h);obtain⟨q1,q2⟩:=mem_filter.mp hy;show(scope.names.lookup y.1==some NameKind.cell)=true;rw[hcell y q1 (by simpa using q2)];rfl
 calm:=G.calm
 hd:=G.hd
 stk:=λh=>by cases h
 nd:=hn
 cs:=G.cs
 fs:=G.fs
 bs:=G.bs
 room:=G.room
 cl:=G.cl
 rs:=G.rs
 sm:=G.sm
 ri:=G.ri
def ja(G:SgOk X sg):SgOk X.nox sg:=⟨G.N,G.sc,G.fn,G.oc,G.calm,G.hd,G.stk,G.nd,G.cs,G.fs,G.bs,G.room,G.cl,G.rs,G.sm,G.ri⟩
def tr_ok(G:SgOk X sg)(pn:List (Addr×Obj))(E:Value->Shared->Prop):SgOk (trX X pn E) sg:=⟨G.N,G.sc,G.fn,G.oc,G.calm,G.hd,G.stk,G.nd,G.cs,G.fs,G.bs,G.room,G.cl,G.rs,G.sm,G.ri⟩
def hd_ok(G:SgOk X sg)(a:Addr):SgOk (hdX X a) {sg with calm:=false}:=⟨G.N,G.sc,G.fn,G.oc,λh=>by(cases h),λh=>by(cases h),G.stk,G.nd,G.cs,G.fs,G.bs,⟨G.room.gd,G.room.dp,G.room.un⟩,G.cl,G.rs,G.sm,G.ri⟩
end
section
open Bool
def kit_of(K:qH)(T:Ty):Kit K T.s:=by
 cases T
 ·exact kit_int K
 ·exact zCq K
 ·exact zAe K
 ·exact zCr K
 ·exact kit_str K
 ·exact zCs K
def bt_of(T:Ty):bootBuiltins T.nm=some (.type T.s):=by
 cases T
 ·exact zAf
 ·exact bt_bool
 ·exact GY
 ·exact zAg
 ·exact zD1
 ·exact bt_dict
def nm_of(T:Ty):T.nm≠"__name__":=by cases T<;>decide +kernel
def bin_of{X:Cx}{o:Op2}{a b:Expr}{ma mb:ME}{pos:Pos}(ha:EOk X a ma)(hb:EOk X b mb):EOk X (.BinOp a o.op b pos) (JB o.f ma mb):=by
 cases o
 ·exact vY op_addD ro_add ha hb
 ·exact vY op_sub ro_sub ha hb
 ·exact vY (op_mulD.or op_repL) ro_mulG ha hb
 ·exact vY zCb ro_fdiv ha hb
 ·exact vY op_mod ro_mod ha hb
 ·exact vY op_pow ro_pow ha hb
def Gp{X:Cx}{sg:Sg}(G:SgOk X sg):X.A.units+20<cLine:=by have:=G.room.un;omega
def bt_repr:bootBuiltins "repr"=some (.builtin "repr"):=by decide +kernel
def room64{X:Cx}{sg:Sg}(G:SgOk X sg):X.A.units+64<cLine:=by have:=G.room.un;omega
def zj{op:CmpOp}{b:Expr}(h:jG b=true):behindInMarks op b=false:=by
 cases b<;>first|rfl|(cases h)
def cmp_of{X:Cx}{sg:Sg}(G:SgOk X sg){o:Cp}{a b:Expr}{ma mb:ME}{pos:Pos}(hn:jG b=true)(ha:EOk X a ma)(hb:EOk X b mb):EOk X (.Compare a [o.op] [b] pos) (JB o.f ma mb):=by
 cases o
 ·exact JC op_lt ro_lt (zj hn) ha hb
 ·exact JC op_le ro_le (zj hn) ha hb
 ·exact JC op_gt ro_gt (zj hn) ha hb
 ·exact JC op_ge ro_ge (zj hn) ha hb
 ·exact JC (op_eq.or (zD2 (Gp G))) zD5 (zj hn) ha hb
 ·exact JC (op_ne.or (zD3 (Gp G))) zD6 (zj hn) ha hb
 ·exact JC vP (zCd (neg:=false)) (zj hn) ha hb
 ·exact JC Yi (zCd (neg:=true)) (zj hn) ha hb
 ·exact JC op_is ro_is (zj hn) ha hb
 ·exact JC Yj zA3 (zj hn) ha hb
def cmpT_of{X:Cx}{sg:Sg}(G:SgOk X sg){o:Cp}{a b:Expr}{ma mb:ME}{pos:Pos}(hn:jG b=true)(ha:EOk X a ma)(hb:EOk X b mb):TOk X (.Compare a [o.op] [b] pos) (tT (JB o.f ma mb)):=by
 cases o
 ·exact ji op_lt ro_lt (zj hn) ha hb
 ·exact ji op_le ro_le (zj hn) ha hb
 ·exact ji op_gt ro_gt (zj hn) ha hb
 ·exact ji op_ge ro_ge (zj hn) ha hb
 ·exact ji (op_eq.or (zD2 (Gp G))) zD5 (zj hn) ha hb
 ·exact ji (op_ne.or (zD3 (Gp G))) zD6 (zj hn) ha hb
 ·exact ji vP (zCd (neg:=false)) (zj hn) ha hb
 ·exact ji Yi (zCd (neg:=true)) (zj hn) ha hb
 ·exact ji op_is ro_is (zj hn) ha hb
 ·exact ji Yj zA3 (zj hn) ha hb
def zBL{o o':CmpOp}{b c:Expr}(h:jG c=true):lastMarks [o,o'] [b,c]=false:=zj h
def Gq{X:Cx}{o:Cp}(h:o.isI=true):OpR X (compareOp o.op) (rI0 λi j=>.bl (o.b i j)):=by
 cases o<;>first|exact op_lt|exact op_le|exact op_gt|exact op_ge|(cases h)
def bi_of{X:Cx}{sg:Sg}(hcm:sg.calm=true)(G:SgOk X sg)(b:Bi){x:Expr}{es:List Expr}{m:MA}{p pos:Pos}(hg:Gl X b.nm)(hm:X.mg b.nm=none)(hs:yM (x::es)=true)(ha:AOk X (x::es) m):EOk X (.Call (.Name b.nm p) (x::es) [] pos) (eCB b.f m):=by
 have h1:zW x=false:=by simp only[yM,Bool.and_eq_true,Bool.not_eq_true']at hs;exact hs.1
 have h2:yM es=true:=by simp only[yM,Bool.and_eq_true,Bool.not_eq_true']at hs;exact hs.2
 cases b with
 |len=>exact Jq Yk co_len hg hm zD0 ha (by decide +kernel) (by decide +kernel) h1 h2|max=>exact Jq (Q0 (G.calm hcm)) co_max hg hm bt_max ha (by decide +kernel) (by decide +kernel) h1 h2|all=>exact Jq (zCV (G.calm hcm)) co_all hg hm bt_all ha (by decide +kernel) (by decide +kernel) h1 h2|int=>exact wT Q1 co_int hg hm zAf ha (by decide +kernel) (by decide +kernel) h1 h2|tuple=>exact wT Wj zCe hg hm GY ha (by decide +kernel) (by decide +kernel) h1 h2|repr=>exact Jq (QT G.sm G.room.gd (room64 G)) co_repr hg hm bt_repr ha (by decide +kernel) (by decide +kernel) h1 h2|strT=>exact wT vI co_strF hg hm zD1 ha (by decide +kernel) (by decide +kernel) h1 h2|intT=>exact wT zA0 co_intT hg hm zAf ha (by decide +kernel) (by decide +kernel) h1 h2|lenT=>exact Jq vQ co_lenT hg hm zD0 ha (by decide +kernel) (by decide +kernel) h1 h2|lisT=>exact wT (QW (G.calm hcm)) zC7 hg hm zAg ha (by decide +kernel) (by decide +kernel) h1 h2
def vw{lo hi:Int}{a:Ex}{sg:Sg}{e:Expr}(h:zg (.nir lo hi a) sg e=true):∃x p j1 j2 p1 p2 pos pos2,e=.Compare x [.NotIn] [.Call (.Name "range" p) [.Constant (.int lo) j1 p1,.Constant (.int hi) j2 p2] [] pos2] pos/\glb sg "range"=true/\bIn sg "range"=true/\zg a sg x=true:=by
 unfold zg at h;split at h
 ·simp only[Bool.and_eq_true,beq_iff_eq]at h
  obtain⟨⟨⟨⟨⟨rfl,rfl⟩,k1⟩,k2⟩,rfl,rfl⟩,k3⟩:=h;exact⟨_,_,_,_,_,_,_,_,rfl,k1,k2,k3⟩
 ·cases h
def zDE{i:Nat}{c0 c1 c2:Str}{as:Ax}{sg:Sg}{e:List Expr}(h:chkA (.rp i c0 c1 c2 as) sg e=true):∃x r j0 j1 j2 q0 q1 q2 q3 q4 q5 ap cp,e=.BinOp (.Name x q0) .Add (.Constant (.str c0) j0 q1) q2::.Call (.Attribute (.Name x q3) "replace" ap) [.Constant (.str c1) j1 q4,.Constant (.str c2) j2 q5] [] cp::r/\(ap.endLine==cp.line)=true/\vis sg i x=true/\chkA as sg r=true:=by
 unfold chkA at h;split at h
 ·simp only[Bool.and_eq_true,beq_iff_eq]at h
  obtain⟨⟨⟨⟨⟨rfl,rfl⟩,k0⟩,⟨⟨rfl,rfl⟩,rfl⟩,rfl⟩,k2⟩,k3⟩:=h;exact⟨_,_,_,_,_,_,_,_,_,_,_,_,_,rfl,by simpa using k0,k2,k3⟩
 ·cases h
theorem zBM(fs:List FI):∀as:Gx,(dG fs as).length=gLen as
 | .nil=>rfl| .ev a as=>congrArg (·+1) (zBM fs as)| .lend i as=>congrArg (·+1) (zBM fs as)
def call_ok{X:Cx}{sg:Sg}(G:SgOk X sg){k:Nat}{as:Gx}{f:Str}{x:Expr}{es:List Expr}{p pos:Pos}(h1:glb sg f=true)(h2:fIs sg k f=true)(h3:zEJ sg (gLen as) k=true)(h4:yM (x::es)=true)(ha:zDy X (x::es) (dG sg.fs as)):EOk X (.Call (.Name f p) (x::es) [] pos) (jK (fiF sg.fs k) (dG sg.fs as)):=by
 obtain⟨g1,g2⟩:=yX G h1;obtain⟨i,e1,e2⟩:=zEK h2;obtain⟨i',e1',e3,e4,e5⟩:=zBK h3;rw[e1]at e1';cases e1';obtain⟨a,fd,ps,m1,m2,m3,m4,m5⟩:=G.fs i (mem_of_getElem? e1);rw[(zEL e1).1];subst e2;simp only[yM,Bool.and_eq_true,Bool.not_eq_true']at h4;rw[<- m4]at m5;exact ok_call m5 (hd_of G e5) (G.room.mono e4) g1 m1 m2 m3 ha (by rw[zBM,m4,e3]) g2 h4.1 h4.2
def zDF{X:Cx}{sg:Sg}(G:SgOk X sg){k:Nat}{f:Str}{p pos:Pos}(h1:glb sg f=true)(h2:fIs sg k f=true)(h3:zEJ sg 0 k=true):EOk X (.Call (.Name f p) [] [] pos) (jK (fiF sg.fs k) []):=by
 obtain⟨g1,g2⟩:=yX G h1;obtain⟨i,e1,e2⟩:=zEK h2;obtain⟨i',e1',e3,e4,e5⟩:=zBK h3;rw[e1]at e1';cases e1';obtain⟨a,fd,ps,m1,m2,m3,m4,m5⟩:=G.fs i (mem_of_getElem? e1);rw[(zEL e1).1];subst e2;rw[<- m4]at m5;exact zC8 m5 (hd_of G e5) (G.room.mono e4) g1 m1 m2 m3 (by rw[m4,e3]) g2
theorem zBN{X:Cx}{sg:Sg}(G:SgOk X sg){scope:Scope}:∀{caps:List Nat} {capn:List Str},capB sg scope caps capn=true->zAi X scope caps capn
 | [],[],_=>trivial| [],_::_,h=>by cases h|_::_,[],h=>by cases h
 |j::js,x::xs,h=>by
  simp only[capB,Bool.and_eq_true]at h;exact⟨by rw[G.N];simpa using h.1.1,by simpa using h.1.2,zBN G h.2⟩
end
section
def set_of{x:Str}{p p1:Pos}{b:Expr}{env:Env}(h:Z7 b=true):∀v,assign (.Subscript (.Name x p) b p1) env v=(do
   let ov <- holding [v] (eval (.Name x p) env)
   let iv <- holding [v,ov] (eval b env)
   standAt p1
   holding [v,ov,iv] (setItem ov iv v)
   release [v,ov,iv] []):=by
 intro v;cases b<;>first|rfl|(cases h)
def zDG{es:List Expr}{k:Nat}{p:Pos}{e:Expr}{l:Nat}{env:Env}:swapsWithSole [.Tuple es k p] e l env=pure false:=by
 show swapsWith e (some (.Tuple es k p)) l env=pure false
 cases e<;>rfl
def swp_of{es:List Expr}{k:Nat}{p:Pos}{e:Expr}{env:Env}(h:zBJ e=true):swappedStores [.Tuple es k p] e env=pure none:=by
 cases e<;>first|rfl|(cases h)
def sole_of{t e:Expr}{l:Nat}{env:Env}(h:ZV e=true):swapsWithSole [t] e l env=pure false:=by
 show swapsWith e (some t) l env=pure false
 exact GO h
def st_of{X:Cx}{k:Bool}{st:Expr}(h:stIs k st=true):PE X st (tC (.int (yQ k))):=by
 cases k with
 |true =>
  simp only[stIs]at h;split at h
  ·have:=beq_iff_eq.mp h;subst this
   exact vE
  ·cases h
 |false =>
  simp only[stIs]at h;split at h
  ·have:=beq_iff_eq.mp h;subst this
   exact zf (pe_un zDi vE) λO H Q q=>⟨1,rfl,q⟩
  ·cases h
def kind_fn{X:Cx}{sg:Sg}(G:SgOk X sg)(h:(sg.sc.kind==ScopeKind.function)=true):X.env.blockKind=.function:=by
 have:X.env.scope.kind=.function:=by rw[G.sc];exact beq_iff_eq.mp h
 unfold Env.blockKind;rw[this];rfl
def zEM{X:Cx}{sg:Sg}(G:SgOk X sg)(hk:(sg.sc.kind==ScopeKind.function)=true){el:Expr}{gs:List Comprehension}{scope:Scope}{vp px:Pos}{x:Str}{l:Nat}:swapsWith (.ListComp el gs scope vp) (some (.Name x px)) l X.env=pure (swB sg x px scope vp):=by
 show(pure (X.env.blockKind==.function&&X.env.kindOf x==some .local&&px.line==vp.line&&!(scope.names.any λ(n,k)=>n==x&&(k==.local||k==.cell))):Sem Bool)=_
 rw[kind_fn G hk];unfold swB kIs Env.kindOf;rw[G.sc];simp
def zEN{X:Cx}{op:BoolOp}{vs:List Expr}{p:Pos}{m:MT}(h:TOk X (.BoolOp op vs p) m):WOk X (.BoolOp op vs p) m:=λwh=>h
def vx{e:Expr}{env:Env}{cpos:Pos}(h:zW e=false):((backTo cpos (starEach (e::[]) env)).all (λx=>!x.1)&&(backToKw cpos (keywordEach [] env)).all (λx=>x.1.isSome)
   && decide ((e::([]:List Expr)).length+([]:List Keyword).length+(if([]:List Keyword).isEmpty then 0 else 1)<30))=true:=by
 rw[zJ h];rfl
def zI{a b:Bool}(h:(a&&b)=true):a=true/\b=true:=by simpa using h
def nst{a:Bool}(h:(!a)=true):a=false:=by simpa using h
def W0:bootBuiltins "ValueError"=some (.type "ValueError"):=by decide +kernel
mutual
theorem sE:∀(t:Ex) {X:Cx} {sg:Sg} {e:Expr},SgOk X sg->zg t sg e=true->EOk X e (dE sg.fs t)
 | .c d,X,sg,e,G,h=>by
  cases e with
  |Constant k w1 w2 =>
   replace h:(cIs d k)=true:=h;unfold cIs at h;split at h
   ·exact ok_non
   ·have:=(beq_iff_eq.mp h);subst this;exact ok_bl
   ·have:=(beq_iff_eq.mp h);subst this;exact ok_int
   ·have:=(beq_iff_eq.mp h);subst this;exact ok_str
   ·cases h
  |_=>exact nf h
 | .gl d,X,sg,e,G,h=>by
  cases e with
  |Name x w1 =>
   replace h:(glb sg x&&gIs sg x d)=true:=h;obtain⟨h1,h2⟩:=zI h;obtain⟨g1,g2⟩:=yX G h1;unfold gIs at h2;split at h2
   ·rename_i d' e
    have:=geq_of h2;subst this;obtain⟨u,v,q1,q2,q3⟩:=G.cs x d e;exact ok_glR g1 q1 q2 q3 g2
   ·cases h2
  |_=>exact nf h
 | .var i,X,sg,e,G,h=>by
  cases e with
  |Name x w1 =>
   replace h:(vis sg i x)=true:=h;exact ok_var i (WZ G h)
  |_=>exact nf h
 | .bin o a b,X,sg,e,G,h=>by
  cases e with
  |BinOp x op y w1 =>
   replace h:(op==o.op&&(zg a sg x&&zg b sg y))=true:=h;obtain⟨h1,h2⟩:=zI h;obtain⟨h2,h3⟩:=zI h2;have:=beq_iff_eq.mp h1;subst this;exact bin_of (sE a G h2) (sE b G h3)
  |_=>exact nf h
 | .cmp o a b,X,sg,e,G,h=>by
  cases e with
  |Compare x v1 v2 w1 =>
   cases v1 with
   |cons op v3 =>
    cases v3 with
    |nil =>
     cases v2 with
     |cons y v4 =>
      cases v4 with
      |nil =>
       replace h:(op==o.op&&jG y&&(zg a sg x&&zg b sg y))=true:=h;obtain⟨h1,h2⟩:=zI h;obtain⟨h1,h0⟩:=zI h1;obtain⟨h2,h3⟩:=zI h2;have:=beq_iff_eq.mp h1;subst this;exact cmp_of G h0 (sE a G h2) (sE b G h3)
      |_=>exact nf h
     |_=>exact nf h
    |_=>exact nf h
   |_=>exact nf h
  |_=>exact nf h
 | .chain o o' a b c,X,sg,e,G,h=>by
  cases e with
  |Compare x v5 v6 w1 =>
   cases v5 with
   |cons op v7 =>
    cases v7 with
    |cons op' v8 =>
     cases v8 with
     |nil =>
      cases v6 with
      |cons y v9 =>
       cases v9 with
       |cons z v10 =>
        cases v10 with
        |nil =>
         replace h:(op==o.op&&op'==o'.op&&o.isI&&o'.isI&&jG z&&(zg a sg x&&(zg b sg y&&zg c sg z)))=true:=h;obtain⟨h1,h2⟩:=zI h;obtain⟨h1,k5⟩:=zI h1;obtain⟨h1,k4⟩:=zI h1;obtain⟨h1,k3⟩:=zI h1;obtain⟨k1,k2⟩:=zI h1;obtain⟨h2,h3⟩:=zI h2;obtain⟨h3,h4⟩:=zI h3;have:=beq_iff_eq.mp k1;subst this;have:=beq_iff_eq.mp k2;subst this;exact zCt (Gq k3) (Gq k4) (sE a G h2) (sE b G h3) (sE c G h4) (zBL k5)
        |_=>exact nf h
       |_=>exact nf h
      |_=>exact nf h
     |_=>exact nf h
    |_=>exact nf h
   |_=>exact nf h
  |_=>exact nf h
 | .neg a,X,sg,e,G,h=>by
  cases e with
  |UnaryOp v11 x w1 =>
   cases v11 with
   |USub =>
    replace h:(zg a sg x)=true:=h;exact ok_neg (sE a G h)
   |_=>exact nf h
  |_=>exact nf h
 | .not a,X,sg,e,G,h=>by
  cases e with
  |UnaryOp v12 x w1 =>
   cases v12 with
   |Not =>
    replace h:(zg a sg x)=true:=h;exact ok_not (sE a G h)
   |_=>exact nf h
  |_=>exact nf h
 | .and a b,X,sg,e,G,h=>by
  cases e with
  |BoolOp v13 v14 p =>
   cases v13 with
   |And =>
    cases v14 with
    |cons x v15 =>
     cases v15 with
     |cons y r =>
      replace h:(zg a sg x&&_)=true:=h;obtain⟨h1,h2⟩:=zI h;cases r with
      |nil=>exact zDs (sE a G h1) (ok_one (sE b G h2))|cons z r'=>exact zDs (sE a G h1) (sE b G h2)
     |_=>exact nf h
    |_=>exact nf h
   |_=>exact nf h
  |_=>exact nf h
 | .ifx t a b,X,sg,e,G,h=>by
  cases e with
  |IfExp c x y w1 =>
   replace h:(chkT t sg c&&(zg a sg x&&zg b sg y))=true:=h;obtain⟨h1,h2⟩:=zI h;obtain⟨h2,h3⟩:=zI h2;exact ok_if (sT t G h1) (sE a G h2) (sE b G h3)
  |_=>exact nf h
 | .t as,X,sg,e,G,h=>by
  cases e with
  |Tuple es w1 w2 =>
   replace h:(chkA as sg es)=true:=h;exact ok_tup (sA as G h)
  |_=>exact nf h
 | .l as,X,sg,e,G,h=>by
  cases e with
  |List es w1 =>
   replace h:(chkA as sg es)=true:=h;exact ok_lst (sA as G h)
  |_=>exact nf h
 | .dic,X,sg,e,G,h=>by
  cases e with
  |Dict v19 v20 w1 =>
   cases v19 with
   |nil =>
    cases v20 with
    |nil =>
     replace h:(true)=true:=h;exact ok_dic pe_dicK
    |_=>exact nf h
   |_=>exact nf h
  |_=>exact nf h
 | .ix a b,X,sg,e,G,h=>by
  cases e with
  |Subscript x y w1 =>
   replace h:(Z7 y&&(zg a sg x&&zg b sg y))=true:=h;obtain⟨h1,h2⟩:=zI h;obtain⟨h2,h3⟩:=zI h2;exact ok_ix ix_both ro_ix (YX h1) (sE a G h2) (sE b G h3)
  |_=>exact nf h
 | .ixO i b,X,sg,e,G,h=>by
  cases e with
  |Subscript v21 y w2 =>
   cases v21 with
   |Name x w1 =>
    replace h:(vis sg i x&&Z7 y&&zg b sg y)=true:=h;obtain⟨h1,h2⟩:=zI h;obtain⟨h1,h3⟩:=zI h1;exact ok_ixO i (WZ G h1) (sE b G h2) (YX h3)
   |_=>exact nf h
  |_=>exact nf h
 | .lenO i,X,sg,e,G,h=>by
  cases e with
  |Call v22 v23 v24 w3 =>
   cases v22 with
   |Name f w1 =>
    cases v23 with
    |cons v25 v26 =>
     cases v25 with
     |Name x w2 =>
      cases v26 with
      |nil =>
       cases v24 with
       |nil =>
        replace h:(f == "len"&&glb sg "len"&&bIn sg "len"&&vis sg i x)=true:=h;obtain⟨h1,h2⟩:=zI h;obtain⟨h1,h3⟩:=zI h1;obtain⟨h1,h4⟩:=zI h1;have:=beq_iff_eq.mp h1;subst this;exact ok_lenO i (WZ G h2) (yX G h4).1 (wX G h3)
       |_=>exact nf h
      |_=>exact nf h
     |_=>exact nf h
    |_=>exact nf h
   |_=>exact nf h
  |_=>exact nf h
 | .sl a l hh,X,sg,e,G,h=>by
  cases e with
  |Subscript x v27 w2 =>
   cases v27 with
   |Slice lo hi v28 w1 =>
    cases v28 with
    |none =>
     replace h:(zg a sg x&&(chkO l sg lo&&chkO hh sg hi))=true:=h;obtain⟨h1,h2⟩:=zI h;obtain⟨h2,h3⟩:=zI h2;exact ok_sl (sE a G h1) (sO l G h2) (sO hh G h3)
    |_=>exact nf h
   |_=>exact nf h
  |_=>exact nf h
 | .comp nl loc capn caps it tg tt el,X,sg,e,G,h=>by
  cases e with
  |ListComp elt v29 scope w1 =>
   cases v29 with
   |cons v30 v31 =>
    cases v30 with
    |mk target iter ifs v32 =>
     cases v32 with
     |ofNat v33 =>
      cases v33 with
      |zero =>
       cases v31 with
       |nil =>
        replace h:(sg.calm&&(zBI sg nl loc capn caps scope&&jG iter&&((chkZ it target&&chkI it sg iter)&&(Gn tg (uT sg (loc++capn) scope) target&&(_&&zg el (uT sg (loc++capn) scope) elt)))))=true:=h;obtain⟨hcm,h⟩:=zI h;obtain⟨h1,h2⟩:=zI h;obtain⟨h1,k9⟩:=zI h1;unfold zBI at h1;obtain⟨h1,k7⟩:=zI h1;obtain⟨h1,k6⟩:=zI h1;obtain⟨h1,k5⟩:=zI h1;obtain⟨h1,k4⟩:=zI h1;obtain⟨h1,k3⟩:=zI h1;obtain⟨k1,k2⟩:=zI h1;obtain⟨q1,q2⟩:=zI h2;obtain⟨q0,q1⟩:=zI q1;obtain⟨q2,q3⟩:=zI q2;obtain⟨q3,q4⟩:=zI q3;have nd:(loc++capn).Nodup:=of_decide_eq_true k3;have kc:∀y∈scope.names,y.2=.cell->scope.names.lookup y.1=some .cell:=λy hy hc=>by
         have:=all_eq_true.mp k5 y hy;rw[hc]at this;simpa using this
        have I:∀cl C ex s H,SgOk (cxB X.nox (loc++capn) scope cl C ex s H) (uT sg (loc++capn) scope):=λ_ _ _ _ _=>Go (ja G) nd kc
        refine no_E (ok_lc (X:=X.nox) loc capn (beq_iff_eq.mp k1) (λe s z=>z) (G.calm hcm) (beq_iff_eq.mp k2) (λy hy hl=>?_) (λy hy hc=>?_) (by rw[show X.env.kindOf=λn=>X.env.scope.names.lookup n from rfl,G.sc];exact k6) (zBN (ja G) k7) (sI it (ja G) q1 q0) (g:=gOf X.K tg) (λcl C ex s H=>zDD (sg:=uT sg (loc++capn) scope) hcm (I cl C ex s H) q2) (Wg tg) (λcl C ex s H=>?_) (λcl C ex s H=>sE (sg:=uT sg (loc++capn) scope) el (I cl C ex s H) q4) (Jp k9))
        ·have:=all_eq_true.mp k4 y hy
         rw[hl]at this;simpa using this
        ·exact kc y hy hc
        ·cases ifs with
         |nil =>
          cases tt<;>first|(cases q3;done)|skip;exact zAZ
         |cons c cs =>
          obtain⟨q3,q5⟩:=zI q3;have:=isEmpty_iff.mp q3;subst this;exact zAa (sT (sg:=uT sg (loc++capn) scope) tt (I cl C ex s H) q5)
       |_=>exact nf h
      |_=>exact nf h
     |_=>exact nf h
   |_=>exact nf h
  |_=>exact nf h
 | .is T a,X,sg,e,G,h=>by
  cases e with
  |Call v34 v35 v36 w3 =>
   cases v34 with
   |Name f w1 =>
    cases v35 with
    |cons x v37 =>
     cases v37 with
     |cons v38 v39 =>
      cases v38 with
      |Name y w2 =>
       cases v39 with
       |nil =>
        cases v36 with
        |nil =>
         replace h:(f == "isinstance"&&y==T.nm&&glb sg "isinstance"&&bIn sg "isinstance"&&glb sg T.nm&&bIn sg T.nm&&!zW x&&zg a sg x)=true:=h;obtain⟨h1,h2⟩:=zI h;obtain⟨h1,k7⟩:=zI h1;obtain⟨h1,k6⟩:=zI h1;obtain⟨h1,k5⟩:=zI h1;obtain⟨h1,k4⟩:=zI h1;obtain⟨h1,k3⟩:=zI h1;obtain⟨k1,k2⟩:=zI h1;have:=beq_iff_eq.mp k1;subst this;have:=beq_iff_eq.mp k2;subst this;exact ok_is (kit_of _ T) (yX G k3).1 (wX G k4) (yX G k5).1 (wX G k6) (bt_of T) (sE a G h2) wA (nm_of T) (yX G k5).2 (nst k7)
        |_=>exact nf h
       |_=>exact nf h
      |_=>exact nf h
     |_=>exact nf h
    |_=>exact nf h
   |_=>exact nf h
  |_=>exact nf h
 | .cB b as,X,sg,e,G,h=>by
  cases e with
  |Call v40 v41 v42 w2 =>
   cases v40 with
   |Name f w1 =>
    cases v41 with
    |cons x es =>
     cases v42 with
     |nil =>
      replace h:(sg.calm&&(f==b.nm&&glb sg b.nm&&bIn sg b.nm&&yM (x::es)&&chkA as sg (x::es)))=true:=h;obtain⟨hcm,h⟩:=zI h;obtain⟨h1,h2⟩:=zI h;obtain⟨h1,k4⟩:=zI h1;obtain⟨h1,k3⟩:=zI h1;obtain⟨k1,k2⟩:=zI h1;have:=beq_iff_eq.mp k1;subst this;exact bi_of hcm G b (yX G k2).1 (wX G k3) k4 (sA as G h2)
     |_=>exact nf h
    |_=>exact nf h
   |_=>exact nf h
  |_=>exact nf h
 | .call k as,X,sg,e,G,h=>by
  cases e with
  |Call v43 v44 v45 w2 =>
   cases v43 with
   |Name f w1 =>
    cases v44 with
    |cons x es =>
     cases v45 with
     |nil =>
      replace h:(glb sg f&&fIs sg k f&&zEJ sg (gLen as) k&&yM (x::es)&&chkG as sg (x::es))=true:=h;obtain⟨h1,h2⟩:=zI h;obtain⟨h1,k4⟩:=zI h1;obtain⟨h1,k3⟩:=zI h1;obtain⟨k1,k2⟩:=zI h1;exact call_ok G k1 k2 k3 k4 (sG as G h2)
     |_=>exact nf h
    |_=>exact nf h
   |_=>exact nf h
  |_=>exact nf h
 | .stp k a,X,sg,e,G,h=>by
  cases e with
  |Subscript x v46 w2 =>
   cases v46 with
   |Slice v47 v48 v49 w1 =>
    cases v47 with
    |none =>
     cases v48 with
     |none =>
      cases v49 with
      |some st =>
       replace h:(stIs k st&&zg a sg x)=true:=h;obtain⟨h1,h2⟩:=zI h;exact ok_step k (sE a G h2) (st_of h1)
      |_=>exact nf h
     |_=>exact nf h
    |_=>exact nf h
   |_=>exact nf h
  |_=>exact nf h
 | .isC cl y a,X,sg,e,G,h=>by
  cases e with
  |Call v200 v201 v202 w1 =>
   cases v200 with
   |Name f w2 =>
    cases v201 with
    |cons x v203 =>
     cases v203 with
     |cons v204 v205 =>
      cases v204 with
      |Name z w3 =>
       cases v205 with
       |nil =>
        cases v202 with
        |nil =>
         replace h:(f == "isinstance"&&z==y&&glb sg "isinstance"&&bIn sg "isinstance"&&glb sg y&&(cl==sg.cl&&sg.cl.contains y)&&!zW x&&zg a sg x)=true:=h;obtain⟨h,h2⟩:=zI h;obtain⟨h,k7⟩:=zI h;obtain⟨h,k6⟩:=zI h;obtain⟨h,k5⟩:=zI h;obtain⟨h,k4⟩:=zI h;obtain⟨h,k3⟩:=zI h;obtain⟨k1,k2⟩:=zI h;obtain⟨k10,k8⟩:=zI k6;have:=beq_iff_eq.mp k1;subst this;have:=beq_iff_eq.mp k2;subst this;have ecl:cl=sg.cl:=by simpa using k10
         subst ecl;have hy:z∈sg.cl:=by simpa using k8
         obtain⟨T,t1,t2,t3⟩:=G.cl (List.ne_nil_of_mem hy);obtain⟨Y,y1,y2,y3⟩:=t3 z hy;exact ok_isC (λc hc=>let ⟨C,c1,c2,_⟩:=t3 c hc;⟨C,c1,c2⟩) y1 y2 y3 (yX G k3).1 (wX G k4) (yX G k5).1 (sE a G h2) wA (yX G k5).2 (nst k7)
        |_=>exact nf h
       |_=>exact nf h
      |_=>exact nf h
     |_=>exact nf h
    |_=>exact nf h
   |_=>exact nf h
  |_=>exact nf h
 | .isV cl a,X,sg,e,G,h=>by
  cases e with
  |Call v200 v201 v202 w1 =>
   cases v200 with
   |Name f w2 =>
    cases v201 with
    |cons x v203 =>
     cases v203 with
     |cons v204 v205 =>
      cases v204 with
      |Name z w3 =>
       cases v205 with
       |nil =>
        cases v202 with
        |nil =>
         replace h:(f == "isinstance"&&z == "ValueError"&&glb sg "isinstance"&&bIn sg "isinstance"&&glb sg "ValueError"&&bIn sg "ValueError"&&(cl==sg.cl&&!sg.cl.isEmpty)&&!zW x&&zg a sg x)=true:=h;obtain⟨h,h2⟩:=zI h;obtain⟨h,k7⟩:=zI h;obtain⟨h,k6⟩:=zI h;obtain⟨h,k9⟩:=zI h;obtain⟨h,k5⟩:=zI h;obtain⟨h,k4⟩:=zI h;obtain⟨h,k3⟩:=zI h;obtain⟨k1,k2⟩:=zI h;obtain⟨k10,k8⟩:=zI k6;have:=beq_iff_eq.mp k1;subst this;have:=beq_iff_eq.mp k2;subst this;have ecl:cl=sg.cl:=by simpa using k10
         subst ecl;obtain⟨T,t1,t2,t3⟩:=G.cl (λz=>by rw[z]at k8;cases k8);exact ok_isV (T:=T) (λc hc=>let ⟨C,c1,c2,_⟩:=t3 c hc;⟨C,c1,c2⟩) (yX G k3).1 (wX G k4) (yX G k5).1 (wX G k9) W0 (sE a G h2) wA (nst k7)
        |_=>exact nf h
       |_=>exact nf h
      |_=>exact nf h
     |_=>exact nf h
    |_=>exact nf h
   |_=>exact nf h
  |_=>exact nf h
 | .cnt a b,X,sg,e,G,h=>by
  cases e with
  |Call v200 v201 v202 cp =>
   cases v200 with
   |Attribute v206 m ap =>
    cases v206 with
    |Name x p =>
     cases v201 with
     |cons v v203 =>
      cases v203 with
      |nil =>
       cases v202 with
       |nil =>
        replace h:(m == "count"&&ap.endLine==cp.line&&!zW v&&(zg a sg (.Name x p)&&zg b sg v))=true:=h;obtain⟨h,h2⟩:=zI h;obtain⟨h2,h3⟩:=zI h2;obtain⟨h,k3⟩:=zI h;obtain⟨k1,k2⟩:=zI h;have:=beq_iff_eq.mp k1;subst this;exact ok_cnt (sE a G h2) (sE b G h3) rfl (nst k3) k2 (vx (nst k3))
       |_=>exact nf h
      |_=>exact nf h
     |_=>exact nf h
    |_=>exact nf h
   |_=>exact nf h
  |_=>exact nf h
 | .call0 k,X,sg,e,G,h=>by
  cases e with
  |Call v43 v44 v45 w2 =>
   cases v43 with
   |Name f w1 =>
    cases v44 with
    |nil =>
     cases v45 with
     |nil =>
      replace h:(glb sg f&&fIs sg k f&&zEJ sg 0 k)=true:=h;obtain⟨h1,k3⟩:=zI h;obtain⟨k1,k2⟩:=zI h1;exact zDF G k1 k2 k3
     |_=>exact nf h
    |_=>exact nf h
   |_=>exact nf h
  |_=>exact nf h
 | .slT a l hh,X,sg,e,G,h=>by
  cases e with
  |Subscript x v27 w2 =>
   cases v27 with
   |Slice lo hi v28 w1 =>
    cases v28 with
    |none =>
     replace h:(zg a sg x&&(chkO l sg lo&&chkO hh sg hi))=true:=h;obtain⟨h1,h2⟩:=zI h;obtain⟨h2,h3⟩:=zI h2;exact ok_slT (sE a G h1) (sO l G h2) (sO hh G h3)
    |_=>exact nf h
   |_=>exact nf h
  |_=>exact nf h
 | .mulT a b,X,sg,e,G,h=>by
  cases e with
  |BinOp x op y w1 =>
   replace h:(op==.Mult&&(zg a sg x&&zg b sg y))=true:=h;obtain⟨h1,h2⟩:=zI h;obtain⟨h2,h3⟩:=zI h2;have:=beq_iff_eq.mp h1;subst this;exact vY op_mulT ro_mulT (sE a G h2) (sE b G h3)
  |_=>exact nf h
 | .nir lo hi a,X,sg,e,G,h=>by
  obtain⟨x,p,j1,j2,p1,p2,pos,pos2,rfl,k1,k2,k3⟩:=vw h;exact ok_nir (yX G k1).1 (wX G k2) (sE a G k3)
 | .cat a b,X,sg,e,G,h=>by
  cases e with
  |BinOp x op y w1 =>
   replace h:(op==.Add&&(zg a sg x&&zg b sg y))=true:=h;obtain⟨h1,h2⟩:=zI h;obtain⟨h2,h3⟩:=zI h2;have:=beq_iff_eq.mp h1;subst this;exact vY QE ro_cat (sE a G h2) (sE b G h3)
  |_=>exact nf h
 | .ixT a b,X,sg,e,G,h=>by
  cases e with
  |Subscript x y w1 =>
   replace h:(Z7 y&&(zg a sg x&&zg b sg y))=true:=h;obtain⟨h1,h2⟩:=zI h;obtain⟨h2,h3⟩:=zI h2;exact ok_ix ix_str ro_ixT (YX h1) (sE a G h2) (sE b G h3)
  |_=>exact nf h
 | .joi a b,X,sg,e,G,h=>by
  cases e with
  |Call v200 v201 v202 cp =>
   cases v200 with
   |Attribute v206 m ap =>
    cases v206 with
    |Constant x y p =>
     cases v201 with
     |cons v v203 =>
      cases v203 with
      |nil =>
       cases v202 with
       |nil =>
        replace h:(m == "join"&&ap.endLine==cp.line&&!zW v&&(zg a sg (.Constant x y p)&&zg b sg v))=true:=h;obtain⟨h,h2⟩:=zI h;obtain⟨h2,h3⟩:=zI h2;obtain⟨h,k3⟩:=zI h;obtain⟨k1,k2⟩:=zI h;have:=beq_iff_eq.mp k1;subst this;exact ok_join (sE a G h2) (sE b G h3) rfl (nst k3) k2 (vx (nst k3))
       |_=>exact nf h
      |_=>exact nf h
     |_=>exact nf h
    |_=>exact nf h
   |_=>exact nf h
  |_=>exact nf h
 | .spl a b,X,sg,e,G,h=>by
  cases e with
  |Call v200 v201 v202 cp =>
   cases v200 with
   |Attribute v206 m ap =>
    cases v206 with
    |Name x p =>
     cases v201 with
     |cons v v203 =>
      cases v203 with
      |nil =>
       cases v202 with
       |nil =>
        replace h:(m == "split"&&ap.endLine==cp.line&&!zW v&&(zg a sg (.Name x p)&&zg b sg v))=true:=h;obtain⟨h,h2⟩:=zI h;obtain⟨h2,h3⟩:=zI h2;obtain⟨h,k3⟩:=zI h;obtain⟨k1,k2⟩:=zI h;have:=beq_iff_eq.mp k1;subst this;exact zC6 (sE a G h2) (sE b G h3) rfl (nst k3) k2 (vx (nst k3))
       |_=>exact nf h
      |_=>exact nf h
     |_=>exact nf h
    |_=>exact nf h
   |_=>exact nf h
  |_=>exact nf h
 | .asc a,X,sg,e,G,h=>by
  cases e with
  |Call v200 v201 v202 cp =>
   cases v200 with
   |Attribute v206 m ap =>
    cases v206 with
    |Name x p =>
     cases v201 with
     |nil =>
      cases v202 with
      |nil =>
       replace h:(m == "isascii"&&ap.endLine==cp.line&&zg a sg (.Name x p))=true:=h;obtain⟨h,h2⟩:=zI h;obtain⟨k1,k2⟩:=zI h;have:=beq_iff_eq.mp k1;subst this;exact zC2 (sE a G h2) rfl k2
      |_=>exact nf h
     |_=>exact nf h
    |_=>exact nf h
   |_=>exact nf h
  |_=>exact nf h
 | .dig a,X,sg,e,G,h=>by
  cases e with
  |Call v200 v201 v202 cp =>
   cases v200 with
   |Attribute v206 m ap =>
    cases v206 with
    |Name x p =>
     cases v201 with
     |nil =>
      cases v202 with
      |nil =>
       replace h:(m == "isdigit"&&ap.endLine==cp.line&&zg a sg (.Name x p))=true:=h;obtain⟨h,h2⟩:=zI h;obtain⟨k1,k2⟩:=zI h;have:=beq_iff_eq.mp k1;subst this;exact zC3 (sE a G h2) rfl k2
      |_=>exact nf h
     |_=>exact nf h
    |_=>exact nf h
   |_=>exact nf h
  |_=>exact nf h
 | .atr ri f a,X,sg,e,G,h=>by
  cases e with
  |Attribute v1 g w1 =>
   cases v1 with
   |Name x p =>
    replace h:(g==f&&(ri==sg.ri&&!sg.cl.isEmpty)&&sg.ri.all (λc=>sg.cl.contains c)&&zg a sg (.Name x p))=true:=h;obtain⟨h,h2⟩:=zI h;obtain⟨h,k3⟩:=zI h;obtain⟨k1,k2⟩:=zI h;obtain⟨k2,k4⟩:=zI k2;have e1:=beq_iff_eq.mp k1;subst e1;have e2:=beq_iff_eq.mp k2;obtain⟨T,t1,t2,t3⟩:=G.cl (λz=>by rw[z]at k4;cases k4);refine ok_atr (T:=T) t1 (λc hc=>?_) (sE a G h2) rfl;rw[e2]at hc;have q:=all_eq_true.mp k3 c hc;obtain⟨C,c1,c2,_⟩:=t3 c (by simpa using q);exact⟨(G.ri c hc).2,C,c1,c2⟩
   |_=>exact nf h
  |_=>exact nf h
 | .idx a b,X,sg,e,G,h=>by
  cases e with
  |Call v200 v201 v202 cp =>
   cases v200 with
   |Attribute v206 m ap =>
    cases v206 with
    |Name x p =>
     cases v201 with
     |cons v v203 =>
      cases v203 with
      |nil =>
       cases v202 with
       |nil =>
        replace h:(m == "index"&&ap.endLine==cp.line&&!zW v&&(zg a sg (.Name x p)&&zg b sg v))=true:=h;obtain⟨h,h2⟩:=zI h;obtain⟨h2,h3⟩:=zI h2;obtain⟨h,k3⟩:=zI h;obtain⟨k1,k2⟩:=zI h;have:=beq_iff_eq.mp k1;subst this;exact ok_idx (sE a G h2) (sE b G h3) rfl (nst k3) k2 (vx (nst k3))
       |_=>exact nf h
      |_=>exact nf h
     |_=>exact nf h
    |_=>exact nf h
   |_=>exact nf h
  |_=>exact nf h
theorem sT:∀(t:Tx) {X:Cx} {sg:Sg} {e:Expr},SgOk X sg->chkT t sg e=true->TOk X e (dT sg.fs t)
 | .tAnd a b,X,sg,e,G,h=>by
  cases e with
  |BoolOp v59 v60 p =>
   cases v59 with
   |And =>
    cases v60 with
    |cons x v61 =>
     cases v61 with
     |cons y r =>
      replace h:(chkT a sg x&&_)=true:=h;obtain⟨h1,h2⟩:=zI h;cases r with
      |nil=>exact tk_w (zDr (sT a G h1) (wk_and1 (sT b G h2)))|cons z r'=>exact tk_w (zDr (sT a G h1) (zEN (sT b G h2)))
     |_=>exact nf h
    |_=>exact nf h
   |_=>exact nf h
  |_=>exact nf h
 | .tOr a b,X,sg,e,G,h=>by
  cases e with
  |BoolOp v62 v63 p =>
   cases v62 with
   |Or =>
    cases v63 with
    |cons x v64 =>
     cases v64 with
     |cons y r =>
      replace h:(chkT a sg x&&_)=true:=h;obtain⟨h1,h2⟩:=zI h;cases r with
      |nil=>exact tk_w (wk_or (sT a G h1) (wk_or1 (sT b G h2)))|cons z r'=>exact tk_w (wk_or (sT a G h1) (zEN (sT b G h2)))
     |_=>exact nf h
    |_=>exact nf h
   |_=>exact nf h
  |_=>exact nf h
 | .tNot a,X,sg,e,G,h=>by
  cases e with
  |UnaryOp v65 x w1 =>
   cases v65 with
   |Not =>
    replace h:(chkT a sg x)=true:=h;exact tk_not (sT a G h)
   |_=>exact nf h
  |_=>exact nf h
 | .tE a,X,sg,e,G,h=>by
  obtain⟨h1,h2⟩:=zI h;rcases Bool.or_eq_true _ _ |>.mp h1 with h1|h1
  ·exact ok_test (sE a G h2) (test_of h1)
  ·cases a with
   |cmp o a b =>
    cases e with
    |Compare x v66 v67 w1 =>
     cases v66 with
     |cons op v68 =>
      cases v68 with
      |nil =>
       cases v67 with
       |cons y v69 =>
        cases v69 with
        |nil =>
         replace h2:(op==o.op&&jG y&&(zg a sg x&&zg b sg y))=true:=h2;obtain⟨h1,k1⟩:=zI h2;obtain⟨h1,h0⟩:=zI h1;obtain⟨k2,k3⟩:=zI k1;have:=beq_iff_eq.mp h1;subst this;exact cmpT_of G h0 (sE a G k2) (sE b G k3)
        |_=>exact absurd h2 qF
       |_=>exact absurd h2 qF
      |_=>exact absurd h2 qF
     |_=>exact absurd h2 qF
    |_=>exact absurd h2 qF
   |chain o o' a b c =>
    cases e with
    |Compare x v70 v71 w1 =>
     cases v70 with
     |cons op v72 =>
      cases v72 with
      |cons op' v73 =>
       cases v73 with
       |nil =>
        cases v71 with
        |cons y v74 =>
         cases v74 with
         |cons z v75 =>
          cases v75 with
          |nil =>
           replace h2:(op==o.op&&op'==o'.op&&o.isI&&o'.isI&&jG z&&(zg a sg x&&(zg b sg y&&zg c sg z)))=true:=h2;obtain⟨h1,j2⟩:=zI h2;obtain⟨h1,k5⟩:=zI h1;obtain⟨h1,k4⟩:=zI h1;obtain⟨h1,k3⟩:=zI h1;obtain⟨k1,k2⟩:=zI h1;obtain⟨j2,j3⟩:=zI j2;obtain⟨j3,j4⟩:=zI j3;have:=beq_iff_eq.mp k1;subst this;have:=beq_iff_eq.mp k2;subst this;exact zAh (Gq k3) (Gq k4) (sE a G j2) (sE b G j3) (sE c G j4) (zBL k5)
          |_=>exact absurd h2 qF
         |_=>exact absurd h2 qF
        |_=>exact absurd h2 qF
       |_=>exact absurd h2 qF
      |_=>exact absurd h2 qF
     |_=>exact absurd h2 qF
    |_=>exact absurd h2 qF
   |nir lo hi a =>
    obtain⟨x,p,j1,j2,p1,p2,pos,pos2,rfl,k1,k2,k3⟩:=vw h2;exact ok_nirT (yX G k1).1 (wX G k2) (sE a G k3)
   |_=>cases h1
 | .tBor i a,X,sg,e,G,h=>ok_bor i (sT a G h)| .tTr,X,sg,e,G,h=>absurd h qF
theorem sA:∀(t:Ax) {X:Cx} {sg:Sg} {e:List Expr},SgOk X sg->chkA t sg e=true->AOk X e (dA sg.fs t)
 | .nil,X,sg,e,G,h=>by
  have:=isEmpty_iff.mp h;subst this;exact ak_nil
 | .cons a as,X,sg,e,G,h=>by
  cases e with
  |cons x r =>
   replace h:(!zW x&&(zg a sg x&&chkA as sg r))=true:=h;obtain⟨h1,h2⟩:=zI h;obtain⟨h2,h3⟩:=zI h2;exact ak_cons (sE a G h2) (sA as G h3) (nst h1)
  |_=>exact nf h
 | .rp i c0 c1 c2 as,X,sg,e,G,h=>by
  obtain⟨x,r,j0,j1,j2,q0,q1,q2,q3,q4,q5,ap,cp,rfl,k1,k2,k3⟩:=zDE h;exact ok_rp (nm_at G k2) (sA as G k3) k1
theorem sG:∀(t:Gx) {X:Cx} {sg:Sg} {e:List Expr},SgOk X sg->chkG t sg e=true->zDy X e (dG sg.fs t)
 | .nil,X,sg,e,G,h=>by
  have:=isEmpty_iff.mp h;subst this;exact ga_nil
 | .ev a as,X,sg,e,G,h=>by
  cases e with
  |cons x r =>
   replace h:(!zW x&&(zg a sg x&&chkG as sg r))=true:=h;obtain⟨h1,h2⟩:=zI h;obtain⟨h2,h3⟩:=zI h2;exact ga_ev (sE a G h2) (sG as G h3) (nst h1)
  |_=>exact nf h
 | .lend i as,X,sg,e,G,h=>by
  cases e with
  |cons v76 r =>
   cases v76 with
   |Name x w1 =>
    replace h:(vis sg i x&&chkG as sg r)=true:=h;obtain⟨h1,h2⟩:=zI h;exact ga_lend (WZ G h1) (sG as G h2)
   |_=>exact nf h
  |_=>exact nf h
theorem sO:∀(t:Ox) {X:Cx} {sg:Sg} {e:Option Expr},SgOk X sg->chkO t sg e=true->OOk X e (dO sg.fs t)
 | .oN,X,sg,e,G,h=>by
  cases e with
  |none=>exact oo_none|some e=>cases h
 | .oS a,X,sg,e,G,h=>by
  cases e with
  |none=>cases h|some e=>exact oo_some (sE a G h)
theorem sI:∀(t:Ix) {X:Cx} {sg:Sg} {tg e:Expr},SgOk X sg->chkI t sg e=true->chkZ t tg=true->IOk X tg e (dI sg.fs t)
 | .iL a,X,sg,tg,e,G,h,hz=>by
  exact io_list (sE a G h)
 | .iT a,X,sg,tg,e,G,h,hz=>by
  exact io_tup (sE a G h)
 | .iS a,X,sg,tg,e,G,h,hz=>by
  exact io_text (sE a G h)
 | .iR1 as,X,sg,tg,e,G,h,hz=>by
  cases e with
  |Call v77 v78 v79 w2 =>
   cases v77 with
   |Name f w1 =>
    cases v78 with
    |cons x v80 =>
     cases v80 with
     |nil =>
      cases v79 with
      |nil =>
       replace h:(f == "range"&&glb sg "range"&&bIn sg "range"&&!zW x&&chkA as sg [x])=true:=h;obtain⟨h1,h2⟩:=zI h;obtain⟨h1,k4⟩:=zI h1;obtain⟨h1,k3⟩:=zI h1;obtain⟨k1,k2⟩:=zI h1;have:=beq_iff_eq.mp k1;subst this;exact io_r1 (yX G k2).1 (wX G k3) (sA as G h2) (nst k4)
      |_=>exact nf h
     |_=>exact nf h
    |_=>exact nf h
   |_=>exact nf h
  |_=>exact nf h
end
def zDH{X:Cx}{sg:Sg}(G:SgOk X sg){i:Nat}{x:Str}{px spos:Pos}{nl:Nat}{loc capn:List Str}{caps:List Nat}{it:Ix}{tg:Tg}{tt:Tx}{el:Ex}{v:Expr}(hi:X.N[i]?=some x)(hx:Loc X.env.scope x)(hf:X.fn x=true\/X.env.scope.names.lookup x=some .local)
  (hsw:swapsWith v (some (.Name x px)) spos.line X.env=pure true) (h:zg (.comp nl loc capn caps it tg tt el) sg v=true):SOk X (.Assign [.Name x px] v spos) (sSet i (dE sg.fs (.comp nl loc capn caps it tg tt el))):=by
 cases v with
 |ListComp elt v86 scope w1 =>
  cases v86 with
  |cons v87 v88 =>
   cases v87 with
   |mk target iter ifs v89 =>
    cases v89 with
    |ofNat v90 =>
     cases v90 with
     |zero =>
      cases v88 with
      |nil =>
       replace h:(sg.calm&&(zBI sg nl loc capn caps scope&&jG iter&&((chkZ it target&&chkI it sg iter)&&(Gn tg (uT sg (loc++capn) scope) target&&(_&&zg el (uT sg (loc++capn) scope) elt)))))=true:=h;obtain⟨hcm,h⟩:=zI h;obtain⟨h1,h2⟩:=zI h;obtain⟨h1,k9⟩:=zI h1;unfold zBI at h1;obtain⟨h1,k7⟩:=zI h1;obtain⟨h1,k6⟩:=zI h1;obtain⟨h1,k5⟩:=zI h1;obtain⟨h1,k4⟩:=zI h1;obtain⟨h1,k3⟩:=zI h1;obtain⟨k1,k2⟩:=zI h1;obtain⟨q1,q2⟩:=zI h2;obtain⟨q0,q1⟩:=zI q1;obtain⟨q2,q3⟩:=zI q2;obtain⟨q3,q4⟩:=zI q3;have nd:(loc++capn).Nodup:=of_decide_eq_true k3;have kc:∀y∈scope.names,y.2=.cell->scope.names.lookup y.1=some .cell:=λy hy hc=>by
        have:=all_eq_true.mp k5 y hy;rw[hc]at this;simpa using this
       have I:∀cl C ex s H,SgOk (cxB X.nox (loc++capn) scope cl C ex s H) (uT sg (loc++capn) scope):=λ_ _ _ _ _=>Go (ja G) nd kc
       refine no_set▸no_S (sk_lc (X:=X.nox) loc capn G.nd hi hx hf (beq_iff_eq.mp k1) (λe s z=>z) (G.calm hcm) (beq_iff_eq.mp k2) (λy hy hl=>?_) (λy hy hc=>?_) (by rw[show X.env.kindOf=λn=>X.env.scope.names.lookup n from rfl,G.sc];exact k6) (zBN (ja G) k7) (sI it (ja G) q1 q0) (g:=gOf X.K tg) (λcl C ex s H=>zDD (sg:=uT sg (loc++capn) scope) hcm (I cl C ex s H) q2) (Wg tg) (λcl C ex s H=>?_) (λcl C ex s H=>sE (sg:=uT sg (loc++capn) scope) el (I cl C ex s H) q4) (Jp k9) hsw)
       ·have:=all_eq_true.mp k4 y hy
        rw[hl]at this;simpa using this
       ·exact kc y hy hc
       ·cases ifs with
        |nil =>
         cases tt<;>first|(cases q3;done)|skip;exact zAZ
        |cons c cs =>
         obtain⟨q3,q5⟩:=zI q3;have:=isEmpty_iff.mp q3;subst this;exact zAa (sT (sg:=uT sg (loc++capn) scope) tt (I cl C ex s H) q5)
      |_=>exact nf h
     |_=>exact nf h
    |_=>exact nf h
  |_=>exact nf h
 |_=>exact nf h
mutual
theorem sS:∀(t:Sx) {X:Cx} {sg:Sg} {e:Stmt},SgOk X sg->chkS t sg e=true->SOk X e (dS sg.fs t)
 | .sIf t a b,X,sg,e,G,h=>by
  cases e with
  |If c x y w1 =>
   replace h:(chkT t sg c&&(chkB a sg x&&chkB b sg y))=true:=h;obtain⟨h1,h2⟩:=zI h;obtain⟨h2,h3⟩:=zI h2;exact sk_if (sT t G h1) (sB a G h2) (sB b G h3)
  |_=>exact nf h
 | .sSet i a,X,sg,e,G,h=>by
  cases e with
  |Assign v91 v w1 =>
   cases v91 with
   |cons v92 v93 =>
    cases v92 with
    |Name x px =>
     cases v93 with
     |nil =>
      replace h:(locd sg i x&&setOk sg x px a v&&zg a sg v)=true:=h;obtain⟨h1,h2⟩:=zI h;obtain⟨h1,h3⟩:=zI h1;obtain⟨q1,q2,q3⟩:=ut G h1;unfold setOk at h3;split at h3
      ·obtain⟨k1,k2⟩:=zI h3
       rename_i el gs scope vp;cases hb:swB sg _ _ scope vp with
       |false=>exact zDw G.nd q1 q2 (sE a G h2) (by rw[zEM G k1,hb]) q3
       |true =>
        rw[hb]at k2;cases a with
        |comp nl loc capn caps it tg tt el'=>exact zDH G q1 q2 q3 (by rw[zEM G k1,hb]) h2|_=>cases k2
      ·exact zDw G.nd q1 q2 (sE a G h2) (GO h3) q3
     |_=>exact nf h
    |_=>exact nf h
   |_=>exact nf h
  |_=>exact nf h
 | .sAny,X,sg,e,G,h=>by
  exact sk_any
 | .sStar i j a,X,sg,e,G,h=>by
  cases e with
  |Assign v94 v w1 =>
   cases v94 with
   |cons v95 v96 =>
    cases v95 with
    |Tuple es k p =>
     cases es with
     |cons e1 es =>
      cases e1 with
      |Name x px =>
       cases es with
       |cons e2 es =>
        cases e2 with
        |Starred e3 ps =>
         cases e3 with
         |Name y py =>
          cases es with
          |nil =>
           cases v96 with
           |nil =>
            replace h:(sg.calm&&(Gn.all2 sg [i,j] [.Name x px,.Name y py]&&zBJ v&&zg a sg v))=true:=h;obtain⟨hcm,h⟩:=zI h;obtain⟨h1,h2⟩:=zI h;obtain⟨k1,k2⟩:=zI h1;obtain⟨q1,q2,q3⟩:=Yq _ [i,j] G k1;exact sk_star (G.calm hcm) q1 (sE a G h2) zDG (swp_of k2)
           |_=>exact nf h
          |_=>exact nf h
         |_=>exact nf h
        |_=>exact nf h
       |_=>exact nf h
      |_=>exact nf h
     |_=>exact nf h
    |_=>exact nf h
   |_=>exact nf h
  |_=>exact nf h
 | .sRaiseA c as,X,sg,e,G,h=>by
  cases e with
  |Raise v1 v2 w1 =>
   cases v1 with
   |some v3 =>
    cases v3 with
    |Call v4 v5 v6 w2 =>
     cases v4 with
     |Name x w3 =>
      cases v5 with
      |cons y es =>
       cases v6 with
       |nil =>
        cases v2 with
        |none =>
         replace h:(sg.calm&&(x==c&&glb sg c&&sg.ri.contains c&&decide (3<=sg.lv)&&yM (y::es)&&chkA as sg (y::es)))=true:=h;obtain⟨hcm,h⟩:=zI h;obtain⟨h,h2⟩:=zI h;obtain⟨h,k5⟩:=zI h;obtain⟨h,k4⟩:=zI h;obtain⟨h,k3⟩:=zI h;obtain⟨k1,k2⟩:=zI h;have e1:=beq_iff_eq.mp k1;subst e1;have s1:zW y=false:=by simp only[yM,Bool.and_eq_true,Bool.not_eq_true']at k5;exact k5.1
         have s2:yM es=true:=by simp only[yM,Bool.and_eq_true,Bool.not_eq_true']at k5;exact k5.2
         exact zAw (G.calm hcm) (G.room.mono (of_decide_eq_true k4)) (yX G k2).1 (G.ri _ (by simpa using k3)).1 (yX G k2).2 (sA as G h2) s1 s2
        |_=>exact nf h
       |_=>exact nf h
      |_=>exact nf h
     |_=>exact nf h
    |_=>exact nf h
   |_=>exact nf h
  |_=>exact nf h
 | .sRet a,X,sg,e,G,h=>by
  cases e with
  |Return v109 w1 =>
   cases v109 with
   |some v =>
    replace h:(zg a sg v)=true:=h;exact sk_ret (sE a G h)
   |_=>exact nf h
  |_=>exact nf h
 | .sIx i b a,X,sg,e,G,h=>by
  cases e with
  |Assign v110 v w3 =>
   cases v110 with
   |cons v111 v112 =>
    cases v111 with
    |Subscript v113 y w2 =>
     cases v113 with
     |Name x w1 =>
      cases v112 with
      |nil =>
       replace h:(vis sg i x&&Z7 y&&ZV v&&(zg b sg y&&zg a sg v))=true:=h;obtain⟨h1,h2⟩:=zI h;obtain⟨h1,h0⟩:=zI h1;obtain⟨h1,h4⟩:=zI h1;obtain⟨h2,h3⟩:=zI h2;exact zCj i (WZ G h1) (sE b G h2) (sE a G h3) (set_of h4) (sole_of h0)
      |_=>exact nf h
     |_=>exact nf h
    |_=>exact nf h
   |_=>exact nf h
  |_=>exact nf h
 | .sApp i a,X,sg,e,G,h=>by
  cases e with
  |Expr v114 w2 =>
   cases v114 with
   |Call v115 v116 v117 cp =>
    cases v115 with
    |Attribute v118 m ap =>
     cases v118 with
     |Name x w1 =>
      cases v116 with
      |cons v v119 =>
       cases v119 with
       |nil =>
        cases v117 with
        |nil =>
         replace h:(m == "append"&&ap.endLine==cp.line&&vis sg i x&&!zW v&&zg a sg v)=true:=h;obtain⟨h1,h2⟩:=zI h;obtain⟨h1,k4⟩:=zI h1;obtain⟨h1,k3⟩:=zI h1;obtain⟨k1,k2⟩:=zI h1;have:=beq_iff_eq.mp k1;subst this;exact sk_app i (WZ G k3) (sE a G h2) rfl (vx (nst k4)) k2 (zJ (nst k4)) rfl rfl
        |_=>exact nf h
       |_=>exact nf h
      |_=>exact nf h
     |_=>exact nf h
    |_=>exact nf h
   |_=>exact nf h
  |_=>exact nf h
 | .sForL a tg b,X,sg,e,G,h=>by
  cases e with
  |For t it body v120 w1 =>
   cases v120 with
   |nil =>
    replace h:(sg.calm&&(jG it&&Gn tg sg t&&(zg a sg it&&chkB b sg body)))=true:=h;obtain⟨hcm,h⟩:=zI h;obtain⟨h1,h2⟩:=zI h;obtain⟨h1,h0⟩:=zI h1;obtain⟨h2,h3⟩:=zI h2;exact no_S (sk_forL (X:=X.nox) PassesOwn.never (G.calm hcm) (sE a (ja G) h2) (zDD hcm (ja G) h0) (Wg tg) (sB b (ja G) h3) (Jp h1))
   |_=>exact nf h
  |_=>exact nf h
 | .sForR1 as tg b,X,sg,e,G,h=>by
  cases e with
  |For t v122 body v123 w3 =>
   cases v122 with
   |Call v124 v125 v126 w2 =>
    cases v124 with
    |Name f w1 =>
     cases v125 with
     |cons x v127 =>
      cases v127 with
      |nil =>
       cases v126 with
       |nil =>
        cases v123 with
        |nil =>
         replace h:(sg.calm&&(f == "range"&&glb sg "range"&&bIn sg "range"&&!zW x&&Gn tg sg t&&(chkA as sg [x]&&chkB b sg body)))=true:=h;obtain⟨hcm,h⟩:=zI h;obtain⟨h1,h2⟩:=zI h;obtain⟨h1,k5⟩:=zI h1;obtain⟨h1,k4⟩:=zI h1;obtain⟨h1,k3⟩:=zI h1;obtain⟨k1,k2⟩:=zI h1;obtain⟨h2,h3⟩:=zI h2;have:=beq_iff_eq.mp k1;subst this;exact no_S (zCl (X:=X.nox) PassesOwn.never (G.calm hcm) (yX (ja G) k2).1 (wX (ja G) k3) (sA as (ja G) h2) (zDD hcm (ja G) k5) (Wg tg) (sB b (ja G) h3) (nst k4) (Jp rfl))
        |_=>exact nf h
       |_=>exact nf h
      |_=>exact nf h
     |_=>exact nf h
    |_=>exact nf h
   |_=>exact nf h
  |_=>exact nf h
 | .sTry cl b i hb,X,sg,e,G,h=>by
  cases e with
  |Try body v200 v201 v202 w1 =>
   cases v200 with
   |cons v203 v204 =>
    cases v203 with
    |ExceptHandler v205 v206 v207 w2 =>
     cases v205 with
     |some v208 =>
      cases v208 with
      |Name t w3 =>
       cases v206 with
       |some n =>
        cases v207 with
        |cons b0 suite =>
         cases v204 with
         |nil =>
          cases v201 with
          |nil =>
           cases v202 with
           |nil =>
            replace h:(t == "ThrowError"&&glb sg "ThrowError"&&(cl==sg.cl&&!sg.cl.isEmpty)&&sg.top&&(sg.N[i]?==some n&&kIs sg n .local)&&(chkB b sg body&&chkB hb {sg with calm:=false} (b0::suite)))=true:=h
            obtain⟨h,h2⟩:=zI h;obtain⟨h2,h3⟩:=zI h2;obtain⟨h,k5⟩:=zI h;obtain⟨h,k4⟩:=zI h;obtain⟨h,k3⟩:=zI h;obtain⟨k1,k2⟩:=zI h;obtain⟨k3,k6⟩:=zI k3;obtain⟨k5,k7⟩:=zI k5;have:=beq_iff_eq.mp k1;subst this;have ecl:cl=sg.cl:=by simpa using k3
            subst ecl;obtain⟨T,t1,t2,t3⟩:=G.cl (λz=>by rw[z]at k6;cases k6);exact sk_try (G.stk k4) G.nd (by rw[G.N];simpa using k5) (wO G k7) (yX G k2).1 (yX G k2).2 t1 t2 (λc hc=>let ⟨C,c1,c2,_⟩:=t3 c hc;⟨C,c1,c2⟩) (λpn E=>sB b (tr_ok G pn E) h2) (λa=>sB (sg:={sg with calm:=false}) hb (hd_ok G a) h3)
           |_=>exact nf h
          |_=>exact nf h
         |_=>exact nf h
        |_=>exact nf h
       |_=>exact nf h
      |_=>exact nf h
     |_=>exact nf h
   |_=>exact nf h
  |_=>exact nf h
theorem sB:∀(t:Bx) {X:Cx} {sg:Sg} {e:List Stmt},SgOk X sg->chkB t sg e=true->Qi X e (dB sg.fs t)
 | .bNil,X,sg,e,G,h=>by
  have:=isEmpty_iff.mp h;subst this;exact sk_nil
 | .bOne a,X,sg,e,G,h=>by
  cases e with
  |cons s v135 =>
   cases v135 with
   |nil =>
    replace h:(chkS a sg s)=true:=h;exact sk_one (sS a G h)
   |_=>exact nf h
  |_=>exact nf h
 | .bSeq a b,X,sg,e,G,h=>by
  cases e with
  |cons s r =>
   replace h:(chkS a sg s&&chkB b sg r)=true:=h;obtain⟨h1,h2⟩:=zI h;exact sk_cons (sS a G h1) (sB b G h2)
  |_=>exact nf h
end
end
def ClOk(K:qH)(mg:Str->Option Value)(cl rs:List Str):Prop :=
 (cl≠[]->∃T,mg "ThrowError"=some (.ref T)/\TCls K T/\∀c∈cl,∃C,mg c=some (.ref C)/\XCls K c C T/\C≠T)/\(∀c∈rs,∃C,mg c=some (.ref C)/\excIn K C VB "ValueError.__new__"=true)/\SmOk K
abbrev zBO(P:Program)(w:World)(K:qH)(mg:Str->Option Value)(base:Heap)(ri:List Str):Prop:=∀c∈ri,RIok P w K mg base c/\RAok K mg c
def def_ok{P:Program}{w:World}{K:qH}{mg:Str->Option Value}{base:Heap}{x:Str}{st:Stmt}{ps N:List Str}{n lv:Nat}{cs:List (Str×D)}{fs:List FI}{bs:List Str}{c:Bool}{cl rs:List Str}(t:Bx)(T:JT K mg x st ps)(S:FnScope N ps (zT st))(hn:N.length=n)
  (hcs:∀x d,cs.lookup x=some d->∃u v,mg x=some u/\z9 v u/\∀H,Rep K mg H d v)
  (hfs:∀i∈fs,∃f fd ps,mg i.x=some (.ref f)/\keepIn K (.ref f)=true/\Jj K fd ps []/\ps.length=i.n/\FnOkN (!i.wild) P w K mg base i.lv f fd ps (spM K mg i.n i.F))
  (hbs:∀x∈bs,mg x=none) (hcl:ClOk K mg cl rs) {ri:List Str} (hri:zBO P w K mg base ri) (h:chkB t ⟨N,zT st,true,cs,fs,bs,lv,c,cl,rs,[],ri⟩ (yW st)=true):FOk P w K mg base c x (lv+1) ps (fnM n (dB fs t)):=by
 obtain⟨a,fd,hm,F,bnd⟩:=T;subst hn;refine⟨a,fd,hm,F.kp,bnd,fn_ok F S λcdv A outer s H E hd hr=>?_⟩;exact sB (sg:=⟨N,zT st,true,cs,fs,bs,lv,c,cl,rs,[],ri⟩) t ⟨rfl,rfl,λ_ _=>rfl,(λx h=>by cases h),id,hd,λ_=>⟨rfl,rfl⟩,S.nd,hcs,hfs,hbs,hr,hcl.1,hcl.2.1,hcl.2.2,hri⟩ h
def zDI(K:qH)(mg:Str->Option Value)(cs:List (Str×D)):Prop:=∀x d,cs.lookup x=some d->∃u v,mg x=some u/\z9 v u/\∀H,Rep K mg H d v
def BsOk(mg:Str->Option Value)(bs:List Str):Prop:=∀x∈bs,mg x=none
def FsOk(P:Program)(w:World)(K:qH)(mg:Str->Option Value)(base:Heap)(fs:List FI):Prop :=
 ∀i∈fs,∃f fd ps,mg i.x=some (.ref f)/\keepIn K (.ref f)=true/\Jj K fd ps []/\ps.length=i.n/\FnOkN (!i.wild) P w K mg base i.lv f fd ps (spM K mg i.n i.F)
section
variable{P:Program}{w:World}{K:qH}{mg:Str->Option Value}{base:Heap}
def cs_nil:zDI K mg []:=λx d h=>by cases h
def cs_put{x:Str}{d:D}{cs:List (Str×D)}(h:∃u v,mg x=some u/\z9 v u/\∀H,Rep K mg H d v)(t:zDI K mg cs):zDI K mg ((x,d)::cs):=λy d' e=>by
 rw[lookup_cons]at e;cases hy:y==x with
 |true =>
  rw[hy]at e;cases e;have:y=x:=by simpa using hy
  subst this;exact h
 |false=>rw[hy]at e;exact t y d' e
def YY{x:Str}{i:Int}{cs:List (Str×D)}(h:∃t,mg x=some (.int i t))(t:zDI K mg cs):zDI K mg ((x,.int i)::cs):=by
 obtain⟨k,h⟩:=h;exact cs_put ⟨_,.int i,h,⟨_,rfl⟩,λH=>by simp only[Rep]⟩ t
def bs_nil:BsOk mg []:=λx h=>by cases h
def jE{x:Str}{bs:List Str}(h:mg x=none)(t:BsOk mg bs):BsOk mg (x::bs):=λy e=>by
 rcases mem_cons.mp e with e|e
 ·subst e;exact h
 ·exact t y e
def z7:FsOk P w K mg base []:=λx h=>by cases h
def zX{x:Str}{n lv:Nat}{F:MF}{fs:List FI}{ps:List Str}{wl:Bool}(h:FOk P w K mg base (!wl) x lv ps F)(hl:ps.length=n)(t:FsOk P w K mg base fs):FsOk P w K mg base (⟨x,n,lv,wl,F⟩::fs):=λi e=>by
 rcases mem_cons.mp e with e|e
 ·subst e
  subst hl;obtain⟨a,fd,h1,h2,h3,h4⟩:=h;exact⟨a,fd,ps,h1,h2,h3,rfl,h4⟩
 ·exact t i e
def def_at{x:Str}{st:Stmt}{ps N:List Str}{n lv:Nat}{cs:List (Str×D)}{fs:List FI}{bs:List Str}{cl rs:List Str}(t:Bx){a:Addr}{fd:FuncData}(F:Fun K x x st a fd)(S:FnScope N ps (zT st))(hn:N.length=n)
  (hcs:zDI K mg cs) (hfs:FsOk P w K mg base fs) (hbs:BsOk mg bs) (hcl:ClOk K mg cl rs) {ri:List Str} (hri:zBO P w K mg base ri) (h:chkB t ⟨N,zT st,true,cs,fs,bs,lv,true,cl,rs,[],ri⟩ (yW st)=true):FnOk P w K mg base (CXx P w) (lv+1) a fd ps (spM K mg ps.length (fnM n (dB fs t))):=by
 subst hn;refine(fn_ok (c:=true) F S λcdv A outer s H E hd hr=>?_).fn;exact sB (sg:=⟨N,zT st,true,cs,fs,bs,lv,true,cl,rs,[],ri⟩) t ⟨rfl,rfl,λ_ _=>rfl,(λx h=>by cases h),id,hd,λ_=>⟨rfl,rfl⟩,S.nd,hcs,hfs,hbs,hr,hcl.1,hcl.2.1,hcl.2.2,hri⟩ h
def scP(N P:List Str)(sc:Scope):Prop:=sc.kind=.function/\sc.isCoroutine=false/\sc.isGenerator=false/\N.Nodup/\N.take P.length=P/\(∀x∈P,sc.names.lookup x=some .local\/sc.names.lookup x=some .cell)/\∀y∈sc.names,y.2≠.free
instance scD (N P:List Str) (sc:Scope):Decidable (scP N P sc):=by unfold scP;infer_instance
def sc_of{N P:List Str}{sc:Scope}(h:scP N P sc):FnScope N P sc:=⟨h.1,h.2.1,h.2.2.1,h.2.2.2.1,h.2.2.2.2.1,h.2.2.2.2.2.1,h.2.2.2.2.2.2⟩
def zh{x:Str}{st:Stmt}{ps:List Str}{lv:Nat}{cs:List (Str×D)}{fs:List FI}{bs:List Str}{c:Bool}{cl rs:List Str}(t:Bx)(N:List Str)(T:JT K mg x st ps)
  (hcs:zDI K mg cs) (hfs:FsOk P w K mg base fs) (hbs:BsOk mg bs) (hcl:ClOk K mg cl rs) {ri:List Str} (hri:zBO P w K mg base ri) (h:(decide (scP N ps (zT st))&&chkB t ⟨N,zT st,true,cs,fs,bs,lv,c,cl,rs,[],ri⟩ (yW st))=true):FOk P w K mg base c x (lv+1) ps (fnM N.length (dB fs t)) :=
 def_ok t T (sc_of (of_decide_eq_true (Bool.and_eq_true_iff.mp h).1)) rfl hcs hfs hbs hcl hri (Bool.and_eq_true_iff.mp h).2
def def_atB{x:Str}{st:Stmt}{ps:List Str}{lv:Nat}{cs:List (Str×D)}{fs:List FI}{bs:List Str}{cl rs:List Str}(t:Bx)(N:List Str){a:Addr}{fd:FuncData}(F:Fun K x x st a fd)
  (hcs:zDI K mg cs) (hfs:FsOk P w K mg base fs) (hbs:BsOk mg bs) (hcl:ClOk K mg cl rs) {ri:List Str} (hri:zBO P w K mg base ri) (h:(decide (scP N ps (zT st))&&chkB t ⟨N,zT st,true,cs,fs,bs,lv,true,cl,rs,[],ri⟩ (yW st))=true):FnOk P w K mg base (CXx P w) (lv+1) a fd ps (spM K mg ps.length (fnM N.length (dB fs t))) :=
 def_at t F (sc_of (of_decide_eq_true (Bool.and_eq_true_iff.mp h).1)) rfl hcs hfs hbs hcl hri (Bool.and_eq_true_iff.mp h).2
def zBP{c:Str}{C T:Addr}(h:xIn K c C T=true):XCls K c C T/\C≠T:=by
 unfold xIn at h;simp only[Bool.and_eq_true,beq_iff_eq,Bool.not_eq_true']at h;obtain⟨⟨⟨⟨⟨⟨⟨h1,h2⟩,h3⟩,h4⟩,h5⟩,h6⟩,h7⟩,h8⟩:=h;refine⟨⟨?_,h2,h3,h4,h5,h6,h7⟩,by simpa using h8⟩;cases e:clsIn K C with
 |none=>rw[e]at h1;cases h1
 |some cd =>
  rw[e]at h1;simp only[Bool.and_eq_true,beq_iff_eq]at h1;exact⟨cd,rfl,h1.1,h1.2⟩
def tcls_of{T:Addr}(h:tIn K T=true):TCls K T:=by
 unfold tIn at h;simp only[Bool.and_eq_true,beq_iff_eq]at h;obtain⟨h1,h2⟩:=h;refine⟨?_,h2⟩;cases e:clsIn K T with
 |none=>rw[e]at h1;cases h1|some cd=>rw[e]at h1;exact⟨cd,rfl,by simpa using h1⟩
def spLaw(K:qH):Sp:=λvs H Q _=>∃(a:Addr) (ns:List Int),vs=[.ref a]/\SqL K H a (ns.map V.int)/\ns.length<=63/\∀H',Q (.bl true) H'
theorem vz{H:Hp}:∀ns:List Int,Reps K mg H (ns.map D.int) (ns.map V.int)
 | []=>Reps.nil|n::ns=>Reps.cons (by simp only[Rep]) (vz ns)
def law_imp{F:MF}(hm:∀ns:List Int,ns.length<=63->∃outs,F [.v (.l (ns.map D.int))]=.ok (.v (.bl true),outs))(vs:List V)(H:Hp)(Q:VK)(E:XK)(h:spLaw K vs H Q E):spM K mg 1 F vs H Q E:=by
 obtain⟨a,ns,rfl,hS,hl,k⟩:=h;obtain⟨outs,hF⟩:=hm ns hl;have em:∀b,¬Mo (λ_=>False) [(some (V.ref a),Slot.v (.l (ns.map D.int)))] b:=by
  intro b q;rcases q with q|q
  ·exact q
  ·rw[za]at q;cases q
 have sm:YJ H (Hm (Mo (λ_=>False) [(some (V.ref a),Slot.v (.l (ns.map D.int)))]) H):=λb o q=>zP.mpr ⟨em b,q⟩
 refine⟨rfl,λ_=>False,[.v (.l (ns.map D.int))],rfl,⟨?_,?_,?_,?_⟩,?_⟩
 ·intro o d q
  have q':=mem_singleton.mp q
  cases q';refine⟨_,rfl,?_⟩;simp only[Rep];exact⟨a,_,rfl,sm.seq hS,vz ns⟩
 ·intro o s ds q e
  have q':=mem_singleton.mp q
  cases q';cases e
 ·show(yE [(some (V.ref a),Slot.v (.l (ns.map D.int)))]).Nodup
  rw[za];exact List.nodup_nil
 ·intro b q;cases q
 ·rw[hF]
  intro v H' _ fr _;obtain⟨v',e,r⟩:=fr.val (some v) (.bl true) qE;cases e;simp only[Rep]at r;subst r;exact k H'
end
def wY{E:zQ}:yH [] E=[]:=rfl
def zBQ{ds:List D}{ss:List Slot}{s:Slot}{E:zQ}:yH (.par ds::ss) (s::E)=s::yH ss E:=rfl
def wZ{d:D}{ss:List Slot}{s:Slot}{E:zQ}:yH (.v d::ss) (s::E)=.e::yH ss E:=rfl
theorem v0{tg:MG}{tt:MT}{el:ME}(I:Nat->zQ->List D->Prop):∀(ds:List D) (k:Nat) (E:zQ) (acc:List D),I k E acc->acc.length+ds.length<=cap ->
  (∀i d,ds[i]?=some d->∀E acc,I (k+i) E acc->acc.length<cap->∃E1 E2 r E3,tg d E=.ok E1/\tt E1=.ok (true,E2)/\el E2=.ok (r,E3)/\I (k+i+1) E3 (acc++[r.d])) ->
  ∃res E',Jr tg tt el ds E acc=.ok (res,E')/\I (k+ds.length) E' res
 | [],k,E,acc,h,hc,step=>⟨acc,E,rfl,h⟩
 |d::ds,k,E,acc,h,hc,step=>by
  simp only[length_cons]at hc;obtain⟨E1,E2,r,E3,h1,h2,h3,h4⟩:=step 0 d rfl E acc h (by omega);obtain⟨res,E',q1,q2⟩:=v0 I ds (k+1) E3 (acc++[r.d]) h4 (by simp;omega) λi d' e E acc h hl=>by
   have:=step (i+1) d' (by simpa using e) E acc (by rw[show k+(i+1)=k+1+i by omega];exact h) hl;rw[show k+(i+1)=k+1+i by omega]at this;exact this
  refine⟨res,E',?_,?_⟩
  ·simp only[Jr,h1,h2,h3]
   rw[if_pos (by omega)];exact q1
  ·rw[length_cons,show k+(ds.length+1)=k+1+ds.length by omega];exact q2
theorem wq{tg:MG}{body:MS}(I:Nat->zQ->Prop):∀(ds:List D) (k:Nat) (E:zQ),I k E ->
  (∀i d,ds[i]?=some d->∀E,I (k+i) E->∃E1 E2,tg d E=.ok E1/\body E1=.ok (.nx,E2)/\I (k+i+1) E2) ->
  ∃E',uR tg body ds E=.ok (.nx,E')/\I (k+ds.length) E'
 | [],k,E,h,step=>⟨E,rfl,h⟩
 |d::ds,k,E,h,step=>by
  obtain⟨E1,E2,h1,h2,h4⟩:=step 0 d rfl E h;obtain⟨E',q1,q2⟩:=wq I ds (k+1) E2 h4 λi d' e E h=>by
   have:=step (i+1) d' (by simpa using e) E (by rw[show k+(i+1)=k+1+i by omega];exact h);rw[show k+(i+1)=k+1+i by omega]at this;exact this
  refine⟨E',?_,?_⟩
  ·simp only[uR,h1,h2]
   exact q1
  ·rw[length_cons,show k+(ds.length+1)=k+1+ds.length by omega];exact q2
theorem Gr:∀(n:Nat) (lo:Int) (i:Nat) (d:D),(zb lo n)[i]?=some d->i<n/\d=.int (lo+i)
 |0,_,_,_,h=>by simp[zb]at h
 |n+1,lo,0,d,h=>by
  simp[zb]at h;exact⟨by omega,by rw[<- h];simp⟩
 |n+1,lo,i+1,d,h=>by
  simp only[zb,List.getElem?_cons_succ]at h;obtain⟨h1,h2⟩:=Gr n (lo+1) i d h;refine⟨by omega,?_⟩;rw[h2];congr 1
  push_cast
  omega
theorem ZD:∀(n:Nat) (lo:Int),(zb lo n).length=n
 |0,_=>rfl|n+1,lo=>by simp[zb,ZD n]
def Jx:Slot->Bool
 | .par _=>false|_=>true
theorem Gs:∀(vs:List D) (E:zQ),zN (vs.map AR.tmp) E=.ok (vs.map Slot.v,E)
 | [],_=>rfl|d::vs,E=>by simp only[map_cons,zN,Gs vs E]
theorem Gu:∀(vs:List D) (outs:List Slot) (E0 E:zQ),outs.length=vs.length->zM (vs.map AR.tmp) outs E0 E=.ok E
 | [],[],_,_,_=>rfl| [],_::_,_,_,h=>by cases h|_::_,[],_,_,h=>by cases h|d::vs,s::outs,E0,E,h=>by simp only[map_cons,zM];exact Gu vs outs E0 E (by simpa using h)
theorem uA{vs:List D}{tg:MG}{tt:MT}{el:ME}{nl:Nat}(pat:D->List DV.Slot)(f:D->Bool)(g:D->D):∀(ds:List D),
  (∀d∈ds,∀S:List DV.Slot,S.length=nl->(∀s∈S,Jx s=true)->tg d (S++vs.map Slot.v)=.ok (pat d++vs.map Slot.v)) ->
  (∀d∈ds,(pat d).length=nl/\∀s∈pat d,Jx s=true) ->
  (∀d∈ds,tt (pat d++vs.map Slot.v)=.ok (f d,pat d++vs.map Slot.v)) ->
  (∀d∈ds,f d=true->∃r,el (pat d++vs.map Slot.v)=.ok (r,pat d++vs.map Slot.v)/\r.d=g d) ->
  ∀(S:List DV.Slot) (acc:List D),S.length=nl->(∀s∈S,Jx s=true)->acc.length+ds.length<=cap->∃S',S'.length=nl/\Jr tg tt el ds (S++vs.map Slot.v) acc=.ok (acc++(ds.filter f).map g,S'++vs.map Slot.v)
 | [],_,_,_,_,S,acc,hS,_,_=>⟨S,hS,by simp[Jr]⟩
 |d::ds,h1,h2,h3,h4,S,acc,hS,hn,hc=>by
  have m:=qE (a:=d) (l:=ds);have r1:=h1 d m S hS hn;have r3:=h3 d m;have r2:=h2 d m;simp only[length_cons]at hc;have go:=uA pat f g ds (λz hz=>h1 z (qD _ hz)) (λz hz=>h2 z (qD _ hz)) (λz hz=>h3 z (qD _ hz)) (λz hz=>h4 z (qD _ hz)) (pat d);cases hf:f d with
  |false =>
   rw[hf]at r3;obtain⟨S',l',e'⟩:=go acc r2.1 r2.2 (by omega);refine⟨S',l',?_⟩;simp only[Jr,r1,r3,e',filter_cons,hf];simp
  |true =>
   rw[hf]at r3;obtain⟨r,r4,r5⟩:=h4 d m hf;obtain⟨S',l',e'⟩:=go (acc++[r.d]) r2.1 r2.2 (by simp;omega);refine⟨S',l',?_⟩;simp only[Jr,r1,r3,r4];rw[if_pos (by omega),e',r5];simp[filter_cons,hf]
def zDJ{vs:List D}{tg:MG}{tt:MT}{el:ME}{nl:Nat}{caps:List Nat}(pat:D->List DV.Slot)(f:D->Bool)(g:D->D)(ds:List D)
  (h1:∀d∈ds,∀S:List DV.Slot,S.length=nl->(∀s∈S,Jx s=true)->tg d (S++vs.map Slot.v)=.ok (pat d++vs.map Slot.v))
  (h2:∀d∈ds,(pat d).length=nl/\∀s∈pat d,Jx s=true)
  (h3:∀d∈ds,tt (pat d++vs.map Slot.v)=.ok (f d,pat d++vs.map Slot.v))
  (h4:∀d∈ds,f d=true->∃r,el (pat d++vs.map Slot.v)=.ok (r,pat d++vs.map Slot.v)/\r.d=g d) (hc:ds.length<=cap)
  {mi:MI} {E E1:zQ} (hi:mi E=.ok (ds,E1)) (hcap:JS E1 caps=.ok (vs.map AR.tmp)):Zd nl caps mi tg tt el E=.ok (.own ((ds.filter f).map g),E1):=by
 obtain⟨S',l',e'⟩:=uA (vs:=vs) (tg:=tg) (tt:=tt) (el:=el) (nl:=nl) pat f g ds h1 h2 h3 h4 (replicate nl .e) [] (by simp) (λs hs=>by rw[(List.mem_replicate.mp hs).2];rfl) (by simpa using hc);simp only[Zd,hi,hcap,Gs,e'];rw[Gu vs _ _ _ (by rw[length_drop,zp];simp)];simp
def Gv{a:D}{S:List DV.Slot}{R:List DV.Slot}(hS:S.length=1)(hn:∀s∈S,Jx s=true):gN 0 a (S++R)=.ok ([.v a]++R):=by
 match S,hS,hn with
 | [x],_,hn =>
  have hx:=hn x (by simp);cases x<;>first|(cases hx;done)|rfl
theorem Gw:∀(l:List Obj) (i:Nat) (as:List Addr) (a:Addr) (o:Obj),(vC l i as).lookup a=some o->∃j,a=i+j/\l[j]?=some o/\isFr o=false
 | [],_,_,a,o,e=>by cases e|_::_,_,[],a,o,e=>by cases e
 |x::os,i,b::as,a,o,e=>by
  have up:∀{as:List Addr},(vC os (i+1) as).lookup a=some o->∃j,a=i+j/\(x::os)[j]?=some o/\isFr o=false:=λe=>by
   obtain⟨j,h1,h2,h3⟩:=Gw os (i+1) _ a o e;exact⟨j+1,h1.trans ((Nat.add_assoc i 1 j).trans (congrArg (i+·) (Nat.add_comm 1 j))),by simpa using h2,h3⟩
  unfold vC at e;cases hb:Nat.beq i b with
  |false=>rw[hb]at e;exact up e
  |true =>
   rw[hb]at e;cases hf:isFr x with
   |true=>rw[hf]at e;exact up e
   |false =>
    rw[hf]at e;replace e:(match a==i with|true=>some x|false=>lookup a (vC os (i+1) as))=some o:=e
    cases ha:a==i with
    |true =>
     rw[ha]at e;cases e;exact⟨0,beq_iff_eq.mp ha,rfl,hf⟩
    |false=>rw[ha]at e;exact up e
def zBR{h:Heap}(as:List Addr):(Ja h as).In h:=λa o e=>by
 obtain⟨j,h1,h2,h3⟩:=Gw _ _ _ _ _ e;rw[Nat.zero_add]at h1;subst h1;have h4:h.objs[a]?=some o:=by rw[<- Array.getElem?_toList];exact h2
 unfold Heap.get?;rw[h4];obtain⟨c,d,dt,sl⟩:=o;cases dt<;>first|rfl|(cases h3)
def Gy(as:List Addr)(α:Type)(L:qH->α)(v:α):PySem.W.Hook :=
 ⟨α,λs=>L (Ja s.heap as),λ_=>v,λ_ h=>∃K:qH,K.In h/\L K=v,λ_ s e=>⟨_,zBR as,e⟩,λ_ _ _ ⟨K,x,e⟩ k=>⟨K,x.keeps k,e⟩⟩
def zDK{K:qH}{n:Str}{st:Stmt}(e:ya K n=yf n st):∃(f:Addr) (oc:Value) (od:Option Addr) (kV dc pm:Value) (an:Option Addr) (cd ct:Value) (sl:Array (Option Value)),
  nsIn K mainGlobals n=some (some (.ref f))/\K.lookup f=some ⟨oc,od,.func (fnOf n n (jy st) (yW st) (zT st) .none kV dc pm an cd ct),sl⟩/\codeIn K cd n=true/\keepIn K (.ref f)=true:=by
 unfold ya at e;split at e
 ·rename_i a ha
  split at e
  ·rename_i oc od fd sl hl
   have e:=qJ e;unfold fvOf at e;injection e with e1 e
   injection e with e2 e
   injection e with e3 e
   injection e with e4 e
   injection e with e5 e
   injection e with e6 e
   injection e with e7 e
   injection e with e8 e
   injection e with e9 e10
   obtain⟨k,p⟩:=zI e1;cases fd;simp only at e2 e3 e4 e5 e6 e7 e8 e9 e10;subst e2 e3 e4 e5 e6 e7 e8 e9 e10;exact⟨_,_,_,_,_,_,_,_,_,_,ha,hl,k,p⟩
  ·cases e
 ·cases e
def nth{α:Type}:List α->Nat->Option α
 | [],_=>none|a::_,0=>some a|_::l,n+1=>nth l n
def ix{α:Type}{l l':List α}(n:Nat)(h:l=l'):nth l n=nth l' n:=congrArg (λl=>nth l n) h
section
variable{K:qH}{h:Heap}{mg:Str->Option Value}
def ar0{P:List Value->Prop}(h:P []):∀us:List Value,us.length=0->P us
 | [],_=>h
def ar1{P:List Value->Prop}(h:∀a:Value,P [a]):∀us:List Value,us.length=1->P us
 | [a],_=>h a
def ar2{P:List Value->Prop}(h:∀a b:Value,P [a,b]):∀us:List Value,us.length=2->P us
 | [a,b],_=>h a b
def ar3{P:List Value->Prop}(h:∀a b c:Value,P [a,b,c]):∀us:List Value,us.length=3->P us
 | [a,b,c],_=>h a b c
def yo{n:Str}{st:Stmt}{ps:List Str}(X:K.In h)(G:h.Ns mainGlobals mg)(e:some (ya K n)=some (yf n st))
  (b:∀(kV doc pm:Value) (an:Option Addr) (cdv ct:Value) (us:List Value),us.length=ps.length->bindArgs (fnOf n n (jy st) (yW st) (zT st) .none kV doc pm an cdv ct) ⟨us,[]⟩=pure (ps.zip us):=by intro _ _ _ _ _ _;first|exact ar1 (λ_=>rfl)|exact ar2 (λ_ _=>rfl)|exact ar3 (λ_ _ _=>rfl)|exact ar0 rfl):JT K mg n st ps:=by
 obtain⟨f,oc,od,kV,dc,pm,an,cd,ct,sl,a,l,k,p⟩:=zDK (qJ e);exact⟨_,_,mg_of X G a,GL (st:=st) l k p,(GL (st:=st) l k p).binds b⟩
def QY{n:Str}{i:Int}(X:K.In h)(G:h.Ns mainGlobals mg)(e:some (Yc K n)=some (some i)):∃t,mg n=some (.int i t):=by
 have e:=qJ e;unfold Yc at e;split at e
 ·rename_i j t hj
  cases e;exact⟨_,mg_of X G hj⟩
 ·cases e
def Y1{n:Str}(X:K.In h)(G:h.Ns mainGlobals mg)(e:some (jX K n)=some true):mg n=none:=by
 have e:=qJ e;unfold jX at e;split at e
 ·rename_i hj
  exact PySem.W.mg_none_of X G hj
 ·cases e
def Zl{n:Str}{a:Addr}(X:K.In h)(G:h.Ns mainGlobals mg)(e:wK K n=some a):mg n=some (.ref a):=by
 unfold wK at e;split at e
 ·rename_i b hb
  cases e;exact mg_of X G hb
 ·cases e
def sm_at(e:Qk K=true):SmOk K:=by
 unfold Qk at e;cases h:K.lookup sysModules with
 |none=>rw[h]at e;cases e
 |some o =>
  rw[h]at e;dsimp only at e;cases hd:o.data with
  |dict es n=>exact⟨o,es,n,h,hd⟩|_=>rw[hd]at e;cases e
def cl_at{cl rs:List Str}(X:K.In h)(G:h.Ns mainGlobals mg)(e:zDc K cl rs=true):ClOk K mg cl rs:=by
 obtain⟨e,e3⟩:=zI e;obtain⟨e1,e2⟩:=zI e;refine⟨λhc=>?_,λc hc=>?_,sm_at e3⟩
 ·cases cl with
  |nil=>exact absurd rfl hc
  |cons c0 cs =>
   replace e1:(match wK K "ThrowError" with
    |some T=>tIn K T&&(c0::cs).all λc=>(match wK K c with|some C=>xIn K c C T|none=>false)
    |none=>false)=true:=e1
   cases hT:wK K "ThrowError" with
   |none=>rw[hT]at e1;cases e1
   |some T =>
    rw[hT]at e1;obtain⟨t1,t2⟩:=zI e1;refine⟨T,Zl X G hT,tcls_of t1,λc hc=>?_⟩;have q:=all_eq_true.mp t2 c hc;cases hC:wK K c with
    |none=>rw[hC]at q;cases q
    |some C =>
     rw[hC]at q;exact⟨C,Zl X G hC,(zBP q).1,(zBP q).2⟩
 ·have q:=all_eq_true.mp e2 c hc
  cases hC:wK K c with
  |none=>rw[hC]at q;cases q
  |some C =>
   rw[hC]at q;exact⟨C,Zl X G hC,q⟩
def ri_at{c q:Str}{st:Stmt}(X:K.In h)(G:h.Ns mainGlobals mg)(e:some (iview K c q)=some (iwant q st))
  (b:∀(kV doc pm:Value) (an:Option Addr) (cdv ct:Value) (us:List Value),us.length=(("self":Str)::yt c).length->bindArgs (fnOf "__init__" q (jy st) (yW st) (zT st) .none kV doc pm an cdv ct) ⟨us,[]⟩=pure ((("self":Str)::yt c).zip us):=by intro _ _ _ _ _ _;first|exact ar2 (λ_ _=>rfl)|exact ar3 (λ_ _ _=>rfl)):RiAt K mg c st:=by
 have e:=qJ e;unfold iview at e;split at e
 ·rename_i C T hC hT
  split at e
  ·rename_i cd hcd
   split at e
   ·rename_i f hf
    split at e
    ·rename_i oc od fd sl hl
     have e:=qJ e;unfold fvOf at e;injection e with e1 e
     injection e with e2 e
     injection e with e3 e
     injection e with e4 e
     injection e with e5 e
     injection e with e6 e
     injection e with e7 e
     injection e with e8 e
     injection e with e9 e10
     obtain⟨k,p⟩:=zI e1;cases fd;simp only at e2 e3 e4 e5 e6 e7 e8 e9 e10;subst e2 e3 e4 e5 e6 e7 e8 e9 e10;simp only[iOk,Bool.and_eq_true,beq_iff_eq,all_eq_true]at p;obtain⟨⟨⟨⟨⟨p1,p2⟩,p3⟩,p4⟩,⟨p5,p6⟩,p7⟩,⟨⟨p8,p9⟩,p10⟩,p11⟩:=p;have fc:findCls K (.ref T) (.type "type") "__init__"=some (.val (.builtin "ValueError.__init__")):=by
      split at p7
      ·rename_i b hb
       rw[hb,beq_iff_eq.mp p7]
      ·cases p7
     exact⟨C,T,f,_,_,Zl X G hC,Zl X G hT,p1,p2,p3,GL (st:=st) hl k p4,(GL (st:=st) hl k p4).binds b,⟨p5,p6,fc⟩,⟨⟨cd,hcd,p8,p9⟩,p10⟩,p11⟩
    ·cases e
   ·cases e
  ·cases e
 ·cases e
end
def walkE{l:PySem.W.OpenLaw}{q:Program}{loose:List Str}{XP:(Str->Option Value)->Heap->Prop}{d:DefRec}{as:List Addr}{α:Type}{L:qH->α}{v:α}{x:Str}{F:MF}(hm:∀ns:List Int,ns.length<=63->∃outs,F [.v (.l (ns.map D.int))]=.ok (.v (.bl true),outs))
  (hn:l.most=some 63) (hdf:d.params.defaults=[])
  (Gk:∀(w:World) (K:qH) (mg:Str->Option Value) (fa:Addr) (h:Heap),K.In h->L K=v->h.Ns mainGlobals mg->mg d.name=some (.ref fa) ->
   ∃fd:FuncData,(∀(s:Shared) (u:Value),BindsTo s fd ⟨[u],[]⟩ [(x,u)])/\∀base:Heap,FnOk l.prog w K mg base (CXx l.prog w) 40 fa fd [x] (spM K mg 1 F)) :
  PySem.W.WalkO q loose XP (Gy as α L v).says l.row.toRowW d [] (λf vs=>PySem.call f vs):=by
 refine Att.attach_call hn hdf λw s₀ s₁ mg mb fa o pm cd doc a vs ns G Y ho hd hcd hmg hobj hints hlen hg=>?_
 obtain⟨K,KX,e⟩:=Y;obtain⟨fd,hb,hF⟩:=Gk w K mg fa _ KX e G.T.g hmg;exact zCJ (sp:=spLaw K) (k:=40) KX G.T.g G.T.b G.T.builtins G.T.nolimit hg hobj hints (le_trans hlen (by decide)) ⟨rfl,rfl,by decide,by decide⟩ (λbase _ _=>(hF base).imp (law_imp hm)) hb (λH hO hS=>⟨a,ns,rfl,hS,hlen,λ_=>rfl⟩) λH e s' ⟨_,_,_,_,_,_,_,_,_,_,_,_,z⟩=>z
end DV
namespace My
open PySem L2 DV
def cs_:List (Str×D):=[("LEAST_SIGNS",.int 2),("LEAST_WEIGHT",.int 1),("MOST_FIGURES",.int 20),("MOST_SIGNS",.int 3),("MOST_THROWS",.int 20),("MOST_WEIGHT",.int 9)]
def bs_:List Str:=["ValueError","all","bool","int","isinstance","len","list","max","range","repr","str","tuple"]
def ri_:List Str:=["NoText"]
def Wa:Bx :=
  (.bOne (.sRet (.and (.is .int (.var 0)) (.not (.is .bool (.var 0))))))
def uu:List FI:=[]
def YZ:MF:=fnM 1 (dB uu Wa)
def yT:Bx :=
  (.bOne (.sRet (.and (.call 0 (.ev (.var 0) .nil)) (.chain .le .le (.var 1) (.var 0) (.var 2)))))
def yj:List FI:=[⟨"is_whole",1,1,false,YZ⟩]
def zi:MF:=fnM 3 (dB yj yT)
def Wb:Bx :=
  (.bSeq (.sIf (.tOr (.tNot (.tE (.is .tuple (.var 0)))) (.tNot (.tE (.chain .le .le (.gl (.int 2)) (.cB .len (.cons (.var 0) .nil)) (.gl (.int 3)))))) (.bOne (.sRet (.c (.bl false)))) .bNil)
  (.bOne (.sRet (.cB .all (.cons (.comp 1 ["weight"] [] [] (.iT (.var 0)) (.n 0) .tTr (.call 0 (.ev (.var 0) (.ev (.gl (.int 1)) (.ev (.gl (.int 9)) .nil))))) .nil)))))
def JU:List FI:=[⟨"is_whole_within",3,2,false,zi⟩]
def ju:MF:=fnM 1 (dB JU Wb)
def Zm:Bx :=
  (.bOne (.sRet (.call 0 (.ev (.var 0) (.ev (.c (.int 0)) (.ev (.bin .sub (.gl (.int 3)) (.c (.int 1))) .nil))))))
def uB:List FI:=[⟨"is_whole_within",3,2,false,zi⟩]
def wE:MF:=fnM 1 (dB uB Zm)
def Wc:Bx :=
  (.bSeq (.sIf (.tOr (.tNot (.tE (.is .tuple (.var 0)))) (.tE (.cmp .gt (.cB .len (.cons (.var 0) .nil)) (.gl (.int 20))))) (.bOne (.sRet (.c (.bl false)))) .bNil)
  (.bOne (.sRet (.cB .all (.cons (.comp 1 ["sign"] [] [] (.iT (.var 0)) (.n 0) .tTr (.call 0 (.ev (.var 0) .nil))) .nil)))))
def Zn:List FI:=[⟨"sign_good",1,3,false,wE⟩]
def wt:MF:=fnM 1 (dB Zn Wc)
def Jy:Bx :=
  (.bOne (.sRet (.and (.call 0 (.ev (.var 0) .nil)) (.cB .all (.cons (.comp 1 ["sign"] ["signs"] [1] (.iT (.var 0)) (.n 0) .tTr (.cmp .lt (.var 0) (.var 1))) .nil)))))
def JH:List FI:=[⟨"row_good",1,4,false,wt⟩]
def yI:MF:=fnM 2 (dB JH Jy)
def Jz:Bx :=
  (.bSeq (.sIf (.tOr (.tNot (.tE (.asc (.var 0)))) (.tOr (.tNot (.tE (.dig (.var 0)))) (.tE (.cmp .gt (.cB .lenT (.cons (.var 0) .nil)) (.gl (.int 20)))))) (.bOne (.sRet (.c .non))) .bNil)
  (.bSeq (.sIf (.tAnd (.tE (.cmp .eq (.ixT (.var 0) (.c (.int 0))) (.c (.str "0")))) (.tE (.cmp .ne (.var 0) (.c (.str "0"))))) (.bOne (.sRet (.c .non))) .bNil)
  (.bOne (.sRet (.cB .intT (.cons (.var 0) .nil))))))
def JI:List FI:=[]
def jM:MF:=fnM 1 (dB JI Jz)
def JJ:Bx :=
  (.bOne (.sRet (.cB .tuple (.cons (.comp 1 ["word"] [] [] (.iL (.var 0)) (.n 0) .tTr (.call 0 (.ev (.var 0) .nil))) .nil))))
def Zo:List FI:=[⟨"number_read",1,1,false,jM⟩]
def yy:MF:=fnM 1 (dB Zo JJ)
def Zq:Bx :=
  (.bSeq (.sStar 2 3 (.spl (.var 1) (.c (.str " "))))
  (.bOne (.sRet (.ifx (.tE (.cmp .eq (.var 2) (.var 0))) (.call 0 (.ev (.var 3) .nil)) (.c .non)))))
def Yr:List FI:=[⟨"numbers_read",1,2,false,yy⟩]
def jS:MF:=fnM 4 (dB Yr Zq)
def J0:Bx :=
  (.bSeq (.sIf (.tNot (.tE (.is .str (.var 0)))) (.bOne (.sRaiseA "NoText" (.cons (.c (.int 0)) .nil))) .bNil)
  (.bSeq (.sSet 1 (.spl (.var 0) (.c (.str "
"))))
  (.bSeq (.sSet 2 (.call 1 (.ev (.c (.str "die")) (.ev (.ix (.var 1) (.c (.int 0))) .nil))))
  (.bSeq (.sIf (.tNot (.tE (.call 2 (.ev (.var 2) .nil)))) (.bOne (.sRaiseA "NoText" (.cons (.c (.int 1)) .nil))) .bNil)
  (.bSeq (.sSet 3 (.ifx (.tE (.cmp .gt (.cB .len (.cons (.var 1) .nil)) (.c (.int 1)))) (.call 1 (.ev (.c (.str "row")) (.ev (.ix (.var 1) (.c (.int 1))) .nil))) (.c .non)))
  (.bSeq (.sIf (.tNot (.tE (.call 0 (.ev (.var 3) (.ev (.cB .len (.cons (.var 2) .nil)) .nil))))) (.bOne (.sRaiseA "NoText" (.cons (.c (.int 2)) .nil))) .bNil)
  (.bSeq (.sIf (.tE (.cmp .gt (.cB .len (.cons (.var 1) .nil)) (.c (.int 2)))) (.bOne (.sRaiseA "NoText" (.cons (.c (.int 3)) .nil))) .bNil)
  (.bOne (.sRet (.t (.cons (.var 2) (.cons (.var 3) .nil))))))))))))
def yK:List FI:=[⟨"row_good_of",2,5,false,yI⟩,⟨"line_read",2,3,false,jS⟩,⟨"die_good",1,3,false,ju⟩]
def yU:MF:=fnM 4 (dB yK J0)
def jj:Bx :=
  (.bSeq (.sIf (.tE (.cmp .lt (.var 1) (.cB .len (.cons (.var 0) .nil)))) (.bOne (.sRet (.ix (.var 0) (.var 1)))) .bNil)
  (.bOne (.sRet (.c (.int 0)))))
def wa:List FI:=[]
def yY:MF:=fnM 2 (dB wa jj)
def JV:Bx :=
  (.bSeq (.sSet 0 (.bin .mod (.bin .add (.var 0) (.c (.int 7919))) (.c (.int 2147483647))))
  (.bOne (.sRet (.bin .mod (.bin .add (.bin .add (.bin .mul (.var 0) (.var 0)) (.bin .mul (.c (.int 48271)) (.var 0))) (.c (.int 12345))) (.c (.int 2147483629))))))
def Ys:List FI:=[]
def wF:MF:=fnM 1 (dB Ys JV)
def wG:Bx :=
  (.bSeq (.sSet 1 (.cB .max (.cons (.var 0) (.cons (.bin .sub (.c (.int 0)) (.var 0)) .nil))))
  (.bOne (.sRet (.l (.cons (.var 1) (.cons (.cB .int (.cons (.cmp .ge (.var 1) (.bin .pow (.c (.int 10)) (.c (.int 18)))) .nil)) (.cons (.bin .mod (.var 1) (.c (.int 1000003))) .nil)))))))
def JK:List FI:=[]
def yk:MF:=fnM 2 (dB JK wG)
def wH:Bx :=
  (.bSeq (.sIf (.tE (.cmp .eq (.ixO 0 (.c (.int 1))) (.c (.int 1)))) (.bSeq (.sSet 2 (.bin .mod (.ixO 0 (.c (.int 0))) (.var 1)))
  (.bSeq (.sIx 0 (.c (.int 0)) (.bin .fdiv (.ixO 0 (.c (.int 0))) (.var 1)))
  (.bOne (.sRet (.var 2))))) .bNil)
  (.bSeq (.sIx 0 (.c (.int 2)) (.call 0 (.ev (.bin .add (.call 0 (.ev (.ixO 0 (.c (.int 2))) .nil)) (.c (.int 7))) .nil)))
  (.bOne (.sRet (.bin .mod (.bin .fdiv (.ixO 0 (.c (.int 2))) (.c (.int 64))) (.var 1))))))
def wb:List FI:=[⟨"_law_next",1,1,false,wF⟩]
def zE:MF:=fnM 3 (dB wb wH)
def Yt:Bx :=
  (.bOne (.sRet (.and (.is .int (.var 0)) (.not (.is .bool (.var 0))))))
def W1:List FI:=[]
def yF:MF:=fnM 1 (dB W1 Yt)
def JL:Bx :=
  (.bSeq (.sSet 1 (.l (.cons (.isC cl_ "NoDie" (.var 0)) (.cons (.isC cl_ "NoRow" (.var 0)) (.cons (.isC cl_ "NoNumber" (.var 0)) (.cons (.isC cl_ "NoLine" (.var 0)) .nil))))))
  (.bSeq (.sSet 1 (.bin .add (.var 1) (.l (.cons (.isC cl_ "NoMachine" (.var 0)) (.cons (.isC cl_ "NoPaper" (.var 0)) (.cons (.isC cl_ "NoText" (.var 0)) (.cons (.isC cl_ "TooGreat" (.var 0)) .nil)))))))
  (.bSeq (.sIf (.tOr (.tNot (.tE (.isV cl_ (.var 0)))) (.tE (.cmp .ne (.cnt (.var 1) (.c (.bl true))) (.c (.int 1))))) (.bOne (.sRet (.c (.str "other")))) .bNil)
  (.bOne (.sRet (.ix (.l (.cons (.c (.str "die")) (.cons (.c (.str "row")) (.cons (.c (.str "number")) (.cons (.c (.str "line")) (.cons (.c (.str "machine")) (.cons (.c (.str "paper")) (.cons (.c (.str "text")) (.cons (.c (.str "great")) .nil))))))))) (.idx (.var 1) (.c (.bl true)))))))))
def Zr:List FI:=[]
def yz:MF:=fnM 2 (dB Zr JL)
def J2:Bx :=
  (.bSeq (.sSet 1 (.ix (.l (.cons (.c (.int 1)) (.cons (.c (.int 2)) (.cons (.c (.int 9)) (.cons (.c (.int 9)) .nil))))) (.call 0 (.lend 0 (.ev (.c (.int 4)) .nil)))))
  (.bSeq (.sSet 2 (.comp 1 ["_law_turn"] ["_law_pen","_law_most"] [0,1] (.iR1 (.cons (.bin .add (.c (.int 2)) (.call 0 (.lend 0 (.ev (.c (.int 2)) .nil)))) .nil)) (.n 0) .tTr (.bin .add (.c (.int 1)) (.call 0 (.lend 1 (.ev (.var 2) .nil))))))
  (.bSeq (.sIf (.tE (.cmp .eq (.call 0 (.lend 0 (.ev (.c (.int 6)) .nil))) (.c (.int 0)))) (.bOne (.sIx 2 (.call 0 (.lend 0 (.ev (.lenO 2) .nil))) (.c (.int 9)))) .bNil)
  (.bOne (.sRet (.cB .tuple (.cons (.var 2) .nil)))))))
def yL:List FI:=[⟨"_law_draw",2,2,false,zE⟩]
def jN:MF:=fnM 3 (dB yL J2)
abbrev jT:Bx :=
  (.bSeq (.sSet 6 (.call 0 (.lend 0 (.ev (.var 1) .nil))))
  (.bSeq (.sIf (.tAnd (.tBor 3 (.tE (.cmp .ne (.var 3) (.l .nil)))) (.tE (.cmp .gt (.call 0 (.lend 0 (.ev (.var 4) .nil))) (.c (.int 0))))) (.bOne (.sSet 6 (.ixO 3 (.neg (.c (.int 1)))))) .bNil)
  (.bOne (.sApp 3 (.var 6)))))
def J4:Bx :=
  (.bSeq (.sSet 3 (.l .nil))
  (.bSeq (.sSet 4 (.bin .add (.c (.int 1)) (.call 0 (.lend 0 (.ev (.c (.int 4)) .nil)))))
  (.bSeq (.sForR1 (.cons (.call 0 (.lend 0 (.ev (.bin .add (.var 2) (.c (.int 1))) .nil))) .nil) (.n 5)
  jT)
  (.bOne (.sRet (.cB .tuple (.cons (.var 3) .nil)))))))
def z0:List FI:=[⟨"_law_draw",2,2,false,zE⟩]
def jO:MF:=fnM 7 (dB z0 J4)
def JM:Bx :=
  (.bOne (.sRet (.cat (.cat (.joi (.c (.str " ")) (.bin .add (.l (.cons (.c (.str "die")) .nil)) (.comp 1 ["_law_one"] [] [] (.iT (.var 0)) (.n 0) .tTr (.cB .strT (.cons (.var 0) .nil))))) (.c (.str "
"))) (.joi (.c (.str " ")) (.bin .add (.l (.cons (.c (.str "row")) .nil)) (.comp 1 ["_law_one"] [] [] (.iT (.var 1)) (.n 0) .tTr (.cB .strT (.cons (.var 0) .nil))))))))
def Zs:List FI:=[]
def y0:MF:=fnM 2 (dB Zs JM)
def Yu:Bx :=
  (.bSeq (.sIf (.tOr (.tE (.nir 1 61 (.cB .lenT (.cons (.var 0) .nil)))) (.tE (.cmp .ne (.comp 1 ["_law_sign"] [] [] (.iS (.var 0)) (.n 0) (.tE (.cmp .ninS (.var 0) (.c (.str "0123456789")))) (.var 0)) (.l .nil)))) (.bOne (.sRet (.c .non))) .bNil)
  (.bSeq (.sIf (.tAnd (.tE (.cmp .eq (.ixT (.var 0) (.c (.int 0))) (.c (.str "0")))) (.tE (.cmp .ne (.var 0) (.c (.str "0"))))) (.bOne (.sRet (.c .non))) .bNil)
  (.bOne (.sRet (.cB .intT (.cons (.var 0) .nil))))))
def jP:List FI:=[]
def jb:MF:=fnM 1 (dB jP Yu)
def wc:Bx :=
  (.bSeq (.sSet 0 (.c (.str " !#$&'()*+,-./0123456789:;<=>?@ABCDEFGHIJKLMNOPQRSTUVWXYZ[]^_`abcdefghijklmnopqrstuvwxyz{|}~")))
  (.bOne (.sRet (.cB .lisT (.cons (.cat (.var 0) (.c (.str "\"\\"))) .nil)))))
def Y2:List FI:=[]
def yl:MF:=fnM 1 (dB Y2 wc)
def jk:Bx :=
  (.bSeq (.sSet 2 (.spl (.var 1) (.c (.str " "))))
  (.bSeq (.sSet 3 (.call 0 (.lend 0 (.ev (.cB .len (.cons (.var 2) .nil)) .nil))))
  (.bSeq (.sSet 4 (.call0 1))
  (.bSeq (.sSet 5 (.l (.cons (.c (.str "")) (.cons (.c (.str "0")) (.cons (.c (.str "00")) (.cons (.c (.str "-1")) (.cons (.c (.str "+1")) (.cons (.c (.str "1.0")) (.cons (.c (.str "1")) (.cons (.c (.str "2")) (.cons (.c (.str "3")) (.cons (.c (.str "9")) (.cons (.c (.str "10")) (.cons (.cat (.c (.str "1")) (.mulT (.c (.str "0")) (.c (.int 19)))) (.cons (.mulT (.c (.str "1")) (.c (.int 21))) (.cons (.c (.str "01")) (.cons (.c (.str "die")) (.cons (.c (.str "row")) .nil))))))))))))))))))
  (.bSeq (.sApp 5 (.ix (.var 4) (.call 0 (.lend 0 (.ev (.cB .len (.cons (.var 4) .nil)) .nil)))))
  (.bSeq (.sSet 6 (.bin .add (.bin .add (.sl (.var 2) .oN (.oS (.var 3))) (.l (.cons (.ixO 5 (.call 0 (.lend 0 (.ev (.c (.int 17)) .nil)))) .nil))) (.sl (.var 2) (.oS (.bin .add (.var 3) (.c (.int 1)))) .oN)))
  (.bSeq (.sSet 7 (.call 0 (.lend 0 (.ev (.bin .add (.cB .lenT (.cons (.var 1) .nil)) (.c (.int 1))) .nil))))
  (.bSeq (.sSet 8 (.ix (.var 4) (.call 0 (.lend 0 (.ev (.cB .len (.cons (.var 4) .nil)) .nil)))))
  (.bSeq (.sSet 9 (.l (.cons (.cat (.cat (.slT (.var 1) .oN (.oS (.var 7))) (.var 8)) (.slT (.var 1) (.oS (.var 7)) .oN)) (.cons (.cat (.slT (.var 1) .oN (.oS (.var 7))) (.slT (.var 1) (.oS (.bin .add (.var 7) (.c (.int 1)))) .oN)) (.cons (.cat (.cat (.slT (.var 1) .oN (.oS (.var 7))) (.var 8)) (.slT (.var 1) (.oS (.bin .add (.var 7) (.c (.int 1)))) .oN)) (.cons (.c (.str "")) (.cons (.cat (.c (.str " ")) (.var 1)) .nil)))))))
  (.bSeq (.sSet 9 (.bin .add (.var 9) (.l (.rp 1 " " " " "  " (.cons (.joi (.c (.str " ")) (.sl (.var 2) .oN (.oS (.neg (.c (.int 1)))))) (.cons (.cat (.var 1) (.c (.str " 0"))) (.cons (.cat (.var 1) (.c (.str "0"))) (.cons (.cat (.var 1) (.c (.str " 2"))) .nil))))))))
  (.bSeq (.sSet 10 (.call 0 (.lend 0 (.ev (.c (.int 16)) .nil))))
  (.bSeq (.sIf (.tE (.cmp .lt (.var 10) (.c (.int 11)))) (.bOne (.sRet (.ix (.var 9) (.var 10)))) .bNil)
  (.bOne (.sRet (.joi (.c (.str " ")) (.var 6))))))))))))))))
def zG:List FI:=[⟨"_law_draw",2,2,false,zE⟩,⟨"_law_signs_of",0,1,false,yl⟩]
def y6:MF:=fnM 11 (dB zG jk)
def Zt:Bx :=
  (.bOne (.sTry cl_ (.bOne (.sRet (.call 0 (.ev (.var 0) .nil)))) 1
  (.bSeq (.sIf (.tOr (.tE (.cmp .ne (.call 2 (.ev (.var 1) .nil)) (.c (.str "text")))) (.tNot (.tE (.call 1 (.ev (.atr ri_ "row" (.var 1)) .nil))))) (.bOne (.sRet (.c (.str "other")))) .bNil)
  (.bOne (.sRet (.atr ri_ "row" (.var 1)))))))
def uC:List FI:=[⟨"throws_read",1,6,false,yU⟩,⟨"_law_whole",1,1,true,yF⟩,⟨"_law_kind_of",1,1,true,yz⟩]
def zu:MF:=fnM 2 (dB uC Zt)
def JN:Bx :=
  (.bSeq (.sSet 2 (.spl (.var 0) (.c (.str " "))))
  (.bSeq (.sSet 3 (.comp 1 ["_law_one"] [] [] (.iL (.sl (.var 2) (.oS (.c (.int 1))) .oN)) (.n 0) .tTr (.call 0 (.ev (.var 0) .nil))))
  (.bOne (.sRet (.ifx (.tOr (.tE (.cmp .ne (.ix (.var 2) (.c (.int 0))) (.var 1))) (.tE (.cmp .inn (.c .non) (.var 3)))) (.c .non) (.cB .tuple (.cons (.var 3) .nil)))))))
def jU:List FI:=[⟨"_law_value",1,1,false,jb⟩]
def yZ:MF:=fnM 4 (dB jU JN)
def YA:Bx :=
  (.bSeq (.sSet 1 (.spl (.var 0) (.c (.str "
"))))
  (.bSeq (.sSet 2 (.call 0 (.ev (.ix (.var 1) (.c (.int 0))) (.ev (.c (.str "die")) .nil))))
  (.bSeq (.sIf (.tOr (.tE (.cmp .is (.var 2) (.c .non))) (.tOr (.tE (.cmp .nin (.cB .len (.cons (.var 2) .nil)) (.t (.cons (.c (.int 2)) (.cons (.c (.int 3)) .nil))))) (.tE (.cmp .ne (.comp 1 ["_law_one"] [] [] (.iT (.var 2)) (.n 0) (.tE (.cmp .nin (.var 0) (.t (.cons (.c (.int 1)) (.cons (.c (.int 2)) (.cons (.c (.int 3)) (.cons (.c (.int 4)) (.cons (.c (.int 5)) (.cons (.c (.int 6)) (.cons (.c (.int 7)) (.cons (.c (.int 8)) (.cons (.c (.int 9)) .nil)))))))))))) (.var 0)) (.l .nil))))) (.bOne (.sRet (.c (.int 1)))) .bNil)
  (.bSeq (.sSet 3 (.c .non))
  (.bSeq (.sIf (.tE (.cmp .gt (.cB .len (.cons (.var 1) .nil)) (.c (.int 1)))) (.bOne (.sSet 3 (.call 0 (.ev (.ix (.var 1) (.c (.int 1))) (.ev (.c (.str "row")) .nil))))) .bNil)
  (.bSeq (.sIf (.tOr (.tE (.cmp .is (.var 3) (.c .non))) (.tOr (.tE (.cmp .gt (.cB .len (.cons (.var 3) .nil)) (.c (.int 20)))) (.tE (.cmp .ne (.comp 1 ["_law_sign"] ["_law_die"] [2] (.iT (.var 3)) (.n 0) (.tE (.cmp .ge (.var 0) (.cB .len (.cons (.var 1) .nil)))) (.var 0)) (.l .nil))))) (.bOne (.sRet (.c (.int 2)))) .bNil)
  (.bOne (.sRet (.ifx (.tE (.cmp .eq (.cB .len (.cons (.var 1) .nil)) (.c (.int 2)))) (.t (.cons (.var 2) (.cons (.var 3) .nil))) (.c (.int 3)))))))))))
def zq:List FI:=[⟨"_law_numbers",2,2,false,yZ⟩]
def ym:MF:=fnM 4 (dB zq YA)
def Yv:Bx :=
  (.bSeq (.sSet 1 (.call 2 (.ev (.var 0) .nil)))
  (.bSeq (.sSet 2 (.call 1 (.ev (.var 0) .nil)))
  (.bSeq (.sIf (.tE (.is .tuple (.var 1))) (.bOne (.sRet (.and (.is .tuple (.var 2)) (.and (.cmp .eq (.var 2) (.var 1)) (.cB .all (.cons (.comp 1 ["_law_one"] [] [] (.iT (.bin .add (.ix (.var 2) (.c (.int 0))) (.ix (.var 2) (.c (.int 1))))) (.n 0) .tTr (.call 0 (.ev (.var 0) .nil))) .nil)))))) .bNil)
  (.bOne (.sRet (.and (.call 0 (.ev (.var 2) .nil)) (.cmp .eq (.var 2) (.var 1))))))))
def YB:List FI:=[⟨"_law_whole",1,1,true,yF⟩,⟨"_law_told",1,7,false,zu⟩,⟨"_law_due_of",1,3,false,ym⟩]
def yd:MF:=fnM 3 (dB YB Yv)
def Yw:Bx :=
  (.bSeq (.sSet 2 (.call 1 (.lend 0 (.ev (.cB .len (.cons (.var 1) .nil)) .nil))))
  (.bSeq (.sSet 3 (.call 1 (.lend 0 (.ev (.c (.int 8)) .nil))))
  (.bSeq (.sIf (.tE (.cmp .eq (.var 3) (.c (.int 0)))) (.bOne (.sRet (.bin .add (.sl (.var 1) .oN (.oS (.var 2))) (.sl (.var 1) (.oS (.bin .add (.var 2) (.c (.int 1)))) .oN)))) .bNil)
  (.bSeq (.sIf (.tE (.cmp .eq (.var 3) (.c (.int 1)))) (.bOne (.sRet (.bin .add (.sl (.var 1) .oN (.oS (.bin .add (.var 2) (.c (.int 1))))) (.sl (.var 1) (.oS (.var 2)) .oN)))) .bNil)
  (.bSeq (.sIf (.tE (.cmp .eq (.var 3) (.c (.int 2)))) (.bOne (.sRet (.stp false (.var 1)))) .bNil)
  (.bSeq (.sIf (.tE (.cmp .eq (.var 3) (.c (.int 3)))) (.bOne (.sRet (.bin .add (.var 1) (.l (.cons (.ix (.l (.cons (.c (.str "row 0")) (.cons (.c (.str "")) (.cons (.c (.str "die 1 1")) (.cons (.c (.str "row")) .nil))))) (.call 1 (.lend 0 (.ev (.c (.int 4)) .nil)))) .nil))))) .bNil)
  (.bOne (.sRet (.bin .add (.bin .add (.sl (.var 1) .oN (.oS (.var 2))) (.l (.cons (.call 0 (.lend 0 (.ev (.ix (.var 1) (.var 2)) .nil))) .nil))) (.sl (.var 1) (.oS (.bin .add (.var 2) (.c (.int 1)))) .oN))))))))))
def wI:List FI:=[⟨"_law_odd_row",2,3,false,y6⟩,⟨"_law_draw",2,2,false,zE⟩]
def jc:MF:=fnM 4 (dB wI Yw)
abbrev zBS:Bx :=
  (.bOne (.sIf (.tNot (.tE (.call 0 (.ev (.joi (.c (.str "
")) (.call 1 (.lend 5 (.ev (.spl (.var 3) (.c (.str "
"))) .nil)))) .nil)))) (.bOne (.sRet (.c (.bl false)))) .bNil))
abbrev uv:Bx :=
  (.bSeq (.sSet 5 (.call 5 (.ev (.var 4) .nil)))
  (.bSeq (.sSet 6 (.call 4 (.lend 5 .nil)))
  (.bSeq (.sSet 3 (.call 2 (.ev (.var 6) (.ev (.call 3 (.lend 5 (.ev (.cB .len (.cons (.var 6) .nil)) (.ev (.c (.int 20)) .nil)))) .nil))))
  (.bSeq (.sIf (.tNot (.tE (.call 0 (.ev (.var 3) .nil)))) (.bOne (.sRet (.c (.bl false)))) .bNil)
  (.bOne (.sForR1 (.cons (.c (.int 8)) .nil) (.n 7)
  zBS))))))
abbrev uw:Bx :=
  (.bOne (.sIf (.tNot (.tE (.call 0 (.ev (.var 3) .nil)))) (.bOne (.sRet (.c (.bl false)))) .bNil))
abbrev ux:Bx :=
  (.bOne (.sIf (.tE (.cmp .ne (.cB .repr (.cons (.call 7 (.ev (.var 1) .nil)) .nil)) (.c (.str "0")))) (.bOne (.sRet (.c (.bl false)))) .bNil))
def t_law:Bx :=
  (.bSeq (.sForL (.l (.cons (.c .non) (.cons (.c (.int 0)) (.cons (.c (.bl true)) (.cons (.l (.cons (.c (.str "die 1 1")) .nil)) (.cons (.t (.cons (.c (.str "die 1 1")) (.cons (.c (.str "row")) .nil))) (.cons .dic .nil))))))) (.n 1)
  ux)
  (.bSeq (.sSet 2 (.l (.cons (.c (.str "")) (.cons (.c (.str "die 1 1")) (.cons (.c (.str "die 1 1
row")) (.cons (.c (.str "die 1 1
row ")) (.cons (.c (.str "die 1
row")) (.cons (.c (.str "die 1 1 1 1
row")) (.cons (.c (.str "die 0 1
row")) (.cons (.c (.str "
")) .nil))))))))))
  (.bSeq (.sSet 2 (.bin .add (.var 2) (.l (.cons (.c (.str "row
die 1 1")) (.cons (.c (.str "die 1 10
row")) (.cons (.c (.str "die 1 1
row 2")) (.cons (.c (.str "die 1 1
row 0
")) (.cons (.c (.str "die 01 1
row")) .nil))))))))
  (.bSeq (.sForL (.bin .add (.var 2) (.l (.cons (.cat (.c (.str "die 1 1 2
row")) (.mulT (.c (.str " 2")) (.c (.int 21)))) .nil))) (.n 3)
  uw)
  (.bSeq (.sForL (.bin .add (.l (.cons (.call 6 (.ev (.var 0) (.ev (.c (.int 0)) .nil))) .nil)) (.sl (.var 0) (.oS (.c (.int 1))) (.oS (.c (.int 8))))) (.n 4)
  uv)
  (.bOne (.sRet (.c (.bl true)))))))))
def wP:List FI:=[⟨"_law_right",1,8,false,yd⟩,⟨"_law_wrong",2,4,false,jc⟩,⟨"_law_text_of",2,1,false,y0⟩,⟨"_law_row_of",3,3,false,jO⟩,⟨"_law_die_of",1,3,false,jN⟩,⟨"_law_pen_of",1,1,false,yk⟩,⟨"_law_cell_at",2,1,false,yY⟩,⟨"_law_told",1,7,false,zu⟩]
def m_law:MF:=fnM 8 (dB wP t_law)
structure Txt(K:qH)(mg:Str->Option Value):Prop where
 n_ValueError:mg "ValueError"=none
 n_all:mg "all"=none
 n_bool:mg "bool"=none
 n_int:mg "int"=none
 n_isinstance:mg "isinstance"=none
 n_len:mg "len"=none
 n_list:mg "list"=none
 n_max:mg "max"=none
 n_range:mg "range"=none
 n_repr:mg "repr"=none
 n_str:mg "str"=none
 n_tuple:mg "tuple"=none
 c_LEAST_SIGNS:∃t,mg "LEAST_SIGNS"=some (.int 2 t)
 c_LEAST_WEIGHT:∃t,mg "LEAST_WEIGHT"=some (.int 1 t)
 c_MOST_FIGURES:∃t,mg "MOST_FIGURES"=some (.int 20 t)
 c_MOST_SIGNS:∃t,mg "MOST_SIGNS"=some (.int 3 t)
 c_MOST_THROWS:∃t,mg "MOST_THROWS"=some (.int 20 t)
 c_MOST_WEIGHT:∃t,mg "MOST_WEIGHT"=some (.int 9 t)
 f_is_whole:JT K mg "is_whole" WL ["thing"]
 f_is_whole_within:JT K mg "is_whole_within" jn ["thing","low","high"]
 f_die_good:JT K mg "die_good" WM ["thing"]
 f_sign_good:JT K mg "sign_good" ZG ["thing"]
 f_row_good:JT K mg "row_good" WN ["thing"]
 f_row_good_of:JT K mg "row_good_of" Jb ["thing","signs"]
 f_number_read:JT K mg "number_read" Jd ["word"]
 f_numbers_read:JT K mg "numbers_read" wz ["words"]
 f_line_read:JT K mg "line_read" ZH ["word","line"]
 f_throws_read:JT K mg "throws_read" Je ["text"]
 f__law_cell_at:JT K mg "_law_cell_at" w4 ["_law_script","_law_k"]
 f__law_next:JT K mg "_law_next" ZI ["_law_seed"]
 f__law_pen_of:JT K mg "_law_pen_of" Jf ["_law_cell"]
 f__law_draw:JT K mg "_law_draw" ZJ ["_law_pen","_law_many"]
 f__law_whole:JT K mg "_law_whole" Yd ["_law_found"]
 f__law_kind_of:JT K mg "_law_kind_of" w6 ["_law_e"]
 f__law_die_of:JT K mg "_law_die_of" Jg ["_law_pen"]
 f__law_row_of:JT K mg "_law_row_of" Jh ["_law_pen","_law_signs","_law_most"]
 f__law_text_of:JT K mg "_law_text_of" w8 ["_law_die","_law_row"]
 f__law_value:JT K mg "_law_value" Ye ["_law_word"]
 f__law_signs_of:JT K mg "_law_signs_of" wS []
 f__law_odd_row:JT K mg "_law_odd_row" w9 ["_law_pen","_law_row"]
 f__law_told:JT K mg "_law_told" ZK ["_law_text"]
 f__law_numbers:JT K mg "_law_numbers" JA ["_law_row","_law_word"]
 f__law_due_of:JT K mg "_law_due_of" Ji ["_law_text"]
 f__law_right:JT K mg "_law_right" Yg ["_law_text"]
 f__law_wrong:JT K mg "_law_wrong" Yh ["_law_pen","_law_rows"]
 f_law:JT K mg "law" s_law ["_law_script"]
 r_NoText:RiAt K mg "NoText" GI
 cl:ClOk K mg cl_ rs_
section
variable{P:Program}{w:World}{K:qH}{mg:Str->Option Value}{base:Heap}
def yp(T:Txt K mg):zDI K mg cs_:=(YY T.c_LEAST_SIGNS (YY T.c_LEAST_WEIGHT (YY T.c_MOST_FIGURES (YY T.c_MOST_SIGNS (YY T.c_MOST_THROWS (YY T.c_MOST_WEIGHT cs_nil))))))
def yq(T:Txt K mg):zBO P w K mg base ri_:=(zC0 ⟨ri_of T.r_NoText (sc_of (of_decide_eq_true (by decide +kernel))) (by decide +kernel),ra_of T.r_NoText⟩ ris_nil)
def yr(T:Txt K mg):BsOk mg bs_:=(jE T.n_ValueError (jE T.n_all (jE T.n_bool (jE T.n_int (jE T.n_isinstance (jE T.n_len (jE T.n_list (jE T.n_max (jE T.n_range (jE T.n_repr (jE T.n_str (jE T.n_tuple bs_nil))))))))))))
def uy(T:Txt K mg):FOk P w K mg base true "is_whole" 1 ["thing"] YZ:=zh Wa ["thing"] T.f_is_whole (yp T) z7 (yr T) T.cl (yq T) (by decide +kernel)
def jd(T:Txt K mg):FOk P w K mg base true "is_whole_within" 2 ["thing","low","high"] zi:=zh yT ["thing","low","high"] T.f_is_whole_within (yp T) (zX (uy T) rfl z7) (yr T) T.cl (yq T) (by decide +kernel)
def uz(T:Txt K mg):FOk P w K mg base true "die_good" 3 ["thing"] ju:=zh Wb ["thing"] T.f_die_good (yp T) (zX (jd T) rfl z7) (yr T) T.cl (yq T) (by decide +kernel)
def uD(T:Txt K mg):FOk P w K mg base true "sign_good" 3 ["thing"] wE:=zh Zm ["thing"] T.f_sign_good (yp T) (zX (jd T) rfl z7) (yr T) T.cl (yq T) (by decide +kernel)
def u8(T:Txt K mg):FOk P w K mg base true "row_good" 4 ["thing"] wt:=zh Wc ["thing"] T.f_row_good (yp T) (zX (uD T) rfl z7) (yr T) T.cl (yq T) (by decide +kernel)
def WD(T:Txt K mg):FOk P w K mg base true "row_good_of" 5 ["thing","signs"] yI:=zh Jy ["thing","signs"] T.f_row_good_of (yp T) (zX (u8 T) rfl z7) (yr T) T.cl (yq T) (by decide +kernel)
def WE(T:Txt K mg):FOk P w K mg base true "number_read" 1 ["word"] jM:=zh Jz ["word"] T.f_number_read (yp T) z7 (yr T) T.cl (yq T) (by decide +kernel)
def Zu(T:Txt K mg):FOk P w K mg base true "numbers_read" 2 ["words"] yy:=zh JJ ["words"] T.f_numbers_read (yp T) (zX (WE T) rfl z7) (yr T) T.cl (yq T) (by decide +kernel)
def uE(T:Txt K mg):FOk P w K mg base true "line_read" 3 ["word","line"] jS:=zh Zq ["word","line","first","others"] T.f_line_read (yp T) (zX (Zu T) rfl z7) (yr T) T.cl (yq T) (by decide +kernel)
def WF(T:Txt K mg):FOk P w K mg base true "throws_read" 6 ["text"] yU:=zh J0 ["text","lines","die","row"] T.f_throws_read (yp T) (zX (WD T) rfl (zX (uE T) rfl (zX (uz T) rfl z7))) (yr T) T.cl (yq T) (by decide +kernel)
def Zv(T:Txt K mg):FOk P w K mg base true "_law_cell_at" 1 ["_law_script","_law_k"] yY:=zh jj ["_law_script","_law_k"] T.f__law_cell_at (yp T) z7 (yr T) T.cl (yq T) (by decide +kernel)
def uF(T:Txt K mg):FOk P w K mg base true "_law_next" 1 ["_law_seed"] wF:=zh JV ["_law_seed"] T.f__law_next (yp T) z7 (yr T) T.cl (yq T) (by decide +kernel)
def WG(T:Txt K mg):FOk P w K mg base true "_law_pen_of" 1 ["_law_cell"] yk:=zh wG ["_law_cell","_law_left"] T.f__law_pen_of (yp T) z7 (yr T) T.cl (yq T) (by decide +kernel)
def je(T:Txt K mg):FOk P w K mg base true "_law_draw" 2 ["_law_pen","_law_many"] zE:=zh wH ["_law_pen","_law_many","_law_found"] T.f__law_draw (yp T) (zX (uF T) rfl z7) (yr T) T.cl (yq T) (by decide +kernel)
def YC(T:Txt K mg):FOk P w K mg base false "_law_whole" 1 ["_law_found"] yF:=zh Yt ["_law_found"] T.f__law_whole (yp T) z7 (yr T) T.cl (yq T) (by decide +kernel)
def Zw(T:Txt K mg):FOk P w K mg base false "_law_kind_of" 1 ["_law_e"] yz:=zh JL ["_law_e","_law_marks"] T.f__law_kind_of (yp T) z7 (yr T) T.cl (yq T) (by decide +kernel)
def WH(T:Txt K mg):FOk P w K mg base true "_law_die_of" 3 ["_law_pen"] jN:=zh J2 ["_law_pen","_law_most","_law_found"] T.f__law_die_of (yp T) (zX (je T) rfl z7) (yr T) T.cl (yq T) (by decide +kernel)
def WI(T:Txt K mg):FOk P w K mg base true "_law_row_of" 3 ["_law_pen","_law_signs","_law_most"] jO:=zh J4 ["_law_pen","_law_signs","_law_most","_law_found","_law_often","_law_turn","_law_sign"] T.f__law_row_of (yp T) (zX (je T) rfl z7) (yr T) T.cl (yq T) (by decide +kernel)
def Zx(T:Txt K mg):FOk P w K mg base true "_law_text_of" 1 ["_law_die","_law_row"] y0:=zh JM ["_law_die","_law_row"] T.f__law_text_of (yp T) z7 (yr T) T.cl (yq T) (by decide +kernel)
def W2(T:Txt K mg):FOk P w K mg base true "_law_value" 1 ["_law_word"] jb:=zh Yu ["_law_word"] T.f__law_value (yp T) z7 (yr T) T.cl (yq T) (by decide +kernel)
def Y3(T:Txt K mg):FOk P w K mg base true "_law_signs_of" 1 [] yl:=zh wc ["_law_signs"] T.f__law_signs_of (yp T) z7 (yr T) T.cl (yq T) (by decide +kernel)
def Zy(T:Txt K mg):FOk P w K mg base true "_law_odd_row" 3 ["_law_pen","_law_row"] y6:=zh jk ["_law_pen","_law_row","_law_words","_law_spot","_law_signs","_law_odd","_law_one","_law_at","_law_sign","_law_some","_law_way"] T.f__law_odd_row (yp T) (zX (je T) rfl (zX (Y3 T) rfl z7)) (yr T) T.cl (yq T) (by decide +kernel)
def Yx(T:Txt K mg):FOk P w K mg base true "_law_told" 7 ["_law_text"] zu:=zh Zt ["_law_text","_law_e"] T.f__law_told (yp T) (zX (WF T) rfl (zX (YC T) rfl (zX (Zw T) rfl z7))) (yr T) T.cl (yq T) (by decide +kernel)
def Zz(T:Txt K mg):FOk P w K mg base true "_law_numbers" 2 ["_law_row","_law_word"] yZ:=zh JN ["_law_row","_law_word","_law_words","_law_found"] T.f__law_numbers (yp T) (zX (W2 T) rfl z7) (yr T) T.cl (yq T) (by decide +kernel)
def WJ(T:Txt K mg):FOk P w K mg base true "_law_due_of" 3 ["_law_text"] ym:=zh YA ["_law_text","_law_rows","_law_die","_law_row"] T.f__law_due_of (yp T) (zX (Zz T) rfl z7) (yr T) T.cl (yq T) (by decide +kernel)
def W3(T:Txt K mg):FOk P w K mg base true "_law_right" 8 ["_law_text"] yd:=zh Yv ["_law_text","_law_due","_law_found"] T.f__law_right (yp T) (zX (YC T) rfl (zX (Yx T) rfl (zX (WJ T) rfl z7))) (yr T) T.cl (yq T) (by decide +kernel)
def W4(T:Txt K mg):FOk P w K mg base true "_law_wrong" 4 ["_law_pen","_law_rows"] jc:=zh Yw ["_law_pen","_law_rows","_law_spot","_law_way"] T.f__law_wrong (yp T) (zX (Zy T) rfl (zX (je T) rfl z7)) (yr T) T.cl (yq T) (by decide +kernel)
end
def law_fd{P:Program}{w:World}{K:qH}{mg:Str->Option Value}{fa:Addr}(hfa:mg "law"=some (.ref fa))(T:Txt K mg):∃fd:FuncData,(∀(s:Shared) (u:Value),BindsTo s fd ⟨[u],[]⟩ [("_law_script",u)])/\∀base:Heap,FnOk P w K mg base (CXx P w) 40 fa fd ["_law_script"] (spM K mg 1 m_law):=by
 obtain⟨a,fd,hm,F,bnd⟩:=T.f_law;have e:=hfa.symm.trans hm;cases e;refine⟨fd,?_,λbase=>(def_atB (P:=P) (w:=w) (base:=base) (fs:=wP) (lv:=8) t_law ["_law_script","_law_thing","_law_some","_law_text","_law_cell","_law_pen","_law_die","_law_turn"] F (yp T) (zX (W3 T) rfl (zX (W4 T) rfl (zX (Zx T) rfl (zX (WI T) rfl (zX (WH T) rfl (zX (WG T) rfl (zX (Zv T) rfl (zX (Yx T) rfl z7)))))))) (yr T) T.cl (yq T) (by decide +kernel)).mono (by decide)⟩;obtain⟨oc,od,kV,doc,pm,an,cdv,ct,osl,rfl,lk,hcd⟩:=F.ex;exact λs u=>.of_eq rfl
end My
namespace DV
open PySem L2
section
variable{fs:List FI}{E E1 E2 E3:zQ}
def x_c{d:D}:dE fs (.c d) E=.ok (.v d,E):=by simp only[rE_c,eC]
def QZ{d:D}:dE fs (.gl d) E=.ok (.v d,E):=by simp only[rE_gl,eC]
def zB{i:Nat}{d:D}(h:E[i]?=some (.v d)):dE fs (.var i) E=.ok (.v d,E):=by simp only[JG,QL,h]
def jH{i:Nat}{ds:List D}(h:E[i]?=some (.own ds))(h':E.set i (.v (.l ds))=E1):dE fs (.var i) E=.ok (.v (.l ds),E1):=by simp only[JG,vq,QL,h,h']
def jF{o:Op2}{a b:_}{r1 r2 r:R}(h1:dE fs a E=.ok (r1,E1))(h2:dE fs b E1=.ok (r2,E2))(h3:o.f r1.d r2.d=some r):dE fs (.bin o a b) E=.ok (r,E2):=by simp only[WX,JB,h1,h2,h3]
def zY{o:Cp}{a b:_}{r1 r2 r:R}(h1:dE fs a E=.ok (r1,E1))(h2:dE fs b E1=.ok (r2,E2))(h3:o.f r1.d r2.d=some r):dE fs (.cmp o a b) E=.ok (r,E2):=by simp only[WY,JB,h1,h2,h3]
def uU{a b:_}{r1 r2 r:R}(h1:dE fs a E=.ok (r1,E1))(h2:dE fs b E1=.ok (r2,E2))(h3:ixD r1.d r2.d=some r):dE fs (.ix a b) E=.ok (r,E2):=by simp only[rE_ix,JB,h1,h2,h3]
def x_stp{k:Bool}{a:_}{r r':R}(h1:dE fs a E=.ok (r,E1))(h2:zCv k r.d=some r'):dE fs (.stp k a) E=.ok (r',E1):=by simp only[rE_stp,eUn,h1,h2]
def jv{b:Bi}{as:_}{rs:List R}{r:R}(h1:dA fs as E=.ok (rs,E1))(h2:b.f (rs.map R.d)=some r):dE fs (.cB b as) E=.ok (r,E1):=by simp only[zC9,eCB,h1,h2]
def Qa{as:_}{rs:List R}{ds:List D}(h1:dA fs as E=.ok (rs,E1))(h2:rs.map R.d=ds)(h3:ds.length<=cap):dE fs (.t as) E=.ok (.v (.t ds),E1):=by
 subst h2;simp only[rE_tup,eTup,eCB,h1];rw[if_pos h3]
def jQ{as:_}{rs:List R}{ds:List D}(h1:dA fs as E=.ok (rs,E1))(h2:rs.map R.d=ds)(h3:ds.length<=cap):dE fs (.l as) E=.ok (.own ds,E1):=by
 subst h2;simp only[vq,eLst,eCB,h1];rw[if_pos h3]
def zBT{a l u:_}{r r':R}{lo hi:Option Int}{E3:zQ}(h1:dE fs a E=.ok (r,E1))(h2:dO fs l E1=.ok (lo,E2))(h3:dO fs u E2=.ok (hi,E3))(h4:slD r.d lo hi=some r'):dE fs (.sl a l u) E=.ok (r',E3):=by simp only[rE_sl,eSl,h1,h2,h3,h4]
def zz{k:Nat}{a:_}{F:MF}{r r':R}{o:Slot}(h0:fiF fs k=F)(h1:dE fs a E=.ok (r,E1))(h2:F [.v r.d]=.ok (r',[o])):dE fs (.call k (.ev a .nil)) E=.ok (r',E1):=by
 subst h0;simp only[yi,Y0,jt,jK,zy,h1,zN,h2,zM]
def jm{k:Nat}{a b:_}{F:MF}{r r2 r':R}{o o2:Slot}(h0:fiF fs k=F)(h1:dE fs a E=.ok (r,E1))(h1':dE fs b E1=.ok (r2,E2))(h2:F [.v r.d,.v r2.d]=.ok (r',[o,o2])):dE fs (.call k (.ev a (.ev b .nil))) E=.ok (r',E2):=by
 subst h0;simp only[yi,Y0,jt,jK,zy,h1,h1',zN,h2,zM]
def zBU{o o':Cp}{a b c:_}{i j k:Int}{E3:zQ}{v:Bool}(h1:dE fs a E=.ok (.v (.int i),E1))(h2:dE fs b E1=.ok (.v (.int j),E2))(h3:o.b i j=true)(h4:dE fs c E2=.ok (.v (.int k),E3))(h5:o'.b j k=v):dE fs (.chain o o' a b c) E=.ok (.v (.bl v),E3):=by
 subst h5;simp only[ZC,JE,h1,h2,h4];rw[if_pos h3]
def zDL{o o':Cp}{a b c:_}{i j:Int}(h1:dE fs a E=.ok (.v (.int i),E1))(h2:dE fs b E1=.ok (.v (.int j),E2))(h3:o.b i j=false):dE fs (.chain o o' a b c) E=.ok (.v (.bl false),E2):=by
 simp only[ZC,JE,h1,h2];rw[if_neg (by rw[h3];decide)]
def zDM{k i:Nat}{a:_}{F:MF}{r r':R}{p p':List D}{o:Slot}(h0:fiF fs k=F)(hE:E[i]?=some (.own p))(h1:dE fs a E=.ok (r,E))(h2:F [.par p,.v r.d]=.ok (r',[.par p',o]))(h3:E.set i (.own p')=E1):dE fs (.call k (.lend i (.ev a .nil))) E=.ok (r',E1):=by
 subst h0 h3;have hi:i<E.length:=(qG.mp hE).1;have hs:(E.set i .e)[i]?=some .e:=by simp[hi]
 simp only[yi,Y0,Zj,jt,jK,zy,hE,wQ,Bool.false_eq_true,if_false,h1,zN,Slot.list?,h2,zM,hs,Slot.put,set_set]
def zDN{k i:Nat}{a b:_}{F:MF}{r r2 r':R}{p p':List D}{o o2:Slot}(h0:fiF fs k=F)(hE:E[i]?=some (.own p))(h1:dE fs a E=.ok (r,E))(h1':dE fs b E=.ok (r2,E))(h2:F [.par p,.v r.d,.v r2.d]=.ok (r',[.par p',o,o2]))(h3:E.set i (.own p')=E1):dE fs (.call k (.lend i (.ev a (.ev b .nil)))) E=.ok (r',E1):=by
 subst h0 h3;have hi:i<E.length:=(qG.mp hE).1;have hs:(E.set i .e)[i]?=some .e:=by simp[hi]
 simp only[yi,Y0,Zj,jt,jK,zy,hE,wQ,Bool.false_eq_true,if_false,h1,h1',zN,Slot.list?,h2,zM,hs,Slot.put,set_set]
def zBV{k:Nat}{a b c:_}{F:MF}{r r2 r3 r':R}{o o2 o3:Slot}(h0:fiF fs k=F)(h1:dE fs a E=.ok (r,E1))(h1':dE fs b E1=.ok (r2,E2))(h1'':dE fs c E2=.ok (r3,E3))(h2:F [.v r.d,.v r2.d,.v r3.d]=.ok (r',[o,o2,o3])):dE fs (.call k (.ev a (.ev b (.ev c .nil)))) E=.ok (r',E3):=by
 subst h0;simp only[yi,Y0,jt,jK,zy,h1,h1',h1'',zN,h2,zM]
def zv{n:Nat}{body:MS}{ss o:List Slot}{r:R}(h:body (ss++replicate (n-ss.length) .e)=.ok (.ret r,E1))(ho:yH ss E1=o):fnM n body ss=.ok (r,o):=by
 subst ho;simp only[fnM,h]
def zR:dA fs .nil E=.ok ([],E):=by simp only[zBE,aNil]
def zA{a as:_}{r:R}{rs:List R}(h1:dE fs a E=.ok (r,E1))(h2:dA fs as E1=.ok (rs,E2)):dA fs (.cons a as) E=.ok (r::rs,E2):=by simp only[ur,vZ,h1,h2]
def o_N:dO fs .oN E=.ok (none,E):=by simp only[rO_oN,zCf]
def o_S{a:_}{i:Int}(h:dE fs a E=.ok (.v (.int i),E1)):dO fs (.oS a) E=.ok (some i,E1):=by simp only[rO_oS,zAQ,h]
def t_E{a:_}{b:Bool}(h:dE fs a E=.ok (.v (.bl b),E1)):dT fs (.tE a) E=.ok (b,E1):=by simp only[zBD,tT,h]
def ZE{a b:_}{c:Bool}(h1:dT fs a E=.ok (false,E1))(h2:dT fs b E1=.ok (c,E2)):dT fs (.tOr a b) E=.ok (c,E2):=by simp only[zEH,tOrM,h1,h2]
def uG{a b:_}(h1:dT fs a E=.ok (true,E1)):dT fs (.tOr a b) E=.ok (true,E1):=by simp only[zEH,tOrM,h1]
def yu{a:_}{b c:Bool}(h1:dT fs a E=.ok (b,E1))(h2:(!b)=c):dT fs (.tNot a) E=.ok (c,E1):=by subst h2;simp only[rT_tNot,QM,h1]
def z8{i:Nat}{a:_}{r:R}(h1:dE fs a E=.ok (r,E1))(h2:YO i r E1=.ok E2):dS fs (.sSet i a) E=.ok (.nx,E2):=by simp only[Zk,sSet,h1,h2]
def yC{t a b:_}{o:Out (Fl×zQ)}(h1:dT fs t E=.ok (false,E1))(h2:dB fs b E1=o):dS fs (.sIf t a b) E=o:=by subst h2;simp only[vv,sIf,h1]
def yw{t a b:_}{o:Out (Fl×zQ)}(h1:dT fs t E=.ok (true,E1))(h2:dB fs a E1=o):dS fs (.sIf t a b) E=o:=by subst h2;simp only[vv,sIf,h1]
def zw{a:_}{r:R}(h1:dE fs a E=.ok (r,E1)):dS fs (.sRet a) E=.ok (.ret r,E1):=by simp only[wC,sRet,h1]
def zBW{a b:_}{tg:Tg}{r:R}{ds:List D}{p:Fl×zQ}(h1:dE fs a E=.ok (r,E1))(h2:r.d=.l ds)(h3:uR tg.m (dB fs b) ds E1=.ok p):dS fs (.sForL a tg b) E=.ok p:=by simp only[zDC];exact zA9 (by simp only[sForL,h1,h2,h3])
def zBX{a b:_}{tg:Tg}{r:R}{j:Int}{p:Fl×zQ}(h1:dA fs a E=.ok ([r],E1))(h2:r.d=.int j)(hj:-1000000<=j/\j<=1000000)(h3:uR tg.m (dB fs b) (zb 0 j.toNat) E1=.ok p):dS fs (.sForR1 a tg b) E=.ok p:=by
 simp only[zBG];refine zA9 ?_;simp only[sForR1,h1,h2];rw[if_pos ⟨by omega,by omega⟩,h3]
def i_L{a:_}{r:R}{ds:List D}(h1:dE fs a E=.ok (r,E1))(h2:r.d=.l ds):dI fs (.iL a) E=.ok (ds,E1):=by simp only[rI_iL,iL,h1,h2]
def i_T{a:_}{r:R}{ds:List D}(h1:dE fs a E=.ok (r,E1))(h2:r.d=.t ds):dI fs (.iT a) E=.ok (ds,E1):=by simp only[rI_iT,iT,h1,h2]
def i_R1{a:_}{r:R}{j:Int}(h1:dA fs a E=.ok ([r],E1))(h2:r.d=.int j)(hj:-1000000<=j/\j<=1000000):dI fs (.iR1 a) E=.ok (zb 0 j.toNat,E1):=by
 simp only[rI_iR1,iR1,h1,h2];rw[if_pos ⟨by omega,by omega⟩]
def yD:dB fs .bNil E=.ok (.nx,E):=by simp only[Wz,sNil]
def zZ{s:_}{o:Out (Fl×zQ)}(h:dS fs s E=o):dB fs (.bOne s) E=o:=by simp only[wW,h]
def zF{s b:_}{o:Out (Fl×zQ)}(h:dS fs s E=.ok (.nx,E1))(h2:dB fs b E1=o):dB fs (.bSeq s b) E=o:=by simp only[wD,GT,h,h2]
def wJ{s b:_}{r:R}(h:dS fs s E=.ok (.ret r,E1)):dB fs (.bSeq s b) E=.ok (.ret r,E1):=by simp only[wD,GT,h]
def zBY{s b:_}{x:Exn}(h:dS fs s E=.exc x E1):dB fs (.bSeq s b) E=.exc x E1:=by simp only[wD,GT,h]
def s_retX{a:_}{x:Exn}(h:dE fs a E=.exc x E1):dS fs (.sRet a) E=.exc x E1:=by simp only[wC,sRet,h]
def zDO{k:Nat}{a:_}{F:MF}{r:R}{x:Exn}{o:List Slot}(h0:fiF fs k=F)(h1:dE fs a E=.ok (r,E1))(h2:F [.v r.d]=.exc x o):dE fs (.call k (.ev a .nil)) E=.exc ⟨x.cls,false,x.vs⟩ E1:=by
 subst h0;simp only[yi,Y0,jt,jK,zy,h1,zN,h2,WT,if_true]
def s_tryO{cl:List Str}{b hb:_}{i:Nat}{p:Fl×zQ}(h:dB fs b E=.ok p):dS fs (.sTry cl b i hb) E=.ok p:=by simp only[zBH,DV.sTry,h]
def s_tryX{cl:List Str}{b hb:_}{i:Nat}{c:Str}{ws:List Int}{r:R}(h:dB fs b E=.exc ⟨c,false,ws⟩ E1)(hc:cl.contains c=true)(hp:YO i (.v (.exn c ws)) E1=.ok E2)(hh:dB fs hb E2=.ok (.ret r,E3)):dS fs (.sTry cl b i hb) E=.ok (.ret r,E3):=by
 simp only[zBH,DV.sTry,h,hc,hp,hh,Bool.not_false,Bool.and_self,if_true]
def JW{d:D}:[d].length<=cap:=by simp only[List.length_singleton,cap];omega
def JX:([]:List D).length<=cap:=by simp only[length_nil,cap];omega
def Z0{d e:D}:[d,e].length<=cap:=by simp only[length_cons,length_nil,cap];omega
def Gz{nl:Nat}{xs ys:List Str}{caps:List Nat}{it tt el:_}{tg:Tg}{ds rs:List D}{vs:List D}(pat:D->List DV.Slot)(f:D->Bool)(g:D->D)(hi:dI fs it E=.ok (ds,E1))(hcap:JS E1 caps=.ok (vs.map AR.tmp))
  (h1:∀d∈ds,∀S:List DV.Slot,S.length=nl->(∀s∈S,Jx s=true)->tg.m d (S++vs.map Slot.v)=.ok (pat d++vs.map Slot.v))
  (h2:∀d∈ds,(pat d).length=nl/\∀s∈pat d,Jx s=true)
  (h3:∀d∈ds,dT fs tt (pat d++vs.map Slot.v)=.ok (f d,pat d++vs.map Slot.v))
  (h4:∀d∈ds,f d=true->∃r,dE fs el (pat d++vs.map Slot.v)=.ok (r,pat d++vs.map Slot.v)/\r.d=g d) (hc:ds.length<=cap) (hr:(ds.filter f).map g=rs):dE fs (.comp nl xs ys caps it tg tt el) E=.ok (.own rs,E1):=by
 subst hr;simp only[zBB];exact zA8 <| zDJ pat f g ds h1 h2 h3 h4 hc hi hcap
def JY{xs ys:List Str}{caps:List Nat}{it el:_}{ds rs:List D}{vs:List D}(g:D->D)(hi:dI fs it E=.ok (ds,E1))(hcap:JS E1 caps=.ok (vs.map AR.tmp))
  (h4:∀d∈ds,∃r,dE fs el (.v d::vs.map Slot.v)=.ok (r,.v d::vs.map Slot.v)/\r.d=g d) (hc:ds.length<=cap) (hr:ds.map g=rs):dE fs (.comp 1 xs ys caps it (.n 0) .tTr el) E=.ok (.own rs,E1):=by
 refine Gz (λd=>[.v d]) (λ_=>true) g hi hcap (λd hd S hS hn=>Gv hS hn) (λd hd=>⟨rfl,λs hs=>?_⟩) (λd hd=>?_) (λd hd _=>h4 d hd) hc ?_
 ·rw[mem_singleton]at hs;subst hs;rfl
 ·simp only[zEI,zAY]
 ·rw[List.filter_eq_self.mpr (λ_ _=>rfl),hr]
end
end DV
namespace SM
open PySem L2 DV
def ends(w o k:Nat):Nat->List Nat
 |0=>1::replicate k 0|n+1=>(o*(ends w o k n).sum)::((ends w o k n).dropLast.map (w*·))
def U(w o k n:Nat):Nat:=(ends w o k n).sum
def F(w o k m:Nat):Nat->Nat
 |0=>0|r+1=>F w o k m r+w^r*o*U w o k (m-1-r)
def stp(s:Nat)(p:Nat×Nat)(x:Nat):Nat×Nat:=(max p.1 (if x=s then p.2+1 else 0),if x=s then p.2+1 else 0)
def Die(die:List Nat):Prop:=(die.length=2\/die.length=3)/\∀x∈die,1<=x/\x<=9
def tot(es:List (List Nat)):Nat:=(es.map List.sum).sum
def al(ws:List Nat)(k:Nat):Nat->List (List Nat)
 |0=>ws.map λw=>w::replicate (k-1) 0|n+1=>List.zipWith (λw e=>(w*(tot (al ws k n)-e.sum))::e.dropLast.map (w*·)) ws (al ws k n)
def A(ws:List Nat)(n k:Nat):Nat:=if n=0 then 1 else if k=0 then 0 else tot (al ws k (n-1))
end SM
namespace DV
open PySem L2
def rpB:Nat->Nat
 |0=>40|n+1=>32*(rpB n+2)+10
structure Rp(n:Nat)(x:PyData):Prop where
 sh:x.showable=true
 dp:x.depth<=n+2
 ln:x.shown.length<=rpB n
end DV
namespace TM
open PySem L2 DV PyProof.Rows
abbrev tD(a:List Int):D:=.t (a.map D.int)
section
variable{L:List (List Int)}
def gd(i:Nat)(h:i<L.length):(L.map tD).getD i .non=tD (L.getD i []):=by
 rw[getD_eq_getElem?_getD,getD_eq_getElem?_getD,List.getElem?_map,getElem?_eq_getElem h];rfl
end
def R1(l:List Nat):List Nat:=l.drop 1++l.take 1
def it(rs:List Nat):Nat->List Nat
 |0=>rs|t+1=>R1 (it rs t)
def zs(l:List Nat):List Int:=l.map λ(n:Nat)=>(n:Int)
end TM
namespace DV
open PySem L2
section
variable{fs:List FI}{E E1 E2 E3 E4 E5:zQ}
def uH{n:Nat}{body:MS}{ss o:List DV.Slot}{x:Exn}(h:body (ss++replicate (n-ss.length) .e)=.exc x E1)(ho:yH ss E1=o):fnM n body ss=.exc x o:=by
 subst ho;simp only[fnM,h]
def x_cX1{k:Nat}{a:_}{F:MF}{r:R}{z:Str}{y:Bool}{ws:List Int}{o:List DV.Slot}(h0:fiF fs k=F)(h1:dE fs a E=.ok (r,E1))(h2:F [.v r.d]=.exc ⟨z,y,ws⟩ o):dE fs (.call k (.ev a .nil)) E=.exc ⟨z,false,ws⟩ E1:=zDO h0 h1 h2
def zm{k i:Nat}{a:_}{F:MF}{r r':R}{p p':List D}{o:DV.Slot}(h0:fiF fs k=F)(hE:E[i]?=some (.par p))(h1:dE fs a E=.ok (r,E))(h2:F [.par p,.v r.d]=.ok (r',[.par p',o]))(h3:E.set i (.par p')=E1):dE fs (.call k (.lend i (.ev a .nil))) E=.ok (r',E1):=by
 subst h0 h3;have hi:i<E.length:=(qG.mp hE).1;have hs:(E.set i .e)[i]?=some .e:=by simp[hi]
 simp only[yi,Y0,Zj,jt,jK,zy,hE,wQ,Bool.false_eq_true,if_false,h1,zN,Slot.list?,h2,zM,hs,Slot.put,set_set]
def x_neg{a:_}{i:Int}(h:dE fs a E=.ok (.v (.int i),E1)):dE fs (.neg a) E=.ok (.v (.int (-i)),E1):=by simp only[rE_neg,eNeg,h]
def G0{a b:_}{o:Out (R×zQ)}(h:dE fs a E=.ok (.v (.bl true),E1))(h1:dE fs b E1=o):dE fs (.and a b) E=o:=by subst h1;simp only[Gm,zCW,h]
def zEO{a b:_}(h:dE fs a E=.ok (.v (.bl false),E1)):dE fs (.and a b) E=.ok (.v (.bl false),E1):=by simp only[Gm,zCW,h]
def x_is{T:Ty}{a:_}{r:R}{t:String}{v:Bool}(h:dE fs a E=.ok (r,E1))(ht:tyD r.d=some t)(hv:Wo t T.s=v):dE fs (.is T a) E=.ok (.v (.bl v),E1):=by subst hv;simp only[rE_is,eIs,h,ht]
def uI{t a b:_}{o:Out (R×zQ)}(h:dT fs t E=.ok (true,E1))(h1:dE fs a E1=o):dE fs (.ifx t a b) E=o:=by subst h1;simp only[zEG,eIf,h]
def G1{t a b:_}{o:Out (R×zQ)}(h:dT fs t E=.ok (false,E1))(h1:dE fs b E1=o):dE fs (.ifx t a b) E=o:=by subst h1;simp only[zEG,eIf,h]
def x_ixO{i:Nat}{b:_}{ds:List D}{k:Int}{d:D}(h:E[i]?=some (.own ds))(h1:dE fs b E=.ok (.v (.int k),E))(hx:atI ds k=some d):dE fs (.ixO i b) E=.ok (.v d,E):=by
 simp only[vt,zCh,h,wQ,Bool.false_eq_true,if_false,h1,ixS,hx]
def zBZ{a b:_}{o:Out (Bool×zQ)}(h1:dT fs a E=.ok (true,E1))(h2:dT fs b E1=o):dT fs (.tAnd a b) E=o:=by subst h2;simp only[zBC,uh,h1]
def zEP{a b:_}(h1:dT fs a E=.ok (false,E1)):dT fs (.tAnd a b) E=.ok (false,E1):=by simp only[zBC,uh,h1]
def s_app{i:Nat}{a:_}{r:R}{ds ds0:List D}(h0:E[i]?=some (.own ds0))(h1:dE fs a E=.ok (r,E1))(h2:E1[i]?=some (.own ds))(hl:ds.length<cap)(h3:E1.set i (.own (ds++[r.d]))=E2):dS fs (.sApp i a) E=.ok (.nx,E2):=by
 subst h3;simp only[rS_sApp,sApp,h0,Slot.list?,h1,h2,Slot.put];rw[if_pos hl]
end
def put_ok{i:Nat}{E:zQ}{s:DV.Slot}(r:R)(h:E[i]?=some s)(hs:Jx s=true):YO i r E=.ok (E.set i r.slot):=by
 simp only[YO,h];cases s<;>first|rfl|(cases hs)
def G2{i:Nat}{E E1:zQ}{s:DV.Slot}{r:R}(h:E[i]?=some s)(hs:Jx s=true)(e:E.set i r.slot=E1):YO i r E=.ok E1:=by
 rw[put_ok r h hs,e]
def ne_int(x y:Int):neG (.int x) (.int y)=some (.v (.bl (!decide (x=y)))):=by simp[neG,neF]
def eq_int(x y:Int):eqG (.int x) (.int y)=some (.v (.bl (decide (x=y)))):=by simp[eqG,eqF]
def eq_str(t:Str):eqG (.str t) (.str t)=some (.v (.bl true)):=by simp[eqG,eqF]
def ne_str(t:Str):neG (.str t) (.str t)=some (.v (.bl false)):=by simp[neG,neF]
def JZ(a b:List D)(h:a.length+b.length<=100000):vB (.l a) (.l b)=some (.own (a++b)):=by
 simp only[vB];rw[if_pos (by simp only[cap];omega)]
def atI_end(ds:List D)(d:D):atI (ds++[d]) (-1)=some d:=by
 have h1:¬(0:Int)<=-1:=by decide
 have h2:-(((ds++[d]).length:Nat):Int)<=-1:=by simp;omega
 have h3:(-1+(((ds++[d]).length:Nat):Int)).toNat=ds.length:=by simp;omega
 unfold atI ixN;rw[if_neg h1,if_pos h2,h3];simp
theorem uJ(f:D->Bool):∀ds:List D,jD (ds.map λd=>D.bl (f d))=some (ds.map f)
 | []=>rfl|d::ds=>by simp only[map_cons,jD,uJ f ds];rfl
theorem all_map(f:D->Bool)(ds:List D):(ds.map f).all id=ds.all f:=by simp[List.all_map]
def G3{f:D->Bool}{ds:List D}{b:Bool}(h:ds.all f=b):allD [.l (ds.map λd=>D.bl (f d))]=some (.v (.bl b)):=by
 subst h;simp[allD,uJ,all_map]
def zDP(ds:List D)(k:Nat)(h:k<=ds.length):WS ds (some (k:Int)) none=ds.drop k:=by
 unfold WS;rw[HT.sIx_nat];simp only[HT.sIx];rw[show min k ds.length=k by omega,List.take_of_length_le (by simp)]
mutual
theorem zDQ:∀(n:Nat) (d:D),eqb n d=true->deq d d=true
 |n,.non,_=>by simp[deq,eqV,flV]|n,.bl b,_=>by simp[deq,eqV,flV]|n,.int i,_=>by simp[deq,eqV,flV]|n,.str x,_=>by simp[deq,eqV,flV]|n+1,.t ds,h=>by simp only[deq];exact deqs_refl n ds (all_eq_true.mp h)|n+1,.l ds,h=>by simp only[deq];exact deqs_refl n ds (all_eq_true.mp h)|0,.t ds,h=>by cases h|0,.l ds,h=>by cases h|0,.fn _,h=>by cases h|0,.dic,h=>by cases h|0,.exn _ _,h=>by cases h|n+1,.fn _,h=>by cases h|n+1,.dic,h=>by cases h|n+1,.exn _ _,h=>by cases h
theorem deqs_refl:∀(n:Nat) (ds:List D),(∀d∈ds,eqb n d=true)->deqs ds ds=true
 |n,[],_=>by simp[deqs]
 |n,d::ds,h=>by
  simp only[deqs,Bool.and_eq_true];exact⟨zDQ n d (h d qE),deqs_refl n ds λe he=>h e (qD _ he)⟩
end
def N(l:List Nat):List D:=l.map λn:Nat=>D.int (n:Int)
def wR(l:List Nat):(N l).length=l.length:=by simp[N]
def W5{l:List Nat}{d:D}(h:d∈N l):∃n∈l,d=.int (n:Nat):=by
 obtain⟨n,hn,rfl⟩:=mem_map.mp h;exact⟨n,hn,rfl⟩
def N_app(a b:List Nat):N (a++b)=N a++N b:=by simp[N]
section
variable{fs:List FI}{E E1 E2 E3 E4 E5 E6:zQ}
def t_bor{i:Nat}{t:_}{ds:List D}{b:Bool}(h:E[i]?=some (.own ds))(hb:(E.set i .e).all zEB=true)(h1:E.set i (.v (.l ds))=E1)(h2:dT fs t E1=.ok (b,E1)):dT fs (.tBor i t) E=.ok (b,E):=by
 subst h1;simp only[rT_tBor,zAz,h,hb,if_true,h2]
end
section
variable{fs:List FI}{E E1:zQ}
def zDR{c:Str}{as:_}{rs:List R}{ns:List Int}(h:dA fs as E=.ok (rs,E1))(h1:Ze (rs.map R.d)=some ns)(h2:(ns.length==(yt c).length&&ns.all λn=>decide (n.natAbs.log2<1920))=true):dS fs (.sRaiseA c as) E=.exc ⟨c,true,ns⟩ E1:=by
 simp only[QX,DV.sRaiseA,h,h1,h2,if_true]
def x_atr{ri:List Str}{f c:Str}{a:_}{vs:List Int}{n:Int}(h:dE fs a E=.ok (.v (.exn c vs),E1))(h1:ri.contains c=true)(h2:((yt c).zip vs).lookup f=some n):dE fs (.atr ri f a) E=.ok (.v (.int n),E1):=by
 simp only[rE_atr,eAtr,h,h1,h2,if_true]
end
end DV
namespace TM
open PySem DV
theorem zBa{c:Nat}:∀{a b s t:List Nat},c∉a->c∉b->a++c::s=b++c::t->a=b/\s=t
 | [],[],s,t,_,_,e=>⟨rfl,by simpa using e⟩
 | [],y::b,s,t,_,hb,e=>by
  simp only[nil_append,cons_append,List.cons.injEq]at e;exact absurd (e.1▸qE) hb
 |x::a,[],s,t,ha,_,e=>by
  simp only[nil_append,cons_append,List.cons.injEq]at e;exact absurd (e.1▸qE) ha
 |x::a,y::b,s,t,ha,hb,e=>by
  simp only[cons_append,List.cons.injEq]at e;obtain⟨h1,h2⟩:=zBa (λz=>ha (qD _ z)) (λz=>hb (qD _ z)) e.2;exact⟨by rw[e.1,h1],h2⟩
def sg(c:Nat):Str:=⟨#[c]⟩
def u9(c:Nat)(x y:Str)(r:List Str):(Str.join (sg c) (x::y::r)).cps.toList=x.cps.toList++c::(Str.join (sg c) (y::r)).cps.toList:=by
 show((x.cps++#[c])++(Str.join (sg c) (y::r)).cps).toList=_
 simp
def zBb{x y:Str}(h:x.cps.toList=y.cps.toList):x=y:=by
 obtain⟨a⟩:=x;obtain⟨b⟩:=y;have:a=b:=Array.toList_inj.mp h;rw[this]
theorem G4(c:Nat):∀{a b:List Str},a≠[]->b≠[]->(∀x∈a,c∉x.cps.toList)->(∀x∈b,c∉x.cps.toList)->Str.join (sg c) a=Str.join (sg c) b->a=b
 | [],_,h,_,_,_,_=>absurd rfl h|_,[],_,h,_,_,_=>absurd rfl h| [x],[y],_,_,_,_,e=>by rw[show x=y from e]
 | [x],y::z::r,_,_,h1,_,e=>by
  have e1:x.cps.toList=y.cps.toList++c::(Str.join (sg c) (z::r)).cps.toList:=by rw[<- u9];exact congrArg (λs:Str=>s.cps.toList) e
  exact absurd (by rw[e1];simp) (h1 x qE)
 |x::w::q,[y],_,_,_,h2,e=>by
  have e1:y.cps.toList=x.cps.toList++c::(Str.join (sg c) (w::q)).cps.toList:=by rw[<- u9];exact(congrArg (λs:Str=>s.cps.toList) e).symm
  exact absurd (by rw[e1];simp) (h2 y qE)
 |x::w::q,y::z::r,_,_,h1,h2,e=>by
  have e1:=congrArg (λs:Str=>s.cps.toList) e;simp only[u9]at e1;obtain⟨e2,e3⟩:=zBa (h1 x qE) (h2 y qE) e1;rw[zBb e2,G4 c (cons_ne_nil _ _) (cons_ne_nil _ _) (λs hs=>h1 s (qD _ hs)) (λs hs=>h2 s (qD _ hs)) (zBb e3)]
def We(c:Nat){ws:List Str}(h0:ws≠[])(h:∀x∈ws,c∉x.cps.toList):Txt.split (Str.join (sg c) ws) (sg c)=ws:=by
 refine G4 c (λz=>?_) h0 (StrLaws.split_free _ c) h (StrLaws.join_split _ _);have:=PyProof.Rows.split_pos (Str.join (sg c) ws) (sg c);rw[z]at this;exact absurd this (by simp)
def wd(n:Nat):Str:=⟨#[48+n]⟩
def wd_str{n:Nat}(h:n<10):(Str.ofString (toString (n:Int)))=wd n :=
 (by decide +kernel:∀n:Nat,n<10->(Str.ofString (toString (n:Int)))=wd n) n h
def yx(w:Str)(l:List Nat):Str:=Str.join (sg 32) (w::l.map wd)
theorem G5(c:Nat):∀ws:List Str,(∀x∈ws,x.length<=3)->(Str.join (sg c) ws).length<=4*ws.length
 | [],_=>by show 0<=_;omega| [x],h=>by have:=h x qE;show x.length<=_;simp;omega
 |x::y::r,h=>by
  have h1:=h x qE;have h2:=G5 c (y::r) λs hs=>h s (qD _ hs)
  have e:=congrArg length (u9 c x y r);simp only[length_append,length_cons,Array.length_toList]at e;simp only[Str.length,length_cons]at *;omega
theorem uK{c k:Nat}(hk:k≠c):∀ws:List Str,(∀x∈ws,k∉x.cps.toList)->k∉(Str.join (sg c) ws).cps.toList
 | [],_=>by show k∉(#[]:Array Nat).toList;simp| [x],h=>h x qE
 |x::y::r,h=>by
  rw[u9];simp only[mem_append,mem_cons,not_or];exact⟨h x qE,hk,uK hk (y::r) λs hs=>h s (qD _ hs)⟩
structure Wd(w:Str):Prop where
 len:w.length<=3
 b:32∉w.cps.toList
 e:10∉w.cps.toList
def wd_wd{n:Nat}(h:n<10):Wd (wd n):=⟨by show 1<=3;omega,by show 32∉[48+n];simp;omega,by show 10∉[48+n];simp;omega⟩
def zBc{w:Str}{l:List Nat}(hw:Wd w)(h:∀n∈l,n<10):∀x∈w::l.map wd,Wd x:=λx hx=>by
 rcases mem_cons.mp hx with rfl|hx
 ·exact hw
 ·obtain⟨n,hn,rfl⟩:=mem_map.mp hx
  exact wd_wd (h n hn)
def Qb{w:Str}{l:List Nat}(hw:Wd w)(h:∀n∈l,n<10):Txt.split (yx w l) (sg 32)=w::l.map wd :=
 We 32 (cons_ne_nil _ _) λx hx=>(zBc hw h x hx).b
def uL{w:Str}{l:List Nat}(hw:Wd w)(h:∀n∈l,n<10):10∉(yx w l).cps.toList :=
 uK (by decide) _ λx hx=>(zBc hw h x hx).e
def YD{w:Str}{l:List Nat}(hw:Wd w)(h:∀n∈l,n<10):(yx w l).length<=4*(l.length+1):=by
 have:=G5 32 (w::l.map wd) λx hx=>(zBc hw h x hx).len
 simpa[yx]using this
def Qc{x y:Str}(hx:10∉x.cps.toList)(hy:10∉y.cps.toList):Txt.split (x++sg 10++y) (sg 10)=[x,y] :=
 We 10 (ws:=[x,y]) (cons_ne_nil _ _) λs hs=>by
  rcases mem_cons.mp hs with rfl|hs
  ·exact hx
  ·rw[mem_singleton.mp hs];exact hy
def join_ok{w:Str}{l:List Nat}(hw:Wd w)(h:∀n∈l,n<10)(hl:l.length<=100):JoinOk (sg 32) (w::l.map wd)=true:=by
 unfold JoinOk;have:=StrLaws.joinFits (sep:=sg 32) (texts:=w::l.map wd) (B:=3) (λx hx=>(zBc hw h x hx).len) (by
  have e:(sg 32).length=1:=rfl;rw[e];simp;omega)
 rw[this];rfl
def zBd(w:Str)(l:List Nat):Txt.join (sg 32) (w::l.map wd)=yx w l:=StrLaws.glued_eq_join _ _
def uM:Wd "die":=⟨by decide +kernel,by decide +kernel,by decide +kernel⟩
def uN:Wd "row":=⟨by decide +kernel,by decide +kernel,by decide +kernel⟩
def sg32:((" ":String):Str)=sg 32:=by decide +kernel
def sg10:(("\n":String):Str)=sg 10:=by decide +kernel
end TM
namespace DV
open PySem L2
section
variable{fs:List FI}{E E1 E2 E3:zQ}
def YE{a b:_}{r1 r2 r:R}(h1:dE fs a E=.ok (r1,E1))(h2:dE fs b E1=.ok (r2,E2))(h3:zC1 r1.d r2.d=some r):dE fs (.cat a b) E=.ok (r,E2):=by simp only[rE_cat,JB,h1,h2,h3]
def x_ixT{a b:_}{r1 r2 r:R}(h1:dE fs a E=.ok (r1,E1))(h2:dE fs b E1=.ok (r2,E2))(h3:DV.ixT r1.d r2.d=some r):dE fs (.ixT a b) E=.ok (r,E2):=by simp only[rE_ixT,JB,h1,h2,h3]
def zBe{a b:_}{z:Str}{r2 r:R}(h1:dE fs a E=.ok (.v (.str z),E1))(h2:dE fs b E1=.ok (r2,E2))(h3:WC (.str z) r2.d=some r):dE fs (.joi a b) E=.ok (r,E2):=by simp only[rE_joi,WB,h1,h2,h3]
def Qd{a b:_}{z:Str}{r2 r:R}(h1:dE fs a E=.ok (.v (.str z),E1))(h2:dE fs b E1=.ok (r2,E2))(h3:jr (.str z) r2.d=some r):dE fs (.spl a b) E=.ok (r,E2):=by simp only[rE_spl,WB,h1,h2,h3]
def zBf{a:_}{z:Str}{b:Bool}(h1:dE fs a E=.ok (.v (.str z),E1))(h2:Txt.isascii z=b):dE fs (.asc a) E=.ok (.v (.bl b),E1):=by subst h2;simp only[rE_asc,eUn,h1,R.d,Yp,Bool.false_eq_true,if_false]
def zDS{a:_}{z:Str}{b:Bool}(h1:dE fs a E=.ok (.v (.str z),E1))(h2:Txt.isdigit z=b):dE fs (.dig a) E=.ok (.v (.bl b),E1):=by subst h2;simp only[rE_dig,eUn,h1,R.d,Yp,if_true]
def s_star{i j:Nat}{a:_}{r:R}{z:Str}{ts:List Str}(h1:dE fs a E=.ok (r,E1))(hd:r.d=.l (.str z::ts.map D.str))(h2:YO i (.v (.str z)) E1=.ok E2)(h3:YO j (.own (ts.map D.str)) E2=.ok E3):dS fs (.sStar i j a) E=.ok (.nx,E3):=by
 simp only[zDB,DV.sStar,h1,hd,YW,h2,h3]
def G6{z:Str}{ts:List Str}(h:JoinOk z ts=true):WC (.str z) (.l (ts.map D.str))=some (.v (.str (Txt.join z ts))):=by
 simp only[WC,YW,Option.bind_some,h,if_true]
def we{z y:Str}(h:(y.length==0)=false)(hz:z.length<=1000):jr (.str z) (.str y)=some (.own ((Txt.split z y).map D.str)):=by
 simp only[jr];rw[if_pos ⟨h,hz⟩]
def yn{x y:Str}(h:x.length+y.length<=1000):zC1 (.str x) (.str y)=some (.v (.str (x++y))):=by
 simp only[zC1];rw[if_pos (le_trans h (by decide +kernel))]
end
end DV
namespace My
open PySem L2 DV SM
def isFn:D->Bool
 | .fn _=>true| .exn _ _=>true|_=>false
def isW:D->Bool
 | .int _=>true|_=>false
def YH(lo hi:Int):D->Bool
 | .int i=>decide (lo<=i)&&decide (i<=hi)|_=>false
def okD:D->Prop
 | .t ds=>ds.length<=cap/\∀d∈ds,isFn d=false| .fn _=>False| .exn _ _=>False|_=>True
def Y4:D->Bool
 | .t ds=>decide (2<=ds.length)&&decide (ds.length<=3)&&ds.all (YH 1 9)|_=>false
def Qe(d:D)(h:isFn d=false):YZ [.v d]=.ok (.v (.bl (isW d)),[.e]):=by
 cases d<;>first|rfl|(cases h)
def jw(d:D)(lo hi:Int)(h:isFn d=false):zi [.v d,.v (.int lo),.v (.int hi)]=.ok (.v (.bl (YH lo hi d)),[.e,.e,.e]):=by
 have e:=Qe d h;cases d with
 |int i =>
  simp[zi,yT,yj,fnM,wW,wC,JG,ZC,Gm,yi,Y0,jt,sRet,zCW,jK,zy,QL,zN,fiF,R.d,zM,JE,Cp.b,wZ,wY,e,isW,YH];by_cases h1:lo<=i<;>simp[h1,wZ,wY]
 |_=>first|(cases h;done)|simp[zi,yT,yj,fnM,wW,wC,JG,ZC,Gm,yi,Y0,jt,sRet,zCW,jK,zy,QL,zN,fiF,R.d,zM,JE,Cp.b,wZ,wY,e,isW,YH]
def Qf(d:D)(h:okD d):ju [.v d]=.ok (.v (.bl (Y4 d)),[.e]):=by
 cases d with
 |t ds =>
  have t1:dT JU (.tNot (.tE (.is .tuple (.var 0)))) [.v (.t ds)]=.ok (false,[.v (.t ds)]):=yu (t_E (b:=true) rfl) rfl;have l1:dE JU (.cB .len (.cons (.var 0) .nil)) [.v (.t ds)]=.ok (.v (.int ds.length),[.v (.t ds)]):=jv (zA (zB rfl) zR) rfl;by_cases h2:2<=ds.length
  ·have b1:Cp.le.b 2 (ds.length:Int)=true:=decide_eq_true (by omega)
   by_cases h3:ds.length<=3
   ·have b2:Cp.le.b (ds.length:Int) 3=true:=decide_eq_true (by omega)
    have e:Y4 (.t ds)=ds.all (YH 1 9):=by simp[Y4,h2,h3]
    rw[e];exact zv (zF (yC (ZE t1 (yu (t_E (zBU QZ l1 b1 QZ b2)) rfl)) yD) (zZ (zw (jv (zA (JY (vs:=[]) (λd=>.bl (YH 1 9 d)) (i_T (zB rfl) rfl) rfl (λd hd=>⟨_,zBV rfl (zB rfl) QZ QZ (jw d 1 9 (h.2 d hd)),rfl⟩) h.1 rfl) zR) (G3 rfl))))) rfl
   ·have b2:Cp.le.b (ds.length:Int) 3=false:=decide_eq_false (by omega)
    have e:Y4 (.t ds)=false:=by simp[Y4,h3]
    rw[e];exact zv (wJ (yw (ZE t1 (yu (t_E (zBU QZ l1 b1 QZ b2)) rfl)) (zZ (zw x_c)))) rfl
  ·have b1:Cp.le.b 2 (ds.length:Int)=false:=decide_eq_false (by omega)
   have e:Y4 (.t ds)=false:=by simp[Y4,h2]
   rw[e];exact zv (wJ (yw (ZE t1 (yu (t_E (zDL QZ l1 b1)) rfl)) (zZ (zw x_c)))) rfl
 |fn x=>cases h|exn x y=>cases h|_=>rfl
def nxt(s:Int):Int:=((s+7919)%2147483647*((s+7919)%2147483647)+48271*((s+7919)%2147483647)+12345)%2147483629
def GB(s:Int):wF [.v (.int s)]=.ok (.v (.int (nxt s)),[.e]):=by
 have h1:0<=(s+7919)%2147483647:=Int.emod_nonneg _ (by decide);have h2:(s+7919)%2147483647<2147483647:=Int.emod_lt_of_pos _ (by decide);have h3:-18446744073709551616<(s+7919)%2147483647/\(s+7919)%2147483647<18446744073709551616:=by omega
 simp[wF,JV,Ys,fnM,wW,wD,Zk,wC,rE_c,JG,WX,sRet,GT,sSet,YO,R.slot,QL,eC,R.d,Op2.f,wZ,wY,JB,mulG,mulD,vB,modD,zCa,nxt,h3]
def Pen(p:List D):Prop:=∃l f s:Int,p=[.int l,.int f,.int s]
def zS(p:List D)(hp:Pen p)(m:Int)(h0:0<m)(h1:m<1073741824):∃r p',zE [.par p,.v (.int m)]=.ok (.v (.int r),[.par p',.e])/\0<=r/\r<m/\Pen p':=by
 obtain⟨l,f,s,rfl⟩:=hp;by_cases hf:f=1
 ·refine⟨l%m,[.int (l/m),.int f,.int s],?_,Int.emod_nonneg _ (by omega),Int.emod_lt_of_pos _ h0,_,_,_,rfl⟩
  simp[zE,wH,wb,fnM,Wz,wW,wD,vv,Zk,wC,zBF,rE_c,JG,WX,WY,vt,yi,Y0,jt,zBD,sRet,sIf,GT,sNil,sSet,YO,R.slot,jK,zy,QL,eC,zN,fiF,R.d,zM,Cp.f,Op2.f,wZ,wY,zBQ,tT,JB,eqG,eqF,zCh,wQ,ixS,atI,ixN,hf,modD,zCc,zCa,h0,h1,Ym,Slot.list?,Slot.put]
 ·refine⟨nxt (nxt s+7)/64%m,[.int l,.int f,.int (nxt (nxt s+7))],?_,Int.emod_nonneg _ (by omega),Int.emod_lt_of_pos _ h0,_,_,_,rfl⟩
  simp[zE,wH,wb,fnM,Wz,wW,wD,vv,Zk,wC,zBF,rE_c,JG,WX,WY,vt,yi,Y0,jt,zBD,sRet,sIf,GT,sNil,sSet,YO,R.slot,jK,zy,QL,eC,zN,fiF,R.d,zM,Cp.f,Op2.f,wZ,wY,zBQ,tT,JB,eqG,eqF,zCh,wQ,ixS,atI,ixN,hf,modD,zCc,vB,zCa,h0,h1,Ym,Slot.list?,Slot.put,GB]
def W6(c:Int):∃p,yk [.v (.int c)]=.ok (.own p,[.e])/\Pen p:=by
 refine⟨[.int (if 0-c > c then 0-c else c),.int (if decide (10^18<=(if 0-c > c then 0-c else c))=true then 1 else 0),.int ((if 0-c > c then 0-c else c)%1000003)],?_,_,_,_,rfl⟩;simp[yk,wG,JK,fnM,wW,wD,Zk,wC,rE_c,JG,WX,WY,vq,zC9,zBE,ur,sRet,GT,sSet,YO,R.slot,QL,eC,R.d,Cp.f,Op2.f,Bi.f,wZ,wY,JB,eCB,vZ,aNil,eLst,maxD,subD,zDt,intF,geD,powD,modD,zCa,cap]
def WK(ns:List Int):∃c,yY [.v (.l (ns.map .int)),.v (.int 0)]=.ok (.v (.int c),[.e,.e]):=by
 cases ns with
 |nil=>exact⟨0,rfl⟩
 |cons n ns => 
  refine⟨n,?_⟩;have:(0:Int)<ns.length+1:=by omega
  simp[yY,jj,wa,fnM,Wz,wW,wD,vv,wC,rE_c,JG,WY,vq,rE_ix,zC9,zBD,zBE,ur,sRet,sIf,GT,QL,eC,R.d,Cp.f,Bi.f,wZ,wY,tT,JB,eCB,vZ,aNil,lenD,ltD,zDt,ixD,atI,ixN,this]
abbrev O1:List DV.Slot:=[.e]
abbrev O2:List DV.Slot:=[.e,.e]
def Yb(a b:Nat):vB (.int a) (.int b)=some (.v (.int ((a+b:Nat):Int))):=by simp[vB]
def Z3(a b:Nat):gtD (.int (a:Int)) (.int (b:Int))=some (.v (.bl (decide (b<a)))):=by
 show some (R.v (D.bl (decide ((b:Int)<a))))=_
 congr 3;simp
def eq_nat(a b:Nat):eqG (.int (a:Int)) (.int (b:Int))=some (.v (.bl (decide (a=b)))):=by
 rw[eq_int];congr 3;simp[Int.natCast_inj]
theorem zBg:∀{l:List Nat} {x:Nat},x∈l->x<=l.sum
 |a::l,x,h=>by
  rw[List.sum_cons];rcases mem_cons.mp h with rfl|h
  ·omega
  ·have:=zBg h;omega
end My
namespace My
open PySem L2 DV TM
def W7:D->Bool
 | .t ds=>decide (ds.length<=20)&&ds.all (YH 0 2)|_=>false
def GC(d:D)(h:isFn d=false):wE [.v d]=.ok (.v (.bl (YH 0 2 d)),[.e]) :=
 zv (zZ (zw (zBV (F:=zi) rfl (zB rfl) x_c (jF QZ x_c rfl) (jw d 0 2 h)))) rfl
def Qg(d:D)(h:okD d):wt [.v d]=.ok (.v (.bl (W7 d)),[.e]):=by
 cases d with
 |t ds =>
  have g:=Z3 ds.length 20;have l1:dE Zn (.cB .len (.cons (.var 0) .nil)) [.v (.t ds)]=.ok (.v (.int ds.length),[.v (.t ds)]):=jv (zA (zB rfl) zR) rfl;by_cases c:ds.length<=20
  ·have e:W7 (.t ds)=ds.all (YH 0 2):=by simp[W7,c]
   rw[decide_eq_false (by omega)]at g;rw[e];exact zv (zF (yC (ZE (yu (t_E (b:=true) rfl) rfl) (t_E (zY l1 QZ g))) yD) (zZ (zw (jv (zA (JY (vs:=[]) (λd=>.bl (YH 0 2 d)) (i_T (zB rfl) rfl) rfl (λd hd=>⟨_,zz (F:=wE) rfl (zB rfl) (GC d (h.2 d hd)),rfl⟩) h.1 rfl) zR) (G3 rfl))))) rfl
  ·have e:W7 (.t ds)=false:=by simp[W7,c]
   rw[decide_eq_true (by omega)]at g;rw[e];exact zv (wJ (yw (ZE (yu (t_E (b:=true) rfl) rfl) (t_E (zY l1 QZ g))) (zZ (zw x_c)))) rfl
 |fn x=>cases h|exn x y=>cases h|_=>rfl
structure Row(rs:List Nat):Prop where
 len:rs.length<=20
 le:∀x∈rs,x<=2
abbrev rowD(rs:List Nat):D:=.t (N rs)
def cut_to(ds:List D)(t:Nat)(h:t<=ds.length):WS ds none (some (t:Int))=ds.take t:=by
 unfold WS;have h1:HT.sIx ds.length 0 none=0:=rfl;rw[HT.sIx_nat,h1];simp[Nat.min_eq_left h]
def eqb_L(l:List Nat):eqb 20 (.l (N l))=true:=by
 simp only[eqb,all_eq_true];intro d hd;obtain⟨k,_,rfl⟩:=W5 hd;rfl
def ne_nil(l:List Nat):neG (.l (N l)) (.l [])=some (.v (.bl (!decide (l=[])))):=by
 cases l with
 |nil=>rfl
 |cons a l =>
  have e:neF (.l (N (a::l))) (.l [])=none:=rfl;simp only[neG,e,eqDD];rw[if_pos ⟨eqb_L _,rfl⟩];rfl
def gt_0(n:Nat):gtD (.int (n:Nat)) (.int 0)=some (.v (.bl (decide (0<n)))):=Z3 n 0
def pen_bor{p:List D}(hp:Pen p):nols p=true:=by obtain⟨a,b,c,rfl⟩:=hp;rfl
abbrev RW(p:List D)(s m:Nat)(l:List Nat)(o:Nat)(s5 s6:DV.Slot):zQ:=[.par p,.v (.int s),.v (.int m),.own (N l),.v (.int o),s5,s6]
def zDT{p:List D}(hp:Pen p){s m:Nat}(hs:0<s/\s<=3)(l:List Nat)(hl:∀x∈l,x<s)(hn:l.length<=20){o:Nat}(ho:0<o/\o<=4)(s5 s6:DV.Slot)(h6:Jx s6=true)(h5:zEB s5=true) :
  ∃p' x t6,dB z0 jT (RW p s m l o s5 s6)=.ok (.nx,RW p' s m (l++[x]) o s5 t6)/\Pen p'/\x<s/\Jx t6=true:=by
 obtain⟨r,p1,e1,l1,u1,hp1⟩:=zS p hp (s:Nat) (by omega) (by omega);obtain⟨r,rfl⟩:=Int.eq_ofNat_of_zero_le l1;have a1:dS z0 (.sSet 6 (.call 0 (.lend 0 (.ev (.var 1) .nil)))) (RW p s m l o s5 s6)=.ok (.nx,RW p1 s m l o s5 (.v (.int (r:Nat)))):=z8 (zm (F:=zE) rfl rfl (zB rfl) e1 rfl) (G2 rfl h6 rfl);have app:∀(p:List D) (x:Nat),dS z0 (.sApp 3 (.var 6)) (RW p s m l o s5 (.v (.int (x:Nat))))=.ok (.nx,RW p s m (l++[x]) o s5 (.v (.int (x:Nat)))):=λp x=>by
  have e:N (l++[x])=N l++[.int (x:Nat)]:=N_app l [x];show _=Out.ok (Fl.nx,[DV.Slot.par p,.v (.int s),.v (.int m),.own (N (l++[x])),.v (.int o),s5,.v (.int (x:Nat))]);rw[e];exact s_app rfl (zB rfl) rfl (by rw[wR];simp[cap];omega) rfl
 have ne:=ne_nil l;have bb:((RW p1 s m l o s5 (.v (.int (r:Nat)))).set 3 .e).all zEB=true:=by
  show [DV.Slot.par p1,.v (.int s),.v (.int m),.e,.v (.int o),s5,.v (.int (r:Nat))].all zEB=true
  have b0:zEB (.par p1)=true:=pen_bor hp1;rw[all_eq_true];intro x hx;simp only[mem_cons,mem_nil_iff,or_false]at hx;rcases hx with rfl|rfl|rfl|rfl|rfl|rfl|rfl<;>first|rfl|assumption
 have tb:dT z0 (.tBor 3 (.tE (.cmp .ne (.var 3) (.l .nil)))) (RW p1 s m l o s5 (.v (.int (r:Nat))))=.ok (!decide (l=[]),RW p1 s m l o s5 (.v (.int (r:Nat)))) :=
  t_bor rfl bb rfl (t_E (zY (zB rfl) (jQ zR rfl JX) ne))
 by_cases c:l=[]
 ·rw[decide_eq_true c]at tb
  exact⟨p1,r,.v (.int (r:Nat)),zF a1 (zF (yC (zEP tb) yD) (zZ (app p1 r))),hp1,by omega,rfl⟩
 ·rw[decide_eq_false c]at tb
  obtain⟨q,p2,e2,l2,u2,hp2⟩:=zS p1 hp1 (o:Nat) (by omega) (by omega);obtain⟨q,rfl⟩:=Int.eq_ofNat_of_zero_le l2;have g:=gt_0 q;have tq:dT z0 (.tE (.cmp .gt (.call 0 (.lend 0 (.ev (.var 4) .nil))) (.c (.int 0)))) (RW p1 s m l o s5 (.v (.int (r:Nat))))=.ok (decide (0<q),RW p2 s m l o s5 (.v (.int (r:Nat)))):=t_E (zY (zm (F:=zE) rfl rfl (zB rfl) e2 rfl) x_c g);by_cases d:0<q
  ·rw[decide_eq_true d]at tq
   obtain⟨k,y,rfl⟩:∃k y,l=k++[y]:=⟨l.dropLast,l.getLast c,(List.dropLast_concat_getLast c).symm⟩;have al:atI (N (k++[y])) (-1)=some (.int (y:Nat)):=by rw[N_app];exact atI_end _ _
   exact⟨p2,y,.v (.int (y:Nat)),zF a1 (zF (yw (zBZ tb tq) (zZ (z8 (x_ixO rfl (x_neg x_c) al) rfl))) (zZ (app p2 y))),hp2,hl y (by simp),rfl⟩
  ·rw[decide_eq_false d]at tq
   exact⟨p2,r,.v (.int (r:Nat)),zF a1 (zF (yC (zBZ tb tq) yD) (zZ (app p2 r))),hp2,by omega,rfl⟩
def zDU(p:List D)(hp:Pen p){s m:Nat}(hs:0<s/\s<=3)(hm:m<=20):∃rs p',jO [.par p,.v (.int s),.v (.int m)]=.ok (.v (rowD rs),[.par p',.e,.e])/\Pen p'/\rs.length<=m/\∀x∈rs,x<s:=by
 obtain⟨a,p1,e1,l1,u1,hp1⟩:=zS p hp 4 (by decide) (by decide);obtain⟨a,rfl⟩:=Int.eq_ofNat_of_zero_le l1;have ad:vB (.int 1) (.int (a:Nat))=some (.v (.int ((1+a:Nat):Int))):=Yb 1 a;obtain⟨n,p2,e2,l2,u2,hp2⟩:=zS p1 hp1 ((m:Int)+1) (by omega) (by omega);obtain⟨n,rfl⟩:=Int.eq_ofNat_of_zero_le l2;obtain⟨E',f1,p3,l,s5,s6,hE,hp3,hl,hx,h5,h6,h5'⟩:=wq (tg:=gN 5) (body:=dB z0 jT) (λi E=>∃p l s5 s6,E=RW p s m l (1+a) s5 s6/\Pen p/\l.length=i/\(∀x∈l,x<s)/\Jx s5=true/\Jx s6=true/\zEB s5=true) (DV.zb 0 n) 0 (RW p2 s m [] (1+a) .e .e) ⟨p2,[],.e,.e,rfl,hp2,rfl,(λx h=>by cases h),rfl,rfl,rfl⟩ (λi d q E ⟨p,l,s5,s6,hE,hp,hl,hx,h5,h6,h5'⟩=>by
  obtain⟨hi,rfl⟩:=Gr _ _ _ _ q;obtain⟨p',x,t6,e,hp',hxs,ht⟩:=zDT hp (m:=m) hs l hx (by omega) (o:=1+a) (by omega) (.v (.int (0+(i:Int)))) s6 h6 rfl;refine⟨RW p s m l (1+a) (.v (.int (0+(i:Int)))) s6,_,?_,e,p',l++[x],_,t6,rfl,hp',by simp[hl],λy hy=>?_,rfl,ht,rfl⟩
  ·subst hE;cases s5<;>first|rfl|(cases h5)
  ·rcases mem_append.mp hy with hy|hy
   ·exact hx y hy
   ·rw[mem_singleton]at hy;subst hy;exact hxs)
 rw[ZD]at hl;subst hE;refine⟨l,p3,?_,hp3,by omega,hx⟩;exact zv (zF (z8 (jQ zR rfl JX) rfl) (zF (z8 (jF x_c (zm (F:=zE) rfl rfl x_c e1 rfl) ad) rfl) (zF (zBX (j:=(n:Int)) (zA (zm (F:=zE) rfl rfl (jF (zB rfl) x_c rfl) e2 rfl) zR) rfl ⟨by omega,by omega⟩ (by rw[Int.toNat_natCast];exact f1)) (zZ (zw (jv (zA (jH rfl rfl) zR) rfl)))))) rfl
end My
namespace My
open PySem L2 DV SM
end My
namespace SM
end SM
namespace My
open PySem L2 DV SM
abbrev zDV(die:List Nat):D:=.t (N die)
theorem uO{c:Nat}:∀{l:List Nat},(∀x∈l,1<=x/\x<=c)->l.length<=l.sum/\l.sum<=l.length*c
 | [],_=>by simp
 |a::l,h=>by
  have h1:=h a qE;have ih:=uO (l:=l) (λx hx=>h x (qD _ hx));rw[List.sum_cons,length_cons,Nat.succ_mul];omega
structure DS(die:List Nat)(s:Nat):Prop where
 ok:Die die
 lt:s<die.length
namespace DS
variable{die:List Nat}{s:Nat}
def S27(h:DS die s):2<=die.sum/\die.sum<=27:=by
 have:=uO h.ok.2;rcases h.ok.1 with e|e<;>rw[e]at this<;>omega
def get(h:DS die s):die[s]?=some (die.getD s 0):=by
 rw[getD_eq_getElem?_getD,getElem?_eq_getElem h.lt];rfl
def le(h:DS die s):die.getD s 0<=die.sum:=zBg (mem_of_getElem? h.get)
def wo'(h:DS die s):die.getD s 0+(die.sum-die.getD s 0)=die.sum:=by have:=h.le;omega
end DS
def len_die(die:List Nat):lenD [zDV die]=some (.v (.int die.length)):=by simp only[lenD,wR]
abbrev dw(die:List Nat)(s:Nat):Nat:=die.getD s 0
abbrev dr(die:List Nat)(s:Nat):Nat:=die.sum-die.getD s 0
end My
namespace DV
open PySem L2
def s_ix{fs:List FI}{E E1 E2 E3:zQ}{i:Nat}{a b:_}{r:R}{s0:DV.Slot}{k:Int}{ds:List D}{j:Nat}(hs:E[i]?=some s0)(hs':wQ (some s0)=false)(h1:dE fs a E=.ok (r,E1))(h2:dE fs b E1=.ok (.v (.int k),E2))(h3:E2[i]?=some (.own ds))(h4:ixN ds.length k=some j)(h5:E2.set i (.own (ds.set j r.d))=E3):dS fs (.sIx i b a) E=.ok (.nx,E3):=by
 subst h5;simp only[zBF,Ym,hs,hs',Bool.false_eq_true,if_false,h1,h2,h3,Slot.list?,h4,Slot.put]
def x_lenO{fs:List FI}{E:zQ}{i:Nat}{ds:List D}(h:E[i]?=some (.own ds)):dE fs (.lenO i) E=.ok (.v (.int ds.length),E):=by simp only[zBA,QN,h]
end DV
namespace My
open PySem L2 DV SM
def N_set(l:List Nat)(j x:Nat):(N l).set j (.int (x:Nat))=N (l.set j x):=by simp[N,List.map_set]
def W8(p:List D)(hp:Pen p):∃die p',jN [.par p]=.ok (.v (zDV die),[.par p'])/\Pen p'/\Die die:=by
 obtain⟨r1,p1,e1,l1,u1,hp1⟩:=zS p hp 4 (by decide) (by decide);have ht:∃t:Nat,ixD (.l [.int 1,.int 2,.int 9,.int 9]) (.int r1)=some (.v (.int (t:Nat)))/\0<t/\t<=9:=by
  have:r1=0\/r1=1\/r1=2\/r1=3:=by omega
  rcases this with rfl|rfl|rfl|rfl
  ·exact⟨1,rfl,by decide,by decide⟩
  ·exact⟨2,rfl,by decide,by decide⟩
  ·exact⟨9,rfl,by decide,by decide⟩
  ·exact⟨9,rfl,by decide,by decide⟩
 obtain⟨t,ht,t0,t1⟩:=ht;obtain⟨r2,p2,e2,l2,u2,hp2⟩:=zS p1 hp1 2 (by decide) (by decide);obtain⟨q2,rfl⟩:=Int.eq_ofNat_of_zero_le l2;obtain⟨res,E',h1,h2,s,p3,l,hE,hs,hp3,hl,hn⟩:=v0 (tg:=gN 0) (tt:=zAY) (el:=dE yL (.bin .add (.c (.int 1)) (.call 0 (.lend 1 (.ev (.var 2) .nil))))) (λk E acc=>acc.length=k/\∃s p l,E=[s,.par p,.v (.int (t:Nat))]/\Jx s=true/\Pen p/\acc=N l/\∀x∈l,1<=x/\x<=9) (DV.zb 0 (2+q2)) 0 [.e,.par p2,.v (.int (t:Nat))] [] ⟨rfl,.e,p2,[],rfl,rfl,hp2,rfl,λx hx=>by cases hx⟩ (by rw[ZD];simp[cap];omega)
  (λi d e E acc ⟨ha,s,p,l,hE,hs,hp,hl,hn⟩ hlt=>by
   obtain⟨r,p',e',l',u',hp'⟩:=zS p hp (t:Nat) (by omega) (by omega);obtain⟨r,rfl⟩:=Int.eq_ofNat_of_zero_le l';refine⟨[.v d,.par p,.v (.int (t:Nat))],[.v d,.par p,.v (.int (t:Nat))],.v (.int ((1+r:Nat):Int)),[.v d,.par p',.v (.int (t:Nat))],?_,rfl,?_,by simp[ha],.v d,p',l++[1+r],rfl,rfl,hp',?_,?_⟩
   ·subst hE;cases s<;>first|rfl|(cases hs)
   ·exact jF x_c (zm (F:=zE) rfl rfl (zB rfl) e' rfl) (Yb 1 r)
   ·rw[hl];simp[N,R.d]
   ·intro x hx
    rcases mem_append.mp hx with hx|hx
    ·exact hn x hx
    ·simp at hx;omega)
 subst hE;have cp:dE yL (.comp 1 ["_law_turn"] ["_law_pen","_law_most"] [0,1] (.iR1 (.cons (.bin .add (.c (.int 2)) (.call 0 (.lend 0 (.ev (.c (.int 2)) .nil)))) .nil)) (.n 0) .tTr (.bin .add (.c (.int 1)) (.call 0 (.lend 1 (.ev (.var 2) .nil))))) [.par p1,.v (.int (t:Nat)),.e]=.ok (.own (N l),[.par p3,.v (.int (t:Nat)),.e]):=by
  have hi:=i_R1 (fs:=yL) (E:=[.par p1,.v (.int (t:Nat)),.e]) (E1:=[.par p2,.v (.int (t:Nat)),.e]) (a:=.cons (.bin .add (.c (.int 2)) (.call 0 (.lend 0 (.ev (.c (.int 2)) .nil)))) .nil) (zA (jF x_c (zm (F:=zE) rfl rfl x_c e2 rfl) (Yb 2 q2)) zR) (j:=((2+q2:Nat):Int)) rfl ⟨by omega,by omega⟩;rw[show(((2+q2:Nat):Int)).toNat=2+q2 by omega]at hi;simp only[rE_c,JG,WX,WY,vq,rE_ix,vt,zBA,zBB,zC9,yi]at h1 ⊢;refine zA8 ?_;simp only[Tg.m,zBD,zEI];rw[<- hl];simp[Zd,hi,JS,Slot.list?,zN,h1,yH,zM,Slot.put]
 have hl2:l.length=2+q2:=by
  have:=congrArg length hl;rw[wR]at this;rw[<- this,h2,ZD];omega
 obtain⟨r4,p4,e4,l4,u4,hp4⟩:=zS p3 hp3 6 (by decide) (by decide);have q:=eq_int r4 0;by_cases c:r4=0
 ·rw[decide_eq_true c]at q
  obtain⟨r5,p5,e5,l5,u5,hp5⟩:=zS p4 hp4 (l.length:Int) (by omega) (by omega);obtain⟨j,rfl⟩:=Int.eq_ofNat_of_zero_le l5;have ix:ixN (N l).length (j:Int)=some j:=by
   have:(j:Int)<((N l).length:Nat):=by rw[wR];exact u5
   unfold ixN;rw[if_pos (by omega)];simp[this]
  refine⟨l.set j 9,p5,?_,hp5,by rw[List.length_set];omega,λx hx=>?_⟩
  ·have lo:dE yL (.lenO 2) [.par p4,.v (.int (t:Nat)),.own (N l)]=.ok (.v (.int (l.length:Nat)),[.par p4,.v (.int (t:Nat)),.own (N l)]):=by
    have:=x_lenO (fs:=yL) (E:=[.par p4,.v (.int (t:Nat)),.own (N l)]) (i:=2) rfl;rw[wR]at this;exact this
   exact zv (zF (z8 (uU (jQ (zA x_c (zA x_c (zA x_c (zA x_c zR)))) rfl (by simp[cap])) (zm (F:=zE) rfl rfl x_c e1 rfl) ht) rfl) (zF (z8 cp rfl) (zF (yw (t_E (zY (zm (F:=zE) rfl rfl x_c e4 rfl) x_c q)) (zZ (s_ix rfl rfl x_c (zm (F:=zE) rfl rfl lo e5 rfl) rfl ix (by rw[show(R.v (D.int 9)).d=.int ((9:Nat):Int)from rfl,N_set])))) (zZ (zw (jv (zA (jH rfl rfl) zR) rfl)))))) rfl
  ·rcases List.mem_or_eq_of_mem_set hx with hx|rfl
   ·exact hn x hx
   ·omega
 ·rw[decide_eq_false c]at q
  refine⟨l,p4,?_,hp4,by omega,hn⟩;exact zv (zF (z8 (uU (jQ (zA x_c (zA x_c (zA x_c (zA x_c zR)))) rfl (by simp[cap])) (zm (F:=zE) rfl rfl x_c e1 rfl) ht) rfl) (zF (z8 cp rfl) (zF (yC (t_E (zY (zm (F:=zE) rfl rfl x_c e4 rfl) x_c q)) yD) (zZ (zw (jv (zA (jH rfl rfl) zR) rfl)))))) rfl
end My
namespace SM
open PySem L2 DV
end SM
namespace My
open PySem L2 DV SM
def Big_is:Big=2^4000:=by unfold Big;exact rfl
abbrev tp(a b:Nat):Nat:=a/a.gcd b
abbrev PP:=Nat×Nat
def Le(p q:PP):Prop:=p.1*q.2<=q.1*p.2
def Le.refl(p:PP):Le p p:=le_refl _
def Le.trans{p q r:PP}(hq:0<q.2)(h1:Le p q)(h2:Le q r):Le p r:=by
 obtain⟨a,b⟩:=p;obtain⟨c,d⟩:=q;obtain⟨e,f⟩:=r;unfold Le at *;dsimp only at *;have e1:=Nat.mul_le_mul_right f h1;have e2:=Nat.mul_le_mul_right b h2;apply Nat.le_of_mul_le_mul_right (c:=d) _ hq;have q1:a*f*d=a*d*f:=by grind
 have q2:e*b*d=e*d*b:=by grind
 have q3:c*b*f=c*f*b:=by grind
 rw[q1,q2];rw[q3]at e1;exact le_trans e1 e2
structure OkL(L:List PP):Prop where
 ne:L≠[]
 pos:∀p∈L,0<p.2
 l1:∀p∈L,p.1<Big
 l2:∀p∈L,p.2<Big
def p2{x:Nat}(h:x<4000):2^x<Big:=by rw[Big_is];exact Nat.pow_lt_pow_right (by decide) h
def n_mul{a b m n:Nat}(h1:a<2^m)(h2:b<2^n):a*b<2^(m+n):=by
 rw[Nat.pow_add];exact Nat.mul_lt_mul'' h1 h2
structure Wt(k c:Nat)(A:List Nat)(Q:Nat):Prop where
 len:A.length=k
 pos:∀a∈A,0<a
 lt:∀a∈A,a<2^c
 q0:0<Q
 ql:Q<2^c
def Mv(w o:Nat)(A:List Nat):List Nat:=(A.drop 1++[0]).map λa=>w*a+o*A.getD 0 0
def Mv_len{w o k:Nat}{A:List Nat}(h:A.length=k)(hk:1<=k):(Mv w o A).length=k:=by simp[Mv];omega
section
variable{die:List Nat}{s:Nat}
def dr_pos(h:DS die s):0<dr die s:=by
 have hl:=h.lt;have hd:=h.ok.1;have ha:=h.ok.2;have h1:∀i,i<die.length->1<=die.getD i 0:=λi hi=>(ha _ (mem_of_getElem? (by rw[getD_eq_getElem?_getD,getElem?_eq_getElem hi];rfl))).1
 match die,hd,hl with
 | [a,b],_,hl =>
  have:=h1 0 (by simp);have:=h1 1 (by simp);have:s=0\/s=1:=by simp at hl;omega
  rcases this with rfl|rfl<;>simp[dr]at*<;> omega
 | [a,b,c],_,hl =>
  have:=h1 0 (by simp);have:=h1 1 (by simp);have:=h1 2 (by simp);have:s=0\/s=1\/s=2:=by simp at hl;omega
  rcases this with rfl|rfl|rfl<;>simp[dr]at*<;> omega
def S5(h:DS die s):die.sum<2^5:=by have:=h.S27;omega
def S0(h:DS die s):0<die.sum:=by have:=h.S27;omega
def Wt.head{k c Q:Nat}{A:List Nat}(h:Wt k c A Q)(hk:1<=k):A.getD 0 0∈A/\A[0]?=some (A.getD 0 0):=by
 have e:A[0]?=some (A.getD 0 0):=by rw[getD_eq_getElem?_getD,getElem?_eq_getElem (by have:=h.len;omega)];rfl
 exact⟨mem_of_getElem? e,e⟩
def Wt.step(h:DS die s){k c Q:Nat}{A:List Nat}(W:Wt k c A Q)(hk:1<=k):Wt k (c+5) (Mv (dw die s) (dr die s) A) (die.sum*Q) where
 len:=Mv_len W.len hk
 pos:=λa ha=>by
  obtain⟨x,_,rfl⟩:=mem_map.mp ha;have:=Nat.mul_pos (dr_pos h) (W.pos _ (W.head hk).1);omega
 lt:=λa ha=>by
  obtain⟨x,hx,rfl⟩:=mem_map.mp ha;have x1:x<2^c:=by
   rcases mem_append.mp hx with hx|hx
   ·exact W.lt x (mem_of_mem_drop hx)
   ·rw[mem_singleton]at hx;subst hx;exact Nat.pow_pos (by decide)
  have x2:=W.lt _ (W.head hk).1;have S:=S5 h;have e:dw die s+dr die s=die.sum:=h.wo';rw[Nat.pow_add];have m1:dw die s*x<=dw die s*(2^c-1):=Nat.mul_le_mul_left _ (by omega);have m2:dr die s*A.getD 0 0<=dr die s*(2^c-1):=Nat.mul_le_mul_left _ (by omega);have m3:dw die s*(2^c-1)+dr die s*(2^c-1)=die.sum*(2^c-1):=by rw[<- Nat.add_mul,e]
  have m4:die.sum*(2^c-1)<=(2^5-1)*(2^c-1):=Nat.mul_le_mul_right _ (by omega);have p:0<2^c:=Nat.pow_pos (by decide);have m5:(2^5-1)*(2^c-1)<2^c*2^5:=by omega
  omega
 q0:=Nat.mul_pos (S0 h) W.q0
 ql:=by rw[Nat.add_comm];exact n_mul (S5 h) W.ql
end
abbrev nm:D:=.t [.str "number"]
def eq_tups{a b:List D}(h1:∀d∈a,eqb 19 d=true)(h2:∀d∈b,eqb 19 d=true):eqG (.t a) (.t b)=some (.v (.bl (deqs a b))):=by
 have e1:eqb 20 (.t a)=true:=by simp only[eqb];exact all_eq_true.mpr h1
 have e2:eqb 20 (.t b)=true:=by simp only[eqb];exact all_eq_true.mpr h2
 simp only[eqG,eqF,eqDD,e1,e2,deq,Bool.and_self,if_true,and_self,Bool.false_eq_true,if_false]
def zDW:D->Int
 | .int i=>i|_=>0
def rgB(m:Nat):D->Bool
 | .t ds=>W7 (.t ds)&&ds.all λd=>decide (zDW d<m)|_=>false
def zDX{lo hi:Int}{d:D}(h:YH lo hi d=true):∃i:Int,d=.int i/\lo<=i/\i<=hi:=by
 cases d with
 |int i=>simp only[YH,Bool.and_eq_true,decide_eq_true_eq]at h;exact⟨i,rfl,h.1,h.2⟩|_=>cases h
def e_rgo(d:D)(h:okD d)(m:Nat):yI [.v d,.v (.int (m:Nat))]=.ok (.v (.bl (rgB m d)),O2):=by
 have c1:dE JH (.call 0 (.ev (.var 0) .nil)) [.v d,.v (.int (m:Nat))]=.ok (.v (.bl (W7 d)),[.v d,.v (.int (m:Nat))]):=zz (F:=wt) rfl (zB rfl) (Qg d h);cases d with
 |t ds =>
  cases hb:W7 (.t ds)with
  |false =>
   rw[hb]at c1;have:rgB m (.t ds)=false:=by show(W7 (.t ds)&&_)=false;rw[hb];rfl
   rw[this];exact zv (zZ (zw (zEO c1))) rfl
  |true =>
   rw[hb]at c1;have:rgB m (.t ds)=ds.all λd=>decide (zDW d<m):=by show(W7 (.t ds)&&_)=_;rw[hb];rfl
   rw[this];have hin:∀x∈ds,∃i:Int,x=.int i:=λx hx=>by
    have:ds.all (YH 0 2)=true:=by
     simp only[W7,Bool.and_eq_true]at hb;exact hb.2
    obtain⟨i,e,_⟩:=zDX (all_eq_true.mp this x hx);exact⟨i,e⟩
   exact zv (zZ (zw (G0 c1 (jv (zA (JY (vs:=[.int (m:Nat)]) (λd=>.bl (decide (zDW d<m))) (i_T (zB rfl) rfl) rfl (λd hd=>by
    obtain⟨i,rfl⟩:=hin d hd;exact⟨_,zY (zB rfl) (zB rfl) (show ltD (.int i) (.int (m:Int))=some (.v (.bl (decide (i<(m:Int)))))from rfl),rfl⟩) h.1 rfl) zR) (G3 rfl))))) rfl
 |fn x=>cases h|exn x y=>cases h|_=>exact zv (zZ (zw (zEO c1))) rfl
end My
namespace My
open PySem L2 DV SM TM
def zBh(a b:Str):eqG (.str a) (.str b)=some (.v (.bl (decide (a=b)))):=by simp[eqG,eqF]
def zBi(a b:Str):neG (.str a) (.str b)=some (.v (.bl (!decide (a=b)))):=by simp[neG,neF]
def wd0:(("0":String):Str)=wd 0:=by decide +kernel
def str_wd{n:Nat}(h:n<10):strF [.int (n:Nat)]=some (.v (.str (wd n))):=by
 simp only[strF];rw[if_pos,wd_str h];have:(n:Int).natAbs=n:=by omega
 rw[this];exact Nat.lt_of_le_of_lt (Nat.log2_le_self n) (by omega)
abbrev wdD(l:List Nat):List D:=(l.map wd).map D.str
def zBj(l:List Nat):(wdD l).length=l.length:=by simp
def inw:D->D
 | .int i=>.str (wd i.toNat)|d=>d
theorem N_inw:∀l:List Nat,(N l).map inw=wdD l
 | []=>rfl
 |n::l=>by
  show inw (.int (n:Nat))::(N l).map inw=.str (wd n)::wdD l
  rw[N_inw l];rfl
def small{l:List Nat}(hl:l.length<=20):(N l).length<=cap/\(wdD l).length<=cap:=by rw[wR,zBj];simp only[cap];omega
def shown{fs:List FI}{E E1:zQ}{xs:List Str}{a:_}{l:List Nat}(hl:l.length<=20)(h:∀n∈l,n<10)(he:dE fs a E=.ok (.v (.t (N l)),E1))(hc:JS E1 []=.ok (([]:List D).map AR.tmp)) :
  dE fs (.comp 1 xs [] [] (.iT a) (.n 0) .tTr (.cB .strT (.cons (.var 0) .nil))) E=.ok (.own (wdD l),E1) :=
 JY (vs:=[]) inw (i_T he rfl) hc (λd hd=>by
  obtain⟨n,hn,rfl⟩:=W5 hd;exact⟨_,jv (zA (zB rfl) zR) (str_wd (h n hn)),rfl⟩) (small hl).1 (N_inw l)
def G7{w:Str}{l:List Nat}(hl:l.length<=20):vB (.l [.str w]) (.l (wdD l))=some (.own ((w::l.map wd).map D.str)):=by
 rw[JZ _ _ (by rw[zBj];simp;omega)];rfl
def uP{w:Str}{l:List Nat}(hw:Wd w)(hl:l.length<=20)(h:∀n∈l,n<10):WC (.str " ") (.l ((w::l.map wd).map D.str))=some (.v (.str (yx w l))):=by
 rw[sg32,G6 (join_ok hw h (by omega)),zBd]
def txt(die row:List Nat):Str:=yx "die" die++sg 10++yx "row" row
structure DR(die row:List Nat):Prop where
 d:Die die
 l:row.length<=20
 r:∀x∈row,x<die.length
section
variable{die row:List Nat}
def DR.d3(h:DR die row):die.length<=3:=by rcases h.d.1 with e|e<;>omega
def DR.rw(h:DR die row):Row row:=⟨h.l,λx hx=>by have:=h.r x hx;have:=h.d3;omega⟩
def DR.w(h:DR die row):∀n∈die,n<10:=λn hn=>by have:=h.d.2 n hn;omega
def DR.s(h:DR die row):∀n∈row,n<10:=λn hn=>by have:=h.rw.le n hn;omega
def G8(h:DR die row):zC1 (.str (yx "die" die)) (.str "\n")=some (.v (.str (yx "die" die++sg 10)))/\zC1 (.str (yx "die" die++sg 10)) (.str (yx "row" row))=some (.v (.str (txt die row))):=by
 have h1:=YD uM h.w;have h2:=YD uN h.s;have h3:=h.d3;have h4:=h.l;have e1:(sg 10).length=1:=rfl;have e2:(yx "die" die++sg 10).length=(yx "die" die).length+1:=by
  show((yx "die" die).cps++#[10]).size=(yx "die" die).cps.size+1
  simp
 exact⟨by rw[sg10];exact yn (by omega),yn (by omega)⟩
def zBk(h:DR die row):(txt die row).length<=1000:=by
 have h1:=YD uM h.w;have h2:=YD uN h.s;have h3:=h.d3;have h4:=h.l;have:(txt die row).length=(yx "die" die).length+1+(yx "row" row).length:=by
  show(((yx "die" die).cps++#[10])++(yx "row" row).cps).size=(yx "die" die).cps.size+1+(yx "row" row).cps.size
  simp
 omega
def zBl(h:DR die row):y0 [.v (zDV die),.v (rowD row)]=.ok (.v (.str (txt die row)),O2) :=
 zv (zZ (zw (YE (YE (zBe x_c (jF (jQ (zA x_c zR) rfl JW) (shown (by have:=h.d3;omega) h.w (zB rfl) rfl) (G7 (by have:=h.d3;omega))) (uP uM (by have:=h.d3;omega) h.w)) x_c (G8 h).1) (zBe x_c (jF (jQ (zA x_c zR) rfl JW) (shown h.l h.s (zB rfl) rfl) (G7 h.l)) (uP uN h.l h.s)) (G8 h).2))) rfl
def txt_cut(h:DR die row):jr (.str (txt die row)) (.str "\n")=some (.own [.str (yx "die" die),.str (yx "row" row)]):=by
 rw[sg10,we rfl (zBk h)];unfold txt;rw[Qc (uL uM h.w) (uL uN h.s)];rfl
end
section
variable{fs:List FI}{E E1 E2:zQ}
def zDY{lo hi i:Int}{a:_}{b:Bool}(h:dE fs a E=.ok (.v (.int i),E1))(hb:(!(decide (lo<=i)&&decide (i<hi)))=b):dE fs (.nir lo hi a) E=.ok (.v (.bl b),E1):=by
 subst hb;simp only[rE_nir,eUn,h,R.d,nirD]
def i_S{a:_}{r:R}{z:Str}(h1:dE fs a E=.ok (r,E1))(h2:r.d=.str z):dI fs (.iS a) E=.ok (DV.sgD z,E1):=by simp only[rI_iS,DV.iS,h1,h2]
end
def fig(c:Nat):Bool:=decide (48<=c)&&decide (c<=57)
def dgs(w:Str):Bool:=decide (0<w.length)&&w.cps.toList.all fig
def zB4(w:Str):Bool:=decide (w.cps.toList.head?=some 48)&&!decide (w=wd 0)
def nv(w:Str):Nat:=NumText.digitsVal w.cps.toList
def rdN(m:Nat)(w:Str):D:=if(dgs w&&decide (w.length<=m)&&!zB4 w)=true then .int (nv w:Nat)else .non
def isd:∀c,c<128->Unicode.isDigit c=fig c:=by decide +kernel
def all_fig{l:List Nat}(h:l.all (λc=>decide (c<128))=true):l.all Unicode.isDigit=l.all fig:=by
 induction l with
 |nil=>rfl
 |cons c l ih =>
  simp only[all_cons,Bool.and_eq_true,decide_eq_true_eq]at h ⊢;rw[isd c h.1,ih h.2]
def dig_dgs{w:Str}(h:Txt.isascii w=true):Txt.isdigit w=dgs w:=by
 unfold Txt.isascii at h;rw[<- Array.all_toList]at h;unfold Txt.isdigit dgs;rw[<- Array.all_toList,all_fig h]
def nasc{w:Str}(h:Txt.isascii w=false):dgs w=false:=by
 cases hd:dgs w with
 |false=>rfl
 |true =>
  have:Txt.isascii w=true:=by
   unfold Txt.isascii;rw[<- Array.all_toList];simp only[dgs,Bool.and_eq_true]at hd;refine all_eq_true.mpr λc hc=>?_
   have:=all_eq_true.mp hd.2 c hc;simp only[fig,Bool.and_eq_true,decide_eq_true_eq]at this;exact decide_eq_true (by omega)
  rw[this]at h;cases h
def zBm{w:Str}(h:dgs w=true):0<w.length:=by
 simp only[dgs,Bool.and_eq_true,decide_eq_true_eq]at h;exact h.1
def ZF{n:Nat}(h:n<=1000):n<=sizeLine:=le_trans h (by decide +kernel)
def zBn{w:Str}(h:w.length<=1000):DV.lenT [.str w]=some (.v (.int (w.length:Nat))):=by
 simp only[DV.lenT];rw[if_pos (ZF h)]
def cons_w{w:Str}(h:0<w.length):∃c r,w.cps.toList=c::r:=by
 cases e:w.cps.toList with
 |nil =>
  have:w.length=0:=by show w.cps.size=0;rw[<- Array.length_toList,e];rfl
  omega
 |cons c r=>exact⟨c,r,rfl⟩
def zEQ{fs:List FI}{w:Str}(h0:0<w.length)(h:w.length<=1000):dT fs (.tAnd (.tE (.cmp .eq (.ixT (.var 0) (.c (.int 0))) (.c (.str "0")))) (.tE (.cmp .ne (.var 0) (.c (.str "0"))))) [.v (.str w)]=.ok (zB4 w,[.v (.str w)]):=by
 obtain⟨c,r,e⟩:=cons_w h0;have ix:DV.ixT (.str w) (.int 0)=some (.v (.str (sg c))):=by
  simp only[DV.ixT];rw[if_pos (ZF h),e];simp[atI,ixN,sg]
 have hc:eqG (.str (sg c)) (.str "0")=some (.v (.bl (decide (c=48)))):=by
  rw[wd0,zBh];congr 3;refine decide_eq_decide.mpr ⟨λz=>?_,λz=>by subst z;rfl⟩;have:=congrArg (λs:Str=>s.cps.toList) z;simpa[sg,wd]using this
 have hh:w.cps.toList.head?=some c:=by rw[e];rfl
 by_cases h1:c=48
 ·rw[decide_eq_true h1]at hc
  have e2:zB4 w=!decide (w=wd 0):=by unfold zB4;rw[hh,h1];simp
  rw[e2];exact zBZ (t_E (zY (x_ixT (zB rfl) x_c ix) x_c hc)) (t_E (zY (zB rfl) x_c (show neG (.str w) (.str "0")=_ by rw[wd0];exact zBi _ _)))
 ·rw[decide_eq_false h1]at hc
  have e2:zB4 w=false:=by unfold zB4;rw[hh];simp[h1]
  rw[e2];exact zEP (t_E (zY (x_ixT (zB rfl) x_c ix) x_c hc))
def int_w{w:Str}(h:dgs w=true)(hl:w.length<=600):DV.intT [.str w]=some (.v (.int (nv w:Nat))):=by
 have h2:=h;simp only[dgs,Bool.and_eq_true,decide_eq_true_eq]at h2;have e:=intText_digits (x:=w) (λc hc=>by
  have:=all_eq_true.mp h2.2 c hc;simpa[fig]using this) (λz=>by
  have:w.length=0:=by show w.cps.size=0;rw[<- Array.length_toList,z];rfl
  omega) (by omega)
 simp only[DV.intT];rw[if_pos (by omega),e];rfl
def e_num{w:Str}(hl:w.length<=1000):jM [.v (.str w)]=.ok (.v (rdN 20 w),O1):=by
 cases h1:Txt.isascii w with
 |false =>
  have e:rdN 20 w=.non:=by unfold rdN;rw[nasc h1];rfl
  rw[e];exact zv (wJ (yw (uG (yu (t_E (zBf (zB rfl) h1)) rfl)) (zZ (zw x_c)))) rfl
 |true =>
  have d:=dig_dgs h1;cases h2:dgs w with
  |false =>
   rw[h2]at d;have e:rdN 20 w=.non:=by unfold rdN;rw[h2];rfl
   rw[e];exact zv (wJ (yw (ZE (yu (t_E (zBf (zB rfl) h1)) rfl) (uG (yu (t_E (zDS (zB rfl) d)) rfl))) (zZ (zw x_c)))) rfl
  |true =>
   rw[h2]at d;have gt:=Z3 w.length 20;by_cases h3:w.length<=20
   ·rw[decide_eq_false (by omega)]at gt
    have t1:=zEQ (fs:=JI) (zBm h2) hl;cases h4:zB4 w with
    |true =>
     rw[h4]at t1;have e:rdN 20 w=.non:=by unfold rdN;rw[h4];simp
     rw[e];exact zv (zF (yC (ZE (yu (t_E (zBf (zB rfl) h1)) rfl) (ZE (yu (t_E (zDS (zB rfl) d)) rfl) (t_E (zY (jv (zA (zB rfl) zR) (zBn hl)) QZ gt)))) yD) (wJ (yw t1 (zZ (zw x_c))))) rfl
    |false =>
     rw[h4]at t1;have e:rdN 20 w=.int (nv w:Nat):=by unfold rdN;rw[h4,h2,decide_eq_true h3];rfl
     rw[e];exact zv (zF (yC (ZE (yu (t_E (zBf (zB rfl) h1)) rfl) (ZE (yu (t_E (zDS (zB rfl) d)) rfl) (t_E (zY (jv (zA (zB rfl) zR) (zBn hl)) QZ gt)))) yD) (zF (yC t1 yD) (zZ (zw (jv (zA (zB rfl) zR) (int_w h2 (by omega))))))) rfl
   ·rw[decide_eq_true (by omega)]at gt
    have e:rdN 20 w=.non:=by unfold rdN;rw[decide_eq_false h3];simp
    rw[e];exact zv (wJ (yw (ZE (yu (t_E (zBf (zB rfl) h1)) rfl) (ZE (yu (t_E (zDS (zB rfl) d)) rfl) (t_E (zY (jv (zA (zB rfl) zR) (zBn hl)) QZ gt)))) (zZ (zw x_c)))) rfl
def fig_mem(c:Nat):decide (c∈(("0123456789":String):Str).cps.toList)=fig c:=by
 have e:(("0123456789":String):Str).cps.toList=[48,49,50,51,52,53,54,55,56,57]:=by decide +kernel
 rw[e,fig,<- Bool.decide_and];refine decide_eq_decide.mpr ?_;simp only[mem_cons,mem_nil_iff,or_false];omega
def nin_sg(c:Nat):inSD true (.str (sg c)) (.str "0123456789")=some (.v (.bl (!fig c))):=by
 simp only[inSD,if_true];have:=StrLaws.found_one (("0123456789":String):Str) c;rw[show(sg c)=(⟨#[c]⟩:Str)from rfl,this,fig_mem]
def nfg:D->Bool
 | .str z=>!(z.cps.toList.all fig)|_=>false
def GD(ds:List D)(h:∀d∈ds,eqb 19 d=true):neG (.l ds) (.l [])=some (.v (.bl (!ds.isEmpty))):=by
 have e1:eqb 20 (.l ds)=true:=by simp only[eqb];exact all_eq_true.mpr h
 have e2:eqb 20 (.l [])=true:=rfl;have e3:deqs ds []=ds.isEmpty:=by cases ds<;>rfl
 simp only[neG,neF,eqDD,e1,e2,deq,Bool.and_self,if_true,and_self,e3]
def GE{w:Str}(hl:w.length<=1000):jb [.v (.str w)]=.ok (.v (rdN 60 w),O1):=by
 have ln:dE jP (.cB .lenT (.cons (.var 0) .nil)) [.v (.str w)]=.ok (.v (.int (w.length:Nat)),[.v (.str w)]):=jv (zA (zB rfl) zR) (zBn hl);by_cases h0:1<=w.length/\w.length<=60
 ·have n1:(!(decide ((1:Int)<=(w.length:Nat))&&decide (((w.length:Nat):Int)<61)))=false:=by
   rw[decide_eq_true (by omega),decide_eq_true (by omega)];rfl
  have cp:dE jP (.comp 1 ["_law_sign"] [] [] (.iS (.var 0)) (.n 0) (.tE (.cmp .ninS (.var 0) (.c (.str "0123456789")))) (.var 0)) [.v (.str w)]=.ok (.own ((DV.sgD w).filter nfg),[.v (.str w)]):=by
   refine Gz (vs:=[]) (λd=>[.v d]) nfg id (i_S (zB rfl) rfl) rfl (λd hd S hS hn=>Gv hS hn) (λd hd=>⟨rfl,λs hs=>?_⟩) (λd hd=>?_) (λd hd _=>⟨_,zB rfl,rfl⟩) ?_ (map_id _)
   ·rw[mem_singleton]at hs;subst hs;rfl
   ·obtain⟨c,_,rfl⟩:=mem_map.mp hd
    have e:nfg (.str ⟨#[c]⟩)=!fig c:=by simp[nfg]
    rw[e];exact t_E (zY (zB rfl) x_c (nin_sg c))
   ·simp only[DV.sgD,length_map,Array.length_toList]
    have:w.cps.size=w.length:=rfl;simp only[cap];omega
  have ne:=GD ((DV.sgD w).filter nfg) (λd hd=>by
   obtain⟨c,_,rfl⟩:=mem_map.mp (mem_filter.mp hd).1;rfl)
  have em:((DV.sgD w).filter nfg).isEmpty=dgs w:=by
   have:dgs w=w.cps.toList.all fig:=by unfold dgs;rw[decide_eq_true (by omega)];rfl
   rw[this];unfold DV.sgD;generalize w.cps.toList=l
   induction l with
   |nil=>rfl
   |cons c l ih =>
    have e:nfg (.str ⟨#[c]⟩)=!fig c:=by simp[nfg]
    simp only[map_cons,filter_cons,e,all_cons];cases fig c
    ·rfl
    ·simpa using ih
  rw[em]at ne;cases h2:dgs w with
  |false =>
   rw[h2]at ne;have e:rdN 60 w=.non:=by unfold rdN;rw[h2];rfl
   rw[e];exact zv (wJ (yw (ZE (t_E (zDY ln n1)) (t_E (zY cp (jQ zR rfl JX) ne))) (zZ (zw x_c)))) rfl
  |true =>
   rw[h2]at ne;have t1:=zEQ (fs:=jP) (zBm h2) hl;cases h4:zB4 w with
   |true =>
    rw[h4]at t1;have e:rdN 60 w=.non:=by unfold rdN;rw[h4];simp
    rw[e];exact zv (zF (yC (ZE (t_E (zDY ln n1)) (t_E (zY cp (jQ zR rfl JX) ne))) yD) (wJ (yw t1 (zZ (zw x_c))))) rfl
   |false =>
    rw[h4]at t1;have e:rdN 60 w=.int (nv w:Nat):=by unfold rdN;rw[h4,h2,decide_eq_true h0.2];rfl
    rw[e];exact zv (zF (yC (ZE (t_E (zDY ln n1)) (t_E (zY cp (jQ zR rfl JX) ne))) yD) (zF (yC t1 yD) (zZ (zw (jv (zA (zB rfl) zR) (int_w h2 (by omega))))))) rfl
 ·have n1:(!(decide ((1:Int)<=(w.length:Nat))&&decide (((w.length:Nat):Int)<61)))=true:=by
   by_cases h:1<=w.length
   ·rw[decide_eq_false (show ¬((w.length:Nat):Int)<61 by omega)];simp
   ·rw[decide_eq_false (show ¬(1:Int)<=(w.length:Nat)by omega)];rfl
  have e:rdN 60 w=.non:=by
   unfold rdN;by_cases h:1<=w.length
   ·rw[decide_eq_false (show ¬w.length<=60 by omega)];simp
   ·have:dgs w=false:=by unfold dgs;rw[decide_eq_false (by omega)];rfl
    rw[this];rfl
  rw[e];exact zv (wJ (yw (uG (t_E (zDY ln n1))) (zZ (zw x_c)))) rfl
theorem G9(c:Nat):∀{ws:List Str} {x:Str},x∈ws->x.length<=(Str.join (sg c) ws).length
 | [],x,h=>by cases h| [y],x,h=>by rw[mem_singleton.mp h];exact le_refl _
 |y::z::r,x,h=>by
  have e:=congrArg length (u9 c y z r);simp only[length_append,length_cons,Array.length_toList]at e;rcases mem_cons.mp h with rfl|h
  ·show x.cps.size<=(Str.join (sg c) (x::z::r)).cps.size;omega
  ·have ih:=G9 c h
   show x.cps.size<=(Str.join (sg c) (y::z::r)).cps.size
   have ih:x.cps.size<=(Str.join (sg c) (z::r)).cps.size:=ih;omega
def jB{z x:Str}{c:Nat}(h:x∈Txt.split z (sg c)):x.length<=z.length:=by
 have:=G9 c h
 rwa [StrLaws.join_split]at this
def wu(z:Str)(c:Nat):(Txt.split z (sg c)).length<=z.length+2:=PyProof.Rows.split_le z (sg c)
def yV(z:Str)(c:Nat):∃h t,Txt.split z (sg c)=h::t:=by
 cases e:Txt.split z (sg c)with
 |nil=>have:=PyProof.Rows.split_pos z (sg c);rw[e]at this;exact absurd this (by simp)|cons h t=>exact⟨h,t,rfl⟩
def lnP(w l:Str):D:=match Txt.split l (sg 32)with
 |h::t=>if h=w then .t (t.map (rdN 20))else .non| []=>.non
def isN:D->Bool
 | .non=>true|_=>false
def lnV(w l:Str):D:=match Txt.split l (sg 32)with
 |h::t=>if h=w then(if(t.map (rdN 60)).any isN=true then .non else .t (t.map (rdN 60)))else .non| []=>.non
def unS(m:Nat):D->D
 | .str z=>rdN m z|d=>d
def zBo(m:Nat)(t:List Str):(t.map D.str).map (unS m)=t.map (rdN m):=by rw[List.map_map];rfl
def Jt{n:Nat}(h:n<=1001):n<=cap:=by simp only[cap];omega
def e_nums{t:List Str}(hn:t.length<=1001)(h:∀x∈t,x.length<=1000):yy [.v (.l (t.map D.str))]=.ok (.v (.t (t.map (rdN 20))),O1) :=
 zv (zZ (zw (jv (zA (JY (vs:=[]) (unS 20) (i_L (zB rfl) rfl) rfl (λd hd=>by
  obtain⟨z,hz,rfl⟩:=mem_map.mp hd;exact⟨_,zz (F:=jM) rfl (zB rfl) (e_num (h z hz)),rfl⟩) (by rw[length_map];exact Jt hn) (zBo 20 t)) zR) rfl))) rfl
def zER{w l:Str}(hl:l.length<=1000):jS [.v (.str w),.v (.str l)]=.ok (.v (lnP w l),O2):=by
 obtain⟨h,t,e⟩:=yV l 32;have sp:jr (.str l) (.str " ")=some (.own (.str h::t.map D.str)):=by rw[sg32,we rfl hl,e];rfl
 have q:=zBh h w;have hn:t.length<=1001:=by have:=wu l 32;rw[e]at this;simp at this;omega
 have ht:∀x∈t,x.length<=1000:=λx hx=>le_trans (jB (by rw[e];exact qD _ hx)) hl
 have st:dS Yr (.sStar 2 3 (.spl (.var 1) (.c (.str " ")))) [.v (.str w),.v (.str l),.e,.e]=.ok (.nx,[.v (.str w),.v (.str l),.v (.str h),.own (t.map D.str)]):=s_star (z:=h) (ts:=t) (Qd (zB rfl) x_c sp) rfl rfl rfl;by_cases hw:h=w
 ·have e1:lnP w l=.t (t.map (rdN 20)):=by unfold lnP;rw[e];exact if_pos hw
  rw[e1];rw[decide_eq_true hw]at q;exact zv (zF st (zZ (zw (uI (t_E (zY (zB rfl) (zB rfl) q)) (zz (F:=yy) rfl (jH rfl rfl) (e_nums hn ht)))))) rfl
 ·have e1:lnP w l=.non:=by unfold lnP;rw[e];exact if_neg hw
  rw[e1];rw[decide_eq_false hw]at q;exact zv (zF st (zZ (zw (G1 (t_E (zY (zB rfl) (zB rfl) q)) x_c)))) rfl
def rd_flat(m:Nat)(w:Str):flat (rdN m w)=true/\(inV .non [flV (rdN m w)]=isN (rdN m w)):=by
 unfold rdN;split<;>exact⟨rfl,rfl⟩
def in_non{ds:List D}(h:∀d∈ds,flat d=true/\inV .non [flV d]=isN d):Cp.f .inn .non (.l ds)=some (.v (.bl (ds.any isN))):=by
 have hf:ds.all flat=true:=all_eq_true.mpr λd hd=>(h d hd).1
 have e:inV (flV .non) (ds.map flV)=ds.any isN:=by
  clear hf
  induction ds with
  |nil=>rfl
  |cons d ds ih =>
   have h1:=(h d qE).2;have h2:=ih λx hx=>h x (qD _ hx)
   have hz:flV .non=.non:=rfl;rw[hz]at h2 ⊢;simp only[inV,map_cons,any_cons,List.any_nil,Bool.or_false]at h1 h2 ⊢;rw[h1,h2]
 have:inF false .non (.l ds)=some (.v (.bl (ds.any isN))):=by
  show(if flat .non=true/\ds.all flat=true then _ else _)=_
  rw[if_pos ⟨rfl,hf⟩,e];rfl
 first|exact this|(show inG false .non (.l ds)=_;simp only[inG,this])
def ix_0(d:D)(ds:List D):ixD (.l (d::ds)) (.int 0)=some (.v d):=by simp[ixD,atI,ixN]
def ix_1(d e:D)(ds:List D):ixD (.l (d::e::ds)) (.int 1)=some (.v e):=by
 have h:(1:Int)<(ds.length:Int)+1+1:=by omega
 simp[ixD,atI,ixN,h]
def zBp{w l:Str}(hl:l.length<=1000):yZ [.v (.str l),.v (.str w)]=.ok (.v (lnV w l),O2):=by
 obtain⟨h,t,e⟩:=yV l 32;have sp:jr (.str l) (.str " ")=some (.own (.str h::t.map D.str)):=by rw[sg32,we rfl hl,e];rfl
 have hn:t.length<=1001:=by have:=wu l 32;rw[e]at this;simp at this;omega
 have ht:∀x∈t,x.length<=1000:=λx hx=>le_trans (jB (by rw[e];exact qD _ hx)) hl
 have c1:slD (.l (.str h::t.map D.str)) (some 1) none=some (.own (t.map D.str)):=by
  have:WS (.str h::t.map D.str) (some 1) none=t.map D.str:=by
   simp[WS,HT.sIx];exact List.take_of_length_le (by simp)
  simp only[slD,this]
 have cm:dE jU (.comp 1 ["_law_one"] [] [] (.iL (.sl (.var 2) (.oS (.c (.int 1))) .oN)) (.n 0) .tTr (.call 0 (.ev (.var 0) .nil))) [.v (.str l),.v (.str w),.own (.str h::t.map D.str),.e]=.ok (.own (t.map (rdN 60)),[.v (.str l),.v (.str w),.v (.l (.str h::t.map D.str)),.e]) :=
  JY (vs:=[]) (unS 60) (i_L (zBT (jH rfl rfl) (o_S x_c) o_N c1) rfl) rfl (λd hd=>by
   obtain⟨z,hz,rfl⟩:=mem_map.mp hd;exact⟨_,zz (F:=jb) rfl (zB rfl) (GE (ht z hz)),rfl⟩) (by rw[length_map];exact Jt hn) (zBo 60 t)
 have q:=zBi h w;have inn:=in_non (ds:=t.map (rdN 60)) λd hd=>by
  obtain⟨z,_,rfl⟩:=mem_map.mp hd;exact rd_flat 60 z
 have s1:dS jU (.sSet 2 (.spl (.var 0) (.c (.str " ")))) [.v (.str l),.v (.str w),.e,.e]=.ok (.nx,[.v (.str l),.v (.str w),.own (.str h::t.map D.str),.e]):=z8 (Qd (zB rfl) x_c sp) rfl;have e1:lnV w l=if h=w then(if(t.map (rdN 60)).any isN=true then .non else .t (t.map (rdN 60)))else .non:=by unfold lnV;rw[e]
 rw[e1]
 clear e1
 generalize t.map (rdN 60)=ns at *;generalize t.map D.str=ts at *;by_cases hw:h=w
 ·rw[decide_eq_true hw]at q
  rw[if_pos hw];cases ha:ns.any isN with
  |true =>
   rw[ha]at inn;exact zv (zF s1 (zF (z8 cm rfl) (zZ (zw (uI (ZE (t_E (zY (uU (r2:=.v (.int 0)) (r:=.v (.str h)) (zB rfl) x_c (ix_0 _ _)) (zB rfl) q)) (t_E (zY x_c (jH rfl rfl) inn))) x_c))))) rfl
  |false =>
   rw[ha]at inn;exact zv (zF s1 (zF (z8 cm rfl) (zZ (zw (G1 (ZE (t_E (zY (uU (r2:=.v (.int 0)) (r:=.v (.str h)) (zB rfl) x_c (ix_0 _ _)) (zB rfl) q)) (t_E (zY x_c (jH rfl rfl) inn))) (jv (zA (zB rfl) zR) rfl)))))) rfl
 ·rw[decide_eq_false hw]at q
  rw[if_neg hw];exact zv (zF s1 (zF (z8 cm rfl) (zZ (zw (uI (uG (t_E (zY (uU (r2:=.v (.int 0)) (r:=.v (.str h)) (zB rfl) x_c (ix_0 _ _)) (zB rfl) q))) x_c))))) rfl
theorem zBq:∀(l:List Nat) (a:Nat),a<=l.foldl (λacc c=>acc*10+(c-48)) a
 | [],a=>le_refl _|c::l,a=>le_trans (by show a<=a*10+(c-48);omega) (zBq l (a*10+(c-48)))
def ten{w:Str}(h:dgs w=true)(h2:2<=w.length)(hl:zB4 w=false):10<=nv w:=by
 have hs:w.cps.toList.length=w.length:=by simp[Str.length]
 unfold nv NumText.digitsVal;simp only[dgs,Bool.and_eq_true]at h;have hz:w≠wd 0:=λz=>by rw[z]at h2;exact absurd h2 (by decide)
 unfold zB4 at hl;rw[decide_eq_false hz]at hl;cases e:w.cps.toList with
 |nil=>rw[e]at hs;simp at hs;omega
 |cons c r =>
  cases r with
  |nil=>rw[e]at hs;simp at hs;omega
  |cons d r =>
   rw[e]at h hl;have hc:=all_eq_true.mp h.2 c qE;simp only[fig,Bool.and_eq_true,decide_eq_true_eq]at hc;have hn:c≠48:=λz=>by subst z;simp at hl
   simp only[List.foldl_cons];have:=zBq r ((0*10+(c-48))*10+(d-48));omega
def rd_eq(w:Str){lo hi:Int}(h:hi<=9):YH lo hi (rdN 20 w)=YH lo hi (rdN 60 w)/\(YH lo hi (rdN 60 w)=true->rdN 20 w=rdN 60 w):=by
 by_cases hl:w.length<=20
 ·have e:rdN 20 w=rdN 60 w:=by unfold rdN;rw[decide_eq_true hl,decide_eq_true (show w.length<=60 by omega)]
  rw[e];exact⟨rfl,λ_=>rfl⟩
 ·have e:rdN 20 w=.non:=by unfold rdN;rw[decide_eq_false hl];simp
  have e2:YH lo hi (rdN 60 w)=false:=by
   unfold rdN;split
   ·rename_i hc
    simp only[Bool.and_eq_true,Bool.not_eq_true']at hc;have:=ten hc.1.1 (by omega) hc.2;show(decide _&&decide _)=false;rw[decide_eq_false (show ¬((nv w:Nat):Int)<=hi by omega)];simp
   ·rfl
  rw[e,e2];exact⟨rfl,λz=>by cases z⟩
theorem zBr{lo hi:Int}(h:hi<=9):∀t:List Str,(t.map (rdN 20)).all (YH lo hi)=(t.map (rdN 60)).all (YH lo hi)/\((t.map (rdN 60)).all (YH lo hi)=true->t.map (rdN 20)=t.map (rdN 60))
 | []=>⟨rfl,λ_=>rfl⟩
 |w::t=>by
  obtain⟨h1,h2⟩:=rd_eq w (lo:=lo) h;obtain⟨h3,h4⟩:=zBr (lo:=lo) h t;simp only[map_cons,all_cons,h1,h3];refine⟨trivial,λz=>?_⟩;simp only[Bool.and_eq_true]at z;rw[h2 z.1,h4 z.2]
theorem GF{lo hi:Int}:∀{ds:List D},ds.any isN=true->ds.all (YH lo hi)=false
 |d::ds,h=>by
  simp only[any_cons,Bool.or_eq_true]at h;simp only[all_cons];rcases h with h|h
  ·cases d<;>first|rfl|(cases h)
  ·rw[GF h];simp
theorem zES:∀{t:List Str},(t.map (rdN 60)).any isN=false->∃ns:List Nat,t.map (rdN 60)=N ns
 | [],_=>⟨[],rfl⟩
 |w::t,h=>by
  simp only[map_cons,any_cons,Bool.or_eq_false_iff]at h;obtain⟨ns,e⟩:=zES h.2;have:∃n:Nat,rdN 60 w=.int (n:Nat):=by
   have h1:=h.1;unfold rdN at h1 ⊢;split
   ·exact⟨_,rfl⟩
   ·rename_i hc;rw[if_neg hc]at h1;cases h1
  obtain⟨n,hn⟩:=this;exact⟨n::ns,by rw[map_cons,hn,e];rfl⟩
def die_PV(w l:Str):Y4 (lnP w l)=Y4 (lnV w l)/\(Y4 (lnV w l)=true->lnP w l=lnV w l):=by
 obtain⟨h,t,e⟩:=yV l 32;unfold lnP lnV;rw[e];dsimp only;by_cases hw:h=w
 ·rw[if_pos hw,if_pos hw]
  obtain⟨h1,h2⟩:=zBr (lo:=1) (hi:=9) (by omega) t;by_cases hn:(t.map (rdN 60)).any isN=true
  ·rw[if_pos hn]
   have:=GF (lo:=1) (hi:=9) hn;rw[this]at h1;simp only[Y4,h1,Bool.and_false];exact⟨trivial,λz=>by cases z⟩
  ·rw[if_neg hn]
   simp only[Y4,h1,length_map];refine⟨trivial,λz=>?_⟩;simp only[Bool.and_eq_true]at z;rw[h2 z.2]
 ·rw[if_neg hw,if_neg hw];exact⟨rfl,λ_=>rfl⟩
def row_PV(w l:Str):W7 (lnP w l)=W7 (lnV w l)/\(W7 (lnV w l)=true->lnP w l=lnV w l):=by
 obtain⟨h,t,e⟩:=yV l 32;unfold lnP lnV;rw[e];dsimp only;by_cases hw:h=w
 ·rw[if_pos hw,if_pos hw]
  obtain⟨h1,h2⟩:=zBr (lo:=0) (hi:=2) (by omega) t;by_cases hn:(t.map (rdN 60)).any isN=true
  ·rw[if_pos hn]
   have:=GF (lo:=0) (hi:=2) hn;rw[this]at h1;simp only[W7,h1,Bool.and_false];exact⟨trivial,λz=>by cases z⟩
  ·rw[if_neg hn]
   simp only[W7,h1,length_map];refine⟨trivial,λz=>?_⟩;simp only[Bool.and_eq_true]at z;rw[h2 z.2]
 ·rw[if_neg hw,if_neg hw];exact⟨rfl,λ_=>rfl⟩
def rg_PV(m:Nat)(w l:Str):rgB m (lnP w l)=rgB m (lnV w l)/\(rgB m (lnV w l)=true->lnP w l=lnV w l):=by
 obtain⟨h1,h2⟩:=row_PV w l;cases hb:W7 (lnV w l)with
 |true=>rw[h2 hb];exact⟨rfl,λ_=>rfl⟩
 |false =>
  rw[hb]at h1;have g:∀d,W7 d=false->rgB m d=false:=λd h=>by
   cases d with
   |t ds=>show(W7 (.t ds)&&_)=false;rw[h];rfl|_=>rfl
  rw[g _ hb,g _ h1];exact⟨rfl,λz=>by cases z⟩
def wf{w l:Str}(hl:l.length<=1000):lnV w l=.non\/∃ns:List Nat,lnV w l=.t (N ns)/\ns.length<=1001:=by
 obtain⟨h,t,e⟩:=yV l 32;have hn:t.length<=1001:=by have:=wu l 32;rw[e]at this;simp at this;omega
 unfold lnV;rw[e];dsimp only;by_cases hw:h=w
 ·rw[if_pos hw]
  cases ha:(t.map (rdN 60)).any isN with
  |true=>exact .inl (if_pos rfl)
  |false =>
   obtain⟨ns,en⟩:=zES ha;refine .inr ⟨ns,by rw[en];exact if_neg qF,?_⟩;have:=congrArg length en;rw[length_map,wR]at this;omega
 ·exact .inl (if_neg hw)
def ok_ln(w l:Str)(hl:l.length<=1000):okD (lnP w l):=by
 obtain⟨h,t,e⟩:=yV l 32;have hn:t.length<=1001:=by have:=wu l 32;rw[e]at this;simp at this;omega
 unfold lnP;rw[e];dsimp only;split
 ·refine⟨by rw[length_map];exact Jt hn,λd hd=>?_⟩
  obtain⟨z,_,rfl⟩:=mem_map.mp hd;unfold rdN;split<;>rfl
 ·trivial
def QA(i:Int)(is:List Int):Cp.f .nin (.int i) (.t (is.map D.int))=some (.v (.bl (!is.contains i))):=by
 have hf:(is.map D.int).all flat=true:=all_eq_true.mpr λd hd=>by obtain⟨x,_,rfl⟩:=mem_map.mp hd;rfl
 have e:inV (flV (.int i)) ((is.map D.int).map flV)=is.contains i:=by
  clear hf
  induction is with
  |nil=>rfl
  |cons a l ih =>
   have hz:flV (.int i)=.int i:=rfl;rw[hz]at ih ⊢;simp only[inV,map_cons,any_cons,List.contains_cons]at ih ⊢;rw[ih];congr 1;show(a==i)=(i==a);exact Bool.beq_comm
 have:inF true (.int i) (.t (is.map D.int))=some (.v (.bl (!is.contains i))):=by
  show(if flat (.int i)=true/\(is.map D.int).all flat=true then _ else _)=_
  rw[if_pos ⟨rfl,hf⟩,e];rfl
 first|exact this|(show inG true (.int i) (.t (is.map D.int))=_;simp only[inG,this])
theorem W9{p:D->Bool}:∀ds:List D,(ds.filter λd=>!p d).isEmpty=ds.all p
 | []=>rfl
 |d::ds=>by
  simp only[filter_cons,all_cons];cases h:p d
  ·simp
  ·simpa using W9 ds
def N_19{ns:List Nat}{f:D->Bool}:∀d∈(N ns).filter f,eqb 19 d=true:=λd hd=>by
 obtain⟨n,_,rfl⟩:=W5 (mem_filter.mp hd).1;rfl
section
variable{fs:List FI}{E:zQ}{ns:List Nat}
abbrev nine:Ax:=.cons (.c (.int 1)) (.cons (.c (.int 2)) (.cons (.c (.int 3)) (.cons (.c (.int 4)) (.cons (.c (.int 5)) (.cons (.c (.int 6)) (.cons (.c (.int 7)) (.cons (.c (.int 8)) (.cons (.c (.int 9)) .nil))))))))
def bad9{x1:List Str}{i:Nat}(hn:ns.length<=1001)(h:E[i]?=some (.v (.t (N ns)))):dE fs (.comp 1 x1 [] [] (.iT (.var i)) (.n 0) (.tE (.cmp .nin (.var 0) (.t nine))) (.var 0)) E=.ok (.own ((N ns).filter λd=>!YH 1 9 d),E):=by
 refine Gz (vs:=[]) (λd=>[.v d]) (λd=>!YH 1 9 d) id (i_T (zB h) rfl) rfl (λd hd S hS hn=>Gv hS hn) (λd hd=>⟨rfl,λs hs=>?_⟩) (λd hd=>?_) (λd hd _=>⟨_,zB rfl,rfl⟩) (by rw[wR];exact Jt hn) (map_id _)
 ·rw[mem_singleton]at hs;subst hs;rfl
 ·obtain⟨n,_,rfl⟩:=W5 hd
  have q:=QA (n:Nat) [1,2,3,4,5,6,7,8,9];have e:([1,2,3,4,5,6,7,8,9]:List Int).contains ((n:Nat):Int)=YH 1 9 (.int (n:Nat)):=by
   show _=(decide ((1:Int)<=(n:Nat))&&decide (((n:Nat):Int)<=9))
   rw[<- Bool.decide_and,List.contains_eq_mem];refine decide_eq_decide.mpr ?_;simp only[mem_cons,mem_nil_iff,or_false];omega
  rw[e]at q;exact t_E (zY (zB rfl) (Qa (ds:=([1,2,3,4,5,6,7,8,9]:List Int).map D.int) (zA x_c (zA x_c (zA x_c (zA x_c (zA x_c (zA x_c (zA x_c (zA x_c (zA x_c zR))))))))) rfl (by simp[cap])) q)
def badR{x1 x2:List Str}{i j m:Nat}{die:D}(hn:ns.length<=1001)(h:E[i]?=some (.v (.t (N ns))))(hj:E[j]?=some (.v die))(hm:Bi.f .len [die]=some (.v (.int (m:Nat)))):dE fs (.comp 1 x1 x2 [j] (.iT (.var i)) (.n 0) (.tE (.cmp .ge (.var 0) (.cB .len (.cons (.var 1) .nil)))) (.var 0)) E=.ok (.own ((N ns).filter λd=>!decide (zDW d<m)),E):=by
 refine Gz (vs:=[die]) (λd=>[.v d]) (λd=>!decide (zDW d<m)) id (i_T (zB h) rfl) (by simp[JS,hj]) (λd hd S hS hn=>Gv hS hn) (λd hd=>⟨rfl,λs hs=>?_⟩) (λd hd=>?_) (λd hd _=>⟨_,zB rfl,rfl⟩) (by rw[wR];exact Jt hn) (map_id _)
 ·rw[mem_singleton]at hs;subst hs;rfl
 ·obtain⟨n,_,rfl⟩:=W5 hd
  have e:geD (.int (n:Nat)) (.int (m:Nat))=some (.v (.bl (!decide (zDW (.int (n:Nat))<(m:Int))))):=by
   show some (R.v (D.bl (decide (((m:Nat):Int)<=(n:Nat)))))=_
   congr 3
   show _=!decide (((n:Nat):Int)<(m:Int))
   rw[<- decide_not];exact decide_eq_decide.mpr ⟨λh=>by omega,λh=>by omega⟩
  exact t_E (zY (zB rfl) (jv (zA (zB rfl) zR) hm) e)
def len23(n:Nat):Cp.f .nin (.int (n:Nat)) (.t [.int 2,.int 3])=some (.v (.bl (!(decide (2<=n)&&decide (n<=3))))):=by
 have q:=QA (n:Nat) [2,3];have e:([2,3]:List Int).contains ((n:Nat):Int)=(decide (2<=n)&&decide (n<=3)):=by
  rw[<- Bool.decide_and,List.contains_eq_mem];refine decide_eq_decide.mpr ?_;simp only[mem_cons,mem_nil_iff,or_false];omega
 rw[e]at q;exact q
def zET(ns:List Nat):Bi.f .len [.t (N ns)]=some (.v (.int (ns.length:Nat))):=by
 show some (R.v (D.int ((N ns).length:Nat)))=_
 rw[wR]
def t_die{x1:List Str}{i:Nat}{d:D}(hd:d=.non\/∃ns:List Nat,d=.t (N ns)/\ns.length<=1001)(h:E[i]?=some (.v d)):dT fs (.tOr (.tE (.cmp .is (.var i) (.c .non))) (.tOr (.tE (.cmp .nin (.cB .len (.cons (.var i) .nil)) (.t (.cons (.c (.int 2)) (.cons (.c (.int 3)) .nil))))) (.tE (.cmp .ne (.comp 1 x1 [] [] (.iT (.var i)) (.n 0) (.tE (.cmp .nin (.var 0) (.t nine))) (.var 0)) (.l .nil))))) E=.ok (!Y4 d,E):=by
 rcases hd with rfl|⟨ns,rfl,hn⟩
 ·exact uG (t_E (zY (zB h) x_c rfl))
 ·have q:=len23 ns.length
  have lt:dE fs (.cB .len (.cons (.var i) .nil)) E=.ok (.v (.int (ns.length:Nat)),E):=jv (zA (zB h) zR) (zET ns);have b:=bad9 (fs:=fs) (x1:=x1) hn h;have ne:=GD ((N ns).filter λd=>!YH 1 9 d) N_19;rw[W9]at ne;have e:Y4 (.t (N ns))=(decide (2<=ns.length)&&decide (ns.length<=3)&&(N ns).all (YH 1 9)):=by simp only[Y4,wR]
  rw[e];cases hc:(decide (2<=ns.length)&&decide (ns.length<=3))with
  |false =>
   rw[hc]at q;exact ZE (t_E (zY (zB h) x_c rfl)) (uG (t_E (zY lt (Qa (zA x_c (zA x_c zR)) rfl Z0) q)))
  |true =>
   rw[hc]at q;rw[Bool.true_and];exact ZE (t_E (zY (zB h) x_c rfl)) (ZE (t_E (zY lt (Qa (zA x_c (zA x_c zR)) rfl Z0) q)) (t_E (zY b (jQ zR rfl JX) ne)))
def rg_N{m:Nat}(hm:m<=3)(ns:List Nat):rgB m (.t (N ns))=(decide (ns.length<=20)&&(N ns).all λd=>decide (zDW d<m)):=by
 show(decide ((N ns).length<=20)&&(N ns).all (YH 0 2)&&_)=_
 rw[wR];cases ha:(N ns).all λd=>decide (zDW d<(m:Int))with
 |false=>simp
 |true =>
  have:(N ns).all (YH 0 2)=true:=all_eq_true.mpr λd hd=>by
   have q:=all_eq_true.mp ha d hd;obtain⟨n,_,rfl⟩:=W5 hd;have q:((n:Nat):Int)<m:=of_decide_eq_true q;show(decide ((0:Int)<=(n:Nat))&&decide (((n:Nat):Int)<=2))=true;rw[decide_eq_true (by omega),decide_eq_true (by omega)];rfl
  rw[this];simp
def t_row{x1 x2:List Str}{i j m:Nat}{d die:D}(hm:m<=3)(hd:d=.non\/∃ns:List Nat,d=.t (N ns)/\ns.length<=1001)(h:E[i]?=some (.v d))(hj:E[j]?=some (.v die))(hl:Bi.f .len [die]=some (.v (.int (m:Nat)))):dT fs (.tOr (.tE (.cmp .is (.var i) (.c .non))) (.tOr (.tE (.cmp .gt (.cB .len (.cons (.var i) .nil)) (.c (.int 20)))) (.tE (.cmp .ne (.comp 1 x1 x2 [j] (.iT (.var i)) (.n 0) (.tE (.cmp .ge (.var 0) (.cB .len (.cons (.var 1) .nil)))) (.var 0)) (.l .nil))))) E=.ok (!rgB m d,E):=by
 rcases hd with rfl|⟨ns,rfl,hn⟩
 ·exact uG (t_E (zY (zB h) x_c rfl))
 ·have lt:dE fs (.cB .len (.cons (.var i) .nil)) E=.ok (.v (.int (ns.length:Nat)),E):=jv (zA (zB h) zR) (zET ns)
  have b:=badR (fs:=fs) (x1:=x1) (x2:=x2) hn h hj hl;have ne:=GD ((N ns).filter λd=>!decide (zDW d<m)) N_19;rw[W9]at ne;rw[rg_N hm ns];have gt:=Z3 ns.length 20;by_cases hc:ns.length<=20
  ·rw[decide_eq_false (by omega)]at gt
   rw[decide_eq_true hc,Bool.true_and];exact ZE (t_E (zY (zB h) x_c rfl)) (ZE (t_E (zY lt x_c gt)) (t_E (zY b (jQ zR rfl JX) ne)))
  ·rw[decide_eq_true (by omega)]at gt
   rw[decide_eq_false hc];exact ZE (t_E (zY (zB h) x_c rfl)) (uG (t_E (zY lt x_c gt)))
end
def tlen:D->Nat
 | .t ds=>ds.length|_=>0
def zEU(d:D):List Str->D
 | []=>.int 2|l1::r2=>if rgB (tlen d) (lnV "row" l1)=true then(if r2.isEmpty=true then .t [d,lnV "row" l1]else .int 3)else .int 2
def dueL:List Str->D
 | []=>.non|l0::r=>if Y4 (lnV "die" l0)=true then zEU (lnV "die" l0) r else .int 1
def zBs{d:D}(hd:d=.non\/∃ns:List Nat,d=.t (N ns)/\ns.length<=1001)(h:Y4 d=true):∃ns:List Nat,d=.t (N ns)/\ns.length<=3/\tlen d=ns.length:=by
 rcases hd with rfl|⟨ns,rfl,_⟩
 ·cases h
 ·simp only[Y4,Bool.and_eq_true,decide_eq_true_eq,wR]at h
  exact⟨ns,rfl,h.1.2,by show(N ns).length=_;rw[wR]⟩
def sp10{z:Str}{l0:Str}{r:List Str}(hl:z.length<=1000)(e:Txt.split z (sg 10)=l0::r):jr (.str z) (.str "\n")=some (.own (.str l0::r.map D.str)):=by
 rw[sg10,we rfl hl,e];rfl
def e_due{z:Str}(hl:z.length<=1000):ym [.v (.str z)]=.ok (.v (dueL (Txt.split z (sg 10))),O1):=by
 obtain⟨l0,r,e⟩:=yV z 10;have h0:l0.length<=1000:=le_trans (jB (by rw[e];exact qE)) hl;have sp:=sp10 hl e;rw[e];have n0:=zBp (w:="die") h0;have sh:=wf (w:="die") h0;have t1:=t_die (fs:=zq) (x1:=["_law_one"]) (i:=2) sh (E:=[.v (.str z),.v (.l (.str l0::r.map D.str)),.v (lnV "die" l0),.e]) rfl;have ed:dueL (l0::r)=if Y4 (lnV "die" l0)=true then zEU (lnV "die" l0) r else .int 1:=rfl
 rw[ed]
 clear ed
 generalize lnV "die" l0=d at *;have s1:dS zq (.sSet 1 (.spl (.var 0) (.c (.str "\n")))) [.v (.str z),.e,.e,.e]=.ok (.nx,[.v (.str z),.own (.str l0::r.map D.str),.e,.e]):=z8 (Qd (zB rfl) x_c sp) rfl;have s2:dS zq (.sSet 2 (.call 0 (.ev (.ix (.var 1) (.c (.int 0))) (.ev (.c (.str "die")) .nil)))) [.v (.str z),.own (.str l0::r.map D.str),.e,.e]=.ok (.nx,[.v (.str z),.v (.l (.str l0::r.map D.str)),.v d,.e]):=z8 (jm (F:=yZ) rfl (uU (r2:=.v (.int 0)) (r:=.v (.str l0)) (jH rfl rfl) x_c (ix_0 _ _)) x_c n0) rfl;cases hb:Y4 d with
 |false =>
  rw[hb]at t1;rw[if_neg qF];exact zv (zF s1 (zF s2 (wJ (yw t1 (zZ (zw x_c)))))) rfl
 |true =>
  rw[hb]at t1;rw[if_pos rfl];obtain⟨ds,rfl,d3,dt⟩:=zBs sh hb;have s3:dS zq (.sSet 3 (.c .non)) [.v (.str z),.v (.l (.str l0::r.map D.str)),.v (.t (N ds)),.e]=.ok (.nx,[.v (.str z),.v (.l (.str l0::r.map D.str)),.v (.t (N ds)),.v .non]):=z8 x_c rfl;cases r with
  |nil =>
   have t2:=t_row (fs:=zq) (x1:=["_law_sign"]) (x2:=["_law_die"]) (i:=3) (j:=2) d3 (.inl rfl) (E:=[.v (.str z),.v (.l (.str l0::([]:List Str).map D.str)),.v (.t (N ds)),.v .non]) rfl rfl (zET ds);exact zv (zF s1 (zF s2 (zF (yC t1 yD) (zF s3 (zF (yC (t_E (zY (jv (zA (zB rfl) zR) rfl) x_c rfl)) yD) (wJ (yw t2 (zZ (zw x_c))))))))) rfl
  |cons l1 r2 =>
   have h1:l1.length<=1000:=le_trans (jB (by rw[e];simp)) hl;have n1:=zBp (w:="row") h1;have sr:=wf (w:="row") h1;have t2:=t_row (fs:=zq) (x1:=["_law_sign"]) (x2:=["_law_die"]) (i:=3) (j:=2) d3 sr (E:=[.v (.str z),.v (.l (.str l0::.str l1::r2.map D.str)),.v (.t (N ds)),.v (lnV "row" l1)]) rfl rfl (zET ds);have ed:zEU (.t (N ds)) (l1::r2)=if rgB ds.length (lnV "row" l1)=true then(if r2.isEmpty=true then .t [.t (N ds),lnV "row" l1]else .int 3)else .int 2:=by rw[<- dt];rfl
   rw[ed]
   clear ed
   generalize lnV "row" l1=d2 at *;have gt:=Z3 (r2.length+2) 1;rw[decide_eq_true (by omega)]at gt;have ll:lenD [.l (.str l0::.str l1::r2.map D.str)]=some (.v (.int ((r2.length+2:Nat):Int))):=by
    show some (R.v (D.int (((r2.map D.str).length+1+1:Nat):Int)))=_
    rw[length_map]
   have s4:dS zq (.sIf (.tE (.cmp .gt (.cB .len (.cons (.var 1) .nil)) (.c (.int 1)))) (.bOne (.sSet 3 (.call 0 (.ev (.ix (.var 1) (.c (.int 1))) (.ev (.c (.str "row")) .nil))))) .bNil) [.v (.str z),.v (.l (.str l0::.str l1::r2.map D.str)),.v (.t (N ds)),.v .non]=.ok (.nx,[.v (.str z),.v (.l (.str l0::.str l1::r2.map D.str)),.v (.t (N ds)),.v d2]) :=
    yw (t_E (zY (jv (zA (zB rfl) zR) ll) x_c gt)) (zZ (z8 (jm (F:=yZ) rfl (uU (r2:=.v (.int 1)) (r:=.v (.str l1)) (zB rfl) x_c (ix_1 _ _ _)) x_c n1) rfl))
   cases hg:rgB ds.length d2 with
   |false =>
    rw[hg]at t2;rw[if_neg qF];exact zv (zF s1 (zF s2 (zF (yC t1 yD) (zF s3 (zF s4 (wJ (yw t2 (zZ (zw x_c))))))))) rfl
   |true =>
    rw[hg]at t2;rw[if_pos rfl];have eq:=eq_nat (r2.length+2) 2;cases r2 with
    |nil =>
     exact zv (zF s1 (zF s2 (zF (yC t1 yD) (zF s3 (zF s4 (zF (yC t2 yD) (zZ (zw (uI (t_E (zY (jv (zA (zB rfl) zR) ll) x_c eq)) (Qa (zA (zB rfl) (zA (zB rfl) zR)) rfl Z0)))))))))) rfl
    |cons l2 r3 =>
     rw[decide_eq_false (by simp)]at eq;exact zv (zF s1 (zF s2 (zF (yC t1 yD) (zF s3 (zF s4 (zF (yC t2 yD) (zZ (zw (G1 (t_E (zY (jv (zA (zB rfl) zR) ll) x_c eq)) x_c))))))))) rfl
def zBt(i:Int):yz [.v (.exn "NoText" [i])]=.ok (.v (.str "text"),[.e]):=rfl
def YF(i:Int):yF [.v (.int i)]=.ok (.v (.bl true),[.e]):=rfl
def Z4{d:D}{i:Int}{o:List DV.Slot}(h:yU [.v d]=.exc ⟨"NoText",true,[i]⟩ o):zu [.v d]=.ok (.v (.int i),O1) :=
 zv (zZ (s_tryX (zZ (s_retX (x_cX1 (F:=yU) rfl (zB rfl) h))) rfl rfl (zF (yC (ZE (t_E (zY (zz (F:=yz) rfl (zB rfl) (zBt i)) x_c (show neG (.str "text") (.str "text")=some (.v (.bl false))from ne_str _))) (yu (t_E (zz (F:=yF) rfl (x_atr (zB rfl) rfl rfl) (YF i))) rfl)) yD) (zZ (zw (x_atr (zB rfl) rfl rfl)))))) rfl
def told_ok{d e:D}(h:yU [.v d]=.ok (.v e,O1)):zu [.v d]=.ok (.v e,O1) :=
 zv (zZ (s_tryO (zZ (zw (zz (F:=yU) rfl (zB rfl) h))))) rfl
def rs{fs:List FI}{E:zQ}(i:Int)(h:decide (i.natAbs.log2<1920)=true):dS fs (.sRaiseA "NoText" (.cons (.c (.int i)) .nil)) E=.exc ⟨"NoText",true,[i]⟩ E :=
 zDR (zA x_c zR) rfl (by show(true&&(decide (i.natAbs.log2<1920)&&true))=true;rw[h];rfl)
def e_told{z:Str}(hl:z.length<=1000):zu [.v (.str z)]=.ok (.v (dueL (Txt.split z (sg 10))),O1):=by
 obtain⟨l0,r,e⟩:=yV z 10;have h0:l0.length<=1000:=le_trans (jB (by rw[e];exact qE)) hl;have sp:=sp10 hl e;rw[e];have n0:=zER (w:="die") h0;have sh:=wf (w:="die") h0;obtain⟨dp,dq⟩:=die_PV "die" l0;have dg:=Qf _ (ok_ln "die" l0 h0);rw[dp]at dg;have ed:dueL (l0::r)=if Y4 (lnV "die" l0)=true then zEU (lnV "die" l0) r else .int 1:=rfl
 rw[ed]
 clear ed dp
 have t0:dS yK (.sIf (.tNot (.tE (.is .str (.var 0)))) (.bOne (.sRaiseA "NoText" (.cons (.c (.int 0)) .nil))) .bNil) [.v (.str z),.e,.e,.e]=.ok (.nx,[.v (.str z),.e,.e,.e]):=yC (yu (t_E (x_is (zB rfl) rfl rfl)) rfl) yD;have s1:dS yK (.sSet 1 (.spl (.var 0) (.c (.str "\n")))) [.v (.str z),.e,.e,.e]=.ok (.nx,[.v (.str z),.own (.str l0::r.map D.str),.e,.e]):=z8 (Qd (zB rfl) x_c sp) rfl;have s2:dS yK (.sSet 2 (.call 1 (.ev (.c (.str "die")) (.ev (.ix (.var 1) (.c (.int 0))) .nil)))) [.v (.str z),.own (.str l0::r.map D.str),.e,.e]=.ok (.nx,[.v (.str z),.v (.l (.str l0::r.map D.str)),.v (lnP "die" l0),.e]):=z8 (jm (F:=jS) rfl x_c (uU (r2:=.v (.int 0)) (r:=.v (.str l0)) (jH rfl rfl) x_c (ix_0 _ _)) n0) rfl;cases hb:Y4 (lnV "die" l0)with
 |false =>
  rw[hb]at dg;rw[if_neg qF];exact Z4 (o:=[.e]) (uH (zF t0 (zF s1 (zF s2 (zBY (yw (yu (t_E (zz (F:=ju) rfl (zB rfl) dg)) rfl) (zZ (rs 1 (by decide)))))))) rfl)
 |true =>
  rw[hb]at dg;rw[if_pos rfl];rw[dq hb]at dg s2;obtain⟨ds,ee,d3,dt⟩:=zBs sh hb;rw[ee]at dg s2 dt ⊢
  clear dq sh ee n0
  have s3:dS yK (.sIf (.tNot (.tE (.call 2 (.ev (.var 2) .nil)))) (.bOne (.sRaiseA "NoText" (.cons (.c (.int 1)) .nil))) .bNil) [.v (.str z),.v (.l (.str l0::r.map D.str)),.v (.t (N ds)),.e]=.ok (.nx,[.v (.str z),.v (.l (.str l0::r.map D.str)),.v (.t (N ds)),.e]):=yC (yu (t_E (zz (F:=ju) rfl (zB rfl) dg)) rfl) yD;cases r with
  |nil =>
   have g:=e_rgo .non trivial ds.length;exact Z4 (o:=[.e]) (uH (zF t0 (zF s1 (zF s2 (zF s3 (zF (z8 (E2:=[.v (.str z),.v (.l (.str l0::([]:List Str).map D.str)),.v (.t (N ds)),.v .non]) (G1 (t_E (zY (jv (zA (zB rfl) zR) rfl) x_c rfl)) x_c) rfl) (zBY (yw (yu (t_E (jm (F:=yI) rfl (zB rfl) (jv (zA (zB rfl) zR) (zET ds)) g)) rfl) (zZ (rs 2 (by decide)))))))))) rfl)
  |cons l1 r2 =>
   have h1:l1.length<=1000:=le_trans (jB (by rw[e];simp)) hl;have n1:=zER (w:="row") h1;obtain⟨gp,gq⟩:=rg_PV ds.length "row" l1;have g:=e_rgo _ (ok_ln "row" l1 h1) ds.length;rw[gp]at g;have ed:zEU (.t (N ds)) (l1::r2)=if rgB ds.length (lnV "row" l1)=true then(if r2.isEmpty=true then .t [.t (N ds),lnV "row" l1]else .int 3)else .int 2:=by rw[<- dt];rfl
   rw[ed]
   clear ed gp
   have ll:lenD [.l (.str l0::.str l1::r2.map D.str)]=some (.v (.int ((r2.length+2:Nat):Int))):=by
    show some (R.v (D.int (((r2.map D.str).length+1+1:Nat):Int)))=_
    rw[length_map]
   have gt:=Z3 (r2.length+2) 1;rw[decide_eq_true (by omega)]at gt;have s4:dS yK (.sSet 3 (.ifx (.tE (.cmp .gt (.cB .len (.cons (.var 1) .nil)) (.c (.int 1)))) (.call 1 (.ev (.c (.str "row")) (.ev (.ix (.var 1) (.c (.int 1))) .nil))) (.c .non))) [.v (.str z),.v (.l (.str l0::.str l1::r2.map D.str)),.v (.t (N ds)),.e]=.ok (.nx,[.v (.str z),.v (.l (.str l0::.str l1::r2.map D.str)),.v (.t (N ds)),.v (lnP "row" l1)]) :=
    z8 (uI (t_E (zY (jv (zA (zB rfl) zR) ll) x_c gt)) (jm (F:=jS) rfl x_c (uU (r2:=.v (.int 1)) (r:=.v (.str l1)) (zB rfl) x_c (ix_1 _ _ _)) n1)) rfl
   cases hg:rgB ds.length (lnV "row" l1)with
   |false =>
    rw[hg]at g;rw[if_neg qF];exact Z4 (o:=[.e]) (uH (zF t0 (zF s1 (zF s2 (zF s3 (zF s4 (zBY (yw (yu (t_E (jm (F:=yI) rfl (zB rfl) (jv (zA (zB rfl) zR) (zET ds)) g)) rfl) (zZ (rs 2 (by decide)))))))))) rfl)
   |true =>
    rw[hg]at g;rw[if_pos rfl];rw[gq hg]at g s4;have gt2:=Z3 (r2.length+2) 2;cases r2 with
    |nil =>
     exact told_ok (zv (zF t0 (zF s1 (zF s2 (zF s3 (zF s4 (zF (yC (yu (t_E (jm (F:=yI) rfl (zB rfl) (jv (zA (zB rfl) zR) (zET ds)) g)) rfl) yD) (zF (yC (t_E (zY (jv (zA (zB rfl) zR) ll) x_c gt2)) yD) (zZ (zw (Qa (zA (zB rfl) (zA (zB rfl) zR)) rfl Z0)))))))))) rfl)
    |cons l2 r3 =>
     rw[decide_eq_true (by simp)]at gt2;exact Z4 (o:=[.e]) (uH (zF t0 (zF s1 (zF s2 (zF s3 (zF s4 (zF (yC (yu (t_E (jm (F:=yI) rfl (zB rfl) (jv (zA (zB rfl) zR) (zET ds)) g)) rfl) yD) (zBY (yw (t_E (zY (jv (zA (zB rfl) zR) ll) x_c gt2)) (zZ (rs 3 (by decide))))))))))) rfl)
def zBu{z:Str}(hl:z.length<=1000):(∃i:Int,dueL (Txt.split z (sg 10))=.int i)\/∃ds rs:List Nat,dueL (Txt.split z (sg 10))=.t [.t (N ds),.t (N rs)]/\ds.length<=1001/\rs.length<=1001:=by
 obtain⟨l0,r,e⟩:=yV z 10;have h0:l0.length<=1000:=le_trans (jB (by rw[e];exact qE)) hl;rw[e];show(∃i:Int,(if Y4 (lnV "die" l0)=true then zEU (lnV "die" l0) r else .int 1)=.int i)\/_;have ed:dueL (l0::r)=if Y4 (lnV "die" l0)=true then zEU (lnV "die" l0) r else .int 1:=rfl
 rw[ed]
 clear ed
 have sh:=wf (w:="die") h0;cases hb:Y4 (lnV "die" l0)with
 |false=>exact .inl ⟨1,if_neg qF⟩
 |true =>
  rw[if_pos rfl];obtain⟨ds,ee,d3,dt⟩:=zBs sh hb;cases r with
  |nil=>exact .inl ⟨2,rfl⟩
  |cons l1 r2 =>
   have h1:l1.length<=1000:=le_trans (jB (by rw[e];simp)) hl;have ed:zEU (lnV "die" l0) (l1::r2)=if rgB (tlen (lnV "die" l0)) (lnV "row" l1)=true then(if r2.isEmpty=true then .t [lnV "die" l0,lnV "row" l1]else .int 3)else .int 2:=rfl
   rw[ed]
   clear ed
   have sr:=wf (w:="row") h1;cases hg:rgB (tlen (lnV "die" l0)) (lnV "row" l1)with
   |false=>exact .inl ⟨2,if_neg qF⟩
   |true =>
    rw[if_pos rfl];cases r2 with
    |nil =>
     rcases sr with sr|⟨rs,er,hr⟩
     ·rw[sr]at hg;cases hg
     ·exact .inr ⟨ds,rs,by rw[ee,er];rfl,by omega,hr⟩
    |cons l2 r3=>exact .inl ⟨3,rfl⟩
def GG(a b:List Nat):∀d∈[D.t (N a),D.t (N b)],eqb 19 d=true:=λd hd=>by
 have g:∀l:List Nat,eqb 19 (.t (N l))=true:=λl=>all_eq_true.mpr λd hd=>by obtain⟨n,_,rfl⟩:=W5 hd;rfl
 rcases mem_cons.mp hd with rfl|hd
 ·exact g a
 ·rw[mem_singleton.mp hd];exact g b
def GH{z:Str}(hl:z.length<=1000):yd [.v (.str z)]=.ok (.v (.bl true),O1):=by
 have a:=e_due hl;have b:=e_told hl;rcases zBu hl with⟨i,e⟩|⟨ds,rs,e,h1,h2⟩
 ·rw[e]at a b
  exact zv (zF (z8 (zz (F:=ym) rfl (zB rfl) a) rfl) (zF (z8 (zz (F:=zu) rfl (zB rfl) b) rfl) (zF (yC (t_E (x_is (zB rfl) rfl rfl)) yD) (zZ (zw (G0 (zz (F:=yF) rfl (zB rfl) (YF i)) (zY (zB rfl) (zB rfl) (show eqG (.int i) (.int i)=some (.v (.bl true))by rw[eq_int];simp)))))))) rfl
 ·rw[e]at a b
  have q:=eq_tups (GG ds rs) (GG ds rs);rw[deqs_refl 19 _ (GG ds rs)]at q;have ad:vB (.t (N ds)) (.t (N rs))=some (.v (.t (N ds++N rs))):=by
   show(if(N ds).length+(N rs).length<=cap then _ else _)=_
   rw[if_pos (by rw[wR,wR];simp only[cap];omega)]
  have al:dE YB (.cB .all (.cons (.comp 1 ["_law_one"] [] [] (.iT (.bin .add (.ix (.var 2) (.c (.int 0))) (.ix (.var 2) (.c (.int 1))))) (.n 0) .tTr (.call 0 (.ev (.var 0) .nil))) .nil)) [.v (.str z),.v (.t [.t (N ds),.t (N rs)]),.v (.t [.t (N ds),.t (N rs)])]=.ok (.v (.bl true),[.v (.str z),.v (.t [.t (N ds),.t (N rs)]),.v (.t [.t (N ds),.t (N rs)])]) :=
   jv (zA (JY (vs:=[]) (λd=>.bl ((λ_=>true) d)) (i_T (jF (uU (r2:=.v (.int 0)) (r:=.v (.t (N ds))) (zB rfl) x_c rfl) (uU (r2:=.v (.int 1)) (r:=.v (.t (N rs))) (zB rfl) x_c rfl) ad) rfl) rfl (λd hd=>by
    rcases mem_append.mp hd with hd|hd
    ·obtain⟨n,_,rfl⟩:=W5 hd;exact⟨_,zz (F:=yF) rfl (zB rfl) (YF _),rfl⟩
    ·obtain⟨n,_,rfl⟩:=W5 hd;exact⟨_,zz (F:=yF) rfl (zB rfl) (YF _),rfl⟩) (by rw[length_append,wR,wR];simp only[cap];omega) rfl) zR) (G3 (f:=λ_=>true) (b:=true) (all_eq_true.mpr λ_ _=>rfl))
  exact zv (zF (z8 (zz (F:=ym) rfl (zB rfl) a) rfl) (zF (z8 (zz (F:=zu) rfl (zB rfl) b) rfl) (wJ (yw (t_E (x_is (zB rfl) rfl rfl)) (zZ (zw (G0 (x_is (zB rfl) rfl rfl) (G0 (zY (zB rfl) (zB rfl) q) al)))))))) rfl
section
variable{fs:List FI}{E E1 E2:zQ}
def zDZ{k i:Nat}{a:_}{F:MF}{r r':R}{s0:DV.Slot}{p p':List D}{o:DV.Slot}(h0:fiF fs k=F)(hs:E[i]?=some s0)(hs':wQ (some s0)=false)(h1:dE fs a E=.ok (r,E1))(hE:E1[i]?=some (.par p))(h2:F [.par p,.v r.d]=.ok (r',[.par p',o]))(h3:E1.set i (.par p')=E2):dE fs (.call k (.lend i (.ev a .nil))) E=.ok (r',E2):=by
 subst h0 h3;have hi:i<E1.length:=(qG.mp hE).1;have hs1:(E1.set i .e)[i]?=some .e:=by simp[hi]
 simp only[yi,Y0,Zj,jt,jK,zy,hs,hs',Bool.false_eq_true,if_false,h1,zN,hE,Slot.list?,h2,zM,hs1,Slot.put,set_set]
def x_ixOa{i:Nat}{b:_}{ds ds0:List D}{k:Int}{d:D}(h0:E[i]?=some (.own ds0))(h1:dE fs b E=.ok (.v (.int k),E1))(h:E1[i]?=some (.own ds))(hx:atI ds k=some d):dE fs (.ixO i b) E=.ok (.v d,E1):=by
 simp only[vt,zCh,h0,wQ,Bool.false_eq_true,if_false,h1,h,ixS,hx]
def x_call0{k:Nat}{F:MF}{r:R}(h0:fiF fs k=F)(h2:F []=.ok (r,[])):dE fs (.call0 k) E=.ok (r,E):=by
 subst h0;simp only[zDA,jK,zy,zN,h2,zM]
def x_slT{a:_}{l h:_}{z:Str}{lo hi:Option Int}{E3:zQ}(h1:dE fs a E=.ok (.v (.str z),E1))(h2:dO fs l E1=.ok (lo,E2))(h3:dO fs h E2=.ok (hi,E3))(hz:z.length<=1000):dE fs (.slT a l h) E=.ok (.v (.str (Txt.slice z lo hi)),E3):=by
 simp only[rE_slT,eSl,h1,h2,h3,R.d,slTD];rw[if_pos (ZF hz)]
def zBv{a b:_}{r1 r2 r:R}(h1:dE fs a E=.ok (r1,E1))(h2:dE fs b E1=.ok (r2,E2))(h3:Zi r1.d r2.d=some r):dE fs (.mulT a b) E=.ok (r,E2):=by simp only[rE_mulT,JB,h1,h2,h3]
def a_rp{i:Nat}{c0 c1 c2 z:Str}{as:_}{rs:List R}(h:E[i]?=some (.v (.str z)))(h1:dA fs as E=.ok (rs,E1))(hz:z.length<=1000/\c0.length<=1000/\c2.length<=1000/\(c1==c2)=false):dA fs (.rp i c0 c1 c2 as) E=.ok (.v (.str (z++c0))::.v (.str (Txt.replace z c1 c2))::rs,E1):=by
 simp only[rA_rp,aRp,h,h1];rw[if_pos hz]
end
def jV(x y:Str):(x++y).length=x.length+y.length:=by
 show(x.cps++y.cps).size=x.cps.size+y.cps.size
 simp
def zBw{ts:List Str}{r:Int}(h0:0<=r)(h:r<ts.length):∃x,x∈ts/\atI (ts.map D.str) r=some (.str x):=by
 obtain⟨n,rfl⟩:=Int.eq_ofNat_of_zero_le h0;have hn:n<ts.length:=by omega
 refine⟨ts[n],getElem_mem hn,?_⟩;have:(n:Int)<((ts.map D.str).length:Nat):=by rw[length_map];omega
 simp only[atI,ixN];rw[if_pos h0,if_pos this];simp[hn]
def zDa{ds:List D}{r:Int}{d:D}(h:atI ds r=some d):ixD (.l ds) (.int r)=some (.v d):=by simp only[ixD,h,Option.map_some]
def wv:List Str:=((" !#$&'()*+,-./0123456789:;<=>?@ABCDEFGHIJKLMNOPQRSTUVWXYZ[]^_`abcdefghijklmnopqrstuvwxyz{|}~":Str)++("\"\\":Str)).cps.toList.map λc=>sg c
def vA:wv.length=94:=by decide +kernel
def zEV:∀x∈wv,x.length=1:=λx hx=>by
 obtain⟨c,_,rfl⟩:=mem_map.mp hx;rfl
def e_signs:yl []=.ok (.own (wv.map D.str),[]):=by
 have c:=yn (x:=" !#$&'()*+,-./0123456789:;<=>?@ABCDEFGHIJKLMNOPQRSTUVWXYZ[]^_`abcdefghijklmnopqrstuvwxyz{|}~") (y:="\"\\") (by decide +kernel)
 have e:DV.zA4 [.str ((" !#$&'()*+,-./0123456789:;<=>?@ABCDEFGHIJKLMNOPQRSTUVWXYZ[]^_`abcdefghijklmnopqrstuvwxyz{|}~":Str)++("\"\\":Str))]=some (.own (wv.map D.str)):=by
  simp only[DV.zA4];rw[if_pos (ZF (by decide +kernel))];unfold wv DV.sgD;rw[List.map_map];rfl
 exact zv (zF (z8 x_c rfl) (zZ (zw (jv (zA (YE (zB rfl) x_c c) zR) e)))) rfl
theorem YG(c B:Nat):∀ws:List Str,(∀x∈ws,x.length<=B)->(Str.join (sg c) ws).length<=(B+1)*ws.length
 | [],_=>by show 0<=_;omega| [x],h=>by have:=h x qE;show x.length<=(B+1)*1;omega
 |x::y::r,h=>by
  have h1:=h x qE;have h2:=YG c B (y::r) λs hs=>h s (qD _ hs)
  have e:=congrArg length (u9 c x y r);simp only[length_append,length_cons,Array.length_toList]at e;simp only[Str.length,length_cons,Nat.mul_add,Nat.mul_one]at *;omega
def joinT{c:Nat}{ws:List Str}{B:Nat}(h:∀x∈ws,x.length<=B)(hl:(B+1)*ws.length<=10000):WC (.str (sg c)) (.l (ws.map D.str))=some (.v (.str (Str.join (sg c) ws))):=by
 have ok:JoinOk (sg c) ws=true:=by
  unfold JoinOk;have e:(sg c).length=1:=rfl;rw[StrLaws.joinFits (sep:=sg c) (texts:=ws) (B:=B) h (by rw[e,mul_comm];simp only[Nat.add_mul,Nat.one_mul]at hl;omega)];rfl
 rw[G6 ok];congr 3;exact StrLaws.glued_eq_join _ _
def sl_strs(ts:List Str)(lo hi:Option Int):∃us:List Str,slD (.l (ts.map D.str)) lo hi=some (.own (us.map D.str))/\us.length<=ts.length/\∀x∈us,x∈ts:=by
 refine⟨(ts.drop (HT.sIx (ts.map D.str).length 0 lo)).take (HT.sIx (ts.map D.str).length (ts.map D.str).length hi-HT.sIx (ts.map D.str).length 0 lo),?_,by rw[length_take,length_drop];omega,λx hx=>mem_of_mem_drop (List.mem_of_mem_take hx)⟩;show some (R.own (WS (ts.map D.str) lo hi))=_;unfold WS;rw[map_take,map_drop]
def sl_tk(ts:List Str){n:Nat}(h:n<=ts.length):slD (.l (ts.map D.str)) none (some (n:Int))=some (.own ((ts.take n).map D.str)):=by
 show some (R.own (WS (ts.map D.str) none (some (n:Int))))=_
 rw[cut_to _ n (by rw[length_map];exact h),map_take]
def sl_dr(ts:List Str){n:Nat}(h:n<=ts.length):slD (.l (ts.map D.str)) (some (n:Int)) none=some (.own ((ts.drop n).map D.str)):=by
 show some (R.own (WS (ts.map D.str) (some (n:Int)) none))=_
 rw[zDP _ n (by rw[length_map];exact h),map_drop]
theorem zBx(c:Nat):∀l:List Nat,(StrLaws.dbl c l).length<=2*l.length
 | []=>by simp[StrLaws.dbl]
 |k::r=>by
  have:=zBx c r;unfold StrLaws.dbl;split<;>simp only[length_cons]<;>omega
def rep_len(z:Str):(Txt.replace z " " "  ").length<=2*z.length:=by
 have e1:((" ":String):Str)=⟨#[32]⟩:=by decide +kernel
 have e2:(("  ":String):Str)=⟨#[32,32]⟩:=by decide +kernel
 rw[e1,e2];have:=congrArg length (StrLaws.replace_double z 32);have h:=zBx 32 z.cps.toList;rw[<- this]at h;simpa[Str.length]using h
def yb:List Str:=["","0","00","-1","+1","1.0","1","2","3","9","10",("1":Str)++zB2 "0" 19,zB2 "1" 21,"01","die","row"]
def zBy:∀x∈yb,x.length<=21:=by
 have:yb.all (λx=>decide (x.length<=21))=true:=by decide +kernel
 intro x hx;exact of_decide_eq_true (all_eq_true.mp this x hx)
def mul19:Zi (.str "0") (.int 19)=some (.v (.str (zB2 "0" 19))):=by
 simp only[Zi];rw[if_pos (by decide +kernel)];rfl
def mul21:Zi (.str "1") (.int 21)=some (.v (.str (zB2 "1" 21))):=by
 simp only[Zi];rw[if_pos (by decide +kernel)];rfl
def odd_lst{fs:List FI}{E:zQ}:dE fs (.l (.cons (.c (.str "")) (.cons (.c (.str "0")) (.cons (.c (.str "00")) (.cons (.c (.str "-1")) (.cons (.c (.str "+1")) (.cons (.c (.str "1.0")) (.cons (.c (.str "1")) (.cons (.c (.str "2")) (.cons (.c (.str "3")) (.cons (.c (.str "9")) (.cons (.c (.str "10")) (.cons (.cat (.c (.str "1")) (.mulT (.c (.str "0")) (.c (.int 19)))) (.cons (.mulT (.c (.str "1")) (.c (.int 21))) (.cons (.c (.str "01")) (.cons (.c (.str "die")) (.cons (.c (.str "row")) .nil))))))))))))))))) E=.ok (.own (yb.map D.str),E) :=
 jQ (zA x_c (zA x_c (zA x_c (zA x_c (zA x_c (zA x_c (zA x_c (zA x_c (zA x_c (zA x_c (zA x_c (zA (YE x_c (zBv x_c x_c mul19) (yn (by decide +kernel))) (zA (zBv x_c x_c mul21) (zA x_c (zA x_c (zA x_c zR)))))))))))))))) rfl (by simp[yb,cap])
structure Ln(z:Str)(ws:List Str):Prop where
 sp:Txt.split z (sg 32)=ws
 len:z.length<=84
 n:1<=ws.length/\ws.length<=21
 w:∀x∈ws,x.length<=3
abbrev E11(a b c d e f g h i j k:DV.Slot):zQ:=[a,b,c,d,e,f,g,h,i,j,k]
def sl_le(z:Str)(lo hi:Option Int):(Txt.slice z lo hi).length<=z.length:=Txt.slice_le z lo hi
def ye{fs:List FI}{E E1:zQ}{s b:_}{o:Out (Fl×zQ)}(h1:dS fs s E=.ok (.nx,E1))(h2:dB fs b E1=o):dB fs (.bSeq s b) E=o:=by
 subst h2;simp only[wD,GT,h1]
def lt_11(r:Int):ltD (.int r) (.int 11)=some (.v (.bl (decide (r<11)))):=rfl
def zBz{z:Str}{ws:List Str}(L:Ln z ws)(p:List D)(hp:Pen p):∃x p',y6 [.par p,.v (.str z)]=.ok (.v (.str x),[.par p',.e])/\Pen p'/\x.length<=484:=by
 have hz:=L.len;have n1:=L.n.1;have n21:=L.n.2;have sp:jr (.str z) (.str " ")=some (.own (ws.map D.str)):=by rw[sg32,we rfl (by omega),L.sp]
 obtain⟨r1,p1,e1,l1,u1,hp1⟩:=zS p hp (ws.length:Nat) (by omega) (by omega);obtain⟨k1,rfl⟩:=Int.eq_ofNat_of_zero_le l1;have hk:k1<ws.length:=by omega
 obtain⟨r2,p2,e2,l2,u2,hp2⟩:=zS p1 hp1 94 (by omega) (by omega);obtain⟨g1,gm1,gx1⟩:=zBw (ts:=wv) l2 (by rw[vA];exact u2);obtain⟨r3,p3,e3,l3,u3,hp3⟩:=zS p2 hp2 17 (by omega) (by omega);obtain⟨w1,wm1,wx1⟩:=zBw (ts:=yb++[g1]) l3 (by simpa[yb]using u3);obtain⟨r4,p4,e4,l4,u4,hp4⟩:=zS p3 hp3 ((z.length+1:Nat):Int) (by omega) (by omega);obtain⟨r5,p5,e5,l5,u5,hp5⟩:=zS p4 hp4 94 (by omega) (by omega);obtain⟨g2,gm2,gx2⟩:=zBw (ts:=wv) l5 (by rw[vA];exact u5);obtain⟨r6,p6,e6,l6,u6,hp6⟩:=zS p5 hp5 16 (by omega) (by omega);have c1:=sl_tk ws (n:=k1) (by omega);have c2:=sl_dr ws (n:=k1+1) (by omega);obtain⟨xs,c3,cl3,cm3⟩:=sl_strs ws none (some (-1));have hw1:w1.length<=21:=by
  rcases mem_append.mp wm1 with h|h
  ·exact zBy _ h
  ·rw[mem_singleton.mp h,zEV g1 gm1];omega
 have hg2:g2.length=1:=zEV g2 gm2;have a1:vB (.l ((ws.take k1).map D.str)) (.l [.str w1])=some (.own ((ws.take k1++[w1]).map D.str)):=by
  rw[JZ _ _ (by simp;omega),map_append];rfl
 have a2:vB (.l ((ws.take k1++[w1]).map D.str)) (.l ((ws.drop (k1+1)).map D.str))=some (.own ((ws.take k1++[w1]++ws.drop (k1+1)).map D.str)):=by
  rw[JZ _ _ (by simp;omega),map_append (l₁:=ws.take k1++[w1])]
 have ons:(ws.take k1++[w1]++ws.drop (k1+1)).length=ws.length:=by
  simp only[length_append,length_take,length_drop,length_cons,length_nil];omega
 have onw:∀x∈ws.take k1++[w1]++ws.drop (k1+1),x.length<=21:=λx hx=>by
  simp only[mem_append,mem_singleton]at hx;rcases hx with(hx|rfl)|hx
  ·have:=L.w x (List.mem_of_mem_take hx);omega
  ·exact hw1
  ·have:=L.w x (mem_of_mem_drop hx);omega
 have jo:=joinT (c:=32) onw (by rw[ons];omega);have jl:=YG 32 21 _ onw;rw[ons]at jl;generalize ws.take k1++[w1]++ws.drop (k1+1)=one at *;have xw:∀x∈xs,x.length<=3:=λx hx=>L.w x (cm3 x hx)
 have jx:=joinT (c:=32) xw (by omega);have jxl:=YG 32 3 _ xw
 -- eleven texts
 have b1:=sl_le z none (some r4);have b2:=sl_le z (some r4) none;have b3:=sl_le z (some (r4+1)) none;have b4:=rep_len z;generalize hs1:Txt.slice z none (some r4)=y1 at b1;generalize hs2:Txt.slice z (some r4) none=y2 at b2;generalize hs3:Txt.slice z (some (r4+1)) none=y3 at b3;generalize hs4:Txt.replace z " " "  "=y4 at b4;have lb:(" ":Str).length=1:=by decide +kernel
 have lb0:(" 0":Str).length=2:=by decide +kernel
 have l0:("0":Str).length=1:=by decide +kernel
 have lb2:(" 2":Str).length=2:=by decide +kernel
 have q1:(y1++g2).length=y1.length+g2.length:=jV _ _
 let uS:List Str:=[y1++g2++y2,y1++y3,y1++g2++y3,""," "++z]
 let six:List Str:=[z++" ",y4,Str.join (sg 32) xs,z++" 0",z++"0",z++" 2"]
 have h11:∀x∈uS++six,x.length<=484:=by
  intro x hx;simp only[uS,six,cons_append,nil_append,mem_cons,mem_nil_iff,or_false]at hx;rcases hx with rfl|rfl|rfl|rfl|rfl|rfl|rfl|rfl|rfl|rfl|rfl
  ·rw[jV,jV];omega
  ·rw[jV];omega
  ·rw[jV,jV];omega
  ·show 0<=484;omega
  ·rw[jV];omega
  ·rw[jV];omega
  ·omega
  ·omega
  ·rw[jV];omega
  ·rw[jV];omega
  ·rw[jV];omega
 let B:zQ:=E11 (.par p) (.v (.str z)) .e .e .e .e .e .e .e .e .e
 have s2:dS zG (.sSet 2 (.spl (.var 1) (.c (.str " ")))) B=.ok (.nx,E11 (.par p) (.v (.str z)) (.own (ws.map D.str)) .e .e .e .e .e .e .e .e):=z8 (Qd (zB rfl) x_c sp) rfl;have ll:Bi.f .len [.l (ws.map D.str)]=some (.v (.int (ws.length:Nat))):=by
  show some (R.v (D.int ((ws.map D.str).length:Nat)))=_
  rw[length_map]
 have s3:dS zG (.sSet 3 (.call 0 (.lend 0 (.ev (.cB .len (.cons (.var 2) .nil)) .nil)))) (E11 (.par p) (.v (.str z)) (.own (ws.map D.str)) .e .e .e .e .e .e .e .e)=.ok (.nx,E11 (.par p1) (.v (.str z)) (.v (.l (ws.map D.str))) (.v (.int (k1:Nat))) .e .e .e .e .e .e .e) :=
  z8 (zDZ (F:=zE) rfl rfl rfl (jv (zA (jH rfl rfl) zR) ll) rfl e1 rfl) rfl
 have s4:dS zG (.sSet 4 (.call0 1)) (E11 (.par p1) (.v (.str z)) (.v (.l (ws.map D.str))) (.v (.int (k1:Nat))) .e .e .e .e .e .e .e)=.ok (.nx,E11 (.par p1) (.v (.str z)) (.v (.l (ws.map D.str))) (.v (.int (k1:Nat))) (.own (wv.map D.str)) .e .e .e .e .e .e):=z8 (x_call0 (F:=yl) rfl e_signs) rfl;have sl:Bi.f .len [.l (wv.map D.str)]=some (.v (.int 94)):=by
  show some (R.v (D.int ((wv.map D.str).length:Nat)))=_
  rw[length_map,vA];rfl
 have s6:dS zG (.sApp 5 (.ix (.var 4) (.call 0 (.lend 0 (.ev (.cB .len (.cons (.var 4) .nil)) .nil))))) (E11 (.par p1) (.v (.str z)) (.v (.l (ws.map D.str))) (.v (.int (k1:Nat))) (.own (wv.map D.str)) (.own (yb.map D.str)) .e .e .e .e .e)=.ok (.nx,E11 (.par p2) (.v (.str z)) (.v (.l (ws.map D.str))) (.v (.int (k1:Nat))) (.v (.l (wv.map D.str))) (.own ((yb++[g1]).map D.str)) .e .e .e .e .e) :=
  s_app (E1:=E11 (.par p2) (.v (.str z)) (.v (.l (ws.map D.str))) (.v (.int (k1:Nat))) (.v (.l (wv.map D.str))) (.own (yb.map D.str)) .e .e .e .e .e) rfl (uU (jH rfl rfl) (zm (F:=zE) rfl rfl (jv (zA (zB rfl) zR) sl) e2 rfl) (zDa gx1)) rfl (by simp[yb,cap]) rfl
 have s7:dS zG (.sSet 6 (.bin .add (.bin .add (.sl (.var 2) .oN (.oS (.var 3))) (.l (.cons (.ixO 5 (.call 0 (.lend 0 (.ev (.c (.int 17)) .nil)))) .nil))) (.sl (.var 2) (.oS (.bin .add (.var 3) (.c (.int 1)))) .oN))) (E11 (.par p2) (.v (.str z)) (.v (.l (ws.map D.str))) (.v (.int (k1:Nat))) (.v (.l (wv.map D.str))) (.own ((yb++[g1]).map D.str)) .e .e .e .e .e)=.ok (.nx,E11 (.par p3) (.v (.str z)) (.v (.l (ws.map D.str))) (.v (.int (k1:Nat))) (.v (.l (wv.map D.str))) (.own ((yb++[g1]).map D.str)) (.own (one.map D.str)) .e .e .e .e) :=
  z8 (jF (jF (zBT (zB rfl) o_N (o_S (zB rfl)) c1) (jQ (zA (x_ixOa rfl (zm (F:=zE) rfl rfl x_c e3 rfl) rfl wx1) zR) rfl JW) a1) (zBT (zB rfl) (o_S (jF (zB rfl) x_c (Yb k1 1))) o_N c2) a2) rfl
 have s8:dS zG (.sSet 7 (.call 0 (.lend 0 (.ev (.bin .add (.cB .lenT (.cons (.var 1) .nil)) (.c (.int 1))) .nil)))) (E11 (.par p3) (.v (.str z)) (.v (.l (ws.map D.str))) (.v (.int (k1:Nat))) (.v (.l (wv.map D.str))) (.own ((yb++[g1]).map D.str)) (.own (one.map D.str)) .e .e .e .e)=.ok (.nx,E11 (.par p4) (.v (.str z)) (.v (.l (ws.map D.str))) (.v (.int (k1:Nat))) (.v (.l (wv.map D.str))) (.own ((yb++[g1]).map D.str)) (.own (one.map D.str)) (.v (.int r4)) .e .e .e) :=
  z8 (zm (F:=zE) rfl rfl (jF (jv (zA (zB rfl) zR) (zBn (by omega))) x_c (Yb z.length 1)) e4 rfl) rfl
 have s9:dS zG (.sSet 8 (.ix (.var 4) (.call 0 (.lend 0 (.ev (.cB .len (.cons (.var 4) .nil)) .nil))))) (E11 (.par p4) (.v (.str z)) (.v (.l (ws.map D.str))) (.v (.int (k1:Nat))) (.v (.l (wv.map D.str))) (.own ((yb++[g1]).map D.str)) (.own (one.map D.str)) (.v (.int r4)) .e .e .e)=.ok (.nx,E11 (.par p5) (.v (.str z)) (.v (.l (ws.map D.str))) (.v (.int (k1:Nat))) (.v (.l (wv.map D.str))) (.own ((yb++[g1]).map D.str)) (.own (one.map D.str)) (.v (.int r4)) (.v (.str g2)) .e .e) :=
  z8 (uU (zB rfl) (zm (F:=zE) rfl rfl (jv (zA (zB rfl) zR) sl) e5 rfl) (zDa gx2)) rfl
 have hz2:z.length<=1000:=by omega
 have z1:dE zG (.slT (.var 1) .oN (.oS (.var 7))) (E11 (.par p5) (.v (.str z)) (.v (.l (ws.map D.str))) (.v (.int (k1:Nat))) (.v (.l (wv.map D.str))) (.own ((yb++[g1]).map D.str)) (.own (one.map D.str)) (.v (.int r4)) (.v (.str g2)) .e .e)=.ok (.v (.str y1),E11 (.par p5) (.v (.str z)) (.v (.l (ws.map D.str))) (.v (.int (k1:Nat))) (.v (.l (wv.map D.str))) (.own ((yb++[g1]).map D.str)) (.own (one.map D.str)) (.v (.int r4)) (.v (.str g2)) .e .e):=by rw[<- hs1];exact x_slT (zB rfl) o_N (o_S (zB rfl)) hz2
 have z2:dE zG (.slT (.var 1) (.oS (.var 7)) .oN) (E11 (.par p5) (.v (.str z)) (.v (.l (ws.map D.str))) (.v (.int (k1:Nat))) (.v (.l (wv.map D.str))) (.own ((yb++[g1]).map D.str)) (.own (one.map D.str)) (.v (.int r4)) (.v (.str g2)) .e .e)=.ok (.v (.str y2),E11 (.par p5) (.v (.str z)) (.v (.l (ws.map D.str))) (.v (.int (k1:Nat))) (.v (.l (wv.map D.str))) (.own ((yb++[g1]).map D.str)) (.own (one.map D.str)) (.v (.int r4)) (.v (.str g2)) .e .e):=by rw[<- hs2];exact x_slT (zB rfl) (o_S (zB rfl)) o_N hz2
 have z3:dE zG (.slT (.var 1) (.oS (.bin .add (.var 7) (.c (.int 1)))) .oN) (E11 (.par p5) (.v (.str z)) (.v (.l (ws.map D.str))) (.v (.int (k1:Nat))) (.v (.l (wv.map D.str))) (.own ((yb++[g1]).map D.str)) (.own (one.map D.str)) (.v (.int r4)) (.v (.str g2)) .e .e)=.ok (.v (.str y3),E11 (.par p5) (.v (.str z)) (.v (.l (ws.map D.str))) (.v (.int (k1:Nat))) (.v (.l (wv.map D.str))) (.own ((yb++[g1]).map D.str)) (.own (one.map D.str)) (.v (.int r4)) (.v (.str g2)) .e .e):=by rw[<- hs3];exact x_slT (zB rfl) (o_S (jF (zB rfl) x_c rfl)) o_N hz2
 have s10:dS zG (.sSet 9 (.l (.cons (.cat (.cat (.slT (.var 1) .oN (.oS (.var 7))) (.var 8)) (.slT (.var 1) (.oS (.var 7)) .oN)) (.cons (.cat (.slT (.var 1) .oN (.oS (.var 7))) (.slT (.var 1) (.oS (.bin .add (.var 7) (.c (.int 1)))) .oN)) (.cons (.cat (.cat (.slT (.var 1) .oN (.oS (.var 7))) (.var 8)) (.slT (.var 1) (.oS (.bin .add (.var 7) (.c (.int 1)))) .oN)) (.cons (.c (.str "")) (.cons (.cat (.c (.str " ")) (.var 1)) .nil))))))) (E11 (.par p5) (.v (.str z)) (.v (.l (ws.map D.str))) (.v (.int (k1:Nat))) (.v (.l (wv.map D.str))) (.own ((yb++[g1]).map D.str)) (.own (one.map D.str)) (.v (.int r4)) (.v (.str g2)) .e .e)=.ok (.nx,E11 (.par p5) (.v (.str z)) (.v (.l (ws.map D.str))) (.v (.int (k1:Nat))) (.v (.l (wv.map D.str))) (.own ((yb++[g1]).map D.str)) (.own (one.map D.str)) (.v (.int r4)) (.v (.str g2)) (.own (uS.map D.str)) .e) :=
  z8 (jQ (zA (YE (YE z1 (zB rfl) (yn (by omega))) z2 (yn (by omega))) (zA (YE z1 z3 (yn (by omega))) (zA (YE (YE z1 (zB rfl) (yn (by omega))) z3 (yn (by omega))) (zA x_c (zA (YE x_c (zB rfl) (yn (by omega))) zR))))) rfl (by simp[cap])) rfl
 have af:vB (.l (uS.map D.str)) (.l (six.map D.str))=some (.own ((uS++six).map D.str)):=by
  rw[JZ _ _ (by simp[uS,six]),<- map_append]
 have rp:dA zG (.rp 1 " " " " "  " (.cons (.joi (.c (.str " ")) (.sl (.var 2) .oN (.oS (.neg (.c (.int 1)))))) (.cons (.cat (.var 1) (.c (.str " 0"))) (.cons (.cat (.var 1) (.c (.str "0"))) (.cons (.cat (.var 1) (.c (.str " 2"))) .nil))))) (E11 (.par p5) (.v (.str z)) (.v (.l (ws.map D.str))) (.v (.int (k1:Nat))) (.v (.l (wv.map D.str))) (.own ((yb++[g1]).map D.str)) (.own (one.map D.str)) (.v (.int r4)) (.v (.str g2)) (.v (.l (uS.map D.str))) .e)=.ok ([.v (.str (z++" ")),.v (.str y4),.v (.str (Str.join (sg 32) xs)),.v (.str (z++" 0")),.v (.str (z++"0")),.v (.str (z++" 2"))],E11 (.par p5) (.v (.str z)) (.v (.l (ws.map D.str))) (.v (.int (k1:Nat))) (.v (.l (wv.map D.str))) (.own ((yb++[g1]).map D.str)) (.own (one.map D.str)) (.v (.int r4)) (.v (.str g2)) (.v (.l (uS.map D.str))) .e):=by
  rw[<- hs4];exact a_rp rfl (zA (zBe x_c (zBT (zB rfl) o_N (o_S (x_neg x_c)) c3) (by rw[sg32];exact jx)) (zA (YE (zB rfl) x_c (yn (by omega))) (zA (YE (zB rfl) x_c (yn (by omega))) (zA (YE (zB rfl) x_c (yn (by omega))) zR)))) ⟨hz2,by decide +kernel,by decide +kernel,by decide +kernel⟩
 have s11:dS zG (.sSet 9 (.bin .add (.var 9) (.l (.rp 1 " " " " "  " (.cons (.joi (.c (.str " ")) (.sl (.var 2) .oN (.oS (.neg (.c (.int 1)))))) (.cons (.cat (.var 1) (.c (.str " 0"))) (.cons (.cat (.var 1) (.c (.str "0"))) (.cons (.cat (.var 1) (.c (.str " 2"))) .nil)))))))) (E11 (.par p5) (.v (.str z)) (.v (.l (ws.map D.str))) (.v (.int (k1:Nat))) (.v (.l (wv.map D.str))) (.own ((yb++[g1]).map D.str)) (.own (one.map D.str)) (.v (.int r4)) (.v (.str g2)) (.own (uS.map D.str)) .e)=.ok (.nx,E11 (.par p5) (.v (.str z)) (.v (.l (ws.map D.str))) (.v (.int (k1:Nat))) (.v (.l (wv.map D.str))) (.own ((yb++[g1]).map D.str)) (.own (one.map D.str)) (.v (.int r4)) (.v (.str g2)) (.own ((uS++six).map D.str)) .e) :=
  z8 (jF (jH rfl rfl) (jQ rp rfl (by simp[cap])) af) rfl
 have s12:dS zG (.sSet 10 (.call 0 (.lend 0 (.ev (.c (.int 16)) .nil)))) (E11 (.par p5) (.v (.str z)) (.v (.l (ws.map D.str))) (.v (.int (k1:Nat))) (.v (.l (wv.map D.str))) (.own ((yb++[g1]).map D.str)) (.own (one.map D.str)) (.v (.int r4)) (.v (.str g2)) (.own ((uS++six).map D.str)) .e)=.ok (.nx,E11 (.par p6) (.v (.str z)) (.v (.l (ws.map D.str))) (.v (.int (k1:Nat))) (.v (.l (wv.map D.str))) (.own ((yb++[g1]).map D.str)) (.own (one.map D.str)) (.v (.int r4)) (.v (.str g2)) (.own ((uS++six).map D.str)) (.v (.int r6))) :=
  z8 (zm (F:=zE) rfl rfl x_c e6 rfl) rfl
 have lt:=lt_11 r6;have go:∀o,dB zG (.bSeq (.sIf (.tE (.cmp .lt (.var 10) (.c (.int 11)))) (.bOne (.sRet (.ix (.var 9) (.var 10)))) .bNil) (.bOne (.sRet (.joi (.c (.str " ")) (.var 6))))) (E11 (.par p6) (.v (.str z)) (.v (.l (ws.map D.str))) (.v (.int (k1:Nat))) (.v (.l (wv.map D.str))) (.own ((yb++[g1]).map D.str)) (.own (one.map D.str)) (.v (.int r4)) (.v (.str g2)) (.own ((uS++six).map D.str)) (.v (.int r6)))=o->dB zG jk B=o:=λo h =>
  ye s2 (ye s3 (ye s4 (ye (z8 (i:=5) odd_lst rfl) (ye s6 (ye s7 (ye s8 (ye s9 (ye s10 (ye s11 (ye s12 h))))))))))
 by_cases hr:r6<11
 ·rw[decide_eq_true hr]at lt
  obtain⟨x,hx,ex⟩:=zBw (ts:=uS++six) l6 (by simpa[uS,six]using hr);exact⟨x,p6,zv (go _ (wJ (yw (t_E (zY (zB rfl) x_c lt)) (zZ (zw (uU (jH rfl rfl) (zB rfl) (zDa ex))))))) rfl,hp6,h11 x hx⟩
 ·rw[decide_eq_false hr]at lt
  exact⟨_,p6,zv (go _ (zF (yC (t_E (zY (zB rfl) x_c lt)) yD) (zZ (zw (zBe x_c (jH rfl rfl) (by rw[sg32];exact jo)))))) rfl,hp6,by omega⟩
def Short(ts:List Str):Prop:=∃B,(∀x∈ts,x.length<=B)/\(B+1)*ts.length<=1000
abbrev E4(a b c d:DV.Slot):zQ:=[a,b,c,d]
def eq_k(r:Int)(k:Int):eqG (.int r) (.int k)=some (.v (.bl (decide (r=k)))):=eq_int r k
def e_wrong{x y:Str}{wx wy:List Str}(Lx:Ln x wx)(Ly:Ln y wy)(p:List D)(hp:Pen p):∃ts p',jc [.par p,.v (.l ([x,y].map D.str))]=.ok (.own (ts.map D.str),[.par p',.e])/\Pen p'/\Short ts:=by
 obtain⟨r1,p1,e1,l1,u1,hp1⟩:=zS p hp 2 (by omega) (by omega);obtain⟨k,rfl⟩:=Int.eq_ofNat_of_zero_le l1;have hk:k<2:=by omega
 obtain⟨r2,p2,e2,l2,u2,hp2⟩:=zS p1 hp1 8 (by omega) (by omega);have xy:∀s∈[x,y],s.length<=84:=λs hs=>by
  rcases mem_cons.mp hs with rfl|hs
  ·exact Lx.len
  ·rw[mem_singleton.mp hs];exact Ly.len
 have c1:=sl_tk [x,y] (n:=k) (by simp;omega);have c2:=sl_dr [x,y] (n:=k+1) (by simp;omega);have c3:=sl_tk [x,y] (n:=k+1) (by simp;omega);have c4:=sl_dr [x,y] (n:=k) (by simp;omega);have ll:Bi.f .len [.l ([x,y].map D.str)]=some (.v (.int 2)):=rfl;have s1:dS wI (.sSet 2 (.call 1 (.lend 0 (.ev (.cB .len (.cons (.var 1) .nil)) .nil)))) (E4 (.par p) (.v (.l ([x,y].map D.str))) .e .e)=.ok (.nx,E4 (.par p1) (.v (.l ([x,y].map D.str))) (.v (.int (k:Nat))) .e):=z8 (zm (F:=zE) rfl rfl (jv (zA (zB rfl) zR) ll) e1 rfl) rfl;have s2:dS wI (.sSet 3 (.call 1 (.lend 0 (.ev (.c (.int 8)) .nil)))) (E4 (.par p1) (.v (.l ([x,y].map D.str))) (.v (.int (k:Nat))) .e)=.ok (.nx,E4 (.par p2) (.v (.l ([x,y].map D.str))) (.v (.int (k:Nat))) (.v (.int r2))):=z8 (zm (F:=zE) rfl rfl x_c e2 rfl) rfl;have q0:=eq_k r2 0;have q1:=eq_k r2 1;have q2:=eq_k r2 2;have q3:=eq_k r2 3;have h84:∀{ts:List Str},(∀s∈ts,s∈[x,y])->ts.length<=3->Short ts:=λ{ts} h hl=>⟨84,λs hs=>xy s (h s hs),by omega⟩
 have w1:=Yb k 1;have ap:∀a b:List Str,a.length+b.length<=1000->vB (.l (a.map D.str)) (.l (b.map D.str))=some (.own ((a++b).map D.str)):=λa b h=>by
  rw[JZ _ _ (by simp;omega),<- map_append]
 have tl:∀n,([x,y].take n).length<=2/\([x,y].drop n).length<=2:=λn=>by
  rw[length_take,length_drop];simp only[length_cons,length_nil];omega
 have mt:∀n,∀s∈[x,y].take n,s∈[x,y]:=λn s h=>List.mem_of_mem_take h
 have md:∀n,∀s∈[x,y].drop n,s∈[x,y]:=λn s h=>mem_of_mem_drop h
 by_cases h0:r2=0
 ·rw[decide_eq_true h0]at q0
  refine⟨[x,y].take k++[x,y].drop (k+1),p2,zv (zF s1 (zF s2 (wJ (yw (t_E (zY (zB rfl) x_c q0)) (zZ (zw (jF (zBT (zB rfl) o_N (o_S (zB rfl)) c1) (zBT (zB rfl) (o_S (jF (zB rfl) x_c w1)) o_N c2) (ap _ _ (by have:=(tl k).1;have:=(tl (k+1)).2;omega)))))))))  rfl,hp2,h84 (λs hs=>?_) ?_⟩
  ·rcases mem_append.mp hs with h|h
   ·exact mt _ s h
   ·exact md _ s h
  ·rw[length_append,length_take,length_drop];simp only[length_cons,length_nil];omega
 rw[decide_eq_false h0]at q0;by_cases h1:r2=1
 ·rw[decide_eq_true h1]at q1
  refine⟨[x,y].take (k+1)++[x,y].drop k,p2,zv (zF s1 (zF s2 (zF (yC (t_E (zY (zB rfl) x_c q0)) yD) (wJ (yw (t_E (zY (zB rfl) x_c q1)) (zZ (zw (jF (zBT (zB rfl) o_N (o_S (jF (zB rfl) x_c w1)) c3) (zBT (zB rfl) (o_S (zB rfl)) o_N c4) (ap _ _ (by have:=(tl (k+1)).1;have:=(tl k).2;omega)))))))))) rfl,hp2,h84 (λs hs=>?_) ?_⟩
  ·rcases mem_append.mp hs with h|h
   ·exact mt _ s h
   ·exact md _ s h
  ·rw[length_append,length_take,length_drop];simp only[length_cons,length_nil];omega
 rw[decide_eq_false h1]at q1;by_cases h2:r2=2
 ·rw[decide_eq_true h2]at q2
  refine⟨[y,x],p2,zv (zF s1 (zF s2 (zF (yC (t_E (zY (zB rfl) x_c q0)) yD) (zF (yC (t_E (zY (zB rfl) x_c q1)) yD) (wJ (yw (t_E (zY (zB rfl) x_c q2)) (zZ (zw (x_stp (zB rfl) rfl))))))))) rfl,hp2,h84 (λs hs=>?_) (by simp)⟩;simp only[mem_cons,mem_nil_iff,or_false]at hs ⊢;exact hs.symm
 rw[decide_eq_false h2]at q2;by_cases h3:r2=3
 ·rw[decide_eq_true h3]at q3
  obtain⟨r4,p4,e4,l4,u4,hp4⟩:=zS p2 hp2 4 (by omega) (by omega);obtain⟨w,wm,wx⟩:=zBw (ts:=["row 0","","die 1 1","row"]) l4 (by simpa using u4);have wl:w.length<=84:=by
   have:(["row 0","","die 1 1","row"]:List Str).all (λx=>decide (x.length<=84))=true:=by decide +kernel
   exact of_decide_eq_true (all_eq_true.mp this w wm)
  refine⟨[x,y]++[w],p4,zv (zF s1 (zF s2 (zF (yC (t_E (zY (zB rfl) x_c q0)) yD) (zF (yC (t_E (zY (zB rfl) x_c q1)) yD) (zF (yC (t_E (zY (zB rfl) x_c q2)) yD) (wJ (yw (t_E (zY (zB rfl) x_c q3)) (zZ (zw (jF (zB rfl) (jQ (zA (uU (jQ (ds:=(["row 0","","die 1 1","row"]:List Str).map D.str) (zA x_c (zA x_c (zA x_c (zA x_c zR)))) rfl (by simp[cap])) (zm (F:=zE) rfl rfl x_c e4 rfl) (zDa wx)) zR) rfl JW) (ap [x,y] [w] (by simp))))))))))))  rfl,hp4,84,λs hs=>?_,by simp⟩;rcases mem_append.mp hs with h|h
  ·exact xy s h
  ·rw[mem_singleton.mp h];exact wl
 rw[decide_eq_false h3]at q3;have od:∃l w,[x,y][k]?=some l/\Ln l w:=by
  rcases(show k=0\/k=1 by omega)with rfl|rfl
  ·exact⟨x,wx,rfl,Lx⟩
  ·exact⟨y,wy,rfl,Ly⟩
 obtain⟨l,w,gl,Ll⟩:=od;have gx:ixD (.l ([x,y].map D.str)) (.int (k:Nat))=some (.v (.str l)):=by
  rcases(show k=0\/k=1 by omega)with rfl|rfl
  ·cases gl;rfl
  ·cases gl;rfl
 obtain⟨o,p5,e5,hp5,ol⟩:=zBz Ll p2 hp2;refine⟨[x,y].take k++[o]++[x,y].drop (k+1),p5,zv (zF s1 (zF s2 (zF (yC (t_E (zY (zB rfl) x_c q0)) yD) (zF (yC (t_E (zY (zB rfl) x_c q1)) yD) (zF (yC (t_E (zY (zB rfl) x_c q2)) yD) (zF (yC (t_E (zY (zB rfl) x_c q3)) yD) (zZ (zw (jF (jF (zBT (zB rfl) o_N (o_S (zB rfl)) c1) (jQ (zA (zm (F:=y6) rfl rfl (uU (zB rfl) (zB rfl) gx) e5 rfl) zR) rfl JW) (ap _ [o] (by have:=(tl k).1;simp only[length_cons,length_nil];omega))) (zBT (zB rfl) (o_S (jF (zB rfl) x_c w1)) o_N c2) (ap (_++[o]) _ (by have:=(tl k).1;have:=(tl (k+1)).2;simp only[length_append,length_cons,length_nil];omega)))))))))))  rfl,hp5,484,λs hs=>?_,?_⟩
 ·simp only[mem_append,mem_singleton]at hs
  rcases hs with(h|rfl)|h
  ·exact le_trans (xy s (mt _ s h)) (by omega)
  ·exact ol
  ·exact le_trans (xy s (md _ s h)) (by omega)
 ·have:([x,y].take k++[o]++[x,y].drop (k+1)).length=2:=by
   rw[length_append,length_append,length_take,length_drop];simp only[length_cons,length_nil];omega
  rw[this];omega
def zDb{fs:List FI}{E E1:zQ}{k i:Nat}{F:MF}{r':R}{p p':List D}(h0:fiF fs k=F)(hE:E[i]?=some (.own p))(h2:F [.par p]=.ok (r',[.par p']))(h3:E.set i (.own p')=E1):dE fs (.call k (.lend i .nil)) E=.ok (r',E1):=by
 subst h0 h3;have hi:i<E.length:=(qG.mp hE).1;have hs:(E.set i .e)[i]?=some .e:=by simp[hi]
 simp only[yi,Zj,jt,jK,zy,hE,wQ,Bool.false_eq_true,if_false,zN,Slot.list?,h2,zM,hs,Slot.put,set_set]
def P6:List D:=[.non,.int 0,.bl true,.l [.str "die 1 1"],.t [.str "die 1 1",.str "row"],.dic]
def Qh{d:D}{t:String}(h1:tyD d=some t)(h2:Wo t Ty.str.s=false):zu [.v d]=.ok (.v (.int 0),O1) :=
 Z4 (o:=[.e]) (uH (zBY (yw (yu (t_E (x_is (zB rfl) h1 h2)) rfl) (zZ (rs 0 (by decide))))) rfl)
def P6_told:∀d∈P6,zu [.v d]=.ok (.v (.int 0),O1):=by
 intro d hd;simp only[P6,mem_cons,mem_nil_iff,or_false]at hd;rcases hd with rfl|rfl|rfl|rfl|rfl|rfl
 all_goals exact Qh rfl rfl
def repr0:reprG [.int 0]=some (.v (.str "0")):=by
 show(if(PySem.PyData.int 0).showable=true/\(PySem.PyData.int 0).depth<=60/\(PySem.PyData.int 0).shown.length<=cap then some (R.v (D.str (PySem.PyData.int 0).shown))else none)=_
 have e:(PySem.PyData.int 0).shown=(("0":String):Str):=by decide +kernel
 rw[if_pos (by rw[e];decide +kernel),e]
abbrev E8(v s1 s2 s3 s4 s5 s6 s7:DV.Slot):zQ:=[v,s1,s2,s3,s4,s5,s6,s7]
def first6(v:DV.Slot):∃t1,DV.uR (gN 1) (dB wP ux) P6 (E8 v .e .e .e .e .e .e .e)=.ok (.nx,E8 v t1 .e .e .e .e .e .e)/\Jx t1=true:=by
 obtain⟨E',f1,t1,hE,q1⟩:=wq (tg:=gN 1) (body:=dB wP ux) (λ_ E=>∃t1,E=E8 v t1 .e .e .e .e .e .e/\Jx t1=true) P6 0 (E8 v .e .e .e .e .e .e .e) ⟨_,rfl,rfl⟩ (λi d q E ⟨t1,hE,q1⟩=>by
  have ht:=P6_told d (mem_of_getElem? q);refine⟨E8 v (.v d) .e .e .e .e .e .e,E8 v (.v d) .e .e .e .e .e .e,?_,?_,_,rfl,rfl⟩
  ·subst hE
   cases t1<;>first|rfl|(cases q1)
  ·exact zZ (yC (t_E (zY (jv (zA (zz (F:=zu) rfl (zB rfl) ht) zR) repr0) x_c (show neG (.str "0") (.str "0")=some (.v (.bl false))from ne_str _))) yD))
 subst hE;exact⟨t1,f1,q1⟩
def T8:List Str:=["","die 1 1","die 1 1\nrow","die 1 1\nrow ","die 1\nrow","die 1 1 1 1\nrow","die 0 1\nrow","\n"]
def T5:List Str:=["row\ndie 1 1","die 1 10\nrow","die 1 1\nrow 2","die 1 1\nrow 0\n","die 01 1\nrow"]
def T1:List Str:=[("die 1 1 2\nrow":Str)++zB2 " 2" 21]
def T_len:∀x∈T8++T5++T1,x.length<=1000:=by
 have:(T8++T5++T1).all (λx=>decide (x.length<=1000))=true:=by decide +kernel
 intro x hx;exact of_decide_eq_true (all_eq_true.mp this x hx)
def mul_2:Zi (.str " 2") (.int 21)=some (.v (.str (zB2 " 2" 21))):=by
 simp only[Zi];rw[if_pos (by decide +kernel)];rfl
def QB(a b:List Str)(h:a.length+b.length<=1000):vB (.l (a.map D.str)) (.l (b.map D.str))=some (.own ((a++b).map D.str)):=by
 rw[JZ _ _ (by simp;omega),<- map_append]
def texts(v t1 s2:DV.Slot):∃t3,DV.uR (gN 3) (dB wP uw) ((T8++T5++T1).map D.str) (E8 v t1 s2 .e .e .e .e .e)=.ok (.nx,E8 v t1 s2 t3 .e .e .e .e)/\Jx t3=true:=by
 obtain⟨E',f1,t3,hE,q1⟩:=wq (tg:=gN 3) (body:=dB wP uw) (λ_ E=>∃t3,E=E8 v t1 s2 t3 .e .e .e .e/\Jx t3=true) ((T8++T5++T1).map D.str) 0 (E8 v t1 s2 .e .e .e .e .e) ⟨_,rfl,rfl⟩ (λi d q E ⟨t3,hE,q1⟩=>by
  obtain⟨x,hx,rfl⟩:=mem_map.mp (mem_of_getElem? q);refine⟨E8 v t1 s2 (.v (.str x)) .e .e .e .e,E8 v t1 s2 (.v (.str x)) .e .e .e .e,?_,?_,_,rfl,rfl⟩
  ·subst hE
   cases t3<;>first|rfl|(cases q1)
  ·exact zZ (yC (yu (t_E (zz (F:=yd) rfl (zB rfl) (GH (T_len x hx)))) rfl) yD))
 subst hE;exact⟨t3,f1,q1⟩
def zB0{w:Str}{l:List Nat}(hw:Wd w)(hl:l.length<=20)(h:∀n∈l,n<10):Ln (yx w l) (w::l.map wd) where
 sp:=Qb hw h
 len:=by have:=YD hw h;omega
 n:=by simp;omega
 w:=λx hx=>(zBc hw h x hx).len
def In8(v:D)(s1 s2:DV.Slot)(E:zQ):Prop:=∃s3 s4 s5 s6 s7,E=E8 (.v v) s1 s2 s3 s4 s5 s6 s7/\Jx s3=true/\Jx s4=true/\Jx s5=true/\Jx s6=true/\Jx s7=true
def cell8(v:D)(c:Int)(s1 s2 s3 s5 s6 s7:DV.Slot)(h3:Jx s3=true)(h5:Jx s5=true)(h6:Jx s6=true)(h7:Jx s7=true) :
  ∃E',dB wP uv (E8 (.v v) s1 s2 s3 (.v (.int c)) s5 s6 s7)=.ok (.nx,E')/\In8 v s1 s2 E':=by
 obtain⟨p0,e0,hp0⟩:=W6 c;obtain⟨die,p1,e1,hp1,hd⟩:=W8 p0 hp0;have hdl:die.length=2\/die.length=3:=hd.1;obtain⟨row,p2,e2,hp2,rl,rx⟩:=zDU p1 hp1 (s:=die.length) (m:=20) (by omega) (by omega);have h:DR die row:=⟨hd,rl,rx⟩;have x:=zBl h;have cut:=txt_cut h;have zl:=zBk h;have L1:=zB0 uM (by have:=h.d3;omega) h.w;have L2:=zB0 uN h.l h.s;generalize yx "die" die=y1 at cut L1;generalize yx "row" row=y2 at cut L2;generalize txt die row=z at x cut zl;have r:=GH zl;obtain⟨E',f1,q,t7,hq,hE,q7⟩:=wq (tg:=gN 7) (body:=dB wP zBS) (λ_ E=>∃q t7,Pen q/\E=E8 (.v v) s1 s2 (.v (.str z)) (.v (.int c)) (.own q) (.v (zDV die)) t7/\Jx t7=true) (zb 0 8) 0 (E8 (.v v) s1 s2 (.v (.str z)) (.v (.int c)) (.own p2) (.v (zDV die)) s7) ⟨p2,s7,hp2,rfl,h7⟩ (λi d _ E ⟨q,t7,hq,hE,q7⟩=>by
  obtain⟨ts,q',ew,hq',B,hb,hbl⟩:=e_wrong L1 L2 q hq;have jo:=joinT (c:=10) hb (by omega);have jl:=YG 10 B ts hb;have rr:=GH (z:=Str.join (sg 10) ts) (by omega);refine⟨E8 (.v v) s1 s2 (.v (.str z)) (.v (.int c)) (.own q) (.v (zDV die)) (.v d),E8 (.v v) s1 s2 (.v (.str z)) (.v (.int c)) (.own q') (.v (zDV die)) (.v d),?_,?_,q',_,hq',rfl,rfl⟩
  ·subst hE
   cases t7<;>first|rfl|(cases q7)
  ·exact zZ (yC (yu (t_E (zz (F:=yd) (r:=.v (.str (Str.join (sg 10) ts))) rfl (zBe x_c (zDM (F:=jc) rfl rfl (Qd (zB rfl) x_c cut) ew rfl) (by rw[sg10];exact jo)) rr)) rfl) yD))
 refine⟨E',?_,_,_,_,_,_,hE,rfl,rfl,rfl,rfl,q7⟩;refine ye (E1:=E8 (.v v) s1 s2 s3 (.v (.int c)) (.own p0) s6 s7) (z8 (zz (F:=yk) rfl (zB rfl) e0) (G2 rfl h5 rfl)) ?_;refine ye (E1:=E8 (.v v) s1 s2 s3 (.v (.int c)) (.own p1) (.v (zDV die)) s7) (z8 (zDb (F:=jN) rfl rfl e1 rfl) (G2 rfl h6 rfl)) ?_;refine ye (E1:=E8 (.v v) s1 s2 (.v (.str z)) (.v (.int c)) (.own p2) (.v (zDV die)) s7) (z8 (jm (F:=y0) rfl (zB rfl) (zDN (F:=jO) rfl rfl (jv (zA (zB rfl) zR) (len_die die)) x_c e2 rfl) x) (G2 rfl h3 rfl)) ?_;refine ye (yC (yu (t_E (zz (F:=yd) rfl (zB rfl) r)) rfl) yD) ?_;exact zZ (zBX (zA x_c zR) rfl (by omega) f1)
def math71(ns:List Int)(hns:ns.length<=63):∃outs,m_law [.v (.l (ns.map D.int))]=.ok (.v (.bl true),outs):=by
 obtain⟨c,e2⟩:=WK ns;have hcut:WS (ns.map D.int) (some 1) (some 8)=((ns.drop (HT.sIx ns.length 0 (some 1))).take (HT.sIx ns.length ns.length (some 8)-HT.sIx ns.length 0 (some 1))).map D.int:=by
  unfold WS;simp[map_drop,map_take]
 generalize hk:(ns.drop (HT.sIx ns.length 0 (some 1))).take (HT.sIx ns.length ns.length (some 8)-HT.sIx ns.length 0 (some 1))=k at hcut;have hkl:k.length<=63:=by rw[<- hk];simp;omega
 have c1:slD (.l (ns.map D.int)) (some 1) (some 8)=some (.own (k.map D.int)):=by simp only[slD,hcut]
 have c2:=JZ [.int c] (k.map D.int) (by simp;omega);generalize hv:D.l (ns.map D.int)=v at e2 c1;obtain⟨t1,f0,g1⟩:=first6 (.v v);obtain⟨t3,f2,g3⟩:=texts (.v v) t1 (.v (.l ((T8++T5).map D.str)));obtain⟨E',f1,u3,u4,u5,u6,u7,hE,_⟩:=wq (tg:=gN 4) (body:=dB wP uv) (λ_ E=>In8 v t1 (.v (.l ((T8++T5).map D.str))) E) ([.int c]++k.map D.int) 0 (E8 (.v v) t1 (.v (.l ((T8++T5).map D.str))) t3 .e .e .e .e) ⟨_,_,_,_,_,rfl,g3,rfl,rfl,rfl,rfl⟩
  (λi d q E ⟨s3,s4,s5,s6,s7,hE,h3,h4,h5,h6,h7⟩=>by
   obtain⟨x,rfl⟩:∃x:Int,d=.int x:=by
    have:=mem_of_getElem? q;rcases mem_append.mp this with m|m
    ·exact⟨c,mem_singleton.mp m⟩
    ·obtain⟨x,_,rfl⟩:=mem_map.mp m;exact⟨x,rfl⟩
   obtain⟨E2,f1,f2⟩:=cell8 v x t1 (.v (.l ((T8++T5).map D.str))) s3 s5 s6 s7 h3 h5 h6 h7;refine⟨E8 (.v v) t1 (.v (.l ((T8++T5).map D.str))) s3 (.v (.int x)) s5 s6 s7,E2,?_,f1,f2⟩;subst hE;cases s4<;>first|rfl|(cases h4))
 subst hE;have a5:=QB T8 T5 (by simp[T8,T5]);have a1:=QB (T8++T5) T1 (by simp[T8,T5,T1]);have x8:dE wP (.l (.cons (.c (.str "")) (.cons (.c (.str "die 1 1")) (.cons (.c (.str "die 1 1\nrow")) (.cons (.c (.str "die 1 1\nrow ")) (.cons (.c (.str "die 1\nrow")) (.cons (.c (.str "die 1 1 1 1\nrow")) (.cons (.c (.str "die 0 1\nrow")) (.cons (.c (.str "\n")) .nil))))))))) (E8 (.v v) t1 .e .e .e .e .e .e)=.ok (.own (T8.map D.str),E8 (.v v) t1 .e .e .e .e .e .e):=jQ (zA x_c (zA x_c (zA x_c (zA x_c (zA x_c (zA x_c (zA x_c (zA x_c zR)))))))) rfl (by simp[cap,T8]);have x5:dE wP (.l (.cons (.c (.str "row\ndie 1 1")) (.cons (.c (.str "die 1 10\nrow")) (.cons (.c (.str "die 1 1\nrow 2")) (.cons (.c (.str "die 1 1\nrow 0\n")) (.cons (.c (.str "die 01 1\nrow")) .nil)))))) (E8 (.v v) t1 (.v (.l (T8.map D.str))) .e .e .e .e .e)=.ok (.own (T5.map D.str),E8 (.v v) t1 (.v (.l (T8.map D.str))) .e .e .e .e .e):=jQ (zA x_c (zA x_c (zA x_c (zA x_c (zA x_c zR))))) rfl (by simp[cap,T5]);have x1:dE wP (.l (.cons (.cat (.c (.str "die 1 1 2\nrow")) (.mulT (.c (.str " 2")) (.c (.int 21)))) .nil)) (E8 (.v v) t1 (.v (.l ((T8++T5).map D.str))) .e .e .e .e .e)=.ok (.own (T1.map D.str),E8 (.v v) t1 (.v (.l ((T8++T5).map D.str))) .e .e .e .e .e):=jQ (zA (YE x_c (zBv x_c x_c mul_2) (yn (by decide +kernel))) zR) rfl (by simp[cap,T1]);refine⟨_,zv (r:=.v (.bl true)) (E1:=E8 (.v v) t1 (.v (.l ((T8++T5).map D.str))) u3 u4 u5 u6 u7) ?_ rfl⟩;refine ye (E1:=E8 (.v v) t1 .e .e .e .e .e .e) (zBW (jQ (ds:=P6) (zA x_c (zA x_c (zA x_c (zA (jQ (zA x_c zR) rfl JW) (zA (Qa (zA x_c (zA x_c zR)) rfl Z0) (zA rfl zR)))))) rfl (by simp[P6,cap])) rfl f0) ?_;refine ye (E1:=E8 (.v v) t1 (.own (T8.map D.str)) .e .e .e .e .e) (z8 x8 rfl) ?_;refine ye (E1:=E8 (.v v) t1 (.own ((T8++T5).map D.str)) .e .e .e .e .e) (z8 (jF (jH rfl rfl) x5 a5) rfl) ?_;refine ye (zBW (jF (jH rfl rfl) x1 a1) rfl f2) ?_;exact ye (zBW (jF (jQ (zA (jm (F:=yY) rfl (zB rfl) x_c e2) zR) rfl JW) (zBT (zB rfl) (o_S x_c) (o_S x_c) c1) c2) rfl f1) (zZ (zw x_c))
end My
namespace My
open PySem L2 DV
def txt_lk{K:qH}{h:Heap}{mg:Str->Option Value}(X:K.In h)(G:h.Ns mainGlobals mg)(e:ZL K=wants):Txt K mg :=
 have e1:=congrArg (λx:lkT=>x.1) e;have e2:=congrArg (λx:lkT=>x.2.1) e;have e3:=congrArg (λx:lkT=>x.2.2.1) e
 {n_ValueError:=Y1 X G (ix 0 e3),n_all:=Y1 X G (ix 1 e3),n_bool:=Y1 X G (ix 2 e3),n_int:=Y1 X G (ix 3 e3),n_isinstance:=Y1 X G (ix 4 e3),n_len:=Y1 X G (ix 5 e3),n_list:=Y1 X G (ix 6 e3),n_max:=Y1 X G (ix 7 e3),n_range:=Y1 X G (ix 8 e3),n_repr:=Y1 X G (ix 9 e3),n_str:=Y1 X G (ix 10 e3),n_tuple:=Y1 X G (ix 11 e3),c_LEAST_SIGNS:=QY X G (ix 0 e2),c_LEAST_WEIGHT:=QY X G (ix 1 e2),c_MOST_FIGURES:=QY X G (ix 2 e2),c_MOST_SIGNS:=QY X G (ix 3 e2),c_MOST_THROWS:=QY X G (ix 4 e2),c_MOST_WEIGHT:=QY X G (ix 5 e2),f_is_whole:=yo X G (ix 0 e1),f_is_whole_within:=yo X G (ix 1 e1),f_die_good:=yo X G (ix 2 e1),f_sign_good:=yo X G (ix 3 e1),f_row_good:=yo X G (ix 4 e1),f_row_good_of:=yo X G (ix 5 e1),f_number_read:=yo X G (ix 6 e1),f_numbers_read:=yo X G (ix 7 e1),f_line_read:=yo X G (ix 8 e1),f_throws_read:=yo X G (ix 9 e1),f__law_cell_at:=yo X G (ix 10 e1),f__law_next:=yo X G (ix 11 e1),f__law_pen_of:=yo X G (ix 12 e1),f__law_draw:=yo X G (ix 13 e1),f__law_whole:=yo X G (ix 14 e1),f__law_kind_of:=yo X G (ix 15 e1),f__law_die_of:=yo X G (ix 16 e1),f__law_row_of:=yo X G (ix 17 e1),f__law_text_of:=yo X G (ix 18 e1),f__law_value:=yo X G (ix 19 e1),f__law_signs_of:=yo X G (ix 20 e1),f__law_odd_row:=yo X G (ix 21 e1),f__law_told:=yo X G (ix 22 e1),f__law_numbers:=yo X G (ix 23 e1),f__law_due_of:=yo X G (ix 24 e1),f__law_right:=yo X G (ix 25 e1),f__law_wrong:=yo X G (ix 26 e1),f_law:=yo X G (ix 27 e1),r_NoText:=ri_at X G (ix 28 e1),cl:=cl_at X G (congrArg (λx:lkT=>x.2.2.2) e)}
end My
end
open PySem PySem.W PyProof.Rows
set_option maxRecDepth 100000 in
set_option maxHeartbeats 0 in
theorem PySem.Challenge.cw_throwruns_k71_texts_that_write_none_holds : PySem.Challenge.rw_throwruns_k71_texts_that_write_none.Holds := by
 w_on;refine holds_law My.hz λsaid=>?_
 refine holds_open (q:=My.q) (loose:=My.ls) (Xt:=λs=>xlAt My.q [] s&&recOk (RowW.records (OpenLaw.row PySem.Challenge.rw_throwruns_k71_texts_that_write_none).toRowW) s) (XP:=XL My.q []) (Yf:=λs=>My.ZL (DV.Ja s.heap My.as)) (Ya:=λ_=>My.wants) (YP:=(DV.Gy My.as My.lkT My.ZL My.wants).says) (N:=5880) My.hl (DV.Gy My.as My.lkT My.ZL My.wants).of (DV.Gy My.as My.lkT My.ZL My.wants).keeps (λs e=>xl_of s (Bool.and_eq_true_iff.mp e).1) XL.keeps (by rfl) (by rfl) (by rfl) (λs e=>recFacts_of (Bool.and_eq_true_iff.mp e).2) ?h4 ?h5 ?h6 ⟨rfl,rfl,rfl,rfl,rfl,by decide +kernel⟩ ?hw ?hc
 case h4=>rfl
 case h5=>first|assumption|decide +kernel
 case h6=>decide +kernel
 case hw=>w_witness2
 case hc=>exact DV.walkE (l:=PySem.Challenge.rw_throwruns_k71_texts_that_write_none) (x:="_law_script") My.math71 rfl rfl λw K mg fa h KX e G hmg=>My.law_fd hmg (My.txt_lk KX G e)
