import PyProof.Rows.All
import KE.KFromBytes
import KE.KSortTup
import KE.KIsAll
import PyProof.InstStoreFacts
import PyProof.InstSpecial
import PyProof.FString
import OpenK.KCls
import PyProof.TupleKey
import PyProof.Rows.TupTab
import PyProof.FactsAll.NoneType
import PyProof.DictRoadsH
import PyProof.Rows.TupDisplay
import KE.KDictList
import PyProof.AttrMiss
import KE.KDictOf
import KE.KIntText
import PyProof.NeData
import KE.KRevIter
import PySem.Challenge.RW_throwruns_k63_free_rows_by_number
set_option Elab.async false
set_option linter.all false
set_option genSizeOf false
set_option compiler.extract_closed false
set_option backward.eqns.nonrecursive false
set_option genSizeOfSpec false
set_option genInjectivity false
set_option maxRecDepth 100000
set_option maxHeartbeats 0
def DV.nf{P:Prop}(h:false=true):P:=absurd h Bool.false_ne_true
open List (mem_filter mem_range filterMap_cons mem_cons_self mem_cons_of_mem mem_cons mem_append mem_append_left getElem?_set_self getElem?_set_ne mem_filterMap mem_append_right append_nil nodup_cons of_mem_zip replicate length length_take getElem?_append_right getElem?_append_left getElem?_map mem_of_getElem? length_append length_map length_replicate size_toArray length_drop map_nil map_cons reverse_cons replicate_succ flatten_cons foldl append_assoc forIn_cons sublist_cons_self nodup_append nil_append perm_append_comm sublist_append_right cons_append length_cons all_cons getElem_map perm_middle zip_cons_cons zip_append lookup_cons all_eq_true mem_nil_iff getElem?_eq_getElem sum_append take_length mem_singleton mem_map zipWith pairwise_iff_getElem getElem_of_mem filter_cons length_range length_nil map_map map_append getD_eq_getElem?_getD isEmpty_iff mem_replicate set_set filter_eq_self sum_cons foldr_cons range' range_eq_range' map_congr_left flatMap_cons length_eq_zero_iff filter_append filter_map filter_eq_nil_iff range_succ map_drop map_take range'_succ not_mem_nil)
open Nat (lt_of_lt_of_le lt_irrefl ne_of_lt le_trans ne_of_gt le_refl zero_le lt_succ_self succ_mul lt_trans lt_succ_of_lt not_lt le_succ zero_add lt_of_le_of_lt mod_lt succ_pos pow_succ)
open PySem.W (nsOkIn nsIn clsIn typeIn findIn specialIn takesIn codeIn keepIn fnOf instObj methodObj hideAll hideAll_get of_hideAll plainGet emptyDict mroIn cellsFrom_some codeRec_of callWith_K looks_findIn looks_mroIn kitOne kitCls kia_one mg_of)
open PySem.Heap (lt_size get?_push_of_some get?_push_size size_push get?_update_self get?_update_other)
noncomputable section
def qA:=@PySem.Heap.get?_push_of_some
def qB:=@PySem.wpAny_bind
def qC:=@PySem.wpAny_pure
def qD:=@List.mem_cons_of_mem
def qE:=@List.mem_cons_self
def qF:=@Bool.false_ne_true
def qG:=@List.getElem?_eq_some_iff
def qJ:=@Option.some.inj
def qK:=@List.mem_append_right
abbrev qH:=PySem.W.Frag
section
open PySem
abbrev Ls(α:Type):=List α
abbrev Lv:=Value
abbrev Lx(α:Type):=Option α
abbrev Ly:=Lv->Shared->Prop
abbrev Lz:=Addr
abbrev La:=Shared
abbrev Lb:=Expr
abbrev Lc:=Program
abbrev Ld:=Lz->Prop
abbrev Le:=World
abbrev Lf:=Stmt
abbrev Lg:=Around
abbrev Lh:=Array Lv
abbrev Li:=Array (Int×Lv)
abbrev Lj:=Array (Lx Lv)
abbrev Lk:=Int->Int->Bool
abbrev Ll:=Nat->Heap->Prop
abbrev Lm:=List Str
abbrev Ln:=Option Lv
end
local macro_rules
 |`(tactic|exists $h:term)=>`(tactic|simpa using $h)
 |`(tactic|dsimp$[$l:location]?)=>`(tactic|dsimp only$[$l]?)
 |`(tactic|left)=>`(tactic|decide +kernel)
 |`(tactic|dsimp[$a,*]$[$l]?)=>`(tactic|simp only[$a,*]$[$l]?)
 |`(tactic|exists $e:ident,$m,$k:ident,$r:ident,$s:ident)=>`(tactic|(cases $e:ident:$m:term with|z=>rw[$e:ident]at $k:ident;exact $k|y _ _=>rw[$e:ident]at $k:ident;exact $k|ok p=>?_);(cases p with|mk $r:ident $s:ident=>?_);(rw[$e:ident]at $k:ident))
 |`(tactic|exists $e:ident,$m,$k:ident,$x:ident)=>`(tactic|(cases $e:ident:$m:term with|none=>rw[$e:ident]at $k:ident;cases $k:ident|some $x:ident=>?_);(rw[$e:ident]at $k:ident))
namespace L2
open PySem
def YM(s:Lf):Arguments:=match s with
 | .FunctionDef _ a _ _ _ _ _ _ _ _=>a|_=>{posonlyargs:=[],args:=[],vararg:=none,kwonlyargs:=[],kw_defaults:=[],kwarg:=none,defaults:=[]}
def jK(s:Lf):Ls Lf:=match s with
 | .FunctionDef _ _ b _ _ _ _ _ _ _=>b|_=>[]
def zc(s:Lf):Scope:=match s with
 | .FunctionDef _ _ _ _ _ _ n _ _ _=>n|_=>{kind:=.function,names:=[],isGenerator:=false,isCoroutine:=false}
end L2
namespace DV
open PySem L2
structure Ck(P:Prop) where
 yes:Bool
 why:yes=true->P
def Ck.d{P Q:Prop}(a:Ck P)(f:P->Ck Q):Ck Q:=⟨if h:a.yes=true then(f (a.why h)).yes else false,λh=>by
 split at h
 ·exact(f _).why h
 ·cases h⟩
abbrev bk{Q:Prop}(b:Bool)(f:b=true->Ck Q):Ck Q:=Ck.d ⟨b,id⟩ f
def bq{α:Type}[BEq α][LawfulBEq α]{Q:Prop}(a b:α)(f:a=b->Ck Q):Ck Q:=bk (a==b) λh=>f (beq_iff_eq.mp h)
def rt{P:Prop}(p:P):Ck P:=⟨true,λ_=>p⟩
instance {P:Prop}:Inhabited (Ck P):=⟨⟨false,λh=>nomatch h⟩⟩
@[elab_as_elim] def qCons{α:Type}{M:Ls α->Type}[∀e,Inhabited (M e)](e:Ls α)(f:∀a b,M (a::b)):M e:=match e with
 |a::b=>f a b| []=>default
@[elab_as_elim] def qNil{α:Type}{M:Ls α->Type}[∀e,Inhabited (M e)](e:Ls α)(f:M []):M e:=match e with
 | []=>f|_::_=>default
@[elab_as_elim] def qSome{α:Type}{M:Lx α->Type}[∀e,Inhabited (M e)](e:Lx α)(f:∀a,M (some a)):M e:=match e with
 |some a=>f a|none=>default
abbrev VB:Ls Lv:=[.type "ValueError",.type "Exception",.type "BaseException",.type "object"]
@[elab_as_elim] def qObj{M:Obj->Type}(e:Obj)(f:∀a b c d,M ⟨a,b,c,d⟩):M e:=match e with
 |⟨a,b,c,d⟩=>f a b c d
@[elab_as_elim] def qTy{M:Lv->Type}[∀e,Inhabited (M e)](e:Lv)(f:∀a,M (.type a)):M e:=match e with
 | .type a=>f a|_=>default
@[elab_as_elim] def qRef{M:Lv->Type}[∀e,Inhabited (M e)](e:Lv)(f:∀a,M (.ref a)):M e:=match e with
 | .ref a=>f a|_=>default
@[elab_as_elim] def qBui{M:Lv->Type}[∀e,Inhabited (M e)](e:Lv)(f:∀a,M (.builtin a)):M e:=match e with
 | .builtin a=>f a|_=>default
@[elab_as_elim] def qCls{M:Data->Type}[∀e,Inhabited (M e)](e:Data)(f:∀a b c d g h i j k l m,M (.cls ⟨a,b,c,d,g,h,i,j,k,l,m⟩)):M e:=match e with
 | .cls ⟨a,b,c,d,g,h,i,j,k,l,m⟩=>f a b c d g h i j k l m|_=>default
@[elab_as_elim] def qArr{M:Lj->Type}(e:Lj)(f:∀l,M ⟨l⟩):M e:=match e with
 |⟨l⟩=>f l
def clsC(K:qH)(C:Lz)(x:Lx (Lx Lv))(o:Lx Obj):Ck (K.lookup C=o->∀h,K.In h ->
  ∃w N nm q bs D y sub e a dd t u r n O,h.get? C=some (excClassObj nm q C N bs w D y sub e a dd t u r n O "ValueError.__new__")/\nsOkIn K N=true/\nsIn K N "__init__"=x/\OwnTail h VB w) :=
 qSome o λo=>qObj o λc dd H g=>qTy c λT=>qCls H λnm bs mro E Y j y sub e a I=>qArr g λl=>qCons mro λv w=>qRef v λC'=>qCons l λR l=>qCons l λp l=>qCons l λz l=>qCons l λW l=>qCons l λi l=>qCons l λk l=>qNil l <| qSome i λi=>qBui i λid =>
  bq T "type" λJ=>bq C' C λL=>bq id "ValueError.__new__" λh2=>bq I false λM=>bk (PySem.W.tailIn K VB w) λh4=>bk (nsOkIn K E) λh5=>bk (nsIn K E "__init__" == x) λG=>rt λho h X=>by
   subst J L h2 M;exact⟨w,E,nm,Y,bs,j,y,sub,e,a,dd,R,p,z,W,k,X _ _ ho,h5,beq_iff_eq.mp G,PySem.W.tail_of_in X h4⟩
def clsI(K:qH)(C:Lz)(x:Lx (Lx Lv)):Bool:=(clsC K C x (K.lookup C)).yes
abbrev excJ(K:qH)(C:Lz):Bool:=clsI K C (some none)
def xIn(K:qH)(c:Str)(C T:Lz):Bool:=(match clsIn K C with|some R=>R.name==c&&R.mro==[.ref C,.ref T,.type "ValueError",.type "Exception",.type "BaseException",.type "object"]|none=>false)
 && typeIn K (.ref C)==some (.type "type")&&findIn K (.ref C) "__getattribute__" == some (some (.builtin "BaseException.__getattribute__"))&&findIn K (.ref C) "__getattr__" == some none
 && findIn K (.ref C) "__class__" == some (some (.builtin "object.__class__"))&&specialIn K (.builtin "object.__class__") "__get__" == some (some (.builtin "getset_descriptor.__get__"))&&takesIn K (.builtin "object.__class__")==some true&&!(C==T)
def tIn(K:qH)(T:Lz):Bool:=(match clsIn K T with|some R=>R.mro==(.ref T::VB)|none=>false)&&typeIn K (.ref T)==some (.type "type")
def isFr:Obj->Bool
 |⟨_,_,.freed,_⟩=>true|_=>false
def GG:Ls Obj->Nat->Ls Lz->qH
 | [],_,_=>[]|_::_,_,[]=>[]
 |o::Z,i,a::as=>match Nat.beq i a with
  |true=>(match isFr o with
   |true=>GG Z (i+1) as|false=>(i,o)::GG Z (i+1) as)
  |false=>GG Z (i+1) (a::as)
def Yj(h:Heap)(as:Ls Lz):qH:=GG h.objs.toList 0 as
def FvT:Type:=Bool×Str×Str×Arguments×FuncBody×Scope×Lz×Ls (Str×Lz)×Lv×Lz
def fvOf(b:Bool)(y:FuncData):FvT:=(b,y.name,y.qualname,y.params,y.body,y.scope,y.globals,y.closure,y.defaults,y.builtins)
def yW(K:qH)(n:Str):Lx FvT:=match nsIn K mainGlobals n with
 |some (some (.ref a))=>(match K.lookup a with
  |some ⟨_,_,.func y,_⟩=>some (fvOf (codeIn K y.code n&&keepIn K (.ref a)) y)|_=>none)
 |_=>none
def yd(n:Str)(st:Lf):Lx FvT:=some (fvOf true (fnOf n n (YM st) (jK st) (zc st) .none .none .none .none none .none .none))
def vP(K:qH)(n:Str):Lx Int:=match nsIn K mainGlobals n with
 |some (some (.int i _))=>some i|_=>none
def je(K:qH)(n:Str):Bool:=match nsIn K mainGlobals n with
 |some none=>true|_=>false
def Jw(K:qH)(n:Str):Lx Lz:=match nsIn K mainGlobals n with
 |some (some (.ref a))=>some a|_=>none
def zBr(K:qH):Bool:=match K.lookup sysModules with
 |some o=>(match o.data with | .dict _ _=>true|_=>false)
 |none=>false
def zGT(K:qH)(cl rs:Ls Str):Bool :=
 (cl.isEmpty||(match Jw K "ThrowError" with
  |some T=>tIn K T&&cl.all λc=>(match Jw K c with|some C=>xIn K c C T|none=>false)
  |none=>false)) &&
 (rs.all λc=>(match Jw K c with|some C=>excJ K C|none=>false))&&zBr K
end DV
namespace My
open PySem L2 DV
def top(i:Nat):Lf:=PySem.Challenge.pw_throwruns_k63_free_rows_by_number.main.body.getD i (.Pass ⟨0,0,0,0⟩)
abbrev vQ:Lf:=top 11
abbrev wX:Lf:=top 12
abbrev Z9:Lf:=top 17
abbrev vR:Lf:=top 18
abbrev Yk:Lf:=top 19
abbrev vS:Lf:=top 20
abbrev Yl:Lf:=top 21
abbrev ZU:Lf:=top 22
abbrev wY:Lf:=top 23
abbrev GH:Lf:=top 24
abbrev Ym:Lf:=top 25
abbrev wE:Lf:=top 27
abbrev wF:Lf:=top 30
abbrev Jx:Lf:=top 31
abbrev GI:Lf:=top 32
abbrev WA:Lf:=top 33
abbrev vT:Lf:=top 34
abbrev WB:Lf:=top 35
abbrev WC:Lf:=top 36
abbrev Jy:Lf:=top 38
abbrev WD:Lf:=top 39
abbrev Yn:Lf:=top 40
abbrev WE:Lf:=top 41
abbrev ZV:Lf:=top 42
abbrev Jz:Lf:=top 43
abbrev WF:Lf:=top 44
abbrev J0:Lf:=top 45
abbrev WG:Lf:=top 46
abbrev J2:Lf:=top 47
abbrev wG:Lf:=top 48
abbrev wH:Lf:=top 49
abbrev s_law:Lf:=top 50
def cl_:Ls Str:=["NoDie","NoRow","NoNumber","NoLine","NoMachine","NoPaper","NoText","TooGreat"]
def rs_:Ls Str:=["NoDie","NoRow","NoNumber","NoLine","NoMachine","NoPaper"]
def lkT:Type:=Ls (Lx FvT)×Ls (Lx Int)×Ls Bool×Bool
def WH(K:qH):lkT:=([yW K "is_whole",yW K "is_whole_within",yW K "sign_good",yW K "row_good",yW K "row_good_of",yW K "need_row",yW K "need_number",yW K "need_signs",yW K "greatest_length",yW K "runs_of",yW K "longest_any",yW K "weigh_alike_upto",yW K "need_free_length",yW K "need_ordered",yW K "ways_on",yW K "free_many",yW K "free_nth",yW K "free_rank",yW K "free_next",yW K "_law_cell_at",yW K "_law_next",yW K "_law_pen_of",yW K "_law_draw",yW K "_law_whole",yW K "_law_kind_of",yW K "_law_free",yW K "_law_counted",yW K "_law_told",yW K "_law_is_free",yW K "_law_small_right",yW K "_law_great_right",yW K "law"],[vP K "LEAST_SIGNS",vP K "MOST_FREE",vP K "MOST_SIGNS",vP K "MOST_THROWS"],[je K "ValueError",je K "all",je K "bool",je K "enumerate",je K "int",je K "isinstance",je K "len",je K "list",je K "max",je K "range",je K "repr",je K "reversed",je K "sum",je K "tuple",je K "zip"],zGT K cl_ rs_)
def wants:lkT:=([yd "is_whole" vQ,yd "is_whole_within" wX,yd "sign_good" Z9,yd "row_good" vR,yd "row_good_of" Yk,yd "need_row" vS,yd "need_number" Yl,yd "need_signs" ZU,yd "greatest_length" wY,yd "runs_of" GH,yd "longest_any" Ym,yd "weigh_alike_upto" wE,yd "need_free_length" wF,yd "need_ordered" Jx,yd "ways_on" GI,yd "free_many" WA,yd "free_nth" vT,yd "free_rank" WB,yd "free_next" WC,yd "_law_cell_at" Jy,yd "_law_next" WD,yd "_law_pen_of" Yn,yd "_law_draw" WE,yd "_law_whole" ZV,yd "_law_kind_of" Jz,yd "_law_free" WF,yd "_law_counted" J0,yd "_law_told" WG,yd "_law_is_free" J2,yd "_law_small_right" wG,yd "_law_great_right" wH,yd "law" s_law],[some 2,some 20,some 3,some 20],[true,true,true,true,true,true,true,true,true,true,true,true,true,true,true],true)
def q0:Lc:=PySem.Challenge.pw_throwruns_k63_free_rows_by_number
def isLaw:Lf->Bool
 | .FunctionDef f ..=>f == "law"|_=>false
def qP:Lc:={q0 with main:={q0.main with body:=q0.main.body.filter isLaw}}
def nameOf:Lf->Ls Str
 | .FunctionDef f ..=>[f]| .ClassDef f ..=>[f]| .Assign [.Name x _] _ _=>[x]|_=>[]
def ls:Ls Str:=(q0.main.body.flatMap nameOf).filter (· != "law")
def as:Ls Lz:=[1,2,3,15,22,23,24,25,28,35,36,37,40,47,48,49,52,59,60,61,64,71,72,73,76,83,84,85,88,95,96,97,100,107,109,110,112,113,114,115,116,119,126,128,129,131,132,133,134,135,138,140,141,143,144,145,147,148,150,151,152,154,155,157,158,159,162,163,164,167,168,169,171,172,174,175,176,178,179,181,182,183,185,186,188,189,190,193,194,195,197,198,200,201,202,204,205,207,208,209,212,213,214,216,217,219,220,221,223,224,226,227,228,230,231,233,234,235,237,238,240,241,242,244,245,247,248,249,252,253,254,256,257,259,260,261,263,264,266,267,268,270,271,273,274,275,277,278,280,281,282,284,285,287,288,289,291,292,294,295,296,298,299,301,302,303,305,306,308,309,310,312,313,315,316,317,319,320,322,323,324,327,328,329,331,332,334,335,336,338,339,341,342,343,346,347]
end My
section
open PySem PySem.W PyProof.Rows
theorem My.hz:OpenLaw.wellSaid PySem.Challenge.rw_throwruns_k63_free_rows_by_number=true:=by left
theorem My.h2{α β γ:Type}{o:Lx α}{f:α->β}{g:α->γ}{b:β}{c:γ}(L:o.map f=some b)(Y:o.map g=some c):o.map (λs=>(f s,g s))=some (b,c):=by
 cases o with
 |none=>cases L|some s=>cases L;cases Y;rfl
theorem My.hu:∀(w:Le) (Z:OsState),(topFrom treeTable (OpenLaw.row PySem.Challenge.rw_throwruns_k63_free_rows_by_number).toRowW.prog w 6156 ⟨boot_heap w.params,#[],boot_drawn,boot_toks,Z⟩).map (λs=>openSeen My.qP My.ls (importedModules (OpenLaw.row PySem.Challenge.rw_throwruns_k63_free_rows_by_number).toRowW.prog.main.body) (λs=>xlAt My.qP [] s&&recOk (RowW.records (OpenLaw.row PySem.Challenge.rw_throwruns_k63_free_rows_by_number).toRowW) s) true s)=some (openGood My.qP My.ls):=by
 intro w Z
 kernel_rfl
theorem My.h4{α γ:Type}{o:Lx α}{g:α->Ls γ}{w:Ls γ}(n:Nat)(P:o.map (λs=>(g s).take n)=some (w.take n))(J:o.map (λs=>(g s).drop n)=some (w.drop n)):o.map g=some w:=by
 cases o with
 |none=>cases P|some s=>exact congrArg some ((List.take_append_drop n (g s)).symm.trans ((congr (congrArg HAppend.hAppend (qJ P)) (qJ J)).trans (List.take_append_drop n w)))
theorem My.h5{α γ δ:Type}{o:Lx α}{g:α->γ×δ}{w:γ×δ}(P:o.map (λs=>(g s).1)=some w.1)(Z:o.map (λs=>(g s).2)=some w.2):o.map g=some w:=by
 cases o with
 |none=>cases P|some s=>exact congrArg some (Prod.ext (qJ P) (qJ Z))
theorem My.hv0:∀(w:Le) (Z:OsState),(topFrom treeTable (OpenLaw.row PySem.Challenge.rw_throwruns_k63_free_rows_by_number).toRowW.prog w 6156 ⟨boot_heap w.params,#[],boot_drawn,boot_toks,Z⟩).map (λs=>((My.WH (DV.Yj s.heap My.as)).1.take 20))=some (My.wants.1.take 20):=by
 intro w Z
 kernel_rfl
theorem My.hv1:∀(w:Le) (Z:OsState),(topFrom treeTable (OpenLaw.row PySem.Challenge.rw_throwruns_k63_free_rows_by_number).toRowW.prog w 6156 ⟨boot_heap w.params,#[],boot_drawn,boot_toks,Z⟩).map (λs=>((My.WH (DV.Yj s.heap My.as)).1.drop 20))=some (My.wants.1.drop 20):=by
 intro w Z
 kernel_rfl
theorem My.hvc:∀(w:Le) (Z:OsState),(topFrom treeTable (OpenLaw.row PySem.Challenge.rw_throwruns_k63_free_rows_by_number).toRowW.prog w 6156 ⟨boot_heap w.params,#[],boot_drawn,boot_toks,Z⟩).map (λs=>(My.WH (DV.Yj s.heap My.as)).2)=some My.wants.2:=by
 intro w Z
 kernel_rfl
theorem My.hv(w:Le)(Z:OsState):(topFrom treeTable (OpenLaw.row PySem.Challenge.rw_throwruns_k63_free_rows_by_number).toRowW.prog w 6156 ⟨boot_heap w.params,#[],boot_drawn,boot_toks,Z⟩).map (λs=>My.WH (DV.Yj s.heap My.as))=some My.wants:=My.h5 (My.h4 20 (My.hv0 w Z) (My.hv1 w Z)) (My.hvc w Z)
theorem My.ht:∀(w:Le) (Z:OsState),(topFrom treeTable (OpenLaw.row PySem.Challenge.rw_throwruns_k63_free_rows_by_number).toRowW.prog w 6156 ⟨boot_heap w.params,#[],boot_drawn,boot_toks,Z⟩).map (λs=>(openSeen My.qP My.ls (importedModules (OpenLaw.row PySem.Challenge.rw_throwruns_k63_free_rows_by_number).toRowW.prog.main.body) (λs=>xlAt My.qP [] s&&recOk (RowW.records (OpenLaw.row PySem.Challenge.rw_throwruns_k63_free_rows_by_number).toRowW) s) true s,My.WH (DV.Yj s.heap My.as)))=some (openGood My.qP My.ls,My.wants):=λw Z=>My.h2 (My.hu w Z) (My.hv w Z)
theorem My.ho:opening (OpenLaw.row PySem.Challenge.rw_throwruns_k63_free_rows_by_number).toRowW.prog=plainProg (OpenLaw.row PySem.Challenge.rw_throwruns_k63_free_rows_by_number).toRowW.prog.main.scope.names:=by kernel_rfl
theorem My.hf:∀s,fenceModules? (OpenLaw.row PySem.Challenge.rw_throwruns_k63_free_rows_by_number).toRowW.prog s=some s:=by
 intro s
 kernel_rfl
theorem My.hl:LeftO (OpenLaw.row PySem.Challenge.rw_throwruns_k63_free_rows_by_number).toRowW.prog My.qP My.ls (λs=>xlAt My.qP [] s&&recOk (RowW.records (OpenLaw.row PySem.Challenge.rw_throwruns_k63_free_rows_by_number).toRowW) s) (λs=>My.WH (DV.Yj s.heap My.as)) (λ_=>My.wants) 6156:=by
 intro w;obtain⟨s,S,hv⟩:=Option.map_eq_some_iff.mp (boot_open My.ho (N:=6156) rfl My.hf w);unfold openEnds;rw[S];obtain⟨h,g,d,t,Z⟩:=s;have L:h=boot_heap w.params:=congrArg Prod.fst hv;have h2:g=#[]:=congrArg (λx=>x.2.1) hv;have M:d=boot_drawn:=congrArg (λx=>x.2.2.1) hv;have h4:t=boot_toks:=congrArg (λx=>x.2.2.2) hv;subst L;subst h2;subst M;subst h4;exact My.ht w Z
end
namespace L2
open PySem PySem.Spec PyProof.Rows
abbrev Key:=Sum Int Str
def keyIs:Key->Lv->Bool
 | .inl k,v=>Value.isInt k v| .inr x,v=>Value.isStrOf x v
def keyH(w:Le):Key->Int
 | .inl k=>hashInt k| .inr x=>hashStr w x
def yI:∀{k:Key} {v:Lv},keyIs k v=true->(∃i t,k=Sum.inl i/\v=Value.int i t)\/(∃x t,k=Sum.inr x/\v=Value.str x t)
 | .inl i,v,h=>by
  obtain⟨t,e⟩:=Value.isInt_shape (k:=i) (v:=v) h;exact .inl ⟨i,t,rfl,e⟩
 | .inr x,v,h=>by
  obtain⟨t,e⟩:=Value.isStrOf_shape (x:=x) (v:=v) h;exact .inr ⟨x,t,rfl,e⟩
def key_ll(a b:Int):decide ((Sum.inl a:Key)=Sum.inl b)=(a==b):=by
 by_cases e:a=b
 ·subst e;simp
 ·have h:¬(Sum.inl a:Key)=Sum.inl b:=λq=>e (Sum.inl.inj q)
  rw[decide_eq_false h];exact(beq_eq_false_iff_ne.mpr e).symm
def key_rr(a b:Str):decide ((Sum.inr a:Key)=Sum.inr b)=decide (a=b):=by
 by_cases e:a=b
 ·subst e;simp
 ·have h:¬(Sum.inr a:Key)=Sum.inr b:=λq=>e (Sum.inr.inj q)
  rw[decide_eq_false h,decide_eq_false e]
def key_lr(a:Int)(b:Str):decide ((Sum.inl a:Key)=Sum.inr b)=false:=decide_eq_false (λq=>nomatch q)
def key_rl(a:Str)(b:Int):decide ((Sum.inr a:Key)=Sum.inl b)=false:=decide_eq_false (λq=>nomatch q)
def QP(prog:Lc)(w:Le):PySem.KeyKind prog w Key where
 is:=keyIs
 hash:=keyH w
 inj:=λv a b P J=>by
  rcases yI P with⟨i,t,rfl,rfl⟩|⟨x,t,rfl,rfl⟩
  ·rcases yI J with⟨j,u,rfl,e⟩|⟨y,u,rfl,e⟩
   ·injection e with e1 _;rw[e1]
   ·exact nomatch e
  ·rcases yI J with⟨j,u,rfl,e⟩|⟨y,u,rfl,e⟩
   ·exact nomatch e
   ·injection e with e1 _;rw[e1]
 byValue:=λk v h=>by
  rcases yI h with⟨i,t,rfl,rfl⟩|⟨x,t,rfl,rfl⟩<;>rfl
 pyHash:=λhv h=>by
  rcases yI hv with⟨i,t,rfl,rfl⟩|⟨x,t,rfl,rfl⟩
  ·exact wpAny_pyHash_int h
  ·exact wpAny_pyHash_str h
 eqBool:=λhu hv h=>by
  rcases yI hu with⟨i,t,rfl,rfl⟩|⟨x,t,rfl,rfl⟩
  ·rcases yI hv with⟨j,u,rfl,rfl⟩|⟨y,u,rfl,rfl⟩
   ·rw[key_ll]at h;exact wpAny_eqBool_int h
   ·rw[key_lr]at h;exact SeqAt.EqAt.int_str i t y u _ _ _ _ h
  ·rcases yI hv with⟨j,u,rfl,rfl⟩|⟨y,u,rfl,rfl⟩
   ·rw[key_rl]at h;exact SeqAt.EqAt.str_int x t j u _ _ _ _ h
   ·rw[key_rr]at h;exact wpAny_eqBool_str h
 «strs»:=λk x t v h=>by
  rcases yI h with⟨i,u,rfl,e⟩|⟨y,u,rfl,e⟩
  ·exact nomatch e
  ·injection e with e1 _
   subst e1;cases v<;>rfl
set_option genInjectivity true in
inductive V where
 |non|bl (b:Bool)|int (i:Int)|str (x:Str)|byt (b:Array UInt8)|flt (b:UInt64)|ref (a:Lz)|ty (n:String)
 deriving DecidableEq
def yy:V->Lv->Prop
 | .non,u=>u=Value.none| .bl b,u=>u=Value.bool b| .int i,u=>∃t,u=Value.int i t| .str x,u=>∃t,u=Value.str x t| .byt b,u=>∃t,u=Value.bytes b t| .flt b,u=>∃t,u=Value.float b t| .ref a,u=>u=Value.ref a| .ty n,u=>u=Value.type n
abbrev zw:Ls V->Ls Lv->Prop:=Paired yy
theorem zw.length{xs:Ls V}{D:Ls Lv}(r:zw xs D):xs.length=D.length:=Paired.length r
theorem zw.get:∀{Y:Ls V} {D:Ls Lv} {i:Nat} {x:V},zw Y D->Y[i]?=some x->∃u,D[i]?=some u/\yy x u
 |_,_,_,_,.nil,e=>by simp at e|_,_,0,_,.cons r _,e=>by simp at e;subst e;exact⟨_,rfl,r⟩
 |_,_,i+1,x,.cons _ t,e=>by
  obtain⟨u,L,h2⟩:=zw.get (i:=i) (x:=x) t (by exists e);exact⟨u,by simpa using L,h2⟩
theorem zw.set(r:yy x u):∀{Y:Ls V} {D:Ls Lv} (i:Nat),zw Y D->zw (Y.set i x) (D.set i u)
 |_,_,_,.nil=>.nil|_,_,0,.cons _ t=>.cons r t|_,_,i+1,.cons q t=>.cons q (zw.set r i t)
theorem zw.append:∀{Y J:Ls V} {D k:Ls Lv},zw Y D->zw J k->zw (Y++J) (D++k)
 |_,_,_,_,.nil,s=>s|_,_,_,_,.cons r t,s=>.cons r (zw.append t s)
theorem zw.take:∀{Y:Ls V} {D:Ls Lv} (n:Nat),zw Y D->zw (Y.take n) (D.take n)
 |_,_,0,_=>.nil|_,_,_+1,.nil=>.nil|_,_,n+1,.cons r t=>.cons r (zw.take n t)
theorem zw.drop:∀{Y:Ls V} {D:Ls Lv} (n:Nat),zw Y D->zw (Y.drop n) (D.drop n)
 |_,_,0,r=>r|_,_,_+1,.nil=>.nil|_,_,n+1,.cons _ t=>zw.drop n t
def RelO:Lx V->Lx Lv->Prop
 |some v,some u=>yy v u|none,none=>True|_,_=>False
def KV{κ:Type}:Ls (κ×V)->Ls (κ×Lv)->Prop:=Paired λ(p:κ×V) (q:κ×Lv)=>p.1=q.1/\yy p.2 q.2
def kV:Key->V
 | .inl i=>.int i| .inr x=>.str x
inductive HO where
 /-- a list -/
 |l (xs:List V)
 /-- a tuple (never changes) -/
 |t (xs:List V)
 /-- a dict whose keys are ints and texts; one whose keys are tuples of ints and texts (the empty one is both) -/
 |dK (kvs:List (Key×V))|dT (kvs:List (List Key×V))
 /-- a set of ints: its members,its size -/
 |set (S:Int->Bool) (n:Nat)
 /-- an instance of the class at C,its dict at dx,its attributes -/
 |ins (C dx:Lz) (fs:List (Str×V))
 /-- the dict of the instance at x -/
 |w (x:Lz)
 /-- the dict of an exception -/
 |xd (fs:List (Str×V))
 /-- a bound method,f of x -/
 |met (f x:Lz)
 /-- a range object lo,lo+1,.. below hi -/
 |rng (lo hi:Int)
 /-- a thing that is known to the object (the script; a dict while a loop walks it): read,never written while it is so -/
 |frz (o:Obj) (u:HO)
 /-- a code object's table -/
 |tbl (ps:Lh)
 /-- any other thing,by what is true of its one object (a def of one's own: SetO a S n:=HO.ext fun h=>..) -/
 |ext (φ:Heap->Prop)
 |dN (φ:Heap->Prop)
abbrev Hp:=Lz->Lx HO
def upd(H:Hp)(a:Lz)(o:HO):Hp:=λb=>if b=a then some o else H b
def ja{H:Hp}{a:Lz}{o:HO}:upd H a o a=some o:=by unfold upd;rw[if_pos rfl]
def ze{H:Hp}{a b:Lz}{o:HO}(h:b≠a):upd H a o b=H b:=by unfold upd;rw[if_neg h]
def jz{H:Hp}{a b:Lz}{o:HO}(h:H a=some o)(h':H b=none):a≠b:=by
 intro e;subst e;rw[h]at h';cases h'
section
variable(P:Lc)(w:Le)
def jL(H:Hp)(h:Heap)(a:Lz):HO->Prop
 | .l Y=>Y.length<=sizeLine/\∃(its:Ls Lv) (n:Nat),zw Y its/\h.get? a=some {cls:=.type "list",data:=.seq its.toArray n}| .t Y=>Y.length<=sizeLine/\∃its:Ls Lv,zw Y its/\IsTup h a its.toArray| .dK g=>g.length<=sizeLine/\(a==sysModules)=false/\∃W,KV g W/\h.DictOf (QP P w) a W
 | .dT g=>g.length<=sizeLine/\(a==sysModules)=false/\∃Y:Ls (Ls Key×Lz×Lv),
   Paired (λ(p:Ls Key×V) (q:Ls Key×Lz×Lv)=>p.1=q.1/\H q.2.1=some (.t (p.1.map kV))/\yy p.2 q.2.2) g Y /\
   ∃o E l,h.get? a=some o/\o.ExactDict/\o.data=.dict E l/\E.toList=Y.map (entryOfKey (tupleKind (QP P w)))/\(Y.map (·.1)).Nodup
 | .set S n=>h.SetOf (intKind P w) a S n
 | .ins C j fs=>H j=some (.w a)/\fs.length<=1000/\j≠a/\h.get? a=some (instObj C j) /\
   ∃i,h.Ns1 j i/\(∀f,RelO (fs.lookup f) (i f))/\PySem.Within i (fs.map (·.1))
 | .w _=>∃o,h.get? a=some o| .xd fs=>∃i,h.Ns1 a i/\∀f,RelO (fs.lookup f) (i f)| .rng z c=>∃t u v,h.get? a=some {cls:=.type "range",data:=.fields #[.int z t,.int c u,.int 1 v]}| .frz o u=>h.get? a=some o/\jL H h a u| .tbl T=>h.get? a=some {cls:=.none,data:=.fields T}| .met f x=>h.get? a=some (methodObj (.ref f) (.ref x))| .ext φ=>φ h/\(∃o,h.get? a=some o)/\∀L h2:Heap,φ L->(∀o,L.get? a=some o->h2.get? a=some o)->φ h2| .dN φ=>φ h/\(∃o,h.get? a=some o)/\∀L h2:Heap,φ L->(∀o,L.get? a=some o->h2.get? a=some o)->φ h2
def HOk(H:Hp)(h:Heap):Prop:=∀a o,H a=some o->jL P w H h a o
end
section
variable{P:Lc}{w:Le}{H H':Hp}{h h':Heap}{a:Lz}{o:HO}
theorem jL.lt(x:jL P w H h a o):a<h.objs.size:=by
 cases o with
 |l Y=>obtain⟨_,_,_,_,e⟩:=x;exact lt_size e|t Y=>obtain⟨_,_,_,p⟩:=x;exact p.lt|dK g=>obtain⟨_,_,_,_,o,_,_,e,_⟩:=x;exact lt_size e|dT g=>obtain⟨_,_,_,_,o,_,_,e,_⟩:=x;exact lt_size e|set S n=>obtain⟨o,_,_,_,e,_⟩:=x;exact lt_size e|ins C j fs=>obtain⟨_,_,_,e,_⟩:=x;exact lt_size e|w y=>obtain⟨_,e⟩:=x;exact lt_size e|xd fs=>obtain⟨_,⟨_,_,_,e,_⟩,_⟩:=x;exact lt_size e|rng z W=>obtain⟨_,_,_,e⟩:=x;exact lt_size e|frz D u=>obtain⟨e,_⟩:=x;exact lt_size e|tbl T=>exact lt_size (show h.get? a=some _ from x)|met f y=>exact lt_size (show h.get? a=some _ from x)|ext φ=>obtain⟨_,⟨_,e⟩,_⟩:=x;exact lt_size e|dN φ=>obtain⟨_,⟨_,e⟩,_⟩:=x;exact lt_size e
theorem Paired.mapP{α β:Type}{F G:α->β->Prop}:∀{l:Ls α} {c:Ls β},Paired F l c->(∀a b,F a b->G a b)->Paired G l c
 |_,_,.nil,_=>.nil|_,_,.cons r t,f=>.cons (f _ _ r) (Paired.mapP t f)
def jL.stay(x:jL P w H h a o)(k:∀b u,(b=a\/H b=some (.w a))->h.get? b=some u->h'.get? b=some u)
  (K:∀b,H b=some (.w a)->H' b=some (.w a)) (V:∀b Y,H b=some (.t Y)->H' b=some (.t Y)):jL P w H' h' a o:=by
 induction o with
 |l Y=>obtain⟨z,its,n,r,e⟩:=x;exact⟨z,its,n,r,k _ _ (.inl rfl) e⟩|t Y=>obtain⟨z,its,r,D,e,c⟩:=x;exact⟨z,its,r,D,k _ _ (.inl rfl) e,c⟩|dK g=>obtain⟨z,y,W,r,D,E,G,e,c⟩:=x;exact⟨z,y,W,r,D,E,G,k _ _ (.inl rfl) e,c⟩
 |dT g =>
  obtain⟨z,y,Y,r,D,E,G,e,c⟩:=x;exact⟨z,y,Y,Paired.mapP r λp q z=>⟨z.1,V _ _ z.2.1,z.2.2⟩,D,E,G,k _ _ (.inl rfl) e,c⟩
 |set S n=>obtain⟨D,E,G,t,e,c⟩:=x;exact⟨D,E,G,t,k _ _ (.inl rfl) e,c⟩
 |ins C j fs =>
  obtain⟨d,z,J,e,i,⟨L,E,G,M,c⟩,r⟩:=x;exact⟨K _ d,z,J,k _ _ (.inl rfl) e,i,⟨L,E,G,k _ _ (.inr d) M,c⟩,r⟩
 |w y=>obtain⟨D,e⟩:=x;exact⟨D,k _ _ (.inl rfl) e⟩|xd fs=>obtain⟨i,⟨L,E,G,e,c⟩,r⟩:=x;exact⟨i,⟨L,E,G,k _ _ (.inl rfl) e,c⟩,r⟩|rng R O=>obtain⟨t,u,v,e⟩:=x;exact⟨t,u,v,k _ _ (.inl rfl) e⟩|frz D u I=>obtain⟨e,q⟩:=x;exact⟨k _ _ (.inl rfl) e,I q⟩
 |tbl T =>
  have e:h.get? a=some {cls:=.none,data:=.fields T}:=x;show h'.get? a=some {cls:=.none,data:=.fields T};exact k a _ (.inl rfl) e
 |met f y =>
  have e:h.get? a=some (methodObj (.ref f) (.ref y)):=x;show h'.get? a=some (methodObj (.ref f) (.ref y));exact k a _ (.inl rfl) e
 |ext φ=>obtain⟨p,⟨o,e⟩,Q⟩:=x;exact⟨Q _ _ p λo q=>k _ _ (.inl rfl) q,⟨o,k _ _ (.inl rfl) e⟩,Q⟩|dN φ=>obtain⟨p,⟨o,e⟩,Q⟩:=x;exact⟨Q _ _ p λo q=>k _ _ (.inl rfl) q,⟨o,k _ _ (.inl rfl) e⟩,Q⟩
theorem HOk.lt(x:HOk P w H h)(e:H a=some o):a<h.objs.size:=(x a o e).lt
def HOk.fresh(x:HOk P w H h)(e:h.objs.size<=a):H a=none:=by
 cases q:H a with
 |none=>rfl|some u=>exact absurd (lt_of_lt_of_le (x.lt q) e) (lt_irrefl _)
def HOk.kept(x:HOk P w H h)(k:∀b u,h.get? b=some u->h'.get? b=some u):HOk P w H h':=λa o e =>
 (x a o e).stay (λb u _ q=>k b u q) (λ_ q=>q) λ_ _ q=>q
def HOk.laid(x:HOk P w H h)(k:∀b u,h.get? b=some u->h'.get? b=some u)(G:h.objs.size<=a)(p:jL P w (upd H a o) h' a o):HOk P w (upd H a o) h':=λb u e=>by
 have D:=x.fresh G;by_cases J:b=a
 ·subst J;rw[ja]at e;cases e;exact p
 ·rw[ze J]at e
  exact(x b u e).stay (λc v _ q=>k c v q) (λc q=>by rw[ze (jz q D)];exact q) λc Y q=>by rw[ze (jz q D)];exact q
end
def Rd(H:Hp)(a:Lz)(u:HO):Prop:=H a=some u\/∃o,H a=some (.frz o u)
def Rd.of(h:H a=some u):Rd H a u:=.inl h
def Rd.ok{P:Lc}{w:Le}{H:Hp}{h:Heap}{a:Lz}{u:HO}(r:Rd H a u)(x:HOk P w H h):jL P w H h a u:=by
 rcases r with r|⟨o,r⟩
 ·exact x a u r
 ·obtain⟨_,q⟩:=x a _ r
  exact q
def Mut:Lx HO->Prop
 |some (.l _)=>True|some (.dK _)=>True|some (.dT _)=>True|some (.set _ _)=>True|some (.ins _ _ _)=>True|some (.ext _)=>True|some (.dN _)=>True|_=>False
section
variable{P:Lc}{w:Le}{H:Hp}{h h':Heap}{x e:Lz}{o':HO}
def HOk.write(ok:HOk P w H h)(a:Mut (H x))(M:e=x\/H e=some (.w x))(k:∀b u,b≠e->h.get? b=some u->h'.get? b=some u)(i:∃u,h'.get? e=some u)
  (p:jL P w (upd H x o') h' x o'):HOk P w (upd H x o') h':=λb u q=>by
 have n:∀c y,H c=some (.w y)->c≠x:=λc y r z=>by subst z;rw[r]at a;exact a
 have j:∀c Y,H c=some (.t Y)->c≠x:=λc Y r z=>by subst z;rw[r]at a;exact a
 by_cases J:b=x
 ·subst J;rw[ja]at q;cases q;exact p
 ·rw[ze J]at q
  by_cases g:b=e
  ·have L:H b=some (.w x):=by
    rcases M with z|z
    ·exact absurd (g.trans z) J
    ·rw[g];exact z
   rw[q]at L;cases L;obtain⟨v,hv⟩:=i;exact⟨v,by rw[g];exact hv⟩
  ·refine(ok b u q).stay (λc v Z r=>k c v ?_ r) (λc r=>by rw[ze (n c b r)];exact r) λc Y r=>by rw[ze (j c Y r)];exact r
   rcases Z with rfl|Z
   ·exact g
   ·rintro rfl
    rcases M with z|z
    ·exact n c b Z z
    ·rw[Z]at z;cases z;exact J rfl
end
structure Un(fs ex:List Lz)(H H':Hp)(h h':Heap):Prop where
 keep:∀b o,h.get? b=some o->H b=none->b∉fs->b∉ex->h'.get? b=some o
 slot:∀b o,h.get? b=some o->H b=none->b∈fs->b∉ex->∃sl,h'.get? b=some {o with slots:=sl}
 free:∀b o,h.get? b=some o->H b=none->b∉ex->H' b=none
 there:∀b o,h.get? b=some o->b∉ex->∃o',h'.get? b=some o'
 tups:∀b xs,H b=some (.t xs)->H' b=some (.t xs)
 frzs:∀b o u,H b=some (.frz o u)->H' b=some (.frz o u)
 tbls:∀b ps,H b=some (.tbl ps)->∃more,H' b=some (.tbl (ps++more))
section
variable{fs fs' ex ex':Ls Lz}{H H1 H2:Hp}{h h1 h2 h':Heap}{a x e:Lz}{o:HO}
def Un.any(u:Un fs ex H H1 h h1){b:Lz}{D:Obj}(q:h.get? b=some D)(n:H b=none)(V:b∉ex):∃g,h1.get? b=some {D with slots:=g}:=by
 by_cases J:b∈fs
 ·exact u.slot b D q n J V
 ·exact⟨D.slots,u.keep b D q n J V⟩
def Un.trans(a:Un fs ex H H1 h h1)(b:Un fs ex H1 H2 h1 h2):Un fs ex H H2 h h2 where
 keep:=λc D q n Z V=>b.keep c D (a.keep c D q n Z V) (a.free c D q n V) Z V
 slot:=λc D q n Z V=>by
  obtain⟨g,R⟩:=a.slot c D q n Z V;obtain⟨C,w⟩:=b.slot c _ R (a.free c D q n V) Z V;exact⟨C,w⟩
 free:=λc D q n V=>by
  obtain⟨v,R⟩:=a.there c D q V;exact b.free c v R (a.free c D q n V) V
 there:=λc D q V=>by
  obtain⟨v,R⟩:=a.there c D q V;exact b.there c v R V
 tups:=λc Y q=>b.tups c Y (a.tups c Y q)
 frzs:=λc D Y q=>b.frzs c D Y (a.frzs c D Y q)
 tbls:=λc T q=>by
  obtain⟨K,R⟩:=a.tbls c T q;obtain⟨Q,w⟩:=b.tbls c _ R;exact⟨K++Q,by rw[w,Array.append_assoc]⟩
def Un.kept(k:∀b u,h.get? b=some u->h'.get? b=some u):Un fs ex H H h h' :=
 ⟨λb D q _ _ _=>k b D q,λb D q _ _ _=>⟨D.slots,k b D q⟩,λ_ _ _ n _=>n,λb D q _=>⟨D,k b D q⟩,λ_ _ q=>q,λ_ _ _ q=>q,λ_ T q=>⟨#[],by rw[q];simp⟩⟩
def Un.refl:Un fs ex H H h h:=Un.kept λ_ _ q=>q
def Un.laid(k:∀b u,h.get? b=some u->h'.get? b=some u)(G:h.objs.size<=a)(D:H a=none):Un fs ex H (upd H a o) h h' where
 keep:=λb u q _ _ _=>k b u q
 slot:=λb u q _ _ _=>⟨u.slots,k b u q⟩
 free:=λb u q n _=>by rw[ze (ne_of_lt (lt_of_lt_of_le (lt_size q) G))];exact n
 there:=λb u q _=>⟨u,k b u q⟩
 tups:=λb Y q=>by rw[ze (jz q D)];exact q
 frzs:=λb u Y q=>by rw[ze (jz q D)];exact q
 tbls:=λb T q=>⟨#[],by rw[ze (jz q D),q];simp⟩
def Un.write(a:Mut (H x))(M:e=x\/H e=some (.w x))(k:∀b u,b≠e->h.get? b=some u->h'.get? b=some u)(i:∃u,h'.get? e=some u):Un fs ex H (upd H x o) h h':=by
 have V:∀b,H b=none->b≠x:=λb n z=>by subst z;rw[n]at a;exact a
 have J:∀b,H b=none->b≠e:=λb n z=>by
  subst z;rcases M with r|r
  ·exact V b n r
  ·rw[n]at r;cases r
 have K:∀b u,H b=some u->¬Mut (some u)->b≠x:=λb u q nm z=>by subst z;rw[q]at a;exact nm a
 refine⟨λb u q n _ _=>k b u (J b n) q,λb u q n _ _=>⟨u.slots,k b u (J b n) q⟩,λb u q n _=>by rw[ze (V b n)];exact n,λb u q _=>?_,
  λb Y q=>by rw[ze (K b _ q λz=>z)];exact q,λb u Y q=>by rw[ze (K b _ q λz=>z)];exact q,λb T q=>⟨#[],by rw[ze (K b _ q λz=>z),q];simp⟩⟩
 by_cases g:b=e
 ·subst g;exact i
 ·exact⟨u,k b u g q⟩
def Un.mono(u:Un fs ex H H1 h h1)(S:∀b∈fs,b∈fs')(V:∀b∈ex,b∈ex'):Un fs' ex' H H1 h h1 :=
 ⟨λb D q n J M=>u.keep b D q n (λz=>J (S b z)) λz=>M (V b z),λ_ _ q n _ M=>u.any q n λz=>M (V _ z),λb D q n M=>u.free b D q n λz=>M (V b z),λb D q M=>u.there b D q λz=>M (V b z),u.tups,u.frzs,u.tbls⟩
end
def trk(h:Heap)(H:Hp):Ls Lz:=(List.range h.objs.size).filter λa=>(H a).isSome
def zEe(h:Heap)(H:Hp):Heap:=hideAll h (trk h H)
def zBs(h:Heap)(H:Hp):(zEe h H).objs.size=h.objs.size:=PySem.W.hideAll_size _ _
def zEf(e:h.get? b=some o)(n:H b=none):(zEe h H).get? b=some o :=
 hideAll_get _ e λK=>by
  have q:(H b).isSome=true:=(mem_filter.mp K).2;rw[n]at q;simp at q
def of_hidT(e:(zEe h H).get? b=some o):h.get? b=some o/\H b=none:=by
 have y:h.get? b=some o:=of_hideAll (trk h H) e;refine⟨y,?_⟩;cases q:H b with
 |none=>rfl
 |some x =>
  have K:b∈trk h H:=mem_filter.mpr ⟨mem_range.mpr (lt_size y),by simp[q]⟩;have z:(zEe h H).get? b=none:=PySem.W.hideAll_none (trk h H) K;rw[z]at e;cases e
def allNews(g h:Heap)(L:Lz):Ls (Lz×Obj):=(List.range h.objs.size).filterMap λa=>if a=L\/(g.get? a).isSome=true then none else(h.get? a).map λo=>(a,o)
def we(g h:Heap)(L d:Lz):Ls (Lz×Obj):=(allNews g h L).filter λp=>decide (p.1≠d)
structure Mod(K:qH)(mg:Str->Ln)(base:Heap):Prop where
 kin:K.In base
 glob:base.Ns mainGlobals mg
 blt:∃mb,base.Ns builtinsNs mb/\∀x:Str,x≠"__name__"->mb x=bootBuiltins x
 nolimit:base.NoLimit
structure Cx where
 prog:Lc
 w:Le
 K:qH
 mg:Str->Ln
 base:Heap
 A:Lg
 N:Lm
 s₀:La
 H₀:Hp
 env:Env
 outer:List Env
 stack:List Env
 ex:List Lz
 fn:Str->Bool
 calm:Bool
 pn:List (Lz×Obj)
 xe:Ly
def frs(l:Ls Env):Ls Lz:=l.filterMap (·.frame)
abbrev Cx.fs(X:Cx):Ls Lz:=frs X.outer
def Vis(sc:Scope)(x:Str):Prop:=sc.names.lookup x=some .local\/sc.names.lookup x=some .cell\/sc.names.lookup x=some .free
def Loc(sc:Scope)(x:Str):Prop:=sc.names.lookup x=some .local\/sc.names.lookup x=some .cell
def Look(env:Env)(h:Heap)(m:Str->Lx Lv)(x:Str)(u:Lv):Prop :=
 (env.kindOf x=some .local/\m x=some u)\/((env.kindOf x=some .cell\/env.kindOf x=some .free)/\∃c,env.cells.lookup x=some c/\h.IsCell c (some u))
structure Cx.Ok(X:Cx):Prop where
 mod:Mod X.K X.mg X.base
 kind:X.env.scope.kind=.function
 glob:X.env.globals=mainGlobals
 blt:X.env.builtins=builtinsNs
 above:X.s₀.heap.objs.size<=X.env.locals
 inj:∀x y c,X.env.cells.lookup x=some c->X.env.cells.lookup y=some c->x=y
 has:∀x,(X.env.kindOf x=some .cell\/X.env.kindOf x=some .free)->∃c,X.env.cells.lookup x=some c
 cab:∀x c,X.fn x=true->X.env.cells.lookup x=some c->X.s₀.heap.objs.size<=c
 hd:X.calm=true->X.A.handled=none
 frames:X.A.frames=some X.stack
 stk:X.stack=X.outer\/(X.stack=X.env::X.outer/\X.env.frame=some X.env.locals)
 exf:∀b∈X.ex,b≠X.env.locals/\∀x c,X.env.cells.lookup x=some c->c≠b
 bs:∀b o,X.base.get? b=some o->X.s₀.heap.get? b=some o/\X.H₀ b=none
 bsz:X.base.objs.size<=X.s₀.heap.objs.size
 noex:∀b o,X.base.get? b=some o->b∉X.ex
 exfs:∀b∈X.ex,b∉X.fs
 funs:X.s₀.heap.FunFrames X.base X.outer
 frf:∀b∈X.fs,X.H₀ b=none
structure Inv(X:Cx)(pins:List (Lz×Obj))(O:List (Option V))(H:Hp)(s:La):Prop where
 ok:X.Ok
 os:s.os=X.s₀.os
 bare:AllBare s.gens
 base:Un X.fs X.ex X.H₀ H X.s₀.heap s.heap
 loc:∃m,s.heap.Ns X.env.locals m/\∀(i:Nat) (x:Str) (v:V),X.N[i]?=some x->O[i]?=some (some v)->Vis X.env.scope x->∃u,yy v u/\Look X.env s.heap m x u
 cell:∀x c,X.env.cells.lookup x=some c->∃v,s.heap.IsCell c v
 free:H X.env.locals=none
 freeC:∀x c,X.env.cells.lookup x=some c->H c=none
 pin:∀p∈X.pn++pins,s.heap.get? p.1=some p.2/\H p.1=none/\p.1≠X.env.locals/\p.1∉X.fs/\∀v,p.2.data≠.cell v
 hok:HOk X.prog X.w H s.heap
 len:O.length=X.N.length
section
variable{X:Cx}{pins:Ls (Lz×Obj)}{O:Ls (Lx V)}{H H':Hp}{s:La}{h':Heap}
def Cx.Ok.nofr(ok:X.Ok)(e:X.base.get? b=some o):b∉X.fs:=λJ=>by
 have:=(ok.funs.mem J).1;rw[e]at this;cases this
theorem Inv.bs(I:Inv X pins O H s):∀b o,X.base.get? b=some o->s.heap.get? b=some o/\H b=none:=λb o e =>
 ⟨I.base.keep b o (I.ok.bs b o e).1 (I.ok.bs b o e).2 (I.ok.nofr e) (I.ok.noex b o e),I.base.free b o (I.ok.bs b o e).1 (I.ok.bs b o e).2 (I.ok.noex b o e)⟩
def Inv.bk(I:Inv X pins O H s):∀b o,X.base.get? b=some o->s.heap.get? b=some o:=λb o e=>(I.bs b o e).1
theorem Inv.mod(I:Inv X pins O H s):Mod X.K X.mg X.base:=I.ok.mod
def Inv.kIn(I:Inv X pins O H s):X.K.In s.heap:=I.ok.mod.kin.keeps I.bk
theorem Inv.nolimit(I:Inv X pins O H s):s.heap.NoLimit:=I.ok.mod.nolimit.keeps I.bk
def Inv.fr(I:Inv X pins O H s):∃m,Fr X.base X.env.locals s.heap m :=
 let ⟨m,hn,_⟩:=I.loc
 ⟨m,hn,I.bk,le_trans I.ok.bsz I.ok.above⟩
theorem Inv.lt(I:Inv X pins O H s):X.env.locals<s.heap.objs.size:=let ⟨_,hn,_⟩:=I.loc;hn.lt
def Inv.sz(I:Inv X pins O H s):X.s₀.heap.objs.size<=s.heap.objs.size:=le_trans I.ok.above (Nat.le_of_lt I.lt)
def Inv.nofs(I:Inv X pins O H s)(h:s.heap.objs.size<=a):a∉X.fs:=λJ=>by
 obtain⟨_,o,ho,_⟩:=I.ok.funs.mem J;exact absurd (lt_of_lt_of_le (lt_size ho) (le_trans I.sz h)) (lt_irrefl _)
def Inv.cne(I:Inv X pins O H s):∀x c,X.env.cells.lookup x=some c->c≠X.env.locals:=λx c e z=>by
 obtain⟨v,o,ho,j⟩:=I.cell x c e;obtain⟨m,⟨a,E,l,D,h,_⟩,_⟩:=I.loc;rw[z,D]at ho;cases ho;rw[h]at j;cases j
theorem Inv.funs(I:Inv X pins O H s):s.heap.FunFrames X.base X.outer:=by
 have all:∀(l:Ls Env),(∀b∈frs l,b∈X.fs)->X.s₀.heap.FunFrames X.base l->s.heap.FunFrames X.base l:=by
  intro l
  induction l with
  |nil=>intro _ _;trivial
  |cons h r a =>
   intro S hl;obtain⟨C,⟨L,o,hf,D,ho,j⟩,p⟩:=hl;have y:L∈X.fs:=S L (by unfold frs;rw[filterMap_cons,hf];exact qE);obtain⟨g,e⟩:=I.base.slot L o ho (I.ok.frf L y) y λz=>I.ok.exfs L z y
   exact⟨C,⟨L,_,hf,D,e,j⟩,a (λb J=>S b (by unfold frs;rw[filterMap_cons,hf];exact qD _ J)) p⟩
 exact all X.outer (λ_ J=>J) I.ok.funs
theorem Inv.stack(I:Inv X pins O H s):s.heap.FunFrames X.base X.stack:=by
 rcases I.ok.stk with e|⟨e,hf⟩
 ·rw[e];exact I.funs
 ·rw[e]
  obtain⟨m,D,_⟩:=I.loc;refine .cons (by rw[I.ok.kind];decide) hf D ?_ I.funs;exact Heap.get?_none_of_le (le_trans I.ok.bsz I.ok.above)
def Inv.stkSub(I:Inv X pins O H s):∀b∈frs X.stack,b∈X.env.locals::X.fs:=λb J=>by
 rcases I.ok.stk with e|⟨e,hf⟩
 ·rw[e]at J;exact qD _ J
 ·rw[e]at J
  unfold frs at J;rw[filterMap_cons,hf]at J;exact J
def Inv.stkFree(I:Inv X pins O H s):∀b∈frs X.stack,H b=none:=λb J=>by
 rcases mem_cons.mp (I.stkSub b J)with e|J
 ·rw[e];exact I.free
 ·obtain⟨_,o,ho,_⟩:=I.ok.funs.mem J
  exact I.base.free b o ho (I.ok.frf b J) λz=>I.ok.exfs b z J
def Inv.step{g':Array GenState}{t':Nat}{d':Drawn}{ch:Ls Lz}(I:Inv X pins O H s)
  (h:∀b∈ch,(b∈X.ex\/X.s₀.heap.objs.size<=b)/\b≠X.env.locals/\(∀x c,X.env.cells.lookup x=some c->c≠b)/\∀p∈X.pn++pins,p.1≠b)
  (a:∀b o,b≠X.env.locals->b∉X.fs->b∉ch->s.heap.get? b=some o->H b=none->h'.get? b=some o)
  (E:∀b o,b≠X.env.locals->b∈X.fs->b∉ch->s.heap.get? b=some o->H b=none->∃g,h'.get? b=some {o with slots:=g}) (M:∀b o,b∉ch->s.heap.get? b=some o->H b=none->H' b=none)
  (aa:∀b o,b∉ch->s.heap.get? b=some o->∃o',h'.get? b=some o')
  (ab:∀b Y,H b=some (.t Y)->H' b=some (.t Y)) (ac:∀b o u,H b=some (.frz o u)->H' b=some (.frz o u)) (W:∀b T,H b=some (.tbl T)->∃more,H' b=some (.tbl (T++more)))
  (ns:∀m,s.heap.Ns X.env.locals m->h'.Ns X.env.locals m) (S:HOk X.prog X.w H' h') (hg:AllBare g') :
  Inv X pins O H' {s with heap:=h',gens:=g',drawn:=d',toks:=t'}:=by
 have L:∀b o,X.s₀.heap.get? b=some o->b≠X.env.locals:=λb o e=>ne_of_lt (lt_of_lt_of_le (lt_size e) I.ok.above)
 have y:∀b o,X.s₀.heap.get? b=some o->b∉X.ex->b∉ch:=λb o e V J=>by
  rcases(h b J).1 with z|z
  ·exact V z
  ·exact absurd (lt_of_lt_of_le (lt_size e) z) (lt_irrefl _)
 have P:∀x c,X.env.cells.lookup x=some c->∀v,s.heap.IsCell c v->h'.IsCell c v:=λx c e v ⟨o,ho,j⟩=>by
  have t:c∉ch:=λz=>(h c z).2.2.1 x c e rfl
  by_cases Z:c∈X.fs
  ·obtain⟨g,q⟩:=E c o (I.cne x c e) Z t ho (I.freeC x c e)
   exact⟨_,q,j⟩
  ·exact⟨o,a c o (I.cne x c e) Z t ho (I.freeC x c e),j⟩
 refine⟨I.ok,I.os,hg,⟨λb o e n J V=>?_,λb o e n J V=>?_,λb o e n V=>?_,λb o e V=>?_,λb Y e=>ab b Y (I.base.tups b Y e),λb o Y e=>ac b o Y (I.base.frzs b o Y e),λb T e=>?_⟩,?_,λx c e=>?_,?_,λx c e=>?_,λp G=>?_,S,I.len⟩
 ·exact a b o (L b o e) J (y b o e V) (I.base.keep b o e n J V) (I.base.free b o e n V)
 ·obtain⟨g,R⟩:=I.base.slot b o e n J V
  obtain⟨C,w⟩:=E b _ (L b o e) J (y b o e V) R (I.base.free b o e n V);exact⟨C,w⟩
 ·obtain⟨o',R⟩:=I.base.there b o e V
  exact M b o' (y b o e V) R (I.base.free b o e n V)
 ·obtain⟨o',R⟩:=I.base.there b o e V
  exact aa b o' (y b o e V) R
 ·obtain⟨K,R⟩:=I.base.tbls b T e
  obtain⟨Q,w⟩:=W b _ R;exact⟨K++Q,by rw[w,Array.append_assoc]⟩
 ·obtain⟨m,D,hl⟩:=I.loc
  refine⟨m,ns m D,λi x v R w e3=>?_⟩;obtain⟨u,r,l⟩:=hl i x v R w e3;refine⟨u,r,?_⟩;rcases l with l|⟨k,c,e,z⟩
  ·exact .inl l
  ·exact .inr ⟨k,c,e,P x c e _ z⟩
 ·obtain⟨v,z⟩:=I.cell x c e
  exact⟨v,P x c e v z⟩
 ·obtain⟨m,⟨o,_,_,ho,_⟩,_⟩:=I.loc
  exact M _ o (λz=>(h _ z).2.1 rfl) ho I.free
 ·obtain⟨v,o,ho,j⟩:=I.cell x c e
  exact M c o (λz=>(h c z).2.2.1 x c e rfl) ho (I.freeC x c e)
 ·obtain⟨e,n,ne,nf,d⟩:=I.pin p G
  have t:p.1∉ch:=λz=>(h p.1 z).2.2.2 p G rfl
  exact⟨a p.1 p.2 ne nf t e n,M p.1 p.2 t e n,ne,nf,d⟩
def Inv.un{t':Nat}(I:Inv X pins O H s)(u:Un X.fs [] H H' s.heap h')(S:HOk X.prog X.w H' h'):Inv X pins O H' {s with heap:=h',toks:=t'}:=by
 obtain⟨m,⟨o,E,l,ho,r⟩,_⟩:=id I.loc;obtain⟨g,y⟩:=u.any ho I.free (by simp);exact I.step (g':=s.gens) (d':=s.drawn) (ch:=[]) (λ_ z=>nomatch z) (λb o _ J _ e n=>u.keep b o e n J (by simp)) (λb o _ J _ e n=>u.slot b o e n J (by simp)) (λb o _ e n=>u.free b o e n (by simp)) (λb o _ e=>u.there b o e (by simp)) u.tups u.frzs u.tbls (λk K=>by
  obtain⟨v,i,a,D,T⟩:=K;rw[ho]at D;cases D;exact⟨_,i,a,y,T⟩) S I.bare
def Inv.call{g':Array GenState}{t':Nat}{d':Drawn}{ch:Ls Lz}(I:Inv X pins O H s)(u:Un (frs X.stack) ch H H' s.heap h')(S:HOk X.prog X.w H' h')(j:AllBare g')
  (h:∀b∈ch,(b∈X.ex\/X.s₀.heap.objs.size<=b)/\b≠X.env.locals/\(∀x c,X.env.cells.lookup x=some c->c≠b)/\∀p∈X.pn++pins,p.1≠b) :
  Inv X pins O H' {s with heap:=h',gens:=g',drawn:=d',toks:=t'}:=by
 obtain⟨m,⟨o,E,l,ho,r⟩,_⟩:=id I.loc;obtain⟨g,y⟩:=u.any ho I.free λz=>(h _ z).2.1 rfl
 exact I.step (ch:=ch) h (λb o y J Z e n=>u.keep b o e n (λz=>(mem_cons.mp (I.stkSub b z)).elim y J) Z) (λb o _ _ Z e n=>u.any e n Z) (λb o Z e n=>u.free b o e n Z) (λb o Z e=>u.there b o e Z) u.tups u.frzs u.tbls (λk K=>by
  obtain⟨v,i,a,D,T⟩:=K;rw[ho]at D;cases D;exact⟨_,i,a,y,T⟩) S j
def Inv.turned{t':Nat}{it:Lz}(I:Inv X pins O H s)(k:∀b o,b≠it->s.heap.get? b=some o->h'.get? b=some o)(D:H it=none)(y:it≠X.env.locals)
  (L:it∈X.ex\/X.s₀.heap.objs.size<=it) (Y:∀x c,X.env.cells.lookup x=some c->c≠it) (M:∀p∈X.pn++pins,p.1≠it):Inv X pins O H {s with heap:=h',toks:=t'}:=by
 have a:∀b u,H b=some u->b≠it:=λb u e z=>by rw[z,D]at e;cases e
 refine I.step (g':=s.gens) (d':=s.drawn) (ch:=[it]) (λb J=>?_) (λb o _ _ Z e _=>k b o (λz=>Z (by simp[z])) e) (λb o _ _ Z e _=>⟨o.slots,k b o (λz=>Z (by simp[z])) e⟩) (λ_ _ _ _ n=>n)
  (λb o Z e=>⟨o,k b o (λz=>Z (by simp[z])) e⟩) (λ_ _ e=>e) (λ_ _ _ e=>e) (λb T e=>⟨#[],by rw[e];simp⟩) (λm K=>?_) (λb u e=>?_) I.bare
 ·have e:b=it:=by exists J
  subst e;exact⟨L,y,Y,M⟩
 ·obtain⟨o,E,l,ho,r⟩:=K
  exact⟨o,E,l,k _ o (Ne.symm y) ho,r⟩
 ·refine(I.hok b u e).stay (λc v Z q=>k c v ?_ q) (λ_ q=>q) λ_ _ q=>q
  rcases Z with z|z
  ·rw[z];exact a b u e
  ·exact a c _ z
def Inv.tok(I:Inv X pins O H s)(t:Nat):Inv X pins O H {s with toks:=t}:=I.un (h':=s.heap) (t':=t) Un.refl I.hok
theorem Inv.kept(I:Inv X pins O H s)(k:∀b u,s.heap.get? b=some u->h'.get? b=some u):Inv X pins O H {s with heap:=h',toks:=t'}:=I.un (Un.kept k) (I.hok.kept k)
theorem Inv.laid{a:Lz}{o:HO}{t':Nat}(I:Inv X pins O H s)(k:∀b u,s.heap.get? b=some u->h'.get? b=some u)(G:s.heap.objs.size<=a)(p:jL X.prog X.w (upd H a o) h' a o) :
  Inv X pins O (upd H a o) {s with heap:=h',toks:=t'}:=I.un (Un.laid k G (I.hok.fresh G)) (I.hok.laid k G p)
theorem Inv.write(I:Inv X pins O H s)(a:Mut (H x))(M:e=x\/H e=some (.w x))(k:∀b u,b≠e->s.heap.get? b=some u->h'.get? b=some u)(i:∃u,h'.get? e=some u)
  (p:jL X.prog X.w (upd H x o) h' x o):Inv X pins O (upd H x o) {s with heap:=h',toks:=t'}:=I.un (Un.write a M k i) (I.hok.write a M k i p)
def Inv.weak(I:Inv X pins O H s)(c:O'.length=O.length)(w:∀(i:Nat) v,O'[i]?=some (some v)->O[i]?=some (some v)):Inv X pins O' H s :=
 ⟨I.ok,I.os,I.bare,I.base,let ⟨m,hn,hl'⟩:=I.loc;⟨m,hn,λi x v R a l=>hl' i x v R (w i v a) l⟩,I.cell,I.free,I.freeC,I.pin,I.hok,c.trans I.len⟩
def Inv.pins_of(I:Inv X pins O H s)(h:∀p∈pins',s.heap.get? p.1=some p.2/\H p.1=none/\p.1≠X.env.locals/\p.1∉X.fs/\∀v,p.2.data≠.cell v):Inv X pins' O H s :=
 ⟨I.ok,I.os,I.bare,I.base,I.loc,I.cell,I.free,I.freeC,λp G=>(mem_append.mp G).elim (λz=>I.pin p (mem_append_left _ z)) (h p),I.hok,I.len⟩
def vx{N:Ls Str}(E:N.Nodup){i j:Nat}{x:Str}(a:N[i]?=some x)(b:N[j]?=some x):i=j:=by
 obtain⟨L,R⟩:=qG.mp a;obtain⟨h2,w⟩:=qG.mp b;exact(List.getElem_inj E).mp (R.trans w.symm)
def GJ{M:Model}{A:Lg}{E:Ly}{i:Nat}{x:Str}{v:V}{u:Lv}{Q:Unit->La->Prop}(I:Inv X pins O H s)(hN:X.N.Nodup)(W:X.N[i]?=some x)(hx:Loc X.env.scope x)(r:yy v u)
  (h:∀s',Inv X pins (O.set i (some v)) H s'->(∃a,Heap.SameBut a s.heap s'.heap/\(a=X.env.locals\/X.env.cells.lookup x=some a))->Q () s') (hf:X.fn x=true\/X.env.scope.names.lookup x=some .local:=by first|exact .inl rfl|exact .inr rfl|assumption):wpAny M A (storeName X.env x u) Q E s:=by
 obtain⟨m,D,hl⟩:=id I.loc;have af:(X.env.scope.kind==.class||(X.env.scope.kind==.module&&X.env.locals != X.env.globals))=false:=by rw[I.ok.kind];rfl
 have ad:i<O.length:=by rw[I.len];exact(qG.mp W).1
 have cne:=I.cne;have aa:∀{a:Lz} {h':Heap},(∃o,s.heap.get? a=some o/\H a=none)->Heap.SameBut a s.heap h'->HOk X.prog X.w H h':=λ{a h'} ha S b ob e=>by
  obtain⟨_,_,ab⟩:=ha;refine(I.hok b ob e).stay (λc w' Z q=>(S.2 c ?_).trans q) (λ_ q=>q) λ_ _ q=>q
  rintro rfl
  rcases Z with rfl|Z
  ·rw[ab]at e;cases e
  ·rw[ab]at Z;cases Z
 rcases hx with C|C
 ·refine wpAny_storeName_local C D (λh' ai S=>?_) af
  obtain⟨oL,_,_,ah,_⟩:=id D;refine h _ ⟨I.ok,I.os,I.bare,⟨λb o e n J hx=>?_,λb o e n J hx=>?_,I.base.free,λb o e hx=>?_,I.base.tups,I.base.frzs,I.base.tbls⟩,⟨_,ai,λj y t R w l=>?_⟩,λy c e=>?_,I.free,I.freeC,λp G=>?_,aa ⟨oL,ah,I.free⟩ S,by exists I.len⟩ ⟨_,S,.inl rfl⟩
  ·exact(S.2 b (ne_of_lt (lt_of_lt_of_le (lt_size e) I.ok.above))).trans (I.base.keep b o e n J hx)
  ·obtain⟨sl,R⟩:=I.base.slot b o e n J hx
   exact⟨sl,(S.2 b (ne_of_lt (lt_of_lt_of_le (lt_size e) I.ok.above))).trans R⟩
  ·obtain⟨o',R⟩:=I.base.there b o e hx
   exact⟨o',(S.2 b (ne_of_lt (lt_of_lt_of_le (lt_size e) I.ok.above))).trans R⟩
  ·by_cases T:j=i
   ·subst T
    rw[W]at R;cases R;rw[getElem?_set_self ad]at w;cases w;exact⟨u,r,.inl ⟨C,by simp⟩⟩
   ·rw[getElem?_set_ne (Ne.symm T)]at w
    obtain⟨K,r',q⟩:=hl j y t R w l;refine⟨K,r',?_⟩;rcases q with⟨k,e⟩|⟨k,c,e,z⟩
    ·refine .inl ⟨k,?_⟩
     have:y≠x:=λe=>T (vx hN R (e▸W))
     simp[this,e]
    ·exact .inr ⟨k,c,e,z.sameBut S (cne y c e)⟩
  ·obtain⟨w',z⟩:=I.cell y c e
   exact⟨w',z.sameBut S (cne y c e)⟩
  ·obtain⟨e,n,ne,nf,d⟩:=I.pin p G
   exact⟨(S.2 p.1 ne).trans e,n,ne,nf,d⟩
 ·have ac:X.fn x=true:=by
   rcases hf with z|z
   ·exact z
   ·rw[z]at C;cases C
  obtain⟨c,Z⟩:=I.ok.has x (.inl C);obtain⟨w',z⟩:=I.cell x c Z;refine wpAny_storeName_cell I.ok.kind C Z z (λh' P S=>?_);obtain⟨Y,g,ag⟩:=id z;refine h {s with heap:=h'} ⟨I.ok,I.os,I.bare,⟨λb o e n J hx=>?_,λb o e n J hx=>?_,I.base.free,λb o e hx=>?_,I.base.tups,I.base.frzs,I.base.tbls⟩,⟨m,D.sameBut S (Ne.symm (cne x c Z)),λj y t R w l=>?_⟩,λy L e=>?_,I.free,I.freeC,λp G=>?_,aa ⟨Y,g,I.freeC x c Z⟩ S,by exists I.len⟩ ⟨c,S,.inr Z⟩
  ·exact(S.2 b (ne_of_lt (lt_of_lt_of_le (lt_size e) (I.ok.cab x c ac Z)))).trans (I.base.keep b o e n J hx)
  ·obtain⟨sl,R⟩:=I.base.slot b o e n J hx
   exact⟨sl,(S.2 b (ne_of_lt (lt_of_lt_of_le (lt_size e) (I.ok.cab x c ac Z)))).trans R⟩
  ·obtain⟨o',R⟩:=I.base.there b o e hx
   exact⟨o',(S.2 b (ne_of_lt (lt_of_lt_of_le (lt_size e) (I.ok.cab x c ac Z)))).trans R⟩
  ·by_cases T:j=i
   ·subst T
    rw[W]at R;cases R;rw[getElem?_set_self ad]at w;cases w;exact⟨u,r,.inr ⟨.inl C,c,Z,P⟩⟩
   ·rw[getElem?_set_ne (Ne.symm T)]at w
    obtain⟨K,r',q⟩:=hl j y t R w l;refine⟨K,r',?_⟩;rcases q with q|⟨k,L,e,z'⟩
    ·exact .inl q
    ·refine .inr ⟨k,L,e,z'.sameBut S ?_⟩
     rintro rfl
     exact T (vx hN R (I.ok.inj _ _ _ e Z▸W))
  ·by_cases ae:L=c
   ·subst ae;exact⟨_,P⟩
   ·obtain⟨w2,z2⟩:=I.cell y L e
    exact⟨w2,z2.sameBut S ae⟩
  ·obtain⟨e,n,ne,nf,d⟩:=I.pin p G
   refine⟨(S.2 p.1 ?_).trans e,n,ne,nf,d⟩;intro q;rw[q,g]at e;have q':Y=p.2:=qJ e;exact d w' (by rw[<- q'];exact ag)
def Yo{E:Ly}{Q:Unit->La->Prop}(I:Inv X pins O H s)(a:X.N.Nodup)(W:X.N[i]?=some x)(V:Loc X.env.scope x)(r:yy v u)
  (h:∀j,Inv X pins (O.set i (some v)) H j->Q () j) (t:X.fn x=true\/X.env.scope.names.lookup x=some .local:=by first|exact .inl rfl|exact .inr rfl|assumption):wpAny M A (storeName X.env x u) Q E s :=
 GJ I a W V r (λj I' _=>h j I') t
def Inv.call'(I:Inv X pins O H s)(L:s'.os=s.os)(u:Un (frs X.stack) ch H H' s.heap s'.heap)(S:HOk X.prog X.w H' s'.heap)(n:AllBare s'.gens)
  (h:∀b∈ch,(b∈X.ex\/X.s₀.heap.objs.size<=b)/\b≠X.env.locals/\(∀x c,X.env.cells.lookup x=some c->c≠b)/\∀p∈X.pn++pins,p.1≠b):Inv X pins O H' s':=by
 obtain⟨g,g',d',t',v⟩:=s';have e:v=s.os:=L;subst e;exact I.call (g':=g') (t':=t') (d':=d') u S n h
end
abbrev XK:=Lv->Lx Lz->Hp->Prop
abbrev St:=Ls (Lx V)
abbrev VK:=V->Hp->Prop
abbrev TE:=St->Hp->VK->Prop
abbrev TT:=St->Hp->(Bool->Hp->Prop)->Prop
abbrev TA:=St->Hp->(Ls V->Hp->Prop)->Prop
structure Ends where
 nx:St->Hp->Prop
 rt:VK
 bk:St->Hp->Prop:=λ_ _=>False
 ct:St->Hp->Prop:=λ_ _=>False
abbrev TS:=Ends->St->Hp->Prop
def EP(X:Cx)(G:Ls (Lz×Obj))(O:St)(Q:VK)(u:Lv)(s':La):Prop:=∃v H',Inv X G O H' s'/\yy v u/\Q v H'
def TP(X:Cx)(G:Ls (Lz×Obj))(O:St)(Q:Bool->Hp->Prop)(b:Bool)(s':La):Prop:=∃H',Inv X G O H' s'/\Q b H'
def AP(X:Cx)(G:Ls (Lz×Obj))(O:St)(Q:Ls V->Hp->Prop)(D:Ls Lv)(s':La):Prop:=∃W H',Inv X G O H' s'/\zw W D/\Q W H'
def SP(X:Cx)(G:Ls (Lz×Obj))(D:Ends)(f:Flow)(s':La):Prop :=
 match f with
 | .next=>∃O' H',Inv X G O' H' s'/\D.nx O' H'| .brk=>∃O' H',Inv X G O' H' s'/\D.bk O' H'| .cont=>∃O' H',Inv X G O' H' s'/\D.ct O' H'| .ret u=>∃v O' H',Inv X G O' H' s'/\yy v u/\D.rt v H'
def PE(X:Cx)(e:Lb)(t:TE):Prop :=
 ∀(G:Ls (Lz×Obj)) (s:La) (O:St) (H:Hp) (Q:VK),Inv X G O H s->t O H Q->wpAny (model X.prog X.w) X.A (eval e X.env) (EP X G O Q) X.xe s
def PT(X:Cx)(e:Lb)(t:TT):Prop :=
 ∀(G:Ls (Lz×Obj)) (s:La) (O:St) (H:Hp) (Q:Bool->Hp->Prop),Inv X G O H s->t O H Q->wpAny (model X.prog X.w) X.A (isTrue e X.env (eval e X.env)) (TP X G O Q) X.xe s
def PW(X:Cx)(e:Lb)(t:TT):Prop :=
 ∀(w:Sem Lv) (G:Ls (Lz×Obj)) (s:La) (O:St) (H:Hp) (Q:Bool->Hp->Prop),Inv X G O H s->t O H Q->wpAny (model X.prog X.w) X.A (isTrue e X.env w) (TP X G O Q) X.xe s
def PW.pt(h:PW X e t):PT X e t:=h _
def PA(X:Cx)(es:Ls Lb)(t:TA):Prop :=
 ∀(y:Pos) (G:Ls (Lz×Obj)) (s:La) (O:St) (H:Hp) (Q:Ls V->Hp->Prop),Inv X G O H s->t O H Q->wpAny (model X.prog X.w) X.A (spliced (backTo y (starEach es X.env))) (AP X G O Q) X.xe s
def PS(X:Cx)(st:Lf)(t:TS):Prop :=
 ∀(G:Ls (Lz×Obj)) (s:La) (O:St) (H:Hp) (D:Ends),Inv X G O H s->t D O H->wpAny (model X.prog X.w) X.A (exec st X.env) (SP X G D) X.xe s
def PSs(X:Cx)(st:Ls Lf)(t:TS):Prop :=
 ∀(G:Ls (Lz×Obj)) (s:La) (O:St) (H:Hp) (D:Ends),Inv X G O H s->t D O H->wpAny (model X.prog X.w) X.A (execs st X.env) (SP X G D) X.xe s
def thn{α:Type}{t:Sem α}{Q c:α->La->Prop}{E:Ly}(h:wpAny M A t Q E s)(H:∀a s,Q a s->c a s):wpAny M A t c E s:=wpAny_mono h H λ_ _ x=>x
section
variable{X:Cx}
def bin(P:PE X a ta)(J:PE X b tb){R:V->V->Hp->Prop}(I:Inv X pins O H s)(h:ta O H λx H1=>tb O H1 λy H2=>R x y H2)
  {α:Type} {Q:α->La->Prop} {f:Lv->Lv->Sem α}
  (t:∀v u Y x y H2,Inv X pins O H2 Y->yy x v->yy y u->R x y H2->wpAny (model X.prog X.w) X.A (f v u) Q X.xe Y) :
  wpAny (model X.prog X.w) X.A (eval a X.env) (λv c=>wpAny (model X.prog X.w) X.A (eval b X.env) (λu g=>wpAny (model X.prog X.w) X.A (f v u) Q X.xe g) X.xe c) X.xe s:=by
 refine thn (P pins s O H _ I h) λv l ⟨x,H1,I1,T,j⟩=>?_
 refine thn (J pins l O H1 _ I1 j) λu Y ⟨y,H2,I2,C,S⟩=>?_
 exact t v u Y x y H2 I2 T C S
def zBt(i:Nat):TE:=λO H Q=>∃v,O[i]?=some (some v)/\Q v H
def tC(v:V):TE:=λ_ H Q=>Q v H
def pe_var(E:X.N[i]?=some x)(Y:Vis X.env.scope x)(j:(x==("__debug__":Str))=false:=by decide)(R:(x==("__classdict__":Str))=false:=by decide):PE X (.Name x pos) (zBt i):=by
 intro G s O H Q I h;obtain⟨v,e,h⟩:=h;obtain⟨m,D,hl⟩:=I.loc;obtain⟨u,r,l⟩:=hl i x v E e Y;have K:EP X G O Q u s:=⟨v,H,I,r,h⟩;rcases l with⟨C,g⟩|⟨C,c,Z,a⟩
 ·exact wpAny_Name (wpAny_loadName_local I.ok.kind C D g K) j
 ·rcases C with C|C
  ·exact wpAny_Name (wpAny_loadName_cell I.ok.kind C Z a K) j
  ·exact wpAny_Name (wpAny_loadName_free I.ok.kind C Z a K R) j
def pe_int{i j pos}:PE X (.Constant (.int i) j pos) (tC (.int i)):=λ_ _ _ H _ I h=>wpAny_Constant_int ⟨.int i,H,I.tok _,⟨_,rfl⟩,h⟩
def pe_bl{b j pos}:PE X (.Constant (.bool b) j pos) (tC (.bl b)):=λ_ _ _ H _ I h=>Constant_bool ⟨.bl b,H,I,rfl,h⟩
def pe_non{j pos}:PE X (.Constant .none j pos) (tC .non):=λ_ _ _ H _ I h=>Constant_none ⟨.non,H,I,rfl,h⟩
def pe_str{x j pos}:PE X (.Constant (.str x) j pos) (tC (.str x)):=λ_ _ _ H _ I h=>Calls.Constant_str ⟨.str x,H,I.tok _,⟨_,rfl⟩,h⟩
def Gl(X:Cx)(x:Str):Prop:=X.env.kindOf x=some .globalImplicit
def vz{E:Ly}{Q:Ly}(I:Inv X pins O H s)(n:Gl X x)(K:X.mg x=some u)(h:Q u s)
  (j:(x==("__debug__":Str))=false:=by decide):wpAny (model X.prog X.w) X.A (eval (.Name x pos) X.env) Q E s :=
 Calls.Name_function_global I.ok.kind n (Calls.loadGlobal_global (by rw[I.ok.glob];exact I.mod.glob.keeps I.bk) K h) j
def J3{E:Ly}{Q:Ly}(I:Inv X pins O H s)(n:Gl X x)(K:X.mg x=none)(Y:bootBuiltins x=some u)(h:Q u s)
  (D:x≠"__name__":=by decide) (j:(x==("__debug__":Str))=false:=by decide):wpAny (model X.prog X.w) X.A (eval (.Name x pos) X.env) Q E s:=by
 obtain⟨mb,L,h2⟩:=I.mod.blt;exact Calls.Name_function_global I.ok.kind n (Calls.loadGlobal_builtin (by rw[I.ok.glob];exact I.mod.glob.keeps I.bk) K (by rw[I.ok.blt];exact L.keeps I.bk) ((h2 x D).trans Y) h) j
def QR(n:Gl X x)(K:X.mg x=some u)(r:yy v u)(j:(x==("__debug__":Str))=false:=by decide):PE X (.Name x pos) (tC v) :=
 λ_ _ _ H _ I h=>vz I n K ⟨v,H,I,r,h⟩ j
def zBu(n:Gl X x)(K:X.mg x=none)(Y:bootBuiltins x=some u)(r:yy v u)(D:x≠"__name__":=by decide)(j:(x==("__debug__":Str))=false:=by decide):PE X (.Name x pos) (tC v) :=
 λ_ _ _ H _ I h=>J3 I n K Y ⟨v,H,I,r,h⟩ D j
variable{a b:Lb}{ta tb:TE}{pos:Pos}
def tB(t:TE):TT:=λO H Q=>t O H λx H1=>∃c,x=.bl c/\Q c H1
def pt_val(h:PE X e t)(M:∀w,isTrue e X.env w=(do let v <- w;standAt e.pos;holding [v] (truthy v)):=by intro _;rfl):PT X e (tB t):=by
 intro G s O H Q I R;refine isTrue_plain (thn (h G s O H _ I R) λv l ⟨x,H1,I1,T,j⟩=>?_) (M _);obtain⟨d,rfl,q⟩:=j;cases T;exact wpAny_truthy_bool ⟨H1,I1,q⟩
variable{tA tB':TT}{we:Ls Lb}
def tAnd(t u:TT):TT:=λO H Q=>t O H λc H1=>if c=true then u O H1 Q else Q false H1
def tOr(t u:TT):TT:=λO H Q=>t O H λc H1=>if c=true then Q true H1 else u O H1 Q
def tNot(t:TT):TT:=λO H Q=>t O H λc H1=>Q (!c) H1
def pw_and1(P:PT X a tA):PW X (.BoolOp .And [a] pos) tA:=by
 intro w G s O H Q I h;refine isTrue_and (thn (P G s O H Q I h) λc l e=>?_);cases c with
 |true=>exact isTrue_and_nil e|false=>exact e
def pw_or1(P:PT X a tA):PW X (.BoolOp .Or [a] pos) tA:=by
 intro w G s O H Q I h;refine isTrue_or (thn (P G s O H Q I h) λc l e=>?_);cases c with
 |false=>exact isTrue_or_nil e|true=>exact e
def pw_and(P:PT X a tA)(J:PW X (.BoolOp .And (b::we) pos) tB'):PW X (.BoolOp .And (a::b::we) pos) (tAnd tA tB'):=by
 intro w G s O H Q I h;refine isTrue_and (thn (P G s O H _ I h) λc l ⟨H1,I1,j⟩=>?_);cases c with
 |true=>exact J w G l O H1 Q I1 j|false=>exact⟨H1,I1,j⟩
def pw_or(P:PT X a tA)(J:PW X (.BoolOp .Or (b::we) pos) tB'):PW X (.BoolOp .Or (a::b::we) pos) (tOr tA tB'):=by
 intro w G s O H Q I h;refine isTrue_or (thn (P G s O H _ I h) λc l ⟨H1,I1,j⟩=>?_);cases c with
 |true=>exact⟨H1,I1,j⟩|false=>exact J w G l O H1 Q I1 j
def pt_not(P:PT X a tA):PT X (.UnaryOp .Not a pos) (tNot tA):=by
 intro G s O H Q I h;exact isTrue_not (P G s O H (λc H1=>Q (!c) H1) I h)
def tAndV(v h:TE):TE:=λO H Q=>v O H λx H1=>∃c,x=.bl c/\if c=true then h O H1 Q else Q (.bl false) H1
def tNotV(v:TE):TE:=λO H Q=>v O H λx H1=>∃c,x=.bl c/\Q (.bl (!c)) H1
def pe_one{op}(h:PE X a t):PE X (.BoolOp op [a] pos) t:=λG s O H Q I R=>BoolOp_one (h G s O H Q I R)
def pe_and(P:PE X a ta)(J:PE X (.BoolOp .And (b::we) pos) tb):PE X (.BoolOp .And (a::b::we) pos) (tAndV ta tb):=by
 intro G s O H Q I h;refine BoolOp_and (thn (P G s O H _ I h) λv l ⟨x,H1,I1,T,j⟩=>?_);obtain⟨c,rfl,j⟩:=j;cases T;refine wpAny_truthy_bool ?_;cases c with
 |true=>exact J G l O H1 Q I1 j|false=>exact⟨.bl false,H1,I1,rfl,j⟩
def pe_not(P:PE X a ta):PE X (.UnaryOp .Not a pos) (tNotV ta):=by
 intro G s O H Q I h;refine UnaryOp_ (thn (P G s O H _ I h) λv l ⟨x,H1,I1,T,j⟩=>?_);obtain⟨c,rfl,j⟩:=j;cases T;exact not_of (wpAny_truthy_bool ⟨.bl (!c),H1,I1,rfl,j⟩)
def tIf(t:TT)(v h:TE):TE:=λO H Q=>t O H λc H1=>if c=true then v O H1 Q else h O H1 Q
def zEg(Z:PT X c tA)(P:PE X a ta)(J:PE X b tb):PE X (.IfExp c a b pos) (tIf tA ta tb):=by
 intro G s O H Q I h;refine wpAny_IfExp (thn (Z G s O H _ I h) λd l ⟨H1,I1,j⟩=>?_);cases d with
 |true=>exact P G l O H1 Q I1 j|false=>exact J G l O H1 Q I1 j
end
def SqL(K:qH)(H:Hp)(a:Lz)(xs:Ls V):Prop :=
 Rd H a (.l xs) \/
  ∃(o:Obj) (its:Lh) (n:Nat),K.lookup a=some o/\o.cls=.type "list"/\o.dict=none/\o.data=.seq its n/\its.size<=sizeLine/\zw xs its.toList
def SqT(K:qH)(H:Hp)(a:Lz)(xs:Ls V):Prop :=
 Rd H a (.t xs) \/
  ∃(o:Obj) (its:Lh) (n:Nat),K.lookup a=some o/\o.cls=.type "tuple"/\o.data=.seq its n/\its.size<=sizeLine/\zw xs its.toList
def absV:Lv->Lx V
 | .none=>some .non| .bool b=>some (.bl b)| .int i _=>some (.int i)| .str x _=>some (.str x)| .bytes b _=>some (.byt b)| .float b _=>some (.flt b)| .ref a=>some (.ref a)| .type n=>some (.ty n)|_=>none
def yy.abs(r:yy x u):absV u=some x:=by
 cases x with
 |non=>cases r;rfl|bl _=>cases r;rfl|int _=>obtain⟨t,rfl⟩:=r;rfl|str _=>obtain⟨t,rfl⟩:=r;rfl|byt _=>obtain⟨t,rfl⟩:=r;rfl|flt _=>obtain⟨t,rfl⟩:=r;rfl|ref _=>cases r;rfl|ty _=>cases r;rfl
theorem yy.inj(r:yy x u)(q:yy y u):x=y:=qJ (r.abs.symm.trans q.abs)
theorem zw.inj:∀{Y J:Ls V} {D:Ls Lv},zw Y D->zw J D->Y=J
 |_,_,_,.nil,.nil=>rfl|_,_,_,.cons r t,.cons r' t'=>by rw[r.inj r',zw.inj t t']
section
variable{X:Cx}{pins:Ls (Lz×Obj)}{O:St}{H:Hp}{s:La}{a:Lz}{xs ys:Ls V}
def SqL.of{K:qH}(h:H a=some (.l xs)):SqL K H a xs:=.inl (.inl h)
def SqT.of{K:qH}(h:H a=some (.t xs)):SqT K H a xs:=.inl (.inl h)
def Inv.list(I:Inv X pins O H s)(h:SqL X.K H a xs):∃its:Ls Lv,zw xs its/\PlainL s.heap a its.toArray/\xs.length<=sizeLine:=by
 rcases h with h|⟨o,its,n,C,Z,j,S,hz,r⟩
 ·obtain⟨z,its,n,r,e⟩:=h.ok I.hok
  exact⟨its,r,⟨_,n,e,rfl,rfl,rfl⟩,z⟩
 ·refine⟨its.toList,r,⟨o,n,I.kIn a o C,Z,j,by exists S⟩,?_⟩
  have e:=r.length;dsimp[Array.length_toList]at e;lia
def Inv.tuple(I:Inv X pins O H s)(h:SqT X.K H a xs):∃its:Ls Lv,zw xs its/\IsTup s.heap a its.toArray/\xs.length<=sizeLine:=by
 rcases h with h|⟨o,its,n,C,Z,S,hz,r⟩
 ·obtain⟨z,its,r,p⟩:=h.ok I.hok
  exact⟨its,r,p,z⟩
 ·refine⟨its.toList,r,⟨o,I.kIn a o C,Z,n,by exists S⟩,?_⟩
  have e:=r.length;dsimp[Array.length_toList]at e;lia
def Inv.list_inj(I:Inv X pins O H s)(h:SqL X.K H a xs)(h':SqL X.K H a ys):xs=ys:=by
 obtain⟨its,r,⟨o,n,e,_,_,d⟩,_⟩:=I.list h;obtain⟨its',T,⟨v,E,y,_,_,t⟩,_⟩:=I.list h';rw[e]at y;cases y;rw[d]at t;injection t with d1 _
 have:its=its':=by exists congrArg Array.toList d1
 subst this;exact r.inj T
def Inv.tuple_inj(I:Inv X pins O H s)(h:SqT X.K H a xs)(h':SqT X.K H a ys):xs=ys:=by
 obtain⟨its,r,⟨o,e,_,n,d⟩,_⟩:=I.tuple h;obtain⟨its',T,⟨v,y,_,E,t⟩,_⟩:=I.tuple h';rw[e]at y;cases y;rw[d]at t;injection t with d1 _
 have:its=its':=by exists congrArg Array.toList d1
 subst this;exact r.inj T
end
abbrev Cx.wish(X:Cx)(E:Ly):Cx:={X with xe:=E}
abbrev Cx.nox(X:Cx):Cx:=X.wish λ_ _=>False
theorem Cx.Ok.wish{X:Cx}(ok:X.Ok)(E:Ly):(X.wish E).Ok :=
 ⟨ok.mod,ok.kind,ok.glob,ok.blt,ok.above,ok.inj,ok.has,ok.cab,ok.hd,ok.frames,ok.stk,ok.exf,ok.bs,ok.bsz,ok.noex,ok.exfs,ok.funs,ok.frf⟩
def Cx.Ok.unwish{X:Cx}{E:Ly}(ok:(X.wish E).Ok):X.Ok :=
 ⟨ok.mod,ok.kind,ok.glob,ok.blt,ok.above,ok.inj,ok.has,ok.cab,ok.hd,ok.frames,ok.stk,ok.exf,ok.bs,ok.bsz,ok.noex,ok.exfs,ok.funs,ok.frf⟩
section
variable{X:Cx}{pins:Ls (Lz×Obj)}{O:St}{H:Hp}{s:La}{E:Ly}
theorem Inv.wish(I:Inv X pins O H s)(E:Ly):Inv (X.wish E) pins O H s:=⟨I.ok.wish E,I.os,I.bare,I.base,I.loc,I.cell,I.free,I.freeC,I.pin,I.hok,I.len⟩
theorem Inv.unwish(I:Inv (X.wish E) pins O H s):Inv X pins O H s:=⟨I.ok.unwish,I.os,I.bare,I.base,I.loc,I.cell,I.free,I.freeC,I.pin,I.hok,I.len⟩
theorem SP.unwish{D:Ends}{f:Flow}{s':La}(h:SP (X.wish E) pins D f s'):SP X pins D f s':=by
 cases f with
 |next=>obtain⟨O',H',I,q⟩:=h;exact⟨O',H',I.unwish,q⟩|brk=>obtain⟨O',H',I,q⟩:=h;exact⟨O',H',I.unwish,q⟩|cont=>obtain⟨O',H',I,q⟩:=h;exact⟨O',H',I.unwish,q⟩|ret u=>obtain⟨v,O',H',I,r,q⟩:=h;exact⟨v,O',H',I.unwish,r,q⟩
theorem PE.nox(h:PE X.nox e t):PE X e t:=λG s O H Q I R =>
 wpAny_mono (h G s O H Q (I.wish _) R) (λ_ _ ⟨v,H',I',r,q⟩=>⟨v,H',I'.unwish,r,q⟩) λ_ _ z=>False.elim z
theorem PT.nox(h:PT X.nox e t):PT X e t:=λG s O H Q I R =>
 wpAny_mono (h G s O H Q (I.wish _) R) (λ_ _ ⟨H',I',q⟩=>⟨H',I'.unwish,q⟩) λ_ _ z=>False.elim z
theorem PSs.nox{st:Ls Lf}{t:TS}(h:PSs X.nox st t):PSs X st t:=λG s O H D I R =>
 wpAny_mono (h G s O H D (I.wish _) R) (λ_ _ q=>q.unwish) λ_ _ z=>False.elim z
end
section
variable{X:Cx}{st:Lf}{we:Ls Lf}{t u:TS}{e:Lb}{te:TE}{pos:Pos}
def tNext:TS:=λD O H=>D.nx O H
def tSeq(t u:TS):TS:=λD O H=>t {D with nx:=u D} O H
def pss_nil:PSs X [] tNext:=λ_ _ O H _ I h=>wpAny_execs_nil ⟨O,H,I,h⟩
def zEh(L:PS X st t)(Y:PSs X we u):PSs X (st::we) (tSeq t u):=by
 intro G s O H D I h;refine wpAny_execs_cons (thn (L G s O H {D with nx:=u D} I h) λf l q=>?_)
 cases f with
 |next =>
  obtain⟨O',H',I',q⟩:=q;exact Y G l O' H' D I' q
 |ret v=>exact q|brk=>exact q|cont=>exact q
def pss_one(L:PS X st t):PSs X [st] t:=by
 intro G s O H D I h;refine wpAny_execs_cons (thn (L G s O H D I h) λf l q=>?_);cases f with
 |next=>exact wpAny_execs_nil q|ret v=>exact q|brk=>exact q|cont=>exact q
def Inv.quiet(I:Inv X pins O H s):interactive X.env=false:=by simp[interactive,I.ok.kind]
def tDrop(t:TE):TS:=λD O H=>t O H λ_ H1=>D.nx O H1
def zBv(M:PE X e te)(S:swapsWith e none pos.line X.env=pure false:=by rfl):PS X (.Expr e pos) (tDrop te):=by
 intro G s O H D I h;exact wpAny_Expr_any (thn (M G s O H _ I h) λv l ⟨x,H1,I1,T,j⟩=>⟨O,H1,I1,j⟩) I.quiet S
def tRet(t:TE):TS:=λD O H=>t O H D.rt
def ps_ret(M:PE X e te):PS X (.Return (some e) pos) (tRet te):=by
 intro G s O H D I h;exact wpAny_Return_some (thn (M G s O H _ I h) λv l ⟨x,H1,I1,T,j⟩=>⟨x,O,H1,I1,T,j⟩)
def tIfS(c:TT)(t u:TS):TS:=λD O H=>c O H λb H1=>if b=true then t D O H1 else u D O H1
def ps_if(Z:PT X c tc)(P:PSs X a t)(J:PSs X b u):PS X (.If c a b pos) (tIfS tc t u):=by
 intro G s O H D I h;refine wpAny_If (thn (Z G s O H _ I h) λd l ⟨H1,I1,j⟩=>?_);cases d with
 |true=>exact P G l O H1 D I1 j|false=>exact J G l O H1 D I1 j
def tNever:TS:=λ_ _ _=>False
def zEi:PS X st tNever:=λ_ _ _ _ _ _ h=>h.elim
end
abbrev TG:=V->St->Hp->(St->Hp->Prop)->Prop
abbrev TGs:=Ls V->St->Hp->(St->Hp->Prop)->Prop
def PG(X:Cx)(a:Lb)(t:TG):Prop :=
 ∀(G:Ls (Lz×Obj)) (s:La) (O:St) (H:Hp) (v:V) (u:Lv) (Q:St->Hp->Prop),Inv X G O H s->yy v u->t v O H Q ->
  wpAny (model X.prog X.w) X.A (assign a X.env u) (λ_ j=>∃O' H',Inv X G O' H' j/\Q O' H') X.xe s
def PGs(X:Cx)(ts:Ls Lb)(t:TGs):Prop :=
 ∀(G:Ls (Lz×Obj)) (s:La) (O:St) (H:Hp) (W:Ls V) (D:Ls Lv) (Q:St->Hp->Prop),Inv X G O H s->zw W D->t W O H Q ->
  wpAny (model X.prog X.w) X.A (assignInOrder ((assignEach ts X.env).map (·.2)) D) (λ_ j=>∃O' H',Inv X G O' H' j/\Q O' H') X.xe s
abbrev TSet:=V->V->V->Hp->(Hp->Prop)->Prop
def PSet(X:Cx)(t:TSet):Prop :=
 ∀(G:Ls (Lz×Obj)) (s:La) (O:St) (H:Hp) (o i v:V) (a K u:Lv) (Q:Hp->Prop),Inv X G O H s->yy o a->yy i K->yy v u->t o i v H Q ->
  wpAny (model X.prog X.w) X.A (setItem a K u) (λ_ j=>∃H',Inv X G O H' j/\Q H') X.xe s
abbrev TIp:=V->V->Hp->VK->Prop
def PIp(X:Cx)(op:Operator)(t:TIp):Prop :=
 ∀(G:Ls (Lz×Obj)) (s:La) (O:St) (H:Hp) (x y:V) (v u:Lv) (Q:VK),Inv X G O H s->yy x v->yy y u->t x y H Q ->
  wpAny (model X.prog X.w) X.A (inplaceOp op v u) (EP X G O Q) X.xe s
section
variable{X:Cx}{pos:Pos}
def QS(i:Nat):TG:=λv O H Q=>Q (O.set i (some v)) H
def zBw(E:X.N.Nodup)(W:X.N[i]?=some x)(V:Loc X.env.scope x)(t:X.fn x=true\/X.env.scope.names.lookup x=some .local:=by first|exact .inl rfl|exact .inr rfl|assumption):PG X (.Name x pos) (QS i):=by
 intro G s O H v u Q I r h;exact wpAny_assign_Name (Yo I E W V r (λj I'=>⟨_,H,I',h⟩) t)
def gNil:TGs:=λW O H Q=>W=[]/\Q O H
def gCons(t:TG)(u:TGs):TGs:=λW O H Q=>∃v r,W=v::r/\t v O H λO' H'=>u r O' H' Q
def pgs_nil:PGs X [] gNil:=by
 intro G s O H W D Q I r h;obtain⟨e,h⟩:=h;subst e;cases r;exact assignInOrder_nil ⟨O,H,I,h⟩
def zEj(L:PG X e t)(Y:PGs X es u)
  (S:(assignEach (e::es) X.env).map (·.2)=assign e X.env::(assignEach es X.env).map (·.2):=by rfl):PGs X (e::es) (gCons t u):=by
 intro G s O H W D Q I r h;obtain⟨v,a,R,h⟩:=h;subst R;cases r with
 |cons r x =>
  rw[S];refine assignInOrder_cons (thn (L G s O H _ _ _ I r h) λ_ l ⟨O1,H1,I1,j⟩=>?_);exact Y G l O1 H1 _ _ Q I1 x j
def gTup(K:qH)(n:Nat)(t:TGs):TG:=λv O H Q=>∃a Y,v=.ref a/\SqT K H a Y/\Y.length=n/\t Y O H Q
def zGU(Z:X.calm=true)(h:PGs X es t)
  (D:(assignEach es X.env).length=n:=by rfl) (c:(assignEach es X.env).findIdx? (·.1)=none:=by rfl):PG X (.Tuple es k pos) (gTup X.K n t):=by
 intro G s O H v u Q I r R;obtain⟨a,Y,i,P,hl,R⟩:=R;subst i;cases r;obtain⟨its,M,ht,hz⟩:=I.tuple P;refine assign_Tuple_tuple (I.ok.hd Z) ht (by simp[D,<- hl,M.length]) c λg V=>?_
 have I1:Inv X G O H {s with heap:=g}:=I.kept (t':=s.toks) λb o e=>V b o (ne_of_lt (lt_size e)) e
 exact h G _ O H Y _ Q I1 (by exists M) R
def gSub(a e:TE)(t:TSet):TG:=λv O H Q=>a O H λo H1=>e O H1 λi H2=>t o i v H2 λH3=>Q O H3
def pg_sub(L:PE X o to)(W:PE X i ti)(a:PSet X t)
  (P:∀v,assign (.Subscript o i pos) X.env v=(do
   let ov <- holding [v] (eval o X.env)
   let iv <- holding [v,ov] (eval i X.env)
   standAt pos
   holding [v,ov,iv] (setItem ov iv v)
   release [v,ov,iv] []):=by intro _;rfl):PG X (.Subscript o i pos) (gSub to ti t):=by
 intro G s O H v u Q I r h;rw[P];refine qB (wpAny_holding (thn (L G s O H _ I h) λov l ⟨x,H1,I1,T,j⟩=>?_));refine qB (wpAny_holding (thn (W G l O H1 _ I1 j) λiv Y ⟨y,H2,I2,C,S⟩=>?_));refine qB (wpAny_standAt (qB (wpAny_holding (thn (a G Y O H2 x y v ov iv u _ I2 T C r S) λ_ c ⟨H3,I3,R⟩=>?_))));exact wpAny_release ⟨O,H3,I3,R⟩
def tAsg(t:TE)(g:TG):TS:=λD O H=>t O H λx H1=>g x O H1 D.nx
def zGV(M:PE X e te)(n:PG X tg g)(S:swapsWithSole [tg] e pos.line X.env=pure false:=by rfl)(R:swappedStores [tg] e X.env=pure none:=by rfl)
  (L:(assignEach [tg] X.env).map (·.2)=[assign tg X.env]:=by rfl):PS X (.Assign [tg] e pos) (tAsg te g):=by
 intro G s O H D I h;refine wpAny_Assign_stores (thn (M G s O H _ I h) λv l ⟨x,H1,I1,T,j⟩=>?_) S R;rw[L];exact thn (n G l O H1 x v _ I1 T j) λ_ Y q=>q
def ps_set(E:X.N.Nodup)(W:X.N[i]?=some x)(V:Loc X.env.scope x)(M:PE X e te)(S:swapsWith e (some (.Name x pos')) pos.line X.env=pure false:=by rfl)(t:X.fn x=true\/X.env.scope.names.lookup x=some .local:=by first|exact .inl rfl|exact .inr rfl|assumption) :
  PS X (.Assign [.Name x pos'] e pos) (tAsg te (QS i)):=by
 intro G s O H D I h;refine wpAny_Assign_Name (thn (M G s O H _ I h) λv l ⟨y,H1,I1,T,j⟩=>?_) S;exact Yo I1 E W V T (λY I2=>⟨_,H1,I2,j⟩) t
def tAug(i:Nat)(t:TE)(e:TIp):TS:=λD O H=>∃x,O[i]?=some (some x)/\t O H λy H1=>e x y H1 λz H2=>D.nx (O.set i (some z)) H2
def zBx(E:X.N.Nodup)(W:X.N[i]?=some x)(V:Loc X.env.scope x)(M:PE X e te)(L:PIp X op ti)(t:X.fn x=true\/X.env.scope.names.lookup x=some .local:=by first|exact .inl rfl|exact .inr rfl|assumption) :
  PS X (.AugAssign (.Name x pos') op e pos) (tAug i te ti):=by
 intro G s O H D I h;obtain⟨v,R,h⟩:=h;obtain⟨m,J,hl⟩:=I.loc;have vis:Vis X.env.scope x:=by rcases V with k|k;exact .inl k;exact .inr (.inl k)
 obtain⟨u,r,l⟩:=hl i x v W R vis;refine wpAny_AugAssign_Name ?_;have o:wpAny (model X.prog X.w) X.A (eval e X.env) (λw g=>wpAny (model X.prog X.w) X.A (inplaceOp op u w) (λr n=>wpAny (model X.prog X.w) X.A (storeName X.env x r) (λ_=>SP X G D .next) X.xe n) X.xe g) X.xe s:=by
  refine thn (M G s O H _ I h) λw q ⟨y,H1,I1,T,j⟩=>?_
  refine thn (L G q O H1 v y u w _ I1 r T j) λz Y ⟨p,H2,I2,P,S⟩=>?_
  exact Yo I2 E W V P (λQ I3=>⟨_,H2,I3,S⟩) t
 rcases l with⟨C,K⟩|⟨C,c,Z,a⟩
 ·exact wpAny_loadName_local I.ok.kind C J K o
 ·rcases C with C|C
  ·exact wpAny_loadName_cell I.ok.kind C Z a o
  ·rcases V with k|k
   ·have:X.env.scope.names.lookup x=some .free:=C
    rw[k]at this;cases this
   ·have:X.env.scope.names.lookup x=some .free:=C
    rw[k]at this;cases this
def ipI(f:Int->Int->Int):TIp:=λx y H Q=>∃i j,x=.int i/\y=.int j/\Q (.int (f i j)) H
def ip_add:PIp X .Add (ipI λi j=>i+j):=by
 intro G s O H x y v u Q I T C h;obtain⟨i,j,R,w,q⟩:=h;subst R;subst w;obtain⟨t,rfl⟩:=T;obtain⟨o,rfl⟩:=C;exact iadd_int ⟨.int _,H,I.tok _,⟨_,rfl⟩,q⟩
def ip_sub:PIp X .Sub (ipI λi j=>i-j):=by
 intro G s O H x y v u Q I T C h;obtain⟨i,j,R,w,q⟩:=h;subst R;subst w;obtain⟨t,rfl⟩:=T;obtain⟨o,rfl⟩:=C;exact isub_int ⟨.int _,H,I.tok _,⟨_,rfl⟩,q⟩
end
section
variable{X:Cx}{pos:Pos}
def zGW(c:TT)(h:TS):TS:=λD O H=>∃W:Nat->St->Hp->Prop,(∃m,W m O H)/\∀m O H,W m O H ->
 c O H λb H1=>if b=true then ∃N:St->Hp->Prop,(∀O' H',N O' H'->∃k,k<m/\W k O' H')/\h {D with nx:=N,ct:=N,bk:=D.nx} O H1 else D.nx O H1
def zEk(e:PassesOwn (model X.prog X.w) X.A X.env X.xe)(Z:PT X c tc)(J:PSs X body tb):PS X (.While c body [] pos) (zGW tc tb):=by
 intro G s O H D I h;obtain⟨W,⟨g,E⟩,a⟩:=h;refine wpAny_While (codeAny_whileLoop (λn j=>∃O' H',Inv X G O' H' j/\W n O' H') ?_ g ⟨O,H,I,E⟩)
 rintro n l ⟨O1,H1,I1,Q⟩
 refine wpAny_passesOwn e (thn (Z G l O1 H1 _ I1 (a n O1 H1 Q)) λb Y ⟨H2,I2,S⟩=>?_);cases b with
 |true =>
  obtain⟨N,hN,S⟩:=S;rw[if_pos rfl];refine wpAny_passesOwn e (thn (J G Y O1 H2 _ I2 S) λf t R=>?_);cases f with
  |next =>
   obtain⟨O3,H3,I3,y⟩:=R;obtain⟨k,K,w⟩:=hN O3 H3 y;exact⟨k,K,O3,H3,I3,w⟩
  |cont =>
   obtain⟨O3,H3,I3,y⟩:=R;obtain⟨k,K,w⟩:=hN O3 H3 y;exact⟨k,K,O3,H3,I3,w⟩
  |brk=>exact R|ret v=>exact R
 |false =>
  rw[if_neg qF];exact wpAny_execs_nil ⟨O1,H2,I2,S⟩
end
structure It where
 go:Nat->Hp->Prop
 yld:Nat->Hp->V->Hp->Prop
 stop:Nat->Hp->Prop
def zAK(X:Cx)(G:Ls (Lz×Obj))(H:Hp)(b:Lz):Prop :=
 H b=none/\b≠X.env.locals/\b∉X.fs/\(b∈X.ex\/X.s₀.heap.objs.size<=b)/\(∀x c,X.env.cells.lookup x=some c->c≠b)/\∀p∈X.pn++G,p.1≠b
def Inv.fpOk(I:Inv X pins O H s)(J:s.heap.objs.size<=b)(D:H' b=none):zAK X pins H' b:=by
 refine⟨D,ne_of_gt (lt_of_lt_of_le I.lt J),I.nofs J,.inr (le_trans I.sz J),λx c e z=>?_,λp G z=>?_⟩
 ·obtain⟨v,q⟩:=I.cell x c e
  exact absurd (lt_of_lt_of_le q.lt (by rw[z];exact J)) (lt_irrefl _)
 ·exact absurd (lt_of_lt_of_le (lt_size (I.pin p G).1) (by rw[z];exact J)) (lt_irrefl _)
structure Turn(P:Lc)(w:Le)(K:qH)(tg:Lb)(J:It)(fp:List Lz)(it:Lz)(tn:Ll):Prop where
 mem:it∈fp
 obj:∀i h,tn i h->∀b∈fp,∃o,h.get? b=some o/\∀v,o.data≠.cell v
 keep:∀i h h',tn i h->(∀b∈fp,∀o,h.get? b=some o->h'.get? b=some o)->tn i h'
 item:∀(X:Cx),X.prog=P->X.w=w->X.K=K->X.calm=true->∀(i:Nat) (pins:List (Lz×Obj)) (s:La) (O:St) (H:Hp) (E:Ly),Inv X pins O H s->(∀b∈fp,zAK X pins H b)->tn i s.heap->J.go i H ->
  wpAny (model P w) X.A (pyNext (.ref it)) (λr s1=>∃u,r=some u /\
   wpAny (model P w) X.A (letOwnedTupleGo tg (.ref it) u) (λ_ s2=>∃x H',Inv X pins O H' s2/\yy x u/\J.yld i H x H'/\tn (i+1) s2.heap/\∀b∈fp,H' b=none) E s1) E s
 done:∀(X:Cx),X.prog=P->X.w=w->X.K=K->X.calm=true->∀(i:Nat) (pins:List (Lz×Obj)) (s:La) (O:St) (H:Hp) (E:Ly),Inv X pins O H s->(∀b∈fp,zAK X pins H b)->tn i s.heap->J.stop i H ->
  wpAny (model P w) X.A (pyNext (.ref it)) (λr s1=>r=none/\Inv X pins O H s1) E s
 self:∀(A:Lg) (i:Nat) (s:La) (Q:Ly) (E:Ly),tn i s.heap->Q (.ref it) s->wpAny (model P w) A (pyIter (.ref it)) Q E s
abbrev TI:=St->Hp->(It->Hp->Prop)->Prop
def PIE(X:Cx)(G:Ls (Lz×Obj))(O:St)(tg:Lb)(R:It->Hp->Prop)(i:Lv)(Y:La):Prop :=
 ∃(l:Lz) (P:Ls Lz) (a:Ll) (J:It) (H':Hp),i=.ref l/\Inv X G O H' Y/\Turn X.prog X.w X.K tg J P l a/\a 0 Y.heap/\(∀b∈P,zAK X G H' b)/\R J H'
def PI(X:Cx)(tg p:Lb)(w:TI):Prop :=
 ∀(G:Ls (Lz×Obj)) (s:La) (O:St) (H:Hp) (R:It->Hp->Prop),Inv X G O H s->w O H R ->
  wpAny (model X.prog X.w) X.A (eval p X.env) (λv l=>wpAny (model X.prog X.w) X.A (pyIter v) (PIE X G O tg R) X.xe l) X.xe s
def YN{E:Ly}{Q:Unit->La->Prop}(L:s.heap.get? it=some o)(Z:o.cls=.type n)(j:o.data=.fields vs)
  (D:["enumerate","zip","dict_itemiterator","dict_reverseitemiterator","odict_iterator","itertools.zip_longest","itertools.pairwise"].contains n=false) (H:Q () s):wpAny M A (letOwnedTupleGo tg (.ref it) u) Q E s:=by
 unfold letOwnedTupleGo
 cases tg<;>first
  |exact qC H
  | (cases u<;>first
    |exact qC H
    | (refine qB (wpAny_load L ?_)
       rw[Z,j];show wpAny M A (if(["enumerate","zip","dict_itemiterator","dict_reverseitemiterator","odict_iterator","itertools.zip_longest","itertools.pairwise"].contains n&&vs[0]?==some (rawInt _))=true then _ else _) Q E s;rw[if_neg (by intro h;rw[D,Bool.false_and]at h;cases h)];exact qC H))
def Itl(K:qH)(a:Lz):It :=
 ⟨λi H=>∃Y x,SqL K H a Y/\Y[i]?=some x,λi H x H'=>H'=H/\∀Y,SqL K H a Y->Y[i]?=some x,λi H=>∃Y,SqL K H a Y/\Y.length<=i⟩
def Itt(K:qH)(a:Lz):It :=
 ⟨λi H=>∃Y x,SqT K H a Y/\Y[i]?=some x,λi H x H'=>H'=H/\∀Y,SqT K H a Y->Y[i]?=some x,λi H=>∃Y,SqT K H a Y/\Y.length<=i⟩
def Itr(z:Int)(n:Nat):It:=⟨λi _=>i<n,λi H x H'=>H'=H/\x=.int (z+i),λi _=>n<=i⟩
def zBy{P:Lc}{w:Le}{K:qH}{tg:Lb}(a it:Lz):Turn P w K tg (Itl K a) [it] it (λi h=>h.IsListIter it a i) where
 mem:=by simp
 obj:=λi h Q b J=>by
  have e:b=it:=by exists J
  subst e;obtain⟨o,e,c,d⟩:=Q;exact⟨o,e,λv z=>by rw[d]at z;cases z⟩
 keep:=λi h g Q k=>Q.at λo e=>k it (by simp) o e
 item:=by
  intro X C R L Z i G s O H E I hf Q n;subst C R L;obtain⟨Y,x,t,V⟩:=n;obtain⟨its,M,p,hz⟩:=I.list t;obtain⟨u,hu,ru⟩:=M.get V;obtain⟨r,l,W,q,j,T⟩:=hf it (by simp);refine wpAny_pyNext_list_item Q p.isList (x:=u) (by exists hu) λg D y=>?_
  have I1:Inv X G O H {s with heap:=g}:=I.turned (t':=s.toks) (λb o J e=>(y.2 b J).trans e) r l q j T
  obtain⟨o,e,c,d⟩:=id D;exact⟨u,rfl,YN (s:={s with heap:=g}) e c d (by decide) ⟨x,H,I1,ru,⟨rfl,λys hy=>by rw[I.list_inj hy t];exact V⟩,D,λb J=>(hf b J).1⟩⟩
 done:=by
  intro X C R L Z i G s O H E I hf Q n;subst C R L;obtain⟨Y,t,V⟩:=n;obtain⟨its,M,p,hz⟩:=I.list t;obtain⟨r,l,W,q,j,T⟩:=hf it (by simp);have hl:=M.length;exact wpAny_pyNext_list_end (I.ok.hd Z) Q p.isList (by simp;lia) λg S=>⟨rfl,I.turned (t':=s.toks) (λb o J e=>S b o J e) r l q j T⟩
 self:=λ_ _ _ _ _ Q h=>wpAny_pyIter_listiter Q h
def zBK{P:Lc}{w:Le}{K:qH}{tg:Lb}(a it:Lz):Turn P w K tg (Itt K a) [it] it (λi h=>h.IsTupleIter it a i) where
 mem:=by simp
 obj:=λi h Q b J=>by
  have e:b=it:=by exists J
  subst e;obtain⟨o,e,c,d⟩:=Q;exact⟨o,e,λv z=>by rw[d]at z;cases z⟩
 keep:=λi h g Q k=>Q.at λo e=>k it (by simp) o e
 item:=by
  intro X C R L Z i G s O H E I hf Q n;subst C R L;obtain⟨Y,x,t,V⟩:=n;obtain⟨its,M,p,hz⟩:=I.tuple t;obtain⟨u,hu,ru⟩:=M.get V;obtain⟨r,l,W,q,j,T⟩:=hf it (by simp);refine wpAny_pyNext_tuple_item Q (show s.heap.IsTuple a its.toArray from p) (x:=u) (by exists hu) λg D y=>?_
  have I1:Inv X G O H {s with heap:=g}:=I.turned (t':=s.toks) (λb o J e=>(y.2 b J).trans e) r l q j T
  obtain⟨o,e,c,d⟩:=id D;exact⟨u,rfl,YN (s:={s with heap:=g}) e c d (by decide) ⟨x,H,I1,ru,⟨rfl,λys hy=>by rw[I.tuple_inj hy t];exact V⟩,D,λb J=>(hf b J).1⟩⟩
 done:=by
  intro X C R L Z i G s O H E I hf Q n;subst C R L;obtain⟨Y,t,V⟩:=n;obtain⟨its,M,p,hz⟩:=I.tuple t;obtain⟨r,l,W,q,j,T⟩:=hf it (by simp);have hl:=M.length;exact wpAny_pyNext_tuple_end (I.ok.hd Z) Q (show s.heap.IsTuple a its.toArray from p) (by simp;lia) λg S=>⟨rfl,I.turned (t':=s.toks) (λb o J e=>S b o J e) r l q j T⟩
 self:=λ_ _ _ _ _ Q h=>wpAny_pyIter_tupleiter Q h
def zBL{P:Lc}{w:Le}{K:qH}{tg:Lb}(it:Lz)(c:Int)(n:Nat):Turn P w K tg (Itr c n) [it] it (λi h=>IsRangeIter h it (c+(i:Nat)*1) ((n:Int)-(i:Nat)) 1) where
 mem:=by simp
 obj:=λi h Q b J=>by
  have e:b=it:=by exists J
  subst e;exact⟨_,Q,λv z=>by
   have Y:Data.fields _=Data.cell v:=z;cases Y⟩
 keep:=λi h g Q k=>k it (by simp) _ Q
 item:=by
  intro X C R L Z i G s O H E I hf Q p;subst C R L;obtain⟨r,l,u,q,j,T⟩:=hf it (by simp);have W:=Walks.range (prog:=X.prog) (w:=X.w) (I.ok.hd Z) it c 1 n;refine W.item i s _ _ p Q λv g y hv D a=>?_
  obtain⟨t,rfl⟩:=hv;have I1:Inv X G O H {s with heap:=g,toks:=y}:=I.turned (λb o J e=>a b o (by exists J) e) r l q j T
  refine⟨_,rfl,YN (s:={s with heap:=g,toks:=y}) (n:="range_iterator") D rfl rfl (by decide) ⟨.int (c+i),H,I1,⟨t,?_⟩,⟨rfl,rfl⟩,D,λb J=>(hf b J).1⟩⟩
  rw[Int.mul_one]
 done:=by
  intro X C R L Z i G s O H E I hf Q p;subst C R L;obtain⟨r,l,u,q,j,T⟩:=hf it (by simp);exact wpAny_pyNext_range_end (I.ok.hd Z) Q (by have:n<=i:=p;lia) λg S=>⟨rfl,I.turned (t':=s.toks) (λb o J e=>S b o J e) r l q j T⟩
 self:=λ_ _ _ _ _ Q h=>wpAny_pyIter_rangeiter Q h
section
variable{X:Cx}{tg:Lb}
def iList(K:qH)(g:TE):TI:=λO H R=>g O H λx H1=>∃a,x=.ref a/\(∃Y,SqL K H1 a Y)/\R (Itl K a) H1
def iTup(K:qH)(g:TE):TI:=λO H R=>g O H λx H1=>∃a,x=.ref a/\(∃Y,SqT K H1 a Y)/\R (Itt K a) H1
def zBz{l:Lb}{g:TE}(c:PE X l g):PI X tg l (iList X.K g):=by
 intro G s O H R I h;refine thn (c G s O H _ I h) λv i ⟨x,H1,I1,T,j⟩=>?_
 obtain⟨a,e,⟨Y,P⟩,q⟩:=j;subst e;cases T;obtain⟨its,M,p,hz⟩:=I1.list P;refine wpAny_pyIter_list p.isList ?_;refine⟨i.heap.objs.size,[i.heap.objs.size],_,_,H1,rfl,I1.kept (t':=i.toks) λb o e=>qA _ e,zBy a _,⟨_,get?_push_size _ rfl,rfl,rfl⟩,λb J=>?_,q⟩;have e:b=i.heap.objs.size:=by exists J
 subst e;exact I1.fpOk (le_refl _) (I1.hok.fresh (le_refl _))
def pi_tup{l:Lb}{g:TE}(c:PE X l g):PI X tg l (iTup X.K g):=by
 intro G s O H R I h;refine thn (c G s O H _ I h) λv i ⟨x,H1,I1,T,j⟩=>?_
 obtain⟨a,e,⟨Y,P⟩,q⟩:=j;subst e;cases T;obtain⟨its,M,p,hz⟩:=I1.tuple P;refine wpAny_pyIter_tuple (show i.heap.IsTuple a its.toArray from p) ?_;refine⟨i.heap.objs.size,[i.heap.objs.size],_,_,H1,rfl,I1.kept (t':=i.toks) λb o e=>qA _ e,zBK a _,⟨_,get?_push_size _ rfl,rfl,rfl⟩,λb J=>?_,q⟩;have e:b=i.heap.objs.size:=by exists J
 subst e;exact I1.fpOk (le_refl _) (I1.hok.fresh (le_refl _))
def zAL{G:Ls (Lz×Obj)}{O:St}{H:Hp}{s:La}{R:It->Hp->Prop}{E:Ly}{lo W:Int}{t u v:Tok}{y:Nat}(I:Inv X G O H s)(L:-(2^62)<=lo)(Y:lo<2^62)(M:-(2^62)<=W)(h:W<2^62)
  (q:R (Itr lo (W-lo).toNat) H):wpAny (model X.prog X.w) X.A (pyIter (.ref s.heap.objs.size)) (PIE X G O tg R) E {s with heap:=s.heap.push {cls:=.type "range",data:=.fields #[.int lo t,.int W u,.int 1 v]},toks:=y}:=by
 refine wpAny_pyIter_range (IsRange.new ..) (small_one L Y M h) ?_;have I1:Inv X G O H {s with heap:=s.heap.push {cls:=.type "range",data:=.fields #[.int lo t,.int W u,.int 1 v]},toks:=y}:=I.kept λb o e=>qA _ e
 refine⟨(s.heap.push {cls:=.type "range",data:=.fields #[.int lo t,.int W u,.int 1 v]}).objs.size,[(s.heap.push {cls:=.type "range",data:=.fields #[.int lo t,.int W u,.int 1 v]}).objs.size],_,_,H,rfl,
  I1.kept (t':=y) λb o e=>qA _ e,zBL _ lo (W-lo).toNat,?_,λb J=>?_,q⟩
 ·have a:lo+((0:Nat):Int)*1=lo:=by simp
  have w:(((W-lo).toNat:Nat):Int)-((0:Nat):Int)=Builtin.Range.rangeSize lo W 1:=by rw[rangeSize_one];split<;>lia
  show IsRangeIter _ _ (lo+((0:Nat):Int)*1) ((((W-lo).toNat:Nat):Int)-((0:Nat):Int)) 1
  rw[a,w];exact get?_push_size _ rfl
 ·have e:b=(s.heap.push {cls:=.type "range",data:=.fields #[.int lo t,.int W u,.int 1 v]}).objs.size:=by exists J
  subst e;exact I1.fpOk (le_refl _) (I1.hok.fresh (le_refl _))
def iRng1(v:TA):TI:=λO H R=>v O H λW H1=>∃j:Int,W=[.int j]/\-(2^62)<=j/\j<2^62/\R (Itr 0 j.toNat) H1
def iRng2(v:TA):TI:=λO H R=>v O H λW H1=>∃i j:Int,W=[.int i,.int j]/\(-(2^62)<=i/\i<2^62/\-(2^62)<=j/\j<2^62)/\R (Itr i (j-i).toNat) H1
def GK{a:Lb}{v:TA}{p y:Pos}(n:Gl X "range")(K:X.mg "range"=none)(P:PA X [a] v)(g:starEach [a] X.env=[(false,eval a X.env)]:=by rfl):PI X tg (.Call (.Name "range" p) [a] [] y) (iRng1 v):=by
 intro G s O H R I h;refine Call_ (J3 I n K boot_range (PyProof.Rows.callWith_type1 (thn (P y G s O H _ I h) λD l ⟨W,H1,I1,T,c⟩=>?_) g rfl));obtain⟨j,e,c,S,q⟩:=c;subst e;cases T with
 |cons r x =>
  cases x;obtain⟨t,rfl⟩:=r;exact call_range_1 (zAL I1 (by lia) (by lia) c S (by exists q))
def zB0(n:Gl X "range")(K:X.mg "range"=none)(P:PA X [a,b] ta)(u:starEach [a,b] X.env=[(false,eval a X.env),(false,eval b X.env)]:=by rfl)(J:starEach [b] X.env=[(false,eval b X.env)]:=by rfl) :
  PI X tg (.Call (.Name "range" p) [a,b] [] pos) (iRng2 ta):=by
 intro G s O H R I h;refine Call_ (J3 I n K boot_range (PyProof.Rows.callWith_type1 (thn (P pos G s O H _ I h) λD l ⟨W,H1,I1,T,c⟩=>?_) (by rw[u,J]) (by rw[J];rfl)));obtain⟨i,j,e,⟨c,S,k,E⟩,q⟩:=c;subst e;cases T with
 |cons r x =>
  cases x with
  |cons g x =>
   cases x;obtain⟨t,rfl⟩:=r;obtain⟨o,rfl⟩:=g;exact call_range_2 (zAL I1 c S k E q)
def tFor(w:TI)(g:TG)(h:TS):TS:=λD O H=>w O H λJ H1=>∃W:Nat->Nat->St->Hp->Prop,(∃m,W 0 m O H1)/\∀i m O H,W i m O H ->
 (J.stop i H/\D.nx O H)\/(J.go i H/\∃N:St->Hp->Prop,(∀O' H',N O' H'->∃k,k<m/\W (i+1) k O' H')/\∀x H',J.yld i H x H'->g x O H' λO2 H2=>h {D with nx:=N,ct:=N,bk:=D.nx} O2 H2)
def GL(fp:Ls Lz)(h:Heap):Ls (Lz×Obj):=fp.filterMap λb=>(h.get? b).map λo=>(b,o)
def Jh(J:b∈fp)(e:h.get? b=some o):(b,o)∈GL fp h:=mem_filterMap.mpr ⟨b,J,by rw[e];rfl⟩
def zB1(G:p∈GL fp h):p.1∈fp/\h.get? p.1=some p.2:=by
 obtain⟨b,J,e⟩:=mem_filterMap.mp G;exists q,h.get? b,e,o;have y:(b,o)=p:=qJ e;subst y;exact⟨J,q⟩
def Inv.pinned(I:Inv X pins O H s)(t:∀b∈fp,zAK X pins H b)(L:∀b∈fp,∃o,s.heap.get? b=some o/\∀v,o.data≠.cell v):Inv X (pins++GL fp s.heap) O H s :=
 I.pins_of λp G=>(mem_append.mp G).elim (λz=>I.pin p (qK _ z)) λz=>by
  obtain⟨J,e⟩:=zB1 z;obtain⟨r,l,u,_⟩:=t p.1 J;obtain⟨o,y,d⟩:=L p.1 J;rw[e]at y;cases y;exact⟨e,r,l,u,d⟩
def Inv.unpinned(I:Inv X (pins++pl) O H s):Inv X pins O H s:=I.pins_of λp G=>I.pin p (qK _ (mem_append_left _ G))
def zAM(hp:PassesOwn (model X.prog X.w) X.A X.env X.xe)(Z:X.calm=true)(hi:PI X tg iter wi)(hg:PG X tg g)(hb:PSs X body tb)
  (S:∀x,foldedSetIterable iter X.env x=pure x:=by intro _;rfl):PS X (.For tg iter body [] pos) (tFor wi g tb):=by
 intro G s O H D I h;refine wpAny_For (thn (hi G s O H _ I h) λv s1 L=>thn L λitv s2 h2=>?_) S;obtain⟨it,P,a,J,H2,e,I2,T,ad,f2,W,⟨m0,E⟩,c⟩:=h2;subst e
 -- what stays true of the iterator's objects through the loop
 have z:∀{H':Hp},(∀b∈P,H' b=none)->∀b∈P,zAK X G H' b:=λhn b hb=>⟨hn b hb,(f2 b hb).2⟩
 refine codeAny_forLoop_any (λn j=>∃i O' H',Inv X G O' H' j/\a i j.heap/\(∀b∈P,H' b=none)/\W i n O' H') ?_ m0 ⟨0,O,H2,I2,ad,λb hb=>(f2 b hb).1,E⟩
 rintro n t ⟨i,O3,H3,I3,ac,k,w3⟩
 rcases c i n O3 H3 w3 with⟨ab,Y⟩|⟨go,N,hN,step⟩
 ·refine wpAny_passesOwn hp (thn (T.done X rfl rfl rfl Z i G t O3 H3 X.xe I3 (z k) ac ab) λr V ⟨p,I4⟩=>?_)
  subst p;exact wpAny_execs_nil ⟨O3,H3,I4,Y⟩
 ·refine wpAny_passesOwn hp (thn (T.item X rfl rfl rfl Z i G t O3 H3 X.xe I3 (z k) ac go) λr V ⟨u,p,h4⟩=>?_)
  subst p;refine wpAny_passesOwn hp (thn h4 λ_ Q ⟨x,H5,I5,R,y5,q,M⟩=>?_);have I5':=I5.pinned (z M) (T.obj _ _ q);refine wpAny_passesOwn hp (thn (hg _ Q O3 H5 x u _ I5' R (step x H5 y5)) λ_ w ⟨O6,H6,I6,q6⟩=>?_);refine wpAny_passesOwn hp (thn (hb _ w O6 H6 _ I6 q6) λf y q7=>?_);have aa:∀{O7:St} {H7:Hp},Inv X (G++GL P Q.heap) O7 H7 y->N O7 H7->∃m,m<n/\∃i O' H',Inv X G O' H' y/\a i y.heap/\(∀b∈P,H' b=none)/\W i m O' H':=λ{O7 H7} I7 l=>by
   obtain⟨m',K,C⟩:=hN O7 H7 l;refine⟨m',K,i+1,O7,H7,I7.unpinned,T.keep _ _ _ q λb hb o e=>(I7.pin (b,o) (qK _ (qK _ (Jh hb e)))).1,λb hb=>?_,C⟩;obtain⟨o,e,d⟩:=T.obj _ _ q b hb;exact(I7.pin (b,o) (qK _ (qK _ (Jh hb e)))).2.1
  cases f with
  |next=>obtain⟨O7,H7,I7,l⟩:=q7;exact aa I7 l|cont=>obtain⟨O7,H7,I7,l⟩:=q7;exact aa I7 l|brk=>obtain⟨O7,H7,I7,q7⟩:=q7;exact⟨O7,H7,I7.unpinned,q7⟩|ret v=>obtain⟨x7,O7,H7,I7,r7,q7⟩:=q7;exact⟨x7,O7,H7,I7.unpinned,r7,q7⟩
end
def zEl{K:qH}{a:Lz}{xs:Ls V}{g:TG}{h:TS}{D:Ends}{O:St}{H:Hp}(P:Nat->St->Hp->Prop)(J:P 0 O H)(c:∀i O H,i<=xs.length->P i O H->SqL K H a xs)
  (S:∀i x O H,xs[i]?=some x->P i O H->g x O H λO2 H2=>h {D with nx:=P (i+1),ct:=P (i+1),bk:=D.nx} O2 H2) (j:∀O H,P xs.length O H->D.nx O H) :
  ∃W:Nat->Nat->St->Hp->Prop,(∃m,W 0 m O H)/\∀i m O H,W i m O H ->
   ((Itl K a).stop i H/\D.nx O H)\/((Itl K a).go i H/\∃N:St->Hp->Prop,(∀O' H',N O' H'->∃k,k<m/\W (i+1) k O' H')/\∀x H',(Itl K a).yld i H x H'->g x O H' λO2 H2=>h {D with nx:=N,ct:=N,bk:=D.nx} O2 H2):=by
 refine⟨λi m O H=>m=xs.length-i/\i<=xs.length/\P i O H,⟨xs.length,by simp,zero_le _,J⟩,?_⟩
 rintro i m O H ⟨rfl,l,p⟩
 have q:=c i O H l p;by_cases C:i<xs.length
 ·refine .inr ⟨⟨xs,xs[i],q,by simp[C]⟩,P (i+1),λO' H' n=>⟨xs.length-(i+1),by lia,rfl,C,n⟩,λx H' y=>?_⟩
  obtain⟨e,y⟩:=y;subst e;exact S i x O _ (y xs q) p
 ·have e:i=xs.length:=by lia
  subst e;exact .inl ⟨⟨xs,q,le_refl _⟩,j O H p⟩
def zB2{z:Int}{n:Nat}{g:TG}{h:TS}{D:Ends}{O:St}{H:Hp}(P:Nat->St->Hp->Prop)(J:P 0 O H)
  (S:∀i O H,i<n->P i O H->g (.int (z+i)) O H λO2 H2=>h {D with nx:=P (i+1),ct:=P (i+1),bk:=D.nx} O2 H2) (j:∀O H,P n O H->D.nx O H) :
  ∃W:Nat->Nat->St->Hp->Prop,(∃m,W 0 m O H)/\∀i m O H,W i m O H ->
   ((Itr z n).stop i H/\D.nx O H)\/((Itr z n).go i H/\∃N:St->Hp->Prop,(∀O' H',N O' H'->∃k,k<m/\W (i+1) k O' H')/\∀x H',(Itr z n).yld i H x H'->g x O H' λO2 H2=>h {D with nx:=N,ct:=N,bk:=D.nx} O2 H2):=by
 refine⟨λi m O H=>m=n-i/\i<=n/\P i O H,⟨n,by simp,zero_le _,J⟩,?_⟩
 rintro i m O H ⟨rfl,a,p⟩
 by_cases C:i<n
 ·refine .inr ⟨C,P (i+1),λO' H' V=>⟨n-(i+1),by lia,rfl,C,V⟩,λx H' y=>?_⟩
  obtain⟨e,y⟩:=y;subst e y;exact S i O _ C p
 ·have e:i=n:=by lia
  subst e;exact .inl ⟨le_refl _,j O H p⟩
abbrev R2:=V->V->Hp->VK->Prop
def OpR(X:Cx)(f:Lv->Lv->Sem Lv)(r:R2):Prop :=
 ∀(G:Ls (Lz×Obj)) (s:La) (O:St) (H:Hp) (x y:V) (v u:Lv) (Q:VK),Inv X G O H s->yy x v->yy y u->r x y H Q ->
  wpAny (model X.prog X.w) X.A (f v u) (EP X G O Q) X.xe s
def UnR(X:Cx)(f:Lv->Sem Lv)(r:V->Hp->VK->Prop):Prop :=
 ∀(G:Ls (Lz×Obj)) (s:La) (O:St) (H:Hp) (x:V) (v:Lv) (Q:VK),Inv X G O H s->yy x v->r x H Q ->
  wpAny (model X.prog X.w) X.A (f v) (EP X G O Q) X.xe s
def wB(X:Cx)(f:Lv)(r:Ls V->Hp->VK->Prop):Prop :=
 ∀(G:Ls (Lz×Obj)) (s:La) (O:St) (H:Hp) (Y:Ls V) (D:Ls Lv) (Q:VK),Inv X G O H s->zw Y D->r Y H Q ->
  wpAny (model X.prog X.w) X.A (call f D) (EP X G O Q) X.xe s
def tOp(r:R2)(v h:TE):TE:=λO H Q=>v O H λx H1=>h O H1 λy H2=>r x y H2 Q
def tUn(r:V->Hp->VK->Prop)(v:TE):TE:=λO H Q=>v O H λx H1=>r x H1 Q
def rI(C:Int->Int->Prop)(g:Int->Int->V):R2:=λx y H Q=>∃i j,x=.int i/\y=.int j/\C i j/\Q (g i j) H
def rI0(g:Int->Int->V):R2:=λx y H Q=>∃i j,x=.int i/\y=.int j/\Q (g i j) H
def rU(g:Int->V):V->Hp->VK->Prop:=λx H Q=>∃i,x=.int i/\Q (g i) H
section
variable{X:Cx}{a b c:Lb}{ta tb tc:TE}{pos:Pos}
def binT(P:PE X a ta)(J:PE X b tb){R:V->V->Hp->Prop}(I:Inv X pins O H s)
  (h:ta O H λx H1=>tb O H1 λy H2=>R x y H2) {Q:Ly} {f:Lv->Lv->Sem Lv}
  (t:∀v u Y x y H2,Inv X pins O H2 Y->yy x v->yy y u->R x y H2->wpAny (model X.prog X.w) X.A (f v u) Q X.xe Y) :
  wpAny (model X.prog X.w) X.A (eval a X.env) (λv c=>wpAny (model X.prog X.w) X.A (eval b X.env) (λu g=>wpAny (model X.prog X.w) X.A (f v u) Q X.xe g) X.xe c) X.xe s:=by
 refine thn (P pins s O H _ I h) λv l ⟨x,H1,I1,T,j⟩=>?_
 refine thn (J pins l O H1 _ I1 j) λu Y ⟨y,H2,I2,C,S⟩=>?_
 exact t v u Y x y H2 I2 T C S
def pe_op(L:OpR X (binaryOp op) r)(P:PE X a ta)(J:PE X b tb):PE X (.BinOp a op b pos) (tOp r ta tb):=by
 intro G s O H Q I h;exact wpAny_BinOp (binT P J I h λv u Y x y H2 I2 c V q=>L G Y O H2 x y v u Q I2 c V q)
def pe_un{r:V->Hp->VK->Prop}(L:UnR X (unaryOp op) r)(P:PE X a ta):PE X (.UnaryOp op a pos) (tUn r ta):=by
 intro G s O H Q I h;exact UnaryOp_ (thn (P G s O H _ I h) λv l ⟨x,H1,I1,T,j⟩=>L G l O H1 x v Q I1 T j)
def opI{f:Lv->Lv->Sem Lv}{C:Int->Int->Prop}{g:Int->Int->Int}
  (r:∀(i j:Int) (t u:Tok) (s:La) (Q:Ly) (E:Ly),C i j->Q (.int (g i j) s.toks) {s with toks:=s.toks+1}->wpAny (model X.prog X.w) X.A (f (.int i t) (.int j u)) Q E s) :
  OpR X f (rI C λi j=>.int (g i j)):=by
 intro G s O H x y v u Q I c V h;obtain⟨i,j,rfl,rfl,Z,q⟩:=h;obtain⟨t,rfl⟩:=c;obtain⟨o,rfl⟩:=V;exact r i j t o s _ _ Z ⟨.int (g i j),H,I.tok _,⟨_,rfl⟩,q⟩
def opI0{f:Lv->Lv->Sem Lv}{g:Int->Int->Int}
  (r:∀(i j:Int) (t u:Tok) (s:La) (Q:Ly) (E:Ly),Q (.int (g i j) s.toks) {s with toks:=s.toks+1}->wpAny (model X.prog X.w) X.A (f (.int i t) (.int j u)) Q E s) :
  OpR X f (rI0 λi j=>.int (g i j)):=by
 intro G s O H x y v u Q I c V h;obtain⟨i,j,rfl,rfl,q⟩:=h;obtain⟨t,rfl⟩:=c;obtain⟨o,rfl⟩:=V;exact r i j t o s _ _ ⟨.int (g i j),H,I.tok _,⟨_,rfl⟩,q⟩
def opB0{f:Lv->Lv->Sem Lv}{g:Lk}
  (r:∀(i j:Int) (t u:Tok) (s:La) (Q:Ly) (E:Ly),Q (.bool (g i j)) s->wpAny (model X.prog X.w) X.A (f (.int i t) (.int j u)) Q E s) :
  OpR X f (rI0 λi j=>.bl (g i j)):=by
 intro G s O H x y v u Q I c V h;obtain⟨i,j,rfl,rfl,q⟩:=h;obtain⟨t,rfl⟩:=c;obtain⟨o,rfl⟩:=V;exact r i j t o s _ _ ⟨.bl (g i j),H,I,rfl,q⟩
def CPow(i j:Int):Prop:=0<=j/\j<=1000000/\i.natAbs<2^64
def CMul(i j:Int):Prop:=(-(2^64)<i/\i<2^64)\/(-(2^64)<j/\j<2^64)
def CMul.ok{i j:Int}(h:CMul i j):IntMulOk i j:=by
 rcases h with⟨L,h2⟩|⟨L,h2⟩
 ·exact .of_left (intBits_le_64 L h2)
 ·exact .of_right (intBits_le_64 L h2)
def op_add:OpR X (binaryOp .Add) (rI0 λi j=>.int (i+j)):=opI0 λ_ _ _ _ _ _ _ q=>add_int q
def op_sub:OpR X (binaryOp .Sub) (rI0 λi j=>.int (i-j)):=opI0 λ_ _ _ _ _ _ _ q=>sub_int q
def op_mod:OpR X (binaryOp .Mod) (rI (λ_ j=>0<j) λi j=>.int (i%j)):=opI λi j _ _ _ _ _ Z q=>by
 have L:(0:Int)<j:=Z;exact mod_int' (by lia) (by rw[Int.fmod_eq_emod_of_nonneg i (by lia)];exact q)
def op_pow:OpR X (binaryOp .Pow) (rI CPow λi j=>.int (i^j.toNat)):=opI λ_ _ _ _ _ _ _ Z q=>pow_int_small Z.1 Z.2.1 Z.2.2 q
def unI{f:Lv->Sem Lv}{g:Int->Int}
  (r:∀(i:Int) (t:Tok) (s:La) (Q:Ly) (E:Ly),Q (.int (g i) s.toks) {s with toks:=s.toks+1}->wpAny (model X.prog X.w) X.A (f (.int i t)) Q E s) :
  UnR X f (rU λi=>.int (g i)):=by
 intro G s O H x v Q I c h;obtain⟨i,rfl,q⟩:=h;obtain⟨t,rfl⟩:=c;exact r i t s _ _ ⟨.int (g i),H,I.tok _,⟨_,rfl⟩,q⟩
def un_neg:UnR X (unaryOp .USub) (rU λi=>.int (-i)):=unI λ_ _ _ _ _ q=>neg_int q
end
def scal:V->V->Bool
 | .non,.non=>true | .non,.int _=>true | .int _,.non=>true | .non,.bl _=>true | .bl _,.non=>true | .non,.str _=>true | .str _,.non=>true
 | .int _,.int _=>true | .bl _,.bl _=>true | .str _,.str _=>true | .byt _,.byt _=>true
 | .int _,.str _=>true | .str _,.int _=>true | .bl _,.str _=>true | .str _,.bl _=>true
 |_,_=>false
def rEq:R2:=λx y H Q=>scal x y=true/\Q (.bl (decide (x=y))) H
def rNe:R2:=λx y H Q=>scal x y=true/\Q (.bl (!decide (x=y))) H
def zB3:decide (V.int i=V.int j)=(i==j):=by
 rw[Bool.eq_iff_iff];simp
def zGX:decide (V.bl i=V.bl j)=(i==j):=by
 rw[Bool.eq_iff_iff];simp
def zB4:decide (V.str i=V.str j)=(i==j):=by
 rw[Bool.eq_iff_iff];simp
def zB5:decide (V.byt i=V.byt j)=(i.toList==j.toList):=by
 rw[Bool.eq_iff_iff];cases i;cases j;simp
section
variable{X:Cx}{a b c:Lb}{ta tb tc:TE}{pos:Pos}
def z9(I:Inv X pins O H s)(q:Q (.bl k) H)(e:k=k'):EP X pins O Q (.bool k') s:=by
 subst e;exact⟨.bl k,H,I,rfl,q⟩
def op_eq:OpR X (compareOp .Eq) rEq:=by
 intro G s O H x y v u Q I c V h;obtain⟨S,q⟩:=h;cases x with
 |non =>
  cases c;cases y with
  |non=>cases V;exact PySem.EqNone.eq_none_none (z9 I q (by simp))|bl j=>cases V;exact PySem.EqNone.eq_none_bool (z9 I q (by simp))|int j=>obtain⟨o,rfl⟩:=V;exact PySem.EqNone.eq_none_int (z9 I q (by simp))|str j=>obtain⟨o,rfl⟩:=V;exact PySem.EqNone.eq_none_str (z9 I q (by simp))|_=>exact absurd (show false=true from S) qF
 |bl i =>
  cases c;cases y with
  |non=>cases V;exact PySem.EqNone.eq_bool_none (z9 I q (by simp))|bl j=>cases V;exact eq_bool (z9 I q zGX)|str j=>obtain⟨o,rfl⟩:=V;exact PySem.EqMixed.eq_bool_str (z9 I q (by simp))|_=>exact absurd (show false=true from S) qF
 |int i =>
  obtain⟨t,rfl⟩:=c;cases y with
  |non=>cases V;exact PySem.EqNone.eq_int_none (z9 I q (by simp))|int j=>obtain⟨o,rfl⟩:=V;exact eq_int (z9 I q zB3)|str j=>obtain⟨o,rfl⟩:=V;exact PySem.EqMixed.eq_int_str (z9 I q (by simp))|_=>exact absurd (show false=true from S) qF
 |str i =>
  obtain⟨t,rfl⟩:=c;cases y with
  |non=>cases V;exact PySem.EqNone.eq_str_none (z9 I q (by simp))|bl j=>cases V;exact PySem.EqMixed.eq_str_bool (z9 I q (by simp))|int j=>obtain⟨o,rfl⟩:=V;exact PySem.EqMixed.eq_str_int (z9 I q (by simp))|str j=>obtain⟨o,rfl⟩:=V;exact eq_str (z9 I q zB4)|_=>exact absurd (show false=true from S) qF
 |byt i =>
  obtain⟨t,rfl⟩:=c;cases y with
  |byt j=>obtain⟨o,rfl⟩:=V;exact PySem.W.eq_bytes (z9 I q zB5)|_=>exact absurd (show false=true from S) qF
 |_=>cases y<;>exact absurd (show false=true from S) qF
def op_ne:OpR X (compareOp .NotEq) rNe:=by
 intro G s O H x y v u Q I c V h;obtain⟨S,q⟩:=h;cases x with
 |non =>
  cases c;cases y with
  |non=>cases V;exact PySem.EqNone.ne_none_none (z9 I q (by simp))|bl j=>cases V;exact PySem.EqNone.ne_none_bool (z9 I q (by simp))|int j=>obtain⟨o,rfl⟩:=V;exact PySem.EqNone.ne_none_int (z9 I q (by simp))|str j=>obtain⟨o,rfl⟩:=V;exact PySem.EqNone.ne_none_str (z9 I q (by simp))|_=>exact absurd (show false=true from S) qF
 |bl i =>
  cases c;cases y with
  |non=>cases V;exact PySem.EqNone.ne_bool_none (z9 I q (by simp))|bl j=>cases V;exact ne_bool (z9 I q (congrArg not zGX))|str j=>obtain⟨o,rfl⟩:=V;exact PySem.EqMixed.ne_bool_str (z9 I q (by simp))|_=>exact absurd (show false=true from S) qF
 |int i =>
  obtain⟨t,rfl⟩:=c;cases y with
  |non=>cases V;exact PySem.EqNone.ne_int_none (z9 I q (by simp))|int j=>obtain⟨o,rfl⟩:=V;exact ne_int (z9 I q (congrArg not zB3))|str j=>obtain⟨o,rfl⟩:=V;exact PySem.EqMixed.ne_int_str (z9 I q (by simp))|_=>exact absurd (show false=true from S) qF
 |str i =>
  obtain⟨t,rfl⟩:=c;cases y with
  |non=>cases V;exact PySem.EqNone.ne_str_none (z9 I q (by simp))|bl j=>cases V;exact PySem.EqMixed.ne_str_bool (z9 I q (by simp))|int j=>obtain⟨o,rfl⟩:=V;exact PySem.EqMixed.ne_str_int (z9 I q (by simp))|str j=>obtain⟨o,rfl⟩:=V;exact ne_str (z9 I q (congrArg not zB4))|_=>exact absurd (show false=true from S) qF
 |byt i =>
  obtain⟨t,rfl⟩:=c;cases y with
  |byt j=>obtain⟨o,rfl⟩:=V;exact PySem.W.ne_bytes (z9 I q (congrArg not zB5))|_=>exact absurd (show false=true from S) qF
 |_=>cases y<;>exact absurd (show false=true from S) qF
def op_lt:OpR X (compareOp .Lt) (rI0 λi j=>.bl (decide (i<j))):=opB0 λ_ _ _ _ _ _ _ q=>lt_int q
def op_le:OpR X (compareOp .LtE) (rI0 λi j=>.bl (decide (i<=j))):=opB0 λ_ _ _ _ _ _ _ q=>le_int q
def op_gt:OpR X (compareOp .Gt) (rI0 λi j=>.bl (decide (j<i))):=opB0 λ_ _ _ _ _ _ _ q=>gt_int q
def op_ge:OpR X (compareOp .GtE) (rI0 λi j=>.bl (decide (j<=i))):=opB0 λ_ _ _ _ _ _ _ q=>ge_int q
def OpR.or{f:Lv->Lv->Sem Lv}(h:OpR X f r)(h':OpR X f r'):OpR X f (λx y H Q=>r x y H Q\/r' x y H Q):=by
 intro G s O H x y v u Q I c V q;rcases q with q|q
 ·exact h G s O H x y v u Q I c V q
 ·exact h' G s O H x y v u Q I c V q
def pe_cmpR(L:OpR X (compareOp op) r)(P:PE X a ta)(J:PE X b tb)(K:behindInMarks op b=false):PE X (.Compare a [op] [b] pos) (tOp r ta tb):=by
 intro G s O H Q I h;exact wpAny_Compare1 (binT P J I h λv u Y x y H2 I2 c V q=>L G Y O H2 x y v u Q I2 c V q) K
def tTest(t:TE):TT:=λO H Q=>t O H λx H'=>∃k,x=.bl k/\Q k H'
def pt_cmpR(L:OpR X (compareOp op) r)(P:PE X a ta)(J:PE X b tb)(K:behindInMarks op b=false):PT X (.Compare a [op] [b] pos) (tTest (tOp r ta tb)):=by
 intro G s O H Q I h;refine wpAny_isTrue_Compare1 (thn (P G s O H _ I h) λv l ⟨x,H1,I1,T,j⟩=>thn (J G l O H1 _ I1 j) λu Y ⟨y,H2,I2,C,S⟩ =>
  thn (L G Y O H2 x y v u _ I2 T C S) λc t ⟨z,H3,I3,W,k,e,R⟩=>?_) K
 subst e;cases W;exact wpAny_truthy_bool ⟨H3,I3,R⟩
def zB6(r T:R2)(v h t:TE):TE:=λO H Q=>v O H λx H1=>h O H1 λy H2=>r x y H2 λz H3=>∃k,z=.bl k /\
 (if k=true then t O H3 λM H4=>T y M H4 Q else Q (.bl false) H3)
def zEm(L:OpR X (compareOp op) r)(D:OpR X (compareOp op') r')(P:PE X a ta)(J:PE X b tb)(Z:PE X c tc)
  (K:lastMarks [op,op'] [b,c]=false:=by with_unfolding_all rfl):PE X (.Compare a [op,op'] [b,c] pos) (zB6 r r' ta tb tc):=by
 intro G s O H Q I h;refine Compare_chain (thn (P G s O H _ I h) λv l ⟨x,H1,I1,T,j⟩=>chain_link (thn (J G l O H1 _ I1 j) λu g ⟨y,H2,I2,C,S⟩ =>
  thn (L G g O H2 x y v u _ I2 T C S) λd t ⟨z,H3,I3,W,k,e,R⟩=>?_)) K
 subst e;cases W;refine wpAny_truthy_bool ?_;cases k with
 |false=>exact ite_ff ⟨.bl false,H3,I3,rfl,R⟩|true=>exact ite_tt (chain_last (thn (Z G t O H3 _ I3 R) λM V ⟨Y,H4,I4,q,E⟩=>D G V O H4 y Y u M Q I4 C q E))
def zEn(o:OpR X (compareOp op) r)(D:OpR X (compareOp op') r')(P:PE X a ta)(J:PE X b tb)(Z:PE X c tc)
  (K:lastMarks [op,op'] [b,c]=false:=by with_unfolding_all rfl):PT X (.Compare a [op,op'] [b,c] pos) (tTest (zB6 r r' ta tb tc)):=by
 intro G s O H Q I h;refine isTrue_chain (thn (P G s O H _ I h) λv l ⟨x,H1,I1,T,j⟩=>test_link (thn (J G l O H1 _ I1 j) λu Y ⟨y,H2,I2,C,S⟩ =>
  thn (o G Y O H2 x y v u _ I2 T C S) λd t ⟨z,H3,I3,W,k,e,R⟩=>?_)) K
 subst e;cases W;refine wpAny_truthy_bool ?_;cases k with
 |false =>
  obtain⟨k',e',L⟩:=R;cases e';exact ite_ff ⟨H3,I3,L⟩
 |true =>
  refine ite_tt (test_last (thn (Z G t O H3 _ I3 R) λM V ⟨n,H4,I4,q,E⟩=>thn (D G V O H4 y n u M _ I4 C q E) λd' s5 ⟨i,H5,I5,p,k2,w,g⟩=>?_));subst w;cases p;exact wpAny_truthy_bool ⟨H5,I5,g⟩
def zAN:(sizeLine:Nat)<2^63:=by rw[sizeLine_eq];decide
def v3(r:zw [x] us):∃u,us=[u]/\yy x u:=by
 cases r with
 |cons T C=>cases C;exact⟨_,rfl,T⟩
def vals2(r:zw [x,y] us):∃u w',us=[u,w']/\yy x u/\yy y w':=by
 cases r with
 |cons T C =>
  cases C with
  |cons W q=>cases q;exact⟨_,_,rfl,T,W⟩
def zB7(Z:X.calm=true):wB X (.builtin "max") (λY H Q=>∃i j,Y=[.int i,.int j]/\Q (.int (if j > i then j else i)) H):=by
 intro G s O H Y D Q I r h;obtain⟨i,j,rfl,q⟩:=h;obtain⟨u,M,rfl,⟨t,rfl⟩,⟨o,rfl⟩⟩:=vals2 r;refine max_two_ints (I.ok.hd Z) λg y k=>⟨_,H,I.kept k,?_,q⟩
 by_cases T:j > i
 ·rw[if_pos T,if_pos T];exact⟨_,rfl⟩
 ·rw[if_neg T,if_neg T];exact⟨_,rfl⟩
def zB8:wB X (.type "int") (λY H Q=>(∃i,Y=[.int i]/\Q (.int i) H)\/∃k,Y=[.bl k]/\Q (.int (if k then 1 else 0)) H):=by
 intro G s O H Y D Q I r h;rcases h with⟨i,rfl,q⟩|⟨k,rfl,q⟩
 ·obtain⟨u,rfl,t,rfl⟩:=v3 r
  exact call_int_int ⟨.int i,H,I,⟨_,rfl⟩,q⟩
 ·obtain⟨u,rfl,T⟩:=v3 r
  cases T;exact call_int_bool ⟨.int (if k then 1 else 0),H,I.tok _,⟨_,rfl⟩,q⟩
end
structure ObjM(h:Heap)(x dx C:Lz)(mA:Str->Ln):Prop where
 obj:h.get? x=some (instObj C dx)
 ns:h.Ns1 dx mA
 ne:dx≠x
structure Cls(K:qH)(C:Lz):Prop where
 pg:plainGet K C Str.empty=true
 hd:PySem.W.hasDictIn K C=true
 po:PySem.W.plainOver K C=true
 sa:findIn K (.ref C) "__setattr__"=some (some (.builtin "object.__setattr__"))
def Cls.get{K:qH}{C:Lz}(c:Cls K C)(f:Str):plainGet K C f=true:=c.pg
structure Con(K:qH)(C:Lz)(f:Str)(v:V)(u:Lv):Prop where
 at_:findIn K (.ref C) f=some (some u)
 rel:yy v u
 get:specialIn K u "__get__"=some none
 cp:PySem.W.copiedNames.contains f=false
structure Meth(K:qH)(C:Lz)(m:Str)(f:Lz):Prop where
 at_:findIn K (.ref C) m=some (some (.ref f))
 fn:PySem.W.isFn K (.ref f)=true
 kp:keepIn K (.ref f)=true
section
variable{X:Cx}{pins:Ls (Lz×Obj)}{O:St}{H:Hp}{s:La}{a C dx:Lz}{fs:Ls (Str×V)}{f:Str}{v:V}{A:Lg}{E:Ly}
def Inv.made(I:Inv X pins O H s):Inv X pins O (upd (upd H s.heap.objs.size (.w (s.heap.objs.size+1))) (s.heap.objs.size+1) (.ins C s.heap.objs.size []))
  {s with heap:=(s.heap.push emptyDict).push (instObj C s.heap.objs.size)}:=by
 have R:(s.heap.push emptyDict).get? s.heap.objs.size=some emptyDict:=get?_push_size s.heap rfl;have w:((s.heap.push emptyDict).push (instObj C s.heap.objs.size)).get? (s.heap.objs.size+1)=some (instObj C s.heap.objs.size):=by
  have:=get?_push_size (s.heap.push emptyDict) (o:=instObj C s.heap.objs.size) rfl
  rwa [size_push]at this
 have l:(s.heap.push emptyDict).Ns s.heap.objs.size (λ_=>none):=⟨emptyDict,#[],_,R,rfl,(λe M=>absurd M (by simp)),λ_=>rfl⟩;have I1:=I.laid (a:=s.heap.objs.size) (o:=.w (s.heap.objs.size+1)) (h':=s.heap.push emptyDict) (t':=s.toks) (λb u q=>qA _ q) (le_refl _) ⟨_,R⟩;refine I1.laid (a:=s.heap.objs.size+1) (o:=.ins C s.heap.objs.size []) (t':=s.toks) (λb u q=>qA _ q) (Nat.le_of_eq (size_push _ _)) ?_;have r:s.heap.objs.size≠s.heap.objs.size+1:=ne_of_lt (lt_succ_self _);refine⟨by rw[ze r,ja],zero_le _,r,w,λ_=>none,(Heap.Ns1.of_empty l).at λo q=>qA _ q,λ_=>True.intro,λy c=>absurd rfl c⟩
end
section
variable{X:Cx}{pins:Ls (Lz×Obj)}{O:St}{H:Hp}{s:La}{A:Lg}{E:Ly}{Q:Ly}{c:Lv}{b:Bool}
inductive TyOf(K:qH)(H:Hp):V->Lv->Prop where
 |non:TyOf K H .non (.type "NoneType")
 |bl (x:Bool):TyOf K H (.bl x) (.type "bool")
 |int (i:Int):TyOf K H (.int i) (.type "int")
 |str (x:Str):TyOf K H (.str x) (.type "str")
 |flt (x:UInt64):TyOf K H (.flt x) (.type "float")
 |l {a:Lz} {xs:List V} (e:H a=some (.l xs)):TyOf K H (.ref a) (.type "list")
 |frz {a:Lz} {o:Obj} {xs:List V} (e:H a=some (.frz o (.l xs))):TyOf K H (.ref a) (.type "list")
 |t {a:Lz} {xs:List V} (e:H a=some (.t xs)):TyOf K H (.ref a) (.type "tuple")
 |dK {a:Lz} {kvs:List (Key×V)} (e:H a=some (.dK kvs)):TyOf K H (.ref a) (.type "dict")
 |dT {a:Lz} {kvs:List (List Key×V)} (e:H a=some (.dT kvs)):TyOf K H (.ref a) (.type "dict")
 |ins {a C dx:Lz} {fs:List (Str×V)} (e:H a=some (.ins C dx fs)) (cl:Cls K C) (ha:findIn K (.ref C) "__class__"=some (some (.builtin "object.__class__")))
   (hn:specialIn K (.builtin "object.__class__") "__get__"=some (some (.builtin "getset_descriptor.__get__"))) (htk:takesIn K (.builtin "object.__class__")=some true)
   (hm:mroIn K C (.type "object")=some true):TyOf K H (.ref a) (.ref C)
end
structure Room(k:Nat)(A:Lg):Prop where
 hd:A.handled=none
 gd:A.guards=some []
 dp:A.depth+3*k+5<recursionLimit
 un:A.units+16*k+200<cLine
def Room.mono(r:Room k A)(h:j<=k):Room j A:=⟨r.hd,r.gd,by have:=r.dp;lia,by have:=r.un;lia⟩
theorem Room.deeper(r:Room (k+1) A)(env:Env):Room k (A.deeper env) :=
 ⟨r.hd,r.gd,by have:=r.dp;show A.depth+1+3*k+5<_;lia,by have:=r.un;show A.units+3+16*k+200<_;lia⟩
theorem Room.in1(r:Room (k+1) A):Room k A.in1 :=
 ⟨r.hd,r.gd,by have:=r.dp;show A.depth+3*k+5<_;lia,by have:=r.un;show A.units+1+16*k+200<_;lia⟩
theorem Room.depth(r:Room k A):A.depth<recursionLimit:=by have:=r.dp;lia
theorem Room.units(r:Room k A):A.units+64<cLine:=by have:=r.un;lia
def tNil:TA:=λ_ H Q=>Q [] H
def zEo(v:TE)(t:TA):TA:=λO H Q=>v O H λx H1=>t O H1 λY H2=>Q (x::Y) H2
section
variable{X:Cx}{e:Lb}{es:Ls Lb}{te:TE}{t:TA}{pos:Pos}
def Yp:PA X [] tNil:=λ_ _ _ _ H Q I h=>Calls.spliced_nil ⟨[],H,I,.nil,h⟩
def jM(P:PE X e te)(p:PA X es t)(a:starEach (e::es) X.env=(false,eval e X.env)::starEach es X.env:=by rfl):PA X (e::es) (zEo te t):=by
 intro y G s O H Q I h;rw[a];show wpAny _ _ (spliced ((false,eval e X.env)::backTo y (starEach es X.env))) _ _ s;refine Calls.spliced_cons (thn (P G s O H _ I h) λu l ⟨x,H1,I1,T,j⟩=>?_);exact thn (p y G l O H1 _ I1 j) λD c ⟨Y,H2,I2,C,S⟩=>⟨x::Y,H2,I2,.cons T C,S⟩
def tTup(t:TA):TE:=λO H Q=>t O H λY H1=>Y.length<=sizeLine/\∀p,H1 p=none->Q (.ref p) (upd H1 p (.t Y))
def tLst(t:TA):TE:=λO H Q=>t O H λY H1=>Y.length<=sizeLine/\∀p,H1 p=none->Q (.ref p) (upd H1 p (.l Y))
def pe_tup{x1}(h:PA X es t):PE X (.Tuple es x1 pos) (tTup t):=by
 intro G s O H Q I P;refine wpAny_Tuple_spliced (thn (h pos G s O H _ I P) λD l ⟨Y,H1,I1,r,z,q⟩=>⟨by rw[<- r.length];exact z,?_⟩);have hf:H1 l.heap.objs.size=none:=I1.hok.fresh (le_refl _);refine⟨.ref l.heap.objs.size,upd H1 l.heap.objs.size (.t Y),I1.laid (t':=l.toks) (λb u e=>qA _ e) (le_refl _) ?_,rfl,q _ hf⟩;exact⟨z,D,r,⟨_,get?_push_size _ rfl,rfl,_,rfl⟩⟩
def pe_lst(h:PA X es t):PE X (.List es pos) (tLst t):=by
 intro G s O H Q I P;refine wpAny_List_spliced (thn (h pos G s O H _ I P) λD l ⟨Y,H1,I1,r,z,q⟩=>⟨by rw[<- r.length];exact z,?_⟩);have hf:H1 l.heap.objs.size=none:=I1.hok.fresh (le_refl _);refine⟨.ref l.heap.objs.size,upd H1 l.heap.objs.size (.l Y),I1.laid (t':=l.toks) (λb u e=>qA _ e) (le_refl _) ?_,rfl,q _ hf⟩;exact⟨z,D,0,r,get?_push_size _ rfl⟩
end
abbrev Sp:=Ls V->Hp->VK->XK->Prop
abbrev CXT:=Ls Env->Hp->La->XK->Ly
structure Env0(P:Lc)(w:Le)(K:qH)(mg:Str->Ln)(base:Heap)(A:Lg)(outer:List Env)(s:La)(H:Hp):Prop where
 frames:A.frames=some outer
 mod:Mod K mg base
 bs:∀b o,base.get? b=some o->s.heap.get? b=some o/\H b=none
 bsz:base.objs.size<=s.heap.objs.size
 funs:s.heap.FunFrames base outer
 frf:∀b∈frs outer,H b=none
 hok:HOk P w H s.heap
 bare:AllBare s.gens
def CE(outer:Ls Env)(P:Lc)(w:Le)(H:Hp)(s:La)(Q:VK)(u:Lv)(s':La):Prop :=
 ∃v H',s'.os=s.os/\AllBare s'.gens/\Un (frs outer) [] H H' s.heap s'.heap/\HOk P w H' s'.heap/\yy v u/\Q v H'
def CR(l:CXT)(outer:Ls Env)(P:Lc)(w:Le)(H:Hp)(s:La)(Q:VK)(E:XK)(r:Result)(s':La):Prop :=
 match r with
 | .ok (.ret u)=>CE outer P w H s Q u s'| .ok _=>False| .error e=>l outer H s E e s'
structure FnOk(P:Lc)(w:Le)(K:qH)(mg:Str->Ln)(base:Heap)(CX:CXT)(k:Nat)(f:Lz)(fd:FuncData)(ps:Lm)(sp:Sp):Prop where
 len:∀vs H Q E,sp vs H Q E->vs.length=ps.length
 run:∀(A:Lg) (outer:List Env) (s:La) (H:Hp) (args:Args) (us:List Lv) (vs:List V) (Q:VK) (E:XK),Room k A->Env0 P w K mg base A outer s H->BindsTo s fd args (ps.zip us)->zw vs us->sp vs H Q E ->
  codeAny (model P w) A (.call (.ref f) args) (CR CX outer P w H s Q E) s
theorem FnOk.mono{P:Lc}{w:Le}{K:qH}{g:Str->Lx Lv}{base:Heap}{l:CXT}{j k:Nat}{f:Lz}{y:FuncData}{T:Ls Str}{sp:Sp}(F:FnOk P w K g base l j f y T sp)(h:j<=k) :
  FnOk P w K g base l k f y T sp:=⟨F.len,λA outer s H e D W Q E p=>F.run A outer s H e D W Q E (p.mono h)⟩
def FnOk.imp{P:Lc}{w:Le}{K:qH}{g:Str->Lx Lv}{base:Heap}{l:CXT}{k:Nat}{f:Lz}{y:FuncData}{T:Ls Str}{sp sp':Sp}(F:FnOk P w K g base l k f y T sp)
  (h:∀W H Q E,sp' W H Q E->sp W H Q E):FnOk P w K g base l k f y T sp' :=
 ⟨λW H Q E q=>F.len W H Q E (h _ _ _ _ q),λA outer s H e D W Q E p M J hv S=>F.run A outer s H e D W Q E p M J hv (h _ _ _ _ S)⟩
theorem Env0.in1{P:Lc}{w:Le}{K:qH}{g:Str->Lx Lv}{base:Heap}{A:Lg}{outer:Ls Env}{s:La}{H:Hp}(e:Env0 P w K g base A outer s H) :
  Env0 P w K g base A.in1 outer s H:=⟨e.frames,e.mod,e.bs,e.bsz,e.funs,e.frf,e.hok,e.bare⟩
section
variable{X:Cx}{pins:Ls (Lz×Obj)}{O:St}{H:Hp}{s s':La}
def Inv.env0(I:Inv X pins O H s):Env0 X.prog X.w X.K X.mg X.base X.A X.stack s H :=
 ⟨I.ok.frames,I.ok.mod,I.bs,le_trans I.ok.bsz I.sz,I.stack,I.stkFree,I.hok,I.bare⟩
def Inv.after(I:Inv X pins O H s)(h:CE X.stack X.prog X.w H s Q u s'):EP X pins O Q u s':=by
 obtain⟨v,H',os,l,un,S,r,q⟩:=h;obtain⟨J,g,d,t,o⟩:=s';obtain rfl:o=s.os:=os;exact⟨v,H',I.call (h':=J) (g':=g) (d':=d) (t':=t) (ch:=[]) un S l (λb z=>absurd z (by simp)),r,q⟩
end
def JL(K:qH)(y:FuncData)(T:Ls Str)(ds:Ls Lv):Prop :=
 ∀(s:La) (D:Ls Lv),K.In s.heap->(D++ds).length=T.length->BindsTo s y ⟨D,[]⟩ (T.zip (D++ds))
def JL.all{K:qH}{y:FuncData}{T:Ls Str}(h:∀D:Ls Lv,D.length=T.length->bindArgs y ⟨D,[]⟩=pure (T.zip D)):JL K y T []:=λs D _ hl=>by
 rw[append_nil]at hl ⊢;exact .of_eq (h D hl)
section
variable{X:Cx}{CX:CXT}{k:Nat}{f C:Lz}{fd:FuncData}{ps:Ls Str}{sp:Sp}{dvs:Ls V}{ds:Ls Lv}{E:XK}{x m:Str}{p pos apos:Pos}{e o:Lb}{es:Ls Lb}{ta:TE}{t:TA}
structure Mk(K:qH)(C f:Lz):Prop where
 makes:PySem.W.makesIn K C=true
 init:findIn K (.ref C) "__init__"=some (some (.ref f))
 fn:PySem.W.isFn K (.ref f)=true
 kp:keepIn K (.ref C)=true
end
section
variable{X:Cx}{CX:CXT}{k:Nat}{f C:Lz}{fd:FuncData}{ps ks:Ls Str}{sp:Sp}{E:XK}{x m:Str}{p pos apos kpos:Pos}{e o:Lb}{es:Ls Lb}{kws:Ls Keyword}{te ta:TE}{t tk:TA}{nm:Lx Str}
structure KBinds(K:qH)(fd:FuncData)(ps ks:Lm)(g:List Lv->List Lv->List Lv)(gV:List V->List V->List V):Prop where
 to:∀(s:La) (us ws:List Lv),K.In s.heap->(g us ws).length=ps.length->BindsTo s fd ⟨us,ks.zip ws⟩ (ps.zip (g us ws))
 rel:∀{vs:List V} {us:List Lv} {zs:List V} {ws:List Lv},zw vs us->zw zs ws->zw (gV vs zs) (g us ws)
variable{g:Ls Lv->Ls Lv->Ls Lv}{gV:Ls V->Ls V->Ls V}
end
structure FnScope(N P:Lm)(sc:Scope):Prop where
 kind:sc.kind=.function
 co:sc.isCoroutine=false
 gen:sc.isGenerator=false
 nd:N.Nodup
 pre:N.take P.length=P
 par:∀x∈P,sc.names.lookup x=some .local\/sc.names.lookup x=some .cell
 nofree:∀y∈sc.names,y.2≠.free
theorem GM{a:Str->Lx NameKind}:∀{binds:Ls (Str×Lv)} {m:Str->Lx Lv},(∀v,(x,v)∉binds)->bindL a binds m x=m x
 | [],_,_=>rfl
 | (n,v)::r,m,h=>by
  unfold bindL;rw[GM λw R=>h w (qD _ R)];split
  ·have:x≠n:=by rintro rfl;exact h v qE
   simp[this]
  ·rfl
theorem GN{a:Str->Lx NameKind}:∀{binds:Ls (Str×Lv)} {m:Str->Lx Lv},(∀v,(x,v)∉binds)->bindC a binds m x=m x
 | [],_,_=>rfl
 | (n,v)::r,m,h=>by
  unfold bindC;rw[GN λw R=>h w (qD _ R)];split
  ·rfl
  ·have:x≠n:=by rintro rfl;exact h v qE
   simp[this]
theorem GO{a:Str->Lx NameKind}:∀{P:Ls Str} {W:Ls Lv} {i:Nat} {m:Str->Lx Lv},P.Nodup->P[i]?=some x->W[i]?=some v->a x=some .local ->
  bindL a (P.zip W) m x=some v
 | [],_,_,_,_,h,_,_=>by simp at h|_::_,[],_,_,_,_,h,_=>by simp at h
 |p::P,w::W,0,m,k,L,h2,C=>by
  simp at L h2;subst L;subst h2
  show bindL a ((p,w)::P.zip W) m p=_
  unfold bindL;rw[GM λv hv=>(nodup_cons.mp k).1 (of_mem_zip hv).1,if_pos C];simp
 |p::P,w::W,i+1,m,k,L,h2,C=>by
  show bindL a ((p,w)::P.zip W) m x=_
  unfold bindL;exact GO (i:=i) (nodup_cons.mp k).2 (by exists L) (by exists h2) C
theorem GP{a:Str->Lx NameKind}:∀{P:Ls Str} {W:Ls Lv} {i:Nat} {m:Str->Lx Lv},P.Nodup->P[i]?=some x->W[i]?=some v->a x≠some .local ->
  bindC a (P.zip W) m x=some v
 | [],_,_,_,_,h,_,_=>by simp at h|_::_,[],_,_,_,_,h,_=>by simp at h
 |p::P,w::W,0,m,k,L,h2,C=>by
  simp at L h2;subst L;subst h2
  show bindC a ((p,w)::P.zip W) m p=_
  unfold bindC;rw[GN λv hv=>(nodup_cons.mp k).1 (of_mem_zip hv).1,if_neg C];simp
 |p::P,w::W,i+1,m,k,L,h2,C=>by
  show bindC a ((p,w)::P.zip W) m x=_
  unfold bindC;exact GP (i:=i) (nodup_cons.mp k).2 (by exists L) (by exists h2) C
def j0(N:Ls Str)(vs:Ls V):St:=vs.map some++replicate (N.length-vs.length) none
def zGY(l:CXT)(P:Lc)(w:Le)(K:qH)(mg:Str->Lx Lv)(base:Heap)(N:Ls Str)(a:Str)(Y:Scope)(f:Lz)(R:Lv)(A:Lg)(outer:Ls Env)(s:La)(H:Hp)(E:XK):Cx where
 prog:=P
 w:=w
 K:=K
 mg:=mg
 base:=base
 A:=A.deeper (envOfC a Y s.heap.objs.size f R)
 N:=N
 s₀:=s
 H₀:=H
 env:=envOfC a Y s.heap.objs.size f R
 outer:=outer
 stack:=envOfC a Y s.heap.objs.size f R::outer
 ex:=[]
 calm:=true
 fn:=λ_=>true
 pn:=[]
 xe:=λe j=>wpAny (model P w) (A.deeper (envOfC a Y s.heap.objs.size f R)) (leaving (envOfC a Y s.heap.objs.size f R) e) (λ_ c=>l outer H s E e c) (λy c=>l outer H s E y c) j
def zAO{sc:Scope}{n:Nat}{x:Str}(h:sc.names.lookup x=some .cell):∃c,(cellsFrom n sc.names []).lookup x=some c:=by
 have q:=cellsFrom_some sc.names n [] (.inl h);exact Option.isSome_iff_exists.mp q
def GQ{l:CXT}{P:Lc}{w:Le}{K:qH}{g:Str->Lx Lv}{base:Heap}{N T:Ls Str}{I:Str}{Y:Scope}{f:Lz}{R:Lv}{A:Lg}{outer:Ls Env}{s s1:La}{H:Hp}{E:XK}{D:Ls Lv}{vs:Ls V}
  (S:FnScope N T Y) (j:A.handled=none) (Z:Env0 P w K g base A outer s H) (hl:vs.length=T.length) (r:zw vs D)
  (x:InCallC s s.heap.objs.size (bindL (envOfC I Y s.heap.objs.size f R).kindOf (T.zip D) λ_=>none) (cellsFrom (s.heap.objs.size+1) Y.names []) (bindC (envOfC I Y s.heap.objs.size f R).kindOf (T.zip D) λ_=>none) s1) :
  Inv (zGY l P w K g base N I Y f R A outer s H E) [] (j0 N vs) H s1:=by
 have o:T.length<=N.length:=by have:=congrArg length S.pre;rw[length_take]at this;lia
 obtain⟨L,Q,rfl,C⟩:=x.done;have X:∀b:Lz,b∉(zGY l P w K g base N I Y f R A outer s H E).ex:=λb z=>absurd (show b∈([]:Ls Lz)from z) (by simp)
 refine⟨⟨Z.mod,S.kind,rfl,rfl,le_refl _,λy z c L h2=>?_,λy O=>?_,λy c _ h=>?_,λ_=>j,Around.frames_deeper Z.frames,.inr ⟨rfl,rfl⟩,λb z=>absurd z (X b),Z.bs,Z.bsz,λb _ _=>X b,λb z=>absurd z (X b),Z.funs,Z.frf⟩,
  rfl,Z.bare,Un.kept C,⟨_,x.toInCall.ns,λi y v L h2 h3=>?_⟩,λy c h=>⟨_,x.cell y c h⟩,Z.hok.fresh (le_refl _),λy c h=>?_,λp G=>absurd (show p∈([]:Ls (Lz×Obj))from G) (by simp),Z.hok.kept C,?_⟩
 ·exact name_of_addr x.apart (PySem.mem_of_lookup L) (PySem.mem_of_lookup h2)
 ·have O:Y.names.lookup y=some .cell\/Y.names.lookup y=some .free:=O
  rcases O with O|O
  ·exact zAO O
  ·exact absurd rfl (S.nofree _ (PySem.mem_of_lookup O))
 ·exact Nat.le_of_lt (x.above y c (PySem.mem_of_lookup h))
 ·have W:i<vs.length:=by
   unfold j0 at h2;by_cases W:i<vs.length
   ·exact W
   ·rw[getElem?_append_right (by exists W)]at h2
    rw[List.getElem?_replicate]at h2;split at h2<;>cases h2
  have J:vs[i]?=some v:=by
   unfold j0 at h2;rw[getElem?_append_left (by exists W),getElem?_map]at h2;cases e:vs[i]? with
   |none=>rw[e]at h2;cases h2|some a=>rw[e]at h2;cases h2;rfl
  obtain⟨u,hu,M⟩:=r.get J;have G:T[i]?=some y:=by
   rw[<- S.pre,List.getElem?_take_of_lt (by lia)];exact L
  have t:T.Nodup:=by rw[<- S.pre];exact S.nd.sublist (List.take_sublist _ _)
  refine⟨u,M,?_⟩;rcases S.par y (mem_of_getElem? G)with k|k
  ·exact .inl ⟨k,GO t G hu k⟩
  ·obtain⟨c,e⟩:=zAO (n:=s.heap.objs.size+1) k
   refine .inr ⟨.inl k,c,e,?_⟩;have q:=x.cell y c e;rw[GP t G hu (by show Y.names.lookup y≠_;rw[k];decide)]at q;exact q
 ·exact Z.hok.fresh (Nat.le_of_lt (x.above y c (PySem.mem_of_lookup h)))
 ·unfold j0
  show _=N.length
  rw[length_append,length_map,length_replicate];lia
def fn_of{CX:CXT}{P:Lc}{w:Le}{K:qH}{g:Str->Lx Lv}{base:Heap}{k:Nat}{f:Lz}{name a:Str}{i:Arguments}{body:Ls Lf}{Y:Scope}{L h ad C z ct oc:Lv}{G od:Lx Lz}
  {ae:Lj} {N T:Ls Str} {sp:Sp} (X:K.lookup f=some ⟨oc,od,.func (fnOf name a i body Y L h ad C G z ct),ae⟩) (R:codeIn K z a=true) (S:FnScope N T Y)
  (l:∀W H Q E,sp W H Q E->W.length=T.length)
  (c:∀(A:Lg) (outer:Ls Env) (s:La) (H:Hp) (W:Ls V) (Q:VK) (E:XK),Room k (A.deeper (envOfC a Y s.heap.objs.size f z))->sp W H Q E ->
   ∃t,PSs (zGY CX P w K g base N a Y f z A outer s H E) body t/\t {nx:=λ_ H'=>Q .non H',rt:=Q} (j0 N W) H) :
  FnOk P w K g base CX (k+1) f (fnOf name a i body Y L h ad C G z ct) T sp:=by
 refine⟨l,λA outer s H ag D W Q E p Z hb r j=>?_⟩;have hl:=l _ _ _ _ j;have KX:K.In s.heap:=Z.mod.kin.keeps λb o e=>(Z.bs b o e).1
 have af:s.heap.NoLimit:=Z.mod.nolimit.keeps λb o e=>(Z.bs b o e).1
 have ab:∀y∈T.zip D,Y.names.lookup y.1=some .local\/(Y.names.lookup y.1=some .cell/\((cellsFrom (s.heap.objs.size+1) Y.names []).lookup y.1).isSome=true):=λ⟨n,v⟩ O=>by
  rcases S.par n (of_mem_zip O).1 with q|q
  ·exact .inl q
  ·exact .inr ⟨q,cellsFrom_some _ _ _ (.inl q)⟩
 refine codeAny_call_function p.depth (KX _ _ X) rfl S.co S.gen rfl (codeRec_of KX R) (hb _ _ _ _ ?_);refine wpAny_newFunctionEnv_cells S.kind ab λaa he s1 x=>?_
 subst he;refine⟨af.keeps x.toInCall.keep,codeAny_func ?_⟩;obtain⟨t,ht,hq⟩:=c A outer s H W Q E (p.deeper _) j;have I:Inv (zGY CX P w K g base N a Y f z A outer s H E) [] (j0 N W) H s1:=GQ S p.hd Z hl r x;refine wpAny_mono (ht [] s1 (j0 N W) H _ I hq) (λfl s' hs=>?_) λe s' hs=>hs
 have ac:∀{O':St} {H':Hp} {v:V} {u:Lv},Inv (zGY CX P w K g base N a Y f z A outer s H E) [] O' H' s'->yy v u->Q v H'->CE outer P w H s Q u s' :=
  λ{O' H' v u} J M q=>⟨v,H',J.os,J.bare,J.base,J.hok,M,q⟩
 cases fl with
 |ret u =>
  obtain⟨v,O',H',J,M,q⟩:=hs;exact ac J M q
 |next =>
  obtain⟨O',H',J,q⟩:=hs;exact ac (v:=V.non) (u:=Value.none) J rfl q
 |brk =>
  obtain⟨_,_,_,q⟩:=hs;exact False.elim q
 |cont =>
  obtain⟨_,_,_,q⟩:=hs;exact False.elim q
section
variable{X:Cx}{x:Str}{p pos:Pos}{e:Lb}{es:Ls Lb}{t:TA}{id T:String}{r:Ls V->Hp->VK->Prop}
def tCB(r:Ls V->Hp->VK->Prop)(t:TA):TE:=λO H Q=>t O H λW H1=>r W H1 Q
def Zs(Z:wB X (.builtin id) r)(n:Gl X x)(K:X.mg x=none)(Y:bootBuiltins x=some (.builtin id))(P:PA X (e::es) t)(D:x≠"__name__":=by decide)(a:(x==("__debug__":Str))=false:=by decide)
  (M:starEach (e::es) X.env=(false,eval e X.env)::starEach es X.env:=by rfl) (o:(backTo pos (starEach es X.env)).any (·.1)=false:=by rfl):PE X (.Call (.Name x p) (e::es) [] pos) (tCB r t):=by
 intro G s O H Q I h;refine wpAny_Call_Name_kw (J3 I n K Y ?_ D a);exact PyProof.Rows.callWith_builtin1 (thn (P pos G s O H _ I h) λc l ⟨W,H1,I1,T,j⟩=>Z G l O H1 W c Q I1 T j) M o
def zB9(Z:wB X (.type T) r)(n:Gl X x)(K:X.mg x=none)(Y:bootBuiltins x=some (.type T))(P:PA X (e::es) t)(D:x≠"__name__":=by decide)(a:(x==("__debug__":Str))=false:=by decide)
  (M:starEach (e::es) X.env=(false,eval e X.env)::starEach es X.env:=by rfl) (o:(backTo pos (starEach es X.env)).any (·.1)=false:=by rfl):PE X (.Call (.Name x p) (e::es) [] pos) (tCB r t):=by
 intro G s O H Q I h;refine wpAny_Call_Name_kw (J3 I n K Y ?_ D a);exact PyProof.Rows.callWith_type1 (thn (P pos G s O H _ I h) λg l ⟨W,H1,I1,c,j⟩=>Z G l O H1 W g Q I1 c j) M o
end
end L2
namespace HT
open PySem PyProof.Rows
def lexLt:Ls Int->Ls Int->Bool
 | [],[]=>false| [],_::_=>true|_::_,[]=>false|x::xs,y::ys=>if x=y then lexLt xs ys else decide (x<y)
def lexLt_cons(x y:Int)(xs ys:Ls Int):lexLt (x::xs) (y::ys)=if x=y then lexLt xs ys else decide (x<y):=rfl
def v4:lexLt [] []=false:=rfl
def W7(y:Int)(ys:Ls Int):lexLt [] (y::ys)=true:=rfl
def W8(x:Int)(xs:Ls Int):lexLt (x::xs) []=false:=rfl
def zEp(A:Lg)(s:La)(a:Int)(t:Tok)(c:Int)(u:Tok):∃e,SeqAt.EqAt A s (.int a t) (.int c u) e/\(e=true↔a=c) :=
 ⟨(a==c),SeqAt.EqAt.int_int a t c u,by simp⟩
section
variable{prog:Lc}{w:Le}{A:Lg}{E:Ly}{s:La}
def cat_tup{Q:Ly}(V:IsTup s.heap t vs.toArray)(J:IsTup s.heap b ws.toArray)(Y:vs≠[])
  (L:ws=[]->Q (.ref t) s) (c:ws≠[]->Q (.ref s.heap.objs.size) {s with heap:=s.heap.push {cls:=.type "tuple",data:=.seq (vs++ws).toArray}})
  (hsz:vs.length+ws.length<=sizeLine):wpAny (model prog w) A (binaryOp .Add (.ref t) (.ref b)) Q E s:=by
 obtain⟨⟨cls,dd,data,g⟩,ho,Z,n,j⟩:=id V;obtain⟨⟨k,D,a,o⟩,i,M,z,K⟩:=id J;simp only at Z j M K;subst Z j M K;have e:vs.toArray++ws.toArray=(vs++ws).toArray:=by simp
 by_cases R:ws=[]
 ·exact concat_meets ⟨_,ho,rfl⟩ ⟨_,i,rfl⟩ noFill_tuple_add seq_tuple_add PySem.F.slot_tuple_add PySem.F.entry_tuple_add (PySem.F.args_tuple_add_2 _ _)
   (tuple_addW1 t b vs.toArray ws.toArray n z dd D g o (by exists Y) (by simp[R])) ⟨ho,i,L R⟩
 ·refine concat_meets ⟨_,ho,rfl⟩ ⟨_,i,rfl⟩ noFill_tuple_add seq_tuple_add PySem.F.slot_tuple_add PySem.F.entry_tuple_add (PySem.F.args_tuple_add_2 _ _)
   (tuple_addW2 t b vs.toArray ws.toArray n z dd D g o (by exists Y) (by exists R) (by rw[size_toArray,size_toArray];exact hsz)) ⟨ho,i,?_⟩
  rw[e];exact c R
def sIx(n d:Nat):Lx Int->Nat
 |none=>d|some v=>if v<0 then(v+(n:Int)).toNat else min v.toNat n
def sIx_nat(n d k:Nat):sIx n d (some (k:Int))=min k n:=by
 show(if(k:Int)<0 then((k:Int)+(n:Int)).toNat else min (k:Int).toNat n)=min k n
 rw[if_neg (by lia),Int.toNat_natCast]
def sIx_le(n d:Nat)(j:d<=n)(o:Lx Int):sIx n d o<=n:=by
 cases o with
 |none=>exact j
 |some v =>
  show(if v<0 then(v+(n:Int)).toNat else min v.toNat n)<=n
  by_cases hv:v<0
  ·rw[if_pos hv];lia
  ·rw[if_neg hv];exact Nat.min_le_right _ _
def zCA(v:Int)(n d:Nat):(if v<0 then max (v+(n:Int)) 0 else min v (n:Int))=((sIx n d (some v):Nat):Int):=by
 show(if v<0 then max (v+(n:Int)) 0 else min v (n:Int))=(((if v<0 then(v+(n:Int)).toNat else min v.toNat n):Nat):Int)
 by_cases hv:v<0
 ·dsimp[if_pos hv];lia
 ·dsimp[if_neg hv];lia
def zBM(z W:Lx Int)(n:Nat):Builtin.Slice.sliceAdjust z W 1 (n:Int)=(((sIx n 0 z:Nat):Int),((sIx n n W:Nat):Int)):=by
 have L:¬((1:Int)<0):=by lia
 unfold Builtin.Slice.sliceAdjust;dsimp[L,if_false];refine Prod.ext ?_ ?_
 ·cases z with
  |none=>rfl|some v=>exact zCA v n 0
 ·cases W with
  |none=>rfl|some v=>exact zCA v n n
def zBN(i j:Nat):Builtin.Slice.slicePlaces (i:Int) (j:Int) 1=j-i:=by
 unfold Builtin.Slice.slicePlaces;have L:(1:Int) > 0:=by lia
 dsimp[L,if_true,Int.ediv_one];split<;>lia
def vU{Q:Lx Int->La->Prop}(p:IsPart v o)(h:Q o s):wpAny (model prog w) A (Builtin.Slice.slicePartIndex v) Q E s:=by
 cases p with
 |none=>exact slicePart_none h|int i t=>exact slicePart_int h
def sliceApplied_gen{g:Lz}{y C:Lv}{z W:Lx Int}{n:Nat}{Q:Int×Int×Nat->La->Prop}(S:s.heap.IsSliceOf g y C .none)(k:IsPart y z)(J:IsPart C W)
  (h:Q (((sIx n 0 z:Nat):Int),1,sIx n n W-sIx n 0 z) s):wpAny (model prog w) A (Builtin.Slice.sliceApplied (.ref g) (pure (n:Int))) Q E s:=by
 obtain⟨Z,a,G,c⟩:=id S;unfold Builtin.Slice.sliceApplied Builtin.Slice.sliceFields;refine qB (qB (wpAny_field a c (x:=y) rfl (qB (wpAny_field a c (x:=C) rfl (qB (wpAny_field a c (x:=.none) rfl (qC ?_)))))));refine qB (slicePart_none ?_);show wpAny _ _ (if((1:Int)==0)=true then _ else _) _ _ s;rw[if_neg (by decide)];refine qB (vU k (qB (vU J (qB (qC ?_)))));show wpAny _ _ (match Builtin.Slice.sliceAdjust z W 1 (n:Int)with|(z,W)=>pure (z,(1:Int),Builtin.Slice.slicePlaces z W 1)) _ _ s
 rw[zBM z W n];show wpAny _ _ (pure (((sIx n 0 z:Nat):Int),(1:Int),Builtin.Slice.slicePlaces ((sIx n 0 z:Nat):Int) ((sIx n n W:Nat):Int) 1)) _ _ s;rw[zBN];exact qC h
def zEq(xs:Lh)(i k:Nat):((List.range k).filterMap λ(m:Nat)=>xs[((i:Int)+(m:Int)*1).toNat]?).toArray=((xs.toList.drop i).take k).toArray:=by
 have e:(λ(m:Nat)=>xs[((i:Int)+(m:Int)*1).toNat]?)=λm=>xs[i+m]?:=by
  funext m
  have:((i:Int)+(m:Int)*1).toNat=i+m:=by lia
  rw[this]
 rw[e];have:=pick_run xs i k;rw[List.filterMap_map]at this;have w:((λx=>xs[x]?) ∘ λx=>i+x)=λm=>xs[i+m]?:=rfl
 rw[w]at this;rw[this]
def getItem_tuple_cut{t g:Lz}{p:Lh}{y C:Lv}{z W:Lx Int}{Q:Ly}(V:IsTup s.heap t p)(S:s.heap.IsSliceOf g y C .none)(k:IsPart y z)(J:IsPart C W)
  (R:¬(sIx p.size 0 z=0/\sIx p.size p.size W=p.size))
  (h:Q (.ref s.heap.objs.size) {s with heap:=s.heap.push {cls:=.type "tuple",data:=.seq ((p.toList.drop (sIx p.size 0 z)).take (sIx p.size p.size W-sIx p.size 0 z)).toArray}})
  (hsz:p.size<=sizeLine):wpAny (model prog w) A (getItem (.ref t) (.ref g)) Q E s:=by
 have e:sizeOk (.seq ((p.toList.drop (sIx p.size 0 z)).take (sIx p.size p.size W-sIx p.size 0 z)).toArray):=by
  show((p.toList.drop (sIx p.size 0 z)).take (sIx p.size p.size W-sIx p.size 0 z)).toArray.size<=sizeLine
  rw[size_toArray,length_take,length_drop,Array.length_toList];lia
 have T:sIx p.size p.size W<=p.size:=sIx_le _ _ (le_refl _) W;obtain⟨Z,a,G,c⟩:=id S;have i:s.TypeIs (.ref g) "slice":=⟨Z,a,G⟩;unfold getItem
 try with_reducible refine wpAny_holding ?_
 first|refine qB (qC ?_)|skip
 refine qB (wpAny_sequenceKey V.typeIs (by decide) ?_);refine qB (wpAny_callSpecial?_slot (name:=Str.ofString "__getitem__") V.typeIs PyProof.Rows.slot_tuple_getitem
  (wpAny_call_entry PyProof.Rows.slot_tuple_getitem V.typeIs entry_tuple_getitem ?_ (args_tuple_getitem _ _)))
 show wpAny _ _ (Builtin.Tuple.tupleItemsOf (.ref t) >>= _) _ _ s
 refine qB (tupleItemsOf_ V ?_);refine qB (wpAny_typeOf i ?_);rw[if_pos (by decide)];refine qB (sliceApplied_gen S k J ?_);have l:¬((((sIx p.size 0 z:Nat):Int)==0&&(1:Int)==1&&(sIx p.size p.size W-sIx p.size 0 z)==p.size)=true):=by
  intro q;rw[Bool.and_eq_true,Bool.and_eq_true]at q;have j:((sIx p.size 0 z:Nat):Int)=0:=eq_of_beq q.1.1;have n:sIx p.size p.size W-sIx p.size 0 z=p.size:=eq_of_beq q.2;exact R ⟨by lia,by lia⟩
 show wpAny _ _ (if(((sIx p.size 0 z:Nat):Int)==0&&(1:Int)==1&&(sIx p.size p.size W-sIx p.size 0 z)==p.size)=true then _ else _) _ _ s
 rw[if_neg l,zEq]
 first
  |exact qB (m:=Builtin.Tuple.tupleExact _) (wpAny_newObj_type (qC ⟨_,rfl,qC h⟩) e)
  |exact qB (m:=Builtin.Tuple.tupleExact _) (wpAny_newObj_type (qB (qC (qC ⟨_,rfl,qC h⟩))) e)
  |exact qB (qB (m:=Builtin.Tuple.tupleExact _) (wpAny_newObj_type (qC (qC ⟨_,rfl,qC h⟩)) e))
  |exact qB (qB (m:=Builtin.Tuple.tupleExact _) (wpAny_newObj_type (qC ⟨_,rfl,qC h⟩) e))
end
end HT
namespace L2
open PySem PySem.Spec PyProof.Rows
abbrev TO:=St->Hp->(Lx Int->Hp->Prop)->Prop
def PO(X:Cx)(e:Lx Lb)(t:TO):Prop :=
 ∀(G:Ls (Lz×Obj)) (s:La) (O:St) (H:Hp) (Q:Lx Int->Hp->Prop),Inv X G O H s->t O H Q ->
  wpAny (model X.prog X.w) X.A (evalPart e X.env) (λu j=>∃o H',Inv X G O H' j/\IsPart u o/\Q o H') X.xe s
def tNoPart:TO:=λ_ H Q=>Q none H
def tPart(t:TE):TO:=λO H Q=>t O H λx H1=>∃i,x=.int i/\Q (some i) H1
def vV:∀{D:Ls Lv},zw (ns.map V.int) D->IntsAre D ns:=by
 induction ns with
 |nil=>intro D r;rw[map_nil]at r;cases r;exact .nil
 |cons n ns I =>
  intro D r;rw[map_cons]at r;cases r with
  |cons T C =>
   obtain⟨t,e⟩:=T;subst e;exact .cons n t (I C)
section
variable{X:Cx}{e:Lb}{te:TE}{lo hi:Lx Lb}{tl th:TO}{pos p2:Pos}
def po_none:PO X none tNoPart:=by
 intro G s O H Q I h;rw[evalPart_none];exact qC ⟨none,H,I,.none,h⟩
def po_some(h:PE X e te):PO X (some e) (tPart te):=by
 intro G s O H Q I R;rw[evalPart_some];refine thn (h G s O H _ I R) λu l ⟨x,H1,I1,T,j⟩=>?_
 obtain⟨i,rfl,q⟩:=j;obtain⟨t,rfl⟩:=T;exact⟨some i,H1,I1,.int i t,q⟩
def SlR(X:Cx)(r:V->Lx Int->Lx Int->Hp->VK->Prop):Prop :=
 ∀(G:Ls (Lz×Obj)) (s:La) (O:St) (H:Hp) (x:V) (v y C:Lv) (z W:Lx Int) (g:Lz) (Q:VK),Inv X G O H s->yy x v->s.heap.IsSliceOf g y C .none->IsPart y z->IsPart C W->r x z W H Q ->
  ∃T id,typeLookup (.type T) "__getitem__"=pure (some (.builtin id))/\s.TypeIs v T/\wpAny (model X.prog X.w) X.A (getItem v (.ref g)) (EP X G O Q) X.xe s
def SlR.or{r T:V->Lx Int->Lx Int->Hp->VK->Prop}(h:SlR X r)(h':SlR X T):SlR X (λx z W H Q=>r x z W H Q\/T x z W H Q):=by
 intro G s O H x v y C z W g Q I c S k J q;rcases q with q|q
 ·exact h G s O H x v y C z W g Q I c S k J q
 ·exact h' G s O H x v y C z W g Q I c S k J q
def tSl(r:V->Lx Int->Lx Int->Hp->VK->Prop)(t:TE)(g a:TO):TE:=λO H Q=>t O H λx H1=>g O H1 λl H2=>a O H2 λu H3=>r x l u H3 Q
def zEr{r:V->Lx Int->Lx Int->Hp->VK->Prop}(p:SlR X r)(M:PE X e te)(c:PO X lo tl)(E:PO X hi th):PE X (.Subscript e (.Slice lo hi none p2) pos) (tSl r te tl th):=by
 intro G s O H Q I h;refine Subscript_ (thn (M G s O H _ I h) λv g ⟨x,H1,I1,a,j⟩=>?_);refine wpAny_Slice (thn (c G g O H1 _ I1 j) λy Y ⟨l,H2,I2,k,S⟩=>thn (E G Y O H2 _ I2 S) λC t ⟨u,H3,I3,J,R⟩=>?_);rw[evalPart_none];refine qC ?_;have I4:Inv X G O H3 {t with heap:=t.heap.push {cls:=.type "slice",data:=.fields #[y,C,.none]}}:=I3.kept (t':=t.toks) λb D q=>qA _ q
 obtain⟨T,id,hT,ht,n⟩:=p G {t with heap:=t.heap.push {cls:=.type "slice",data:=.fields #[y,C,.none]}} O H3 x v y C l u t.heap.objs.size Q I4 a (Heap.IsSliceOf.new ..) k J R
 show wpAny (model X.prog X.w) X.A (subscriptTail e (.Slice lo hi none p2) v (.ref t.heap.objs.size)) (EP X G O Q) X.xe {t with heap:=t.heap.push {cls:=.type "slice",data:=.fields #[y,C,.none]}}
 exact tail_any (ops:=[.ref t.heap.objs.size,v]) ht hT n (by with_unfolding_all rfl)
def zEs(xs:Ls V)(z W:Lx Int):Ls V:=(xs.drop (HT.sIx xs.length 0 z)).take (HT.sIx xs.length xs.length W-HT.sIx xs.length 0 z)
def WI(xs:Ls V)(z W:Lx Int):(zEs xs z W).length<=xs.length:=by
 unfold zEs;rw[length_take,length_drop];lia
def rSlT(K:qH):V->Lx Int->Lx Int->Hp->VK->Prop:=λx z W H Q=>∃a Y,x=.ref a/\SqT K H a Y /\
 ¬(HT.sIx Y.length 0 z=0/\HT.sIx Y.length Y.length W=Y.length)/\∀p,H p=none->Q (.ref p) (upd H p (.t (zEs Y z W)))
def sl_tup:SlR X (rSlT X.K):=by
 intro G s O H x v y C z W g Q I c S k J h;obtain⟨a,Y,rfl,V,R,q⟩:=h;cases c;obtain⟨its,r,ht,hz⟩:=I.tuple V;have i:its.toArray.size=Y.length:=by rw[size_toArray];exact r.length.symm
 refine⟨"tuple",_,PyProof.Rows.slot_tuple_getitem.lookup,ht.typeIs,?_⟩;refine HT.getItem_tuple_cut ht S k J (by rw[i];exact R) ?_ (by rw[i];exact hz);rw[i];refine⟨.ref s.heap.objs.size,_,I.laid (t':=s.toks) (o:=.t (zEs Y z W)) (λb D q=>qA _ q) (le_refl _) ?_,rfl,q _ (I.hok.fresh (le_refl _))⟩;exact⟨le_trans (WI Y z W) hz,_,(r.drop (HT.sIx Y.length 0 z)).take (HT.sIx Y.length Y.length W-HT.sIx Y.length 0 z),IsTup.new _ _⟩
def rCatT(K:qH):R2:=λx y H Q=>∃a b Y J,x=.ref a/\y=.ref b/\SqT K H a Y/\SqT K H b J/\Y≠[]/\Y.length+J.length<=sizeLine /\
 (J=[]->Q (.ref a) H)/\(J≠[]->∀p,H p=none->Q (.ref p) (upd H p (.t (Y++J))))
def zw.nil_iff(r:zw xs us):us=[]↔xs=[]:=by
 cases r with
 |nil=>simp|cons _ _=>simp
def op_catT:OpR X (binaryOp .Add) (rCatT X.K):=by
 intro G s O H x y v u Q I c k h;obtain⟨a,b,Y,J,rfl,rfl,P,i,V,hz,j,S⟩:=h;cases c;cases k;obtain⟨its,T,t,_⟩:=I.tuple P;obtain⟨e,C,g,_⟩:=I.tuple i;refine HT.cat_tup t g (λz=>V (T.nil_iff.mp z)) (λz=>⟨.ref a,H,I,rfl,j (C.nil_iff.mp z)⟩) (λz=>?_) (by rw[<- T.length,<- C.length];exact hz);refine⟨.ref s.heap.objs.size,_,I.laid (t':=s.toks) (o:=.t (Y++J)) (λb D q=>qA _ q) (le_refl _) ?_,rfl,S (λw=>z (C.nil_iff.mpr w)) _ (I.hok.fresh (le_refl _))⟩;exact⟨by rw[length_append];exact hz,_,T.append C,IsTup.new _ _⟩
end
def ixN(n:Nat)(i:Int):Lx Nat:=if 0<=i then(if i<n then some i.toNat else none)else if -(n:Int)<=i then some (i+n).toNat else none
def atI{α:Type}(xs:Ls α)(i:Int):Lx α:=(ixN xs.length i).bind λj=>xs[j]?
def zCB(h:ixN n i=some j):seqIndex? i n=some j/\j<n/\-(n:Int)<=i/\i<n:=by
 unfold ixN at h;by_cases J:0<=i
 ·rw[if_pos J]at h
  by_cases L:i<n
  ·rw[if_pos L]at h
   have e:i.toNat=j:=qJ h;exact⟨by rw[seqIndex_of J L,e],by lia,by lia,L⟩
  ·rw[if_neg L]at h;cases h
 ·rw[if_neg J]at h
  by_cases L:-(n:Int)<=i
  ·rw[if_pos L]at h
   have e:(i+n).toNat=j:=qJ h;exact⟨by rw[seqIndex_neg (by lia) L,e],by lia,L,by lia⟩
  ·rw[if_neg L]at h;cases h
def zCC{α:Type}{xs:Ls α}{v:α}(h:atI xs i=some v):∃j,seqIndex? i xs.length=some j/\xs[j]?=some v/\j<xs.length/\-(xs.length:Int)<=i/\i<xs.length:=by
 unfold atI at h;exists e,ixN xs.length i,h,j;obtain⟨L,h2,M,h4⟩:=zCB e;exact⟨j,L,h,h2,M,h4⟩
def v9(b:Lb):Prop:=∀o i,subscripted b false o i=operate [o,i] (getItem o i)
def IxR(X:Cx)(r:R2):Prop :=
 ∀(e a:Lb) (G:Ls (Lz×Obj)) (s:La) (O:St) (H:Hp) (x y:V) (v u:Lv) (Q:VK),Inv X G O H s->yy x v->yy y u->r x y H Q ->
  subscripted a false v u=operate [v,u] (getItem v u)->wpAny (model X.prog X.w) X.A (subscriptTail e a v u) (EP X G O Q) X.xe s
def MtR(X:Cx)(id:String)(r:V->Ls V->Hp->VK->Prop):Prop :=
 ∀(G:Ls (Lz×Obj)) (s:La) (O:St) (H:Hp) (x:V) (Y:Ls V) (v:Lv) (D:Ls Lv) (Q:VK),Inv X G O H s->yy x v->zw Y D->r x Y H Q ->
  wpAny (model X.prog X.w) X.A (call (.builtin id) (v::D)) (EP X G O Q) X.xe s
section
variable{X:Cx}{a b:Lb}{ta tb:TE}{pos:Pos}
def IxR.or(h:IxR X r)(h':IxR X r'):IxR X (λx y H Q=>r x y H Q\/r' x y H Q):=by
 intro e a G s O H x y v u Q I c V q S;rcases q with q|q
 ·exact h e a G s O H x y v u Q I c V q S
 ·exact h' e a G s O H x y v u Q I c V q S
def MtR.or{id:String}{r T:V->Ls V->Hp->VK->Prop}(h:MtR X id r)(h':MtR X id T):MtR X id (λx Y H Q=>r x Y H Q\/T x Y H Q):=by
 intro G s O H x Y v D Q I c w q;rcases q with q|q
 ·exact h G s O H x Y v D Q I c w q
 ·exact h' G s O H x Y v D Q I c w q
def pe_ix(p:IxR X r)(P:PE X a ta)(J:PE X b tb)(S:v9 b):PE X (.Subscript a b pos) (tOp r ta tb):=by
 intro G s O H Q I h;exact Subscript_ (binT P J I h λv u Y x y H2 I2 c V q=>p a b G Y O H2 x y v u Q I2 c V q (S _ _))
def rIxL(K:qH):R2:=λx y H Q=>∃p Y i v,x=.ref p/\y=.int i/\SqL K H p Y/\atI Y i=some v/\Q v H
def rIxT(K:qH):R2:=λx y H Q=>∃p Y i v,x=.ref p/\y=.int i/\SqT K H p Y/\atI Y i=some v/\Q v H
def zCD:IxR X (rIxL X.K):=by
 intro e a G s O H x y v u Q I c V h S;obtain⟨p,Y,i,z,rfl,rfl,P,M,q⟩:=h;cases c;obtain⟨t,rfl⟩:=V;obtain⟨its,r,k,hz⟩:=I.list P;obtain⟨j,L,h2,l,h4,h5⟩:=zCC M;obtain⟨w,C,W⟩:=r.get h2;have hl:=r.length;have D:=zAN;have K:EP X G O Q w s:=⟨z,H,I,W,q⟩;by_cases J:0<=i
 ·have T:i.toNat=j:=by
   rw[seqIndex_of J h5]at L;exact qJ L
  exact item_listR k.isList J (by lia) (by rw[T];exists C) K S
 ·have T:(i+(its.toArray.size:Int)).toNat=j:=by
   rw[seqIndex_neg (by lia) h4]at L;rw[size_toArray,<- hl];exact qJ L
  exact subscriptTail_builtinR (x:=w) k.isList.typeIs slot_list_getitem.lookup
   (wpAny_getItem_list_neg (Q:=λr g=>r=w/\EP X G O Q r g) k.isList (by lia) (by rw[size_toArray]<;>lia) (by lia) (by rw[T];exists C) ⟨rfl,K⟩) S
def zGZ:IxR X (rIxT X.K):=by
 intro e a G s O H x y v u Q I c V h S;obtain⟨p,Y,i,z,rfl,rfl,P,M,q⟩:=h;cases c;obtain⟨t,rfl⟩:=V;obtain⟨its,r,k,hz⟩:=I.tuple P;obtain⟨j,L,h2,l,h4,h5⟩:=zCC M;obtain⟨w,C,W⟩:=r.get h2;have hl:=r.length;have D:=zAN;have K:EP X G O Q w s:=⟨z,H,I,W,q⟩;exact subscriptTail_builtinR (x:=w) k.typeIs slot_tuple_getitem.lookup
  (getItem_tuple (j:=j) (Q:=λr g=>r=w/\EP X G O Q r g) k (by lia) (by lia) (by rw[size_toArray,<- hl];exact L) (by exists C) ⟨rfl,K⟩) S
def zBO(c:Ls Lv)(n j:Nat)(u:Lv):Obj.mapSeq (·.setIfInBounds j u) {cls:=.type "list",data:=.seq c.toArray n}={cls:=.type "list",data:=.seq (c.set j u).toArray n}:=by
 simp[Obj.mapSeq]
theorem Inv.lst{G:Ls (Lz×Obj)}{O:St}{H:Hp}{s:La}{p:Lz}{xs:Ls V}(I:Inv X G O H s)(h:H p=some (.l xs)) :
  ∃(its:Ls Lv) (n:Nat),zw xs its/\s.heap.get? p=some {cls:=.type "list",data:=.seq its.toArray n}/\xs.length<=sizeLine:=by
 obtain⟨z,its,n,r,e⟩:=I.hok p _ h;exact⟨its,n,r,e,z⟩
def Inv.lstUpd{G:Ls (Lz×Obj)}{O:St}{H:Hp}{s:La}{p:Lz}{xs ys:Ls V}{c its':Ls Lv}{n E:Nat}{f:Obj->Obj}(I:Inv X G O H s)(h:H p=some (.l xs))
  (L:s.heap.get? p=some {cls:=.type "list",data:=.seq c.toArray n}) (a:f {cls:=.type "list",data:=.seq c.toArray n}={cls:=.type "list",data:=.seq its'.toArray E}) (r:zw ys its') (P:ys.length<=sizeLine) (t:Nat) :
  Inv X G O (upd H p (.l ys)) {s with heap:=s.heap.update p f,toks:=t}:=by
 have e:(s.heap.update p f).get? p=some {cls:=.type "list",data:=.seq its'.toArray E}:=by
  rw[get?_update_self f L (by rw[a]<;>rfl),a]
 refine I.write (x:=p) (e:=p) (by rw[h];trivial) (.inl rfl) (λb u J q=>(get?_update_other _ _ (Ne.symm J)).trans q) ⟨_,e⟩ ?_;exact⟨P,its',E,r,e⟩
def rSetL:V->V->V->Hp->(Hp->Prop)->Prop:=λo i v H Q=>∃p Y k j,o=.ref p/\i=.int k/\H p=some (.l Y)/\ixN Y.length k=some j/\Q (upd H p (.l (Y.set j v)))
def zEt:PSet X rSetL:=by
 intro G s O H o i v a K u Q I c e l h;obtain⟨p,Y,k,j,rfl,rfl,g,T,q⟩:=h;cases c;obtain⟨t,rfl⟩:=e;obtain⟨its,n,r,ho,hz⟩:=I.lst g;obtain⟨L,h2,M,h4⟩:=zCB T;have hl:=r.length;have D:=zAN;have I':Inv X G O (upd H p (.l (Y.set j v))) {s with heap:=s.heap.update p (Obj.mapSeq (·.setIfInBounds j u))} :=
  I.lstUpd g ho (zBO its n j u) (r.set l j) (by rw[List.length_set];exact hz) s.toks
 by_cases J:0<=k
 ·have C:k.toNat=j:=by
   rw[seqIndex_of J h4]at L;exact qJ L
  exact PySem.W.ki_setAt ho J (by lia) (by rw[size_toArray,<- hl];exact h4) (by rw[C];exact⟨_,I',q⟩)
 ·have C:(k+(its.toArray.size:Int)).toNat=j:=by
   rw[seqIndex_neg (by lia) M]at L;rw[size_toArray,<- hl];exact qJ L
  exact PySem.W.ki_setBack ho (by lia) (by rw[size_toArray,<- hl];exact M) (by lia) (by rw[C];exact⟨_,I',q⟩)
def GR(z W:Lx Int)(n:Nat):(sliceBounds z W none n).1=((HT.sIx n 0 z:Nat):Int)/\(sliceBounds z W none n).2.1=((HT.sIx n n W:Nat):Int)/\(sliceBounds z W none n).2.2=1:=by
 refine⟨?_,?_,rfl⟩
 ·cases z with
  |none=>simp[sliceBounds,HT.sIx]
  |some i =>
   dsimp[sliceBounds,HT.sIx,Option.getD_none,show(1:Int) > 0 by decide,if_true];by_cases h:i<0
   ·dsimp[h,if_true]<;>lia
   ·dsimp[h,if_false]<;>lia
 ·cases W with
  |none=>simp[sliceBounds,HT.sIx]
  |some i =>
   dsimp[sliceBounds,HT.sIx,Option.getD_none,show(1:Int) > 0 by decide,if_true];by_cases h:i<0
   ·dsimp[h,if_true]<;>lia
   ·dsimp[h,if_false]<;>lia
def uA(c:Ls Lv)(z W:Lx Int):slicePick c.toArray z W none=((c.drop (HT.sIx c.length 0 z)).take (HT.sIx c.length c.length W-HT.sIx c.length 0 z)).toArray:=by
 obtain⟨L,h2,M⟩:=GR z W c.toArray.size;unfold slicePick;rw[L,h2,M];dsimp[sliceRange_one,pick_run,size_toArray]<;>rfl
def rSlL(K:qH):V->Lx Int->Lx Int->Hp->VK->Prop:=λx z W H Q=>∃a Y,x=.ref a/\SqL K H a Y/\∀p,H p=none->Q (.ref p) (upd H p (.l (zEs Y z W)))
def sl_list:SlR X (rSlL X.K):=by
 intro G s O H x v y C z W g Q I c S k J h;obtain⟨a,Y,rfl,V,q⟩:=h;cases c;obtain⟨its,r,ht,hz⟩:=I.list V;have i:=r.length;refine⟨"list",_,slot_list_getitem.lookup,ht.isList.typeIs,?_⟩;refine wpAny_getItem_list_slice ht.isList S k J .none (by simp) ?_ (by rw[size_toArray]<;>lia);rw[uA,<- i];refine⟨.ref s.heap.objs.size,_,I.laid (t':=s.toks) (o:=.l (zEs Y z W)) (λb D q=>qA _ q) (le_refl _) ?_,rfl,q _ (I.hok.fresh (le_refl _))⟩;exact⟨le_trans (WI Y z W) hz,_,0,(r.drop (HT.sIx Y.length 0 z)).take (HT.sIx Y.length Y.length W-HT.sIx Y.length 0 z),get?_push_size _ rfl⟩
def eqV:V->V->Bool
 | .non,.non=>true| .bl a,.bl b=>a==b| .bl a,.int b=>(if a then 1 else 0)==b| .int a,.bl b=>a==(if b then 1 else 0)| .int a,.int b=>a==b| .str a,.str b=>a==b|_,_=>false
def GS:wB X (.builtin "len") (λY H Q=>∃p J,Y=[.ref p]/\(SqL X.K H p J\/SqT X.K H p J)/\Q (.int J.length) H):=by
 intro G s O H Y a Q I r h;obtain⟨p,J,rfl,P,q⟩:=h;obtain⟨u,rfl,c⟩:=v3 r;cases c;have D:=zAN;rcases P with P|P
 ·obtain⟨its,T,k,hz⟩:=I.list P
  have i:=T.length;exact Calls.call_len_list k.isList (by dsimp[size_toArray]<;>lia) ⟨.int J.length,H,I.tok _,⟨s.toks+1,by rw[size_toArray,i]⟩,q⟩
 ·obtain⟨its,T,k,hz⟩:=I.tuple P
  have i:=T.length;exact len_tuple k (by dsimp[size_toArray]<;>lia) ⟨.int J.length,H,I.tok _,⟨s.toks+1,by rw[size_toArray,i]⟩,q⟩
def wB.or{r T:Ls V->Hp->VK->Prop}(h:wB X f r)(h':wB X f T):wB X f (λY H Q=>r Y H Q\/T Y H Q):=by
 intro G s O H Y D Q I w q;rcases q with q|q
 ·exact h G s O H Y D Q I w q
 ·exact h' G s O H Y D Q I w q
def GT:wB X (.type "list") (λY H Q=>∃p J,Y=[.ref p]/\(SqL X.K H p J\/SqT X.K H p J)/\∀l,H l=none->Q (.ref l) (upd H l (.l J))):=by
 intro G s O H Y D Q I r h;obtain⟨p,J,rfl,P,q⟩:=h;obtain⟨u,rfl,c⟩:=v3 r;cases c;have K:∀(its:Ls Lv),zw J its->J.length<=sizeLine->∀(g:Heap) (L:Nat),(∀b v,s.heap.get? b=some v->g.get? b=some v) ->
   g.get? s.heap.objs.size=some {cls:=.type "list",dict:=none,data:=.seq its.toArray L,slots:=#[]}->EP X G O Q (.ref s.heap.objs.size) {s with heap:=g}:=λits T hz g L E e =>
  ⟨.ref s.heap.objs.size,_,I.laid (t':=s.toks) E (le_refl _) (show jL X.prog X.w _ g _ (.l J)from⟨hz,its,L,T,e⟩),rfl,q _ (I.hok.fresh (le_refl _))⟩
 rcases P with P|P
 ·obtain⟨its,T,k,hz⟩:=I.list P
  have i:=T.length;obtain⟨o,ho,Z,n,j⟩:=k.isList;exact call_list_seq p (.inl rfl) ho Z j (λg L E e=>K its T hz g L E e) (by dsimp[size_toArray]<;>lia)
 ·obtain⟨its,T,k,hz⟩:=I.tuple P
  have i:=T.length;obtain⟨o,ho,Z,n,j⟩:=k;exact call_list_seq p (.inr rfl) ho Z j (λg L E e=>K its T hz g L E e) (by dsimp[size_toArray]<;>lia)
def uB:wB X (.type "tuple") (λY H Q=>∃p J,Y=[.ref p]/\((SqL X.K H p J/\∀l,H l=none->Q (.ref l) (upd H l (.t J)))\/(SqT X.K H p J/\Q (.ref p) H))):=by
 intro G s O H Y D Q I r h;obtain⟨p,J,rfl,h⟩:=h;obtain⟨u,rfl,c⟩:=v3 r;cases c;rcases h with⟨P,q⟩|⟨P,q⟩
 ·obtain⟨its,T,k,hz⟩:=I.list P
  have i:=T.length;refine call_tuple_list k.isList (λg E=>?_) (by dsimp[size_toArray]<;>lia);have I1:Inv X G O H {s with heap:=g}:=I.kept (t':=s.toks) E
  have I2:Inv X G O (upd H g.objs.size (.t J)) {s with heap:=g.push {cls:=.type "tuple",data:=.seq its.toArray}} :=
   I1.laid (t':=s.toks) (λb o e=>qA _ e) (le_refl _) (show jL X.prog X.w _ _ _ (.t J)from⟨hz,its,T,IsTup.new _ _⟩)
  exact⟨.ref g.objs.size,_,I2,rfl,q _ (I1.hok.fresh (le_refl _))⟩
 ·obtain⟨its,T,k,hz⟩:=I.tuple P
  exact call_tuple_same k ⟨.ref p,H,I,rfl,q⟩
def tyV(K:qH)(T:String)(x:V)(H:Hp):Prop:=match x with
 | .str _=>T="str"| .int _=>T="int"
 | .ref p=>(T="list"/\∃Y,SqL K H p Y)\/(T="tuple"/\∃o,K.lookup p=some o/\o.cls=.type "tuple"/\o.dict=none) \/
   (T="dict"/\((∃g,H p=some (.dK g))\/∃g,H p=some (.dT g)))\/(T="set"/\∃S n,H p=some (.set S n))
 |_=>False
def tyV_is(I:Inv X pins O H s)(r:yy x v)(V:tyV X.K T x H) :
  s.TypeIs v T/\∀a,v=.ref a->∃D,s.heap.get? a=some D/\D.dict=none:=by
 cases x with
 |str z =>
  obtain⟨t,rfl⟩:=r;cases (show T="str" from V);exact⟨typeIs_str s z t,λ_ e=>nomatch e⟩
 |int i =>
  obtain⟨t,rfl⟩:=r;cases (show T="int" from V);exact⟨typeIs_int s i t,λ_ e=>nomatch e⟩
 |ref p =>
  cases r;rcases V with⟨rfl,Y,P⟩|⟨rfl,o,C,Z,j⟩|⟨rfl,C⟩|⟨rfl,S,n,C⟩
  ·obtain⟨its,_,k,_⟩:=I.list P
   refine⟨k.isList.typeIs,λa e=>?_⟩;cases e;obtain⟨o,n,e,c,j,_⟩:=k;exact⟨o,e,j⟩
  ·refine⟨⟨o,I.kIn p o C,Z⟩,λa e=>?_⟩
   cases e;exact⟨o,I.kIn _ o C,j⟩
  ·have z:∃o,s.heap.get? p=some o/\o.ExactDict:=by
    rcases C with⟨g,C⟩|⟨g,C⟩
    ·obtain⟨_,_,_,_,o,_,_,e,K,_⟩:=I.hok p _ C
     exact⟨o,e,K⟩
    ·obtain⟨_,_,_,_,o,_,_,e,K,_⟩:=I.hok p _ C
     exact⟨o,e,K⟩
   obtain⟨o,e,K⟩:=z;refine⟨⟨o,e,K.1⟩,λa w=>?_⟩;cases w;exact⟨o,e,K.2.1⟩
  ·obtain⟨o,_,_,_,e,K,_⟩:=I.hok p _ C
   refine⟨⟨o,e,K.1⟩,λa w=>?_⟩;cases w;exact⟨o,e,K.2.1⟩
 |_=>exact False.elim V
def tBM(K:qH)(T:String)(r:V->Ls V->Hp->VK->Prop)(a:TE)(t:TA):TE:=λO H Q=>a O H λx H1=>tyV K T x H1/\t O H1 λY H2=>r x Y H2 Q
variable{o e:Lb}{es:Ls Lb}{to:TE}{t:TA}{name:Str}{apos cpos:Pos}{T id:String}{r:V->Ls V->Hp->VK->Prop}
def pe_bm(n:PlainAttrs T)(E:Slot T name id)(i:typeOf (.builtin id)=pure (.type "method_descriptor"))(K:MtR X id r)(u:PE X o to)(P:PA X (e::es) t)
  (k:attributeBase o name X.env (eval o X.env)=eval o X.env:=by rfl)
  (g:((backTo cpos (starEach (e::es) X.env)).all (λx=>!x.1)&&(backToKw cpos (keywordEach [] X.env)).all (λx=>x.1.isSome)
   && decide ((e::es).length+([]:Ls Keyword).length+(if([]:Ls Keyword).isEmpty then 0 else 1)<30))=true:=by rfl)
  (c:(apos.endLine==cpos.line)=true:=by rfl) (S:starEach (e::es) X.env=(false,eval e X.env)::starEach es X.env:=by rfl) (a:(backTo cpos (starEach es X.env)).any (·.1)=false:=by rfl) :
  PE X (.Call (.Attribute o name apos) (e::es) [] cpos) (tBM X.K T r to t):=by
 intro G s O H Q I h;refine wpAny_Call_method_late k g c rfl (thn (u G s O H _ I h) λv l ⟨x,H1,I1,q,V,j⟩=>?_);obtain⟨L,h2⟩:=tyV_is I1 q V;refine⟨T,id,n,E,i,L,h2,?_⟩;have p:=P cpos G l O H1 _ I1 j;rw[S]at p ⊢;refine Calls.callWith_builtin (by show(false||(backTo cpos (starEach es X.env)).any (·.1))=false;rw[a]<;>rfl) (Calls.evalArgs_plain ?_);exact thn p λD Y ⟨W,H2,I2,C,w⟩=>K G Y O H2 x W v D Q I2 q C w
end
def MtM(X:Cx)(id:String)(r:V->Ls V->Hp->VK->Prop):Prop :=
 ∀(G:Ls (Lz×Obj)) (s:La) (O:St) (H:Hp) (x:V) (Y:Ls V) (v:Lv) (D:Ls Lv) (Q:VK),Inv X G O H s->yy x v->zw Y D->r x Y H Q ->
  wpAny (model X.prog X.w) X.A (call (.builtin id) (v::D)) (EP X G O Q) X.xe s
def zw.one:∀{x:V} {D:Ls Lv},zw [x] D->∃u,D=[u]/\yy x u
 |_,_,.cons r .nil=>⟨_,rfl,r⟩
def zw.two:∀{x y:V} {D:Ls Lv},zw [x,y] D->∃u v,D=[u,v]/\yy x u/\yy y v
 |_,_,_,.cons r (.cons q .nil)=>⟨_,_,rfl,r,q⟩
def zw.zero:∀{D:Ls Lv},zw [] D->D=[]
 |_,.nil=>rfl
theorem zw.dropLast{xs:Ls V}{D:Ls Lv}(h:zw xs D):zw xs.dropLast D.dropLast:=by
 induction h with
 |nil=>exact .nil
 |cons r t I =>
  cases t with
  |nil=>exact .nil|cons q o=>exact .cons r I
theorem zw.eraseIdx:∀{Y:Ls V} {D:Ls Lv} (i:Nat),zw Y D->zw (Y.eraseIdx i) (D.eraseIdx i)
 |_,_,_,.nil=>.nil|_,_,0,.cons _ t=>t|_,_,i+1,.cons r t=>.cons r (zw.eraseIdx i t)
theorem zw.reverse{xs:Ls V}{D:Ls Lv}(h:zw xs D):zw xs.reverse D.reverse:=by
 induction h with
 |nil=>exact .nil|cons r t I=>rw[reverse_cons,reverse_cons];exact zw.append I (.cons r .nil)
theorem zw.rep(h:zw xs us):∀k:Nat,zw (replicate k xs).flatten (replicate k us).flatten
 |0=>.nil
 |k+1=>by
  rw[replicate_succ,replicate_succ,flatten_cons,flatten_cons];exact zw.append h (zw.rep h k)
theorem WJ(c:Ls Lv):∀(k:Nat) (u:Ls Lv),
  foldl (λp Q=>p++Q) u.toArray (replicate k c.toArray)=(u++(replicate k c).flatten).toArray
 |0,u=>by simp
 |k+1,u=>by
  have e:u.toArray++c.toArray=(u++c).toArray:=by simp
  have w:(u++c)++(replicate k c).flatten=u++(replicate (k+1) c).flatten:=by
   rw[replicate_succ,flatten_cons,append_assoc]
  rw[<- w,<- WJ c k (u++c),<- e,replicate_succ,List.foldl_cons]
section
variable{X:Cx}{pins:Ls (Lz×Obj)}{O:St}{H:Hp}{s:La}{l b:Lz}{xs ys zs:Ls V}
def Inv.lset{c its':Ls Lv}{n:Nat}{f:Lh->Lh}{t':Nat}(I:Inv X pins O H s)(E:H l=some (.l xs))
  (e:s.heap.get? l=some {cls:=.type "list",data:=.seq c.toArray n}) (t:f c.toArray=its'.toArray) (Y:zw ys its') (P:ys.length<=sizeLine) :
  Inv X pins O (upd H l (.l ys)) {s with heap:=s.heap.update l (Obj.mapSeq f),toks:=t'}:=by
 have q:=PySem.IsL.update e f;rw[t]at q;refine I.write (x:=l) (e:=l) (by rw[E];exact trivial) (.inl rfl) (λv u J hu=>(get?_update_other s.heap (Obj.mapSeq f) (Ne.symm J)).trans hu) ⟨_,q⟩ ?_;exact⟨P,its',_,Y,q⟩
def Inv.lnew(I:Inv X pins O H s)(Y:zw ys its)(P:ys.length<=sizeLine) :
  Inv X pins O (upd H s.heap.objs.size (.l ys)) {s with heap:=s.heap.push {cls:=.type "list",data:=.seq its.toArray},toks:=t'} :=
 I.laid (λ_ _ q=>qA _ q) (le_refl _) ⟨P,its,0,Y,get?_push_size _ rfl⟩
theorem Inv.fresh(I:Inv X pins O H s):H s.heap.objs.size=none:=I.hok.fresh (le_refl _)
def Inv.lstM(I:Inv X pins O H s)(E:H l=some (.l xs)):xs.length<=sizeLine/\∃(its:Ls Lv) (n:Nat),zw xs its/\xs.length=its.length/\s.heap.get? l=some {cls:=.type "list",data:=.seq its.toArray n}:=by
 obtain⟨z,its,n,r,e⟩:=I.hok l _ E;exact⟨z,its,n,r,r.length,e⟩
def zEu{n:Nat}(h:n<=sizeLine):Builtin.List.listTooLong n=false:=by
 unfold Builtin.List.listTooLong;exact decide_eq_false (by lia)
end
section
variable{X:Cx}
def zCE:V->Ls V->Hp->VK->Prop:=λx W H Q=>∃l Y y,x=.ref l/\W=[y]/\H l=some (.l Y)/\Y.length<sizeLine/\Q .non (upd H l (.l (Y++[y])))
def GU:MtM X "list.append" zCE:=by
 intro G s O H x W v D Q I c M h;obtain⟨l,Y,y,rfl,rfl,E,hz,q⟩:=h;cases c;obtain⟨u,rfl,j⟩:=M.one;obtain⟨z,its,n,r,hl,e⟩:=I.lstM E;refine call_meets F.slot_list_append ⟨_,e,rfl⟩ F.entry_list_append (F.args_list_append_2 _ _) (PySem.list_append l its.toArray n u (by rw[size_toArray];lia)) ⟨e,?_⟩;refine⟨.non,_,I.lset (its':=its++[u]) E e (by simp) (r.append (.cons j .nil)) ?_,rfl,q⟩;rw[length_append,List.length_singleton];lia
def QT{α:Type}(xs:Ls α)(k:Nat):(replicate k xs).flatten.length=k*xs.length:=by
 induction k with
 |zero=>simp|succ k I=>rw[replicate_succ,flatten_cons,length_append,I,succ_mul,Nat.add_comm]
end
end L2
namespace Att
open PySem PySem.W PySem.Calls PyProof.Rows
def WK:∀(ns:Ls Int) (W:Ls Lv),WellAll P h W (ns.map WData.int)->IntsAre W ns:=by
 intro ns
 induction ns with
 |nil =>
  intro W w;rw[map_nil]at w;cases w;exact .nil
 |cons n ns I =>
  intro W w;rw[map_cons]at w;cases w with
  |cons a b =>
   cases a;exact .cons _ _ (I _ b)
def zCF{l:OpenLaw}{n:Nat}(D:l.most=some n){P:Params}{h:Heap}{args:Ls WData}{v:Ls Lv}
  (k:l.row.toRowW.claim.pre args=true) (t:WellAll P h v args) :
  ∃a W E,v=[Value.ref a]/\args=[WData.list (E.map WData.int)]/\h.get? a=some {cls:=.type "list",data:=.seq W.toArray}/\IntsAre W E/\E.length<=n:=by
 have c:WShape.hasAll [] args [.list .int]=true:=(pre_splitW k).1;have Z:l.pre.holds [] {args:=args}=true:=(pre_splitW k).2;obtain⟨d,r,rfl,L,h2⟩:=hasAllW_cons c;obtain rfl:=hasAllW_nil h2;obtain⟨Y,rfl,M⟩:=hasW_list L;obtain⟨E,rfl⟩:=items_int M;have i:E.length<=n:=by
  unfold OpenLaw.pre at Z;have h4:(WTm.not (.lt (.lit (.int (n:Int))) (.len (.arg 0)))).holds [] {args:=[.list (E.map .int)]}=true:=by
   have h4:=(holds_andW Z).1;rw[D]at h4;exact h4
  have h5:=condW_of h4 (w_not (w_lt w_lit (w_len_list (w_arg rfl))));rw[length_map]at h5;refine Nat.le_of_not_lt λq=>?_
  have g:(n:Int)<((E.length:Nat):Int):=by lia
  first
   | (rw[decide_eq_true g]at h5;exact absurd h5 (by decide))
   | (simp at h5;lia)
 cases t with
 |cons Q j =>
  cases j;cases Q with
  |list ho e=>exact⟨_,_,E,rfl,rfl,ho,WK E _ e,i⟩
def zCG(l:OpenLaw)(args:Ls WData):l.row.toRowW.claim.post args (.bool true) args=true :=
 postW_of (r:=l.row.toRowW) (X:=(true==true))
  (show WShape.has [] (.bool true) .bool=true by first|rfl|decide|simp[WShape.has,WShape.arms,WShape.armsAll])
  (show(WTm.eq .res (.lit (.bool true))).value [] {args:=args,res:=some (.bool true),after:=args}=some (.bool (true==true))from w_eq_bool (w_res rfl) w_lit) rfl
def attach_call{l:OpenLaw}{n:Nat}{q:Lc}{loose:Ls Str}{XP:(Str->Lx Lv)->Heap->Prop}{YP:Le->Heap->Prop}{d:DefRec}
  (D:l.most=some n) (X:d.params.defaults=[])
  (h:∀(w:Le) (S c:La) (g mb:Str->Lx Lv) (O:Lz) (o:Obj) (C R I:Lv) (a:Lz) (W:Ls Lv) (E:Ls Int),
   Ground q loose [] XP w S g mb c.heap->YP w c.heap ->
   c.heap.get? O=some o->o.data=.func (docDef d.name d.params d.body d.scope C R I)->c.heap.CodeRec R d.name->g d.name=some (.ref O) ->
   c.heap.get? a=some {cls:=.type "list",data:=.seq W.toArray}->IntsAre W E->E.length<=n->c.gens=#[] ->
   codeAny (model l.prog w) callerA (.call (.ref O) ⟨[.ref a],[]⟩) (λr j=>r=.ok (.ret (.bool true))/\OldK c.heap j.heap/\j.os=c.os/\AllBare j.gens) c) :
  WalkO q loose XP YP l.row.toRowW d [] (λf W=>PySem.call f W):=by
 intro w S c g mb G Y O o C R I L kV ho J z H p Q e v as k x y t u;obtain rfl:L=.none:=Dflts.none H X;obtain rfl:kV=.none:=Dflts.noKw H;obtain⟨a,W,E,rfl,rfl,V,T,i⟩:=zCF D k t;refine enter_call (codeAny_mono (h w S c g mb O o C R I a W E G Y ho (fd_plain J) z p V T i Q) λr j P=>?_);obtain⟨rfl,h2,M,h4⟩:=P;exact⟨.inl ⟨.bool true,.bool true,[],rfl,λ_=>rfl,.bool true,zCG l _,λ_=>⟨List.Pairwise.nil,λ_ K=>(nomatch K)⟩⟩,h2,M,h4⟩
end Att
namespace L2
open PySem PySem.Spec PyProof.Rows
theorem Yq:∀{W:Ls Lv} {E:Ls Int},IntsAre W E->zw (E.map V.int) W
 |_,_,.nil=>.nil|_,_,.cons n t h=>.cons ⟨t,rfl⟩ (Yq h)
def Only(H:Hp):Prop:=∀b,H b=none\/∃o Y,H b=some (.frz o (.l Y))
def zEv{P:Lc}{w:Le}{K:qH}{g I:Str->Lx Lv}{CX:CXT}{k:Nat}{O a:Lz}{fd:FuncData}{x:Str}{sp:Sp}{c:La}{vs:Ls Lv}{ns:Ls Int}
  (KX:K.In c.heap) (G:c.heap.Ns mainGlobals g) (J:c.heap.Ns builtinsNs I) (ah:∀x:Str,x≠"__name__"->I x=bootBuiltins x) (ad:c.heap.NoLimit) (hg:c.gens=#[])
  (ha:c.heap.get? a=some {cls:=.type "list",data:=.seq vs.toArray}) (W:IntsAre vs ns) (hl:ns.length<=sizeLine) (hr:Room k callerA)
  (F:∀Q:Heap,K.In Q->Q.Ns mainGlobals g->FnOk P w K g Q CX k O fd [x] sp) (ac:∀(s:La) (u:Lv),BindsTo s fd ⟨[u],[]⟩ [(x,u)])
  (ai:∀H:Hp,Only H->SqL K H a (ns.map V.int)->sp [.ref a] H (λv _=>v=.bl true) λ_ _ _=>False)
  (ag:∀H e j,CX [] H c (λ_ _ _=>False) e j->False) :
  codeAny (model P w) callerA (.call (.ref O) ⟨[.ref a],[]⟩) (λr j=>r=.ok (.ret (.bool true))/\OldK c.heap j.heap/\j.os=c.os/\AllBare j.gens) c:=by
 have M:=Yq W;have ae:=W.length
 -- from an abstract heap in which nothing but the script may be tracked
 have ab:∀H:Hp,Only H->SqL K H a (ns.map V.int)->HOk P w H c.heap->(∀b,H b≠none->b=a)->(H a≠none->K.lookup a=none) ->
   codeAny (model P w) callerA (.call (.ref O) ⟨[.ref a],[]⟩) (λr j=>r=.ok (.ret (.bool true))/\OldK c.heap j.heap/\j.os=c.os/\AllBare j.gens) c:=by
  intro H t hS S p hK;have aa:∀{b:Lz} {o:Obj},c.heap.get? b=some o->H b=none->(zEe c.heap H).get? b=some o:=λe n=>zEf e n
  have X:∀{b:Lz} {o:Obj} {E:Array DictEntry} {ep:Nat},c.heap.get? b=some o->o.data=.dict E ep->H b=none:=λ{b o E ep} e d=>by
   cases q:H b with
   |none=>rfl
   |some u =>
    have y:b=a:=p b (by rw[q];simp);subst y;rw[ha]at e;cases e;have d':Data.seq vs.toArray _=Data.dict E ep:=d;cases d'
  have D:∀{b:Lz} {m:Str->Lx Lv},c.heap.Ns b m->(zEe c.heap H).Ns b m:=λ{b m} ⟨o,E,ep,e,d,r⟩=>⟨o,E,ep,aa e (X e d),d,r⟩
  have T:K.In (zEe c.heap H):=λb o e=>aa (KX b o e) (by
   cases q:H b with
   |none=>rfl
   |some u =>
    have y:b=a:=p b (by rw[q];simp);subst y;rw[hK (by rw[q];simp)]at e;cases e)
  have hM:Mod K g (zEe c.heap H):=⟨T,D G,⟨I,D J,ah⟩,let ⟨mc,h1,h2⟩:=ad;⟨mc,D h1,h2⟩⟩;have e0:Env0 P w K g (zEe c.heap H) callerA [] c H:=⟨rfl,hM,λb o e=>of_hidT e,Nat.le_of_eq (zBs _ _),trivial,λb J=>absurd (show b∈([]:Ls Lz)from J) (by simp),S,.of_eq hg⟩;refine codeAny_mono ((F _ T (D G)).run callerA [] c H ⟨[.ref a],[]⟩ [.ref a] [.ref a] _ _ hr e0 (ac c (.ref a)) (.cons rfl .nil) (ai H t hS)) λr j h=>?_
  cases r with
  |error e=>exact(ag H e j h).elim
  |ok i =>
   cases i with
   |next=>exact False.elim h|brk=>exact False.elim h|cont=>exact False.elim h
   |ret u =>
    obtain⟨v,H',Z,l,un,af,r',q⟩:=h;have L:v=.bl true:=q;subst L;obtain rfl:u=Value.bool true:=r';refine⟨rfl,OldK.of_keep λb o e=>?_,Z,l⟩;cases q:H b with
    |none=>exact un.keep b o e q (by intro z;exact absurd (show b∈([]:Ls Lz)from z) (by simp)) (by simp)
    |some u =>
     rcases t b with z|⟨ob,xs,z⟩
     ·rw[q]at z;cases z
     ·have z2:=un.frzs b ob _ z
      obtain⟨R,_⟩:=S b _ z;obtain⟨e2,_⟩:=af b _ z2;rw[e]at R;cases R;exact e2
 cases C:K.lookup a with
 |some o =>
  -- the script is one of the module's own objects
  have e:=KX a o C;rw[ha]at e;cases e;refine ab (λ_=>none) (λ_=>.inl rfl) (.inr ⟨_,vs.toArray,_,C,rfl,rfl,rfl,by rw[size_toArray,ae];exact hl,by exists M⟩) (λb u z=>by have Y:(none:Lx HO)=some u:=z;cases Y) (λb z=>absurd rfl z) λz=>absurd rfl z
 |none =>
  refine ab (λb=>if b=a then some (.frz {cls:=.type "list",data:=.seq vs.toArray} (.l (ns.map V.int)))else none) (λb=>?_) (.inl (.inr ⟨{cls:=.type "list",data:=.seq vs.toArray},if_pos rfl⟩)) (λb u z=>?_) (λb z=>?_) λ_=>C
  ·by_cases J:b=a
   ·exact .inr ⟨_,_,if_pos J⟩
   ·exact .inl (if_neg J)
  ·by_cases J:b=a
   ·have Y:=(if_pos J).symm.trans z
    cases Y;subst J;exact⟨ha,by rw[length_map];exact hl,vs,_,M,ha⟩
   ·have Y:=(if_neg J).symm.trans z
    cases Y
  ·by_cases J:b=a
   ·exact J
   ·exact absurd (if_neg J) z
abbrev CX0:CXT:=λ_ _ _ _ _ _=>False
abbrev E0:XK:=λ_ _ _=>False
structure Fun(K:qH)(x qual:Str)(st:Lf)(f:Lz)(fd:FuncData):Prop where
 ex:∃(oc:Lv) (od:Option Lz) (kV doc pm:Lv) (an:Option Lz) (cdv ct:Lv) (osl:Array (Ln)),
  fd=fnOf x qual (YM st) (jK st) (zc st) .none kV doc pm an cdv ct/\K.lookup f=some ⟨oc,od,.func fd,osl⟩/\codeIn K cdv qual=true
 kp:keepIn K (.ref f)=true
section
variable{P:Lc}{w:Le}{K:qH}{mg:Str->Lx Lv}{base:Heap}
def Fun.ok{x a:Str}{st:Lf}{f:Lz}{y:FuncData}{N T:Ls Str}{k:Nat}{sp:Sp}(F:Fun K x a st f y)(S:FnScope N T (zc st))(l:∀W H Q E,sp W H Q E->W.length=T.length)
  (c:∀(z:Lv) (A:Lg) (outer:Ls Env) (s:La) (H:Hp) (W:Ls V) (Q:VK) (E:XK),Room k (A.deeper (envOfC a (zc st) s.heap.objs.size f z))->sp W H Q E ->
   ∃t,PSs (zGY CX0 P w K mg base N a (zc st) f z A outer s H E).nox (jK st) t/\t {nx:=λ_ H'=>Q .non H',rt:=Q} (j0 N W) H):FnOk P w K mg base CX0 (k+1) f y T sp:=by
 obtain⟨Y,L,kV,I,C,G,z,i,g,rfl,X,R⟩:=F.ex;refine fn_of X R S l λA outer s H W Q E p j=>?_
 obtain⟨t,h,q⟩:=c z A outer s H W Q E p j;exact⟨t,h.nox,q⟩
def Fun.binds{x a:Str}{st:Lf}{f:Lz}{y:FuncData}{T:Ls Str}(F:Fun K x a st f y)
  (h:∀(kV I C:Lv) (G:Lx Lz) (z i:Lv) (D:Ls Lv),D.length=T.length->bindArgs (fnOf x a (YM st) (jK st) (zc st) .none kV I C G z i) ⟨D,[]⟩=pure (T.zip D)):JL K y T []:=by
 obtain⟨Y,L,kV,I,C,G,z,i,g,rfl,X,R⟩:=F.ex;exact .all (h kV I C G z i)
def zGa{x a:Str}{st:Lf}{f:Lz}{oc:Lv}{L G:Lx Lz}{g:Lj}{h I C z ct:Lv}(l:K.lookup f=some ⟨oc,L,.func (fnOf x a (YM st) (jK st) (zc st) .none h I C G z ct),g⟩)
  (c:codeIn K z a=true) (k:keepIn K (.ref f)=true):Fun K x a st f (fnOf x a (YM st) (jK st) (zc st) .none h I C G z ct):=⟨⟨oc,L,h,I,C,G,z,ct,g,rfl,l,c⟩,k⟩
end
def zGb{A B:Prop}(h:B):if false=true then A else B:=by
 rw[if_neg qF];exact h
def zGc{A B:Prop}(h:A):if true=true then A else B:=by
 rw[if_pos rfl];exact h
def Yr(H k:Hp):Prop:=∀b o,H b=some o->k b=some o
def Yr.refl(H:Hp):Yr H H:=λ_ _ h=>h
def Yr.trans(a:Yr H H1)(b:Yr H1 H2):Yr H H2:=λc o h=>b c o (a c o h)
def Yr.free{H k:Hp}(e:Yr H k){l:Lz}(h:k l=Option.none):H l=Option.none:=by
 cases q:H l with
 |none=>rfl
 |some o =>
  rw[e l o q]at h;cases h
def Yr.seq{K:qH}{H k:Hp}{a:Lz}{xs:Ls V}(e:Yr H k)(h:SqL K H a xs):SqL K k a xs:=by
 rcases h with(h|⟨o,h⟩)|h
 ·exact .inl (.inl (e _ _ h))
 ·exact .inl (.inr ⟨o,e _ _ h⟩)
 ·exact .inr h
end L2
namespace DV
open PySem
@[elab_as_elim] def qAnd{M:BoolOp->Type}[∀e,Inhabited (M e)](e:BoolOp)(f:M .And):M e:=match e with
 | .And=>f|_=>default
@[elab_as_elim] def qAssign{M:Lf->Type}[∀e,Inhabited (M e)](e:Lf)(f:∀a b c,M (.Assign a b c)):M e:=match e with
 | .Assign a b c=>f a b c|_=>default
@[elab_as_elim] def qAttribute{M:Lb->Type}[∀e,Inhabited (M e)](e:Lb)(f:∀a b c,M (.Attribute a b c)):M e:=match e with
 | .Attribute a b c=>f a b c|_=>default
@[elab_as_elim] def qAugAssign{M:Lf->Type}[∀e,Inhabited (M e)](e:Lf)(f:∀a b c d,M (.AugAssign a b c d)):M e:=match e with
 | .AugAssign a b c d=>f a b c d|_=>default
@[elab_as_elim] def qBinOp{M:Lb->Type}[∀e,Inhabited (M e)](e:Lb)(f:∀a b c d,M (.BinOp a b c d)):M e:=match e with
 | .BinOp a b c d=>f a b c d|_=>default
@[elab_as_elim] def qBoolOp{M:Lb->Type}[∀e,Inhabited (M e)](e:Lb)(f:∀a b c,M (.BoolOp a b c)):M e:=match e with
 | .BoolOp a b c=>f a b c|_=>default
@[elab_as_elim] def qCall{M:Lb->Type}[∀e,Inhabited (M e)](e:Lb)(f:∀a b c d,M (.Call a b c d)):M e:=match e with
 | .Call a b c d=>f a b c d|_=>default
@[elab_as_elim] def qCompare{M:Lb->Type}[∀e,Inhabited (M e)](e:Lb)(f:∀a b c d,M (.Compare a b c d)):M e:=match e with
 | .Compare a b c d=>f a b c d|_=>default
@[elab_as_elim] def qConstant{M:Lb->Type}[∀e,Inhabited (M e)](e:Lb)(f:∀a b c,M (.Constant a b c)):M e:=match e with
 | .Constant a b c=>f a b c|_=>default
@[elab_as_elim] def qDict{M:Lb->Type}[∀e,Inhabited (M e)](e:Lb)(f:∀a b c,M (.Dict a b c)):M e:=match e with
 | .Dict a b c=>f a b c|_=>default
@[elab_as_elim] def qDictComp{M:Lb->Type}[∀e,Inhabited (M e)](e:Lb)(f:∀a b c d e,M (.DictComp a b c d e)):M e:=match e with
 | .DictComp a b c d e=>f a b c d e|_=>default
@[elab_as_elim] def qExceptHandler{M:ExceptHandler->Type}[∀e,Inhabited (M e)](e:ExceptHandler)(f:∀a b c d,M (.ExceptHandler a b c d)):M e:=match e with
 | .ExceptHandler a b c d=>f a b c d
@[elab_as_elim] def qExpr{M:Lf->Type}[∀e,Inhabited (M e)](e:Lf)(f:∀a b,M (.Expr a b)):M e:=match e with
 | .Expr a b=>f a b|_=>default
@[elab_as_elim] def qFor{M:Lf->Type}[∀e,Inhabited (M e)](e:Lf)(f:∀a b c d e,M (.For a b c d e)):M e:=match e with
 | .For a b c d e=>f a b c d e|_=>default
@[elab_as_elim] def qIf{M:Lf->Type}[∀e,Inhabited (M e)](e:Lf)(f:∀a b c d,M (.If a b c d)):M e:=match e with
 | .If a b c d=>f a b c d|_=>default
@[elab_as_elim] def qIfExp{M:Lb->Type}[∀e,Inhabited (M e)](e:Lb)(f:∀a b c d,M (.IfExp a b c d)):M e:=match e with
 | .IfExp a b c d=>f a b c d|_=>default
@[elab_as_elim] def qList{M:Lb->Type}[∀e,Inhabited (M e)](e:Lb)(f:∀a b,M (.List a b)):M e:=match e with
 | .List a b=>f a b|_=>default
@[elab_as_elim] def qListComp{M:Lb->Type}[∀e,Inhabited (M e)](e:Lb)(f:∀a b c d,M (.ListComp a b c d)):M e:=match e with
 | .ListComp a b c d=>f a b c d|_=>default
@[elab_as_elim] def qName{M:Lb->Type}[∀e,Inhabited (M e)](e:Lb)(f:∀a b,M (.Name a b)):M e:=match e with
 | .Name a b=>f a b|_=>default
@[elab_as_elim] def qNot{M:UnaryOp->Type}[∀e,Inhabited (M e)](e:UnaryOp)(f:M .Not):M e:=match e with
 | .Not=>f|_=>default
@[elab_as_elim] def qOr{M:BoolOp->Type}[∀e,Inhabited (M e)](e:BoolOp)(f:M .Or):M e:=match e with
 | .Or=>f|_=>default
@[elab_as_elim] def qRaise{M:Lf->Type}[∀e,Inhabited (M e)](e:Lf)(f:∀a b c,M (.Raise a b c)):M e:=match e with
 | .Raise a b c=>f a b c|_=>default
@[elab_as_elim] def qReturn{M:Lf->Type}[∀e,Inhabited (M e)](e:Lf)(f:∀a b,M (.Return a b)):M e:=match e with
 | .Return a b=>f a b|_=>default
@[elab_as_elim] def qSlice{M:Lb->Type}[∀e,Inhabited (M e)](e:Lb)(f:∀a b c d,M (.Slice a b c d)):M e:=match e with
 | .Slice a b c d=>f a b c d|_=>default
@[elab_as_elim] def qStarred{M:Lb->Type}[∀e,Inhabited (M e)](e:Lb)(f:∀a b,M (.Starred a b)):M e:=match e with
 | .Starred a b=>f a b|_=>default
@[elab_as_elim] def qSubscript{M:Lb->Type}[∀e,Inhabited (M e)](e:Lb)(f:∀a b c,M (.Subscript a b c)):M e:=match e with
 | .Subscript a b c=>f a b c|_=>default
@[elab_as_elim] def qTry{M:Lf->Type}[∀e,Inhabited (M e)](e:Lf)(f:∀a b c d e,M (.Try a b c d e)):M e:=match e with
 | .Try a b c d e=>f a b c d e|_=>default
@[elab_as_elim] def qTuple{M:Lb->Type}[∀e,Inhabited (M e)](e:Lb)(f:∀a b c,M (.Tuple a b c)):M e:=match e with
 | .Tuple a b c=>f a b c|_=>default
@[elab_as_elim] def qUSub{M:UnaryOp->Type}[∀e,Inhabited (M e)](e:UnaryOp)(f:M .USub):M e:=match e with
 | .USub=>f|_=>default
@[elab_as_elim] def qUnaryOp{M:Lb->Type}[∀e,Inhabited (M e)](e:Lb)(f:∀a b c,M (.UnaryOp a b c)):M e:=match e with
 | .UnaryOp a b c=>f a b c|_=>default
@[elab_as_elim] def qWhile{M:Lf->Type}[∀e,Inhabited (M e)](e:Lf)(f:∀a b c d,M (.While a b c d)):M e:=match e with
 | .While a b c d=>f a b c d|_=>default
@[elab_as_elim] def qint{M:Const->Type}[∀e,Inhabited (M e)](e:Const)(f:∀a,M (.int a)):M e:=match e with
 | .int a=>f a|_=>default
@[elab_as_elim] def qstr{M:Const->Type}[∀e,Inhabited (M e)](e:Const)(f:∀a,M (.str a)):M e:=match e with
 | .str a=>f a|_=>default
@[elab_as_elim] def qNone{α:Type}{M:Lx α->Type}[∀e,Inhabited (M e)](e:Lx α)(f:M none):M e:=match e with
 |none=>f|some _=>default
@[elab_as_elim] def qCm{M:Comprehension->Type}[∀e,Inhabited (M e)](e:Comprehension)(f:∀a b c,M ⟨a,b,c,0⟩):M e:=match e with
 |⟨a,b,c,0⟩=>f a b c|_=>default
@[elab_as_elim] def qKw{M:Keyword->Type}[∀e,Inhabited (M e)]:(e:Keyword)->(f:∀a b c,M ⟨a,b,c⟩)->M e
 |⟨a,b,c⟩,f=>f a b c
@[elab_as_elim] def qJoinedStr{M:Lb->Type}[∀e,Inhabited (M e)](e:Lb)(f:∀a b,M (.JoinedStr a b)):M e:=match e with
 | .JoinedStr a b=>f a b|_=>default
end DV
namespace DV
open PySem L2
abbrev KN:=Lx Int
def oV:KN->V
 |none=>.non|some i=>.int i
def hN:KN->Int
 |none=>0xFCA86420|some i=>hashInt i
def hT(z:Ls KN):Int:=reduceHash (Builtin.Tuple.tupleHashOf (z.map hN))
abbrev DE:=Ls KN×Lz×V
abbrev DX:=Ls KN×Lz×Lv
def entN(x:DX):DictEntry:=⟨hT x.1,.ref x.2.1,x.2.2⟩
abbrev ZE:Ls DE->Ls DX->Prop:=Paired λe x=>x.1=e.1/\x.2.1=e.2.1/\yy e.2.2 x.2.2
def dicP(a:Lz)(es:Ls DE)(h:Heap):Prop:=(a==sysModules)=false/\es.length<=sizeLine/\(es.map (·.1)).Nodup/\∃(o:Obj) (e:Array DictEntry) (l:Nat) (Y:Ls DX),h.get? a=some o/\o.ExactDict/\o.data=.dict e l/\ZE es Y/\e.toList=Y.map entN
def DicO(a:Lz)(es:Ls DE)(D:Obj):HO:=.dN λh=>dicP a es h/\h.get? a=some D
def zEw(H:Hp)(a:Lz)(es:Ls DE):Prop:=∃D,H a=some (DicO a es D)
def zEw.mono{H k:Hp}{a:Lz}{es:Ls DE}(h:zEw H a es)(e:Yr H k):zEw k a es:=let ⟨ob,q⟩:=h;⟨ob,e _ _ q⟩
def OwnK(o:HO):Prop:=(∃Y,o=.l Y)\/∃φ,o=.dN φ
section
variable{P:Lc}{w:Le}{h:Heap}{a:Lz}{es:Ls DE}{xs:Ls DX}
theorem ZE.keys:∀{E:Ls DE} {Y:Ls DX},ZE E Y->Y.map (·.1)=E.map (·.1)
 |_,_,.nil=>rfl|_,_,.cons r t=>by dsimp[map_cons];rw[r.1,ZE.keys t]
theorem ZE.mem:∀{E:Ls DE} {Y:Ls DX} {x:DX},ZE E Y->x∈Y->∃e∈E,x.1=e.1/\x.2.1=e.2.1/\yy e.2.2 x.2.2
 |_,_,_,.nil,h=>by cases h
 |_,_,_,.cons r t,h=>by
  rcases mem_cons.mp h with rfl|h
  ·exact⟨_,qE,r⟩
  ·obtain⟨e,M,q⟩:=ZE.mem t h
   exact⟨e,qD _ M,q⟩
def atE(es:Ls DE)(k:Ls KN):Lx V:=(es.find? λe=>decide (e.1=k)).map (·.2.2)
theorem ZE.at:∀{E:Ls DE} {Y:Ls DX} {k:Ls KN} {v:V},ZE E Y->atE E k=some v->∃p,atKey Y k=some p/\yy v p.2
 |_,_,_,_,.nil,h=>by cases h
 |e::E,x::Y,k,v,.cons r t,h=>by
  unfold atE atKey at *;rw[List.find?_cons]at h ⊢;by_cases q:e.1=k
  ·rw[decide_eq_true q]at h
   rw[decide_eq_true (r.1.trans q)];dsimp[Option.map_some,Option.some.injEq]at h;subst h;exact⟨x.2,rfl,r.2.2⟩
  ·rw[decide_eq_false q]at h
   rw[decide_eq_false (λz=>q (r.1.symm.trans z))];exact ZE.at t h
theorem ZE.none:∀{E:Ls DE} {Y:Ls DX} {k:Ls KN},ZE E Y->atE E k=none->atKey Y k=none
 |_,_,_,.nil,_=>rfl
 |e::E,x::Y,k,.cons r t,h=>by
  unfold atE atKey at *;rw[List.find?_cons]at h ⊢;by_cases q:e.1=k
  ·rw[decide_eq_true q]at h;cases h
  ·rw[decide_eq_false q]at h
   rw[decide_eq_false (λz=>q (r.1.symm.trans z))];exact ZE.none t h
def putE(es:Ls DE)(k:Ls KN)(a:Lz)(v:V):Ls DE:=if(atE es k).isSome then es.map (λe=>if e.1=k then(e.1,e.2.1,v)else e)else es++[(k,a,v)]
theorem ZE.mapP:∀{E:Ls DE} {Y:Ls DX} {k:Ls KN} {v:V} {u:Lv},ZE E Y->yy v u->ZE (E.map λe=>if e.1=k then(e.1,e.2.1,v)else e) (Y.map (putAt k u))
 |_,_,_,_,_,.nil,_=>.nil
 |e::E,x::Y,k,v,u,.cons r t,M=>by
  dsimp[map_cons];refine .cons ?_ (ZE.mapP t M);unfold putAt;by_cases q:e.1=k
  ·rw[if_pos q,if_pos (r.1.trans q)];exact⟨r.1,r.2.1,M⟩
  ·rw[if_neg q,if_neg (λz=>q (r.1.symm.trans z))];exact r
theorem ZE.app:∀{E fs:Ls DE} {Y J:Ls DX},ZE E Y->ZE fs J->ZE (E++fs) (Y++J)
 |_,_,_,_,.nil,g=>g|_,_,_,_,.cons r t,g=>.cons r (ZE.app t g)
def ZE.put{k:Ls KN}{a:Lz}{v:V}{u:Lv}(h:ZE es xs)(M:yy v u):ZE (putE es k a v) (storedH xs k a u):=by
 unfold putE storedH;cases q:atE es k with
 |none=>rw[ZE.none h q];exact h.app (.cons ⟨rfl,rfl,M⟩ .nil)
 |some y =>
  obtain⟨p,e,_⟩:=ZE.at h q;rw[e];exact h.mapP M
end
def wf(h h':Heap):Prop:=∀b o,h.get? b=some o->∃v,h'.get? b=some v/\v.dict=o.dict
def wf.refl(h:Heap):wf h h:=λ_ o e=>⟨o,e,rfl⟩
theorem wf.trans(a:wf h1 h2)(b:wf h2 h3):wf h1 h3:=λc o e=>by
 obtain⟨S,R,t⟩:=a c o e;obtain⟨H,w,u⟩:=b c S R;exact⟨H,w,u.trans t⟩
def wf.of_keeps(k:∀b o,h.get? b=some o->h'.get? b=some o):wf h h':=λb o e=>⟨o,k b o e,rfl⟩
def wf.upd{f:Obj->Obj}(t:∀o,(f o).dict=o.dict/\(o.isFreed=false->(f o).isFreed=false)):wf h (h.update a f):=λb o e=>by
 by_cases J:a=b
 ·subst J
  exact⟨f o,get?_update_self _ e ((t o).2 (Heap.get?_some_iff.mp e).2),(t o).1⟩
 ·exact⟨o,(get?_update_other _ _ J).trans e,rfl⟩
def jr{α:Type}:Sem α->Prop
 | .pure _=>True| .raise _=>True| .unsupported _=>True| .finish _=>True| .rule _ k=>jr (k ())| .at _ k=>jr (k ())| .load _ _ k=>∀o,jr (k o)| .update _ _ f k=>(∀o,(f o).dict=o.dict/\(o.isFreed=false->(f o).isFreed=false))/\jr (k ())| .alloc _ k=>∀a,jr (k a)| .stack k=>∀l,jr (k l)|_=>False
theorem jr.bind{α β:Type}{f:α->Sem β}(c:∀a,jr (f a)){t:Sem α}(V:jr t):jr (t >>= f):=by
 show jr (t.bind f)
 induction t with
 |pure a=>exact c a|raise _=>trivial|unsupported _=>trivial|finish _=>trivial|rule _ k I=>exact I () V| «at» _ k I=>exact I () V|load _ _ k I=>exact λo=>I o (V o)|update _ _ _ k I=>exact⟨V.1,I () V.2⟩|alloc _ k I=>exact λa=>I a (V a)|stack k I=>exact λl=>I l (V l)|_=>exact False.elim V
def tame_wp{α:Type}(M:Model)(Γ:Ctx)(J:Heap)(Q:α->Pos->La->Prop)(E:Lv->Pos->La->Prop)(t:Sem α):∀(p:Pos) (s:La),jr t->wf J s.heap->Sem.wp M Γ t Q E p s ->
  Sem.wp M Γ t (λa V j=>Q a V j/\wf J j.heap) (λe V j=>E e V j/\wf J j.heap) p s:=by
 induction t with
 |pure a=>intro p s _ k h;rw[Sem.wp]at h ⊢;exact⟨h,k⟩|raise a=>intro p s _ k h;rw[Sem.wp]at h ⊢;exact⟨h,k⟩|unsupported _=>intro p s _ k h;rw[Sem.wp]at h;exact h.elim|finish _=>intro p s _ k h;rw[Sem.wp]at h;exact h.elim|rule _ f I=>intro p s t k h;rw[Sem.wp]at h ⊢;exact I () p s t k h| «at» _ f I=>intro p s t k h;rw[Sem.wp]at h ⊢;exact I () _ s t k h
 |load a _ f I =>
  intro p s t k h;rw[Sem.wp]at h ⊢;obtain⟨o,e,h⟩:=h;exact⟨o,e,I o p s (t o) k h⟩
 |update a _ g f I =>
  intro p s t k h;rw[Sem.wp]at h ⊢;exact⟨h.1,I () p _ t.2 (k.trans (wf.upd t.1)) h.2⟩
 |alloc o f I =>
  intro p s t k h;rw[Sem.wp]at h ⊢;exact I _ p _ (t _) (k.trans (wf.of_keeps λb o e=>qA _ e)) h
 |stack f I=>intro p s t k h;rw[Sem.wp]at h ⊢;exact I _ p s (t _) k h|_=>intro p s t;exact False.elim t
def wZ{α:Type}{t:Sem α}{Q:α->La->Prop}{E:Ly}(V:jr t)(h:wpAny M A t Q E s) :
  wpAny M A t (λa j=>Q a j/\wf s.heap j.heap) (λe j=>E e j/\wf s.heap j.heap) s:=λΓ p hΓ =>
 tame_wp M Γ s.heap _ _ t p s V (wf.refl _) (h Γ p hΓ)
def ju{α:Type}{c:Prop}[Decidable c]{a b:Sem α}(ha:jr a)(hb:jr b):jr (if c then a else b):=by split<;>assumption
def mapF_ok(f:Lh->Lh)(o:Obj):(Obj.mapFields f o).dict=o.dict/\(o.isFreed=false->(Obj.mapFields f o).isFreed=false):=by
 obtain⟨c,d,z,g⟩:=o;cases z<;>exact⟨rfl,λh=>h⟩
def WL(a:Lz):jr (load a):=λ_=>trivial
def zAP{f:Obj->Obj}(h:∀o,(f o).dict=o.dict/\(o.isFreed=false->(f o).isFreed=false)):jr (update a f):=⟨h,trivial⟩
def Ji(v:Lv)(i:Nat):jr (field v i):=by
 unfold field fieldsOf;refine jr.bind (λa=>?_) ?_
 ·cases a[i]?<;>trivial
 ·cases v<;>first|trivial|skip
  refine jr.bind (λo=>?_) (WL _);cases o.data<;>trivial
def wg(v:Lv)(i:Nat)(x:Lv):jr (setField v i x):=by
 unfold setField updateField;cases v with
 |ref a =>
  refine jr.bind (λo=>?_) (WL _);cases o.data<;>first|trivial|skip;exact ju (zAP (mapF_ok _)) trivial
 |_=>trivial
def ZF:jr stack:=λ_=>trivial
def wS(v:Lv)(f:Lx Lz):jr (setFlight v f):=by
 unfold setFlight;refine jr.bind (λtb=>ju (wg _ _ _) ?_) (Ji v 1);exact trivial
theorem vW:∀l:Ls Env,jr (readyFrames l)
 | []=>trivial
 |a::outer=>by
  unfold readyFrames;cases a.frame with
  |none=>trivial
  |some f =>
   refine jr.bind (λo=>ju ?_ ?_) (WL f)
   ·exact trivial
   refine jr.bind (λi=>?_) ?_
   ·refine jr.bind (λbk=>?_) ?_
    ·refine jr.bind (λ_=>vW outer) (zAP λo=>⟨rfl,?_⟩)
     obtain⟨c,d,z,g⟩:=o;cases z<;>exact λh=>h
    ·cases outer with
     |nil =>
      refine ju ?_ (jr.bind (λb=>?_) (jr.bind (λ_=>?_) ZF))
      all_goals exact trivial
     |cons c r=>exact trivial
   ·unfold behindIsImport
    refine ju ?_ (ju ?_ (jr.bind (λ_=>?_) (Ji _ _)))
    all_goals exact trivial
def GV(v:Lv)(env:Env):jr (noteFrame v env):=by
 unfold noteFrame;cases env.frame with
 |none=>trivial
 |some f =>
  have hN:∀h:Lv,jr (do setField v 1 (<- EntryCells.newEntry h (<- frameOf env) .none (rawInt f) .none (<- entryPlaceOf f (h != .none)))):=λh=>by
   refine jr.bind (λfr=>?_) ?_
   ·refine jr.bind (λk=>?_) ?_
    ·refine jr.bind (λx=>wg _ _ _) ?_
     unfold EntryCells.newEntry newFields newObj;refine ju ?_ ?_
     ·exact trivial
     ·exact λa=>trivial
    ·unfold entryPlaceOf
     refine jr.bind (λc=>?_) ZF;split<;>exact trivial
   ·unfold frameOf frameObject
    refine jr.bind (λe=>?_) (jr.bind (λ_=>?_) ZF)
    ·refine jr.bind (λo=>?_) ?_
     ·cases o<;>exact trivial
     ·split
      ·exact trivial
      ·refine jr.bind (λ_=>?_) (vW _)
       exact trivial
    ·exact trivial
  refine jr.bind (λh=>ju ?_ (hN h)) (Ji v 1);refine jr.bind (λx=>ju ?_ ?_) (Ji _ _)
  ·exact trivial
  ·exact jr.bind (λ_=>hN h) (wg _ _ _)
def ZW(env:Env)(v:Lv):jr (leaving env v):=jr.bind (λ_=>wS v none) (GV v env)
end DV
namespace DV
open PySem L2 PyProof.Rows
def ExO(C a:Lz):HO:=.ext λh=>∃o,h.get? a=some o/\o.cls=.ref C
def zCH(e:h.get? a=some o)(c:o.cls=.ref C):jL P w H h a (ExO C a) :=
 ⟨⟨o,e,c⟩,⟨o,e⟩,λL h2 ⟨S,R,c1⟩ k=>⟨S,k S R,c1⟩⟩
def ExA(C d a:Lz):HO:=.ext λh=>∃o,h.get? a=some o/\o.cls=.ref C/\o.dict=some d/\∃W,o.data=.fields W
def zCI(e:h.get? a=some o)(c:o.cls=.ref C)(k:o.dict=some d)(z:o.data=.fields vs):jL P w H h a (ExA C d a) :=
 ⟨⟨o,e,c,k,vs,z⟩,⟨o,e⟩,λL h2 ⟨S,R,c1,t⟩ k=>⟨S,k S R,c1,t⟩⟩
def XD(d:Lz)(fs:Ls (Str×V)):HO:=.ext λh=>∃i,h.Ns1 d i/\∀f,RelO (fs.lookup f) (i f)
def XD_ne{H:Hp}{d:Lz}{fs:Ls (Str×V)}{xs:Ls V}(h:H d=some (XD d fs))(q:H d=some (.l xs)):False:=by
 rw[h]at q;unfold XD at q;cases q
def W9(a:Lz)(L:Lx Lz)(h:Heap):Prop:=∀d,L=some d->∃o,h.get? a=some o/\o.dict=some d
def W9.on(l:W9 a od h)(k:wf h h'):W9 a od h':=λd e=>by
 obtain⟨o,R,t⟩:=l d e;obtain⟨v,w,u⟩:=k a o R;exact⟨v,w,u.trans t⟩
theorem W9.none:W9 a none h:=λ_ e=>by cases e
structure MadeD(h h':Heap)(a:Lz)(C:Lv)(od:Option Lz):Prop where
 keeps:∀b o,h.get? b=some o->h'.get? b=some o
 new:h.get? a=none
 there:∃oe vs t,h'.get? a=some oe/\oe.cls=C/\(∀d,od=some d->oe.dict=some d)/\oe.data=.fields vs/\vs[1]?=some .none/\vs[0]?=some (.ref t)
def MadeD.of(x:Heap.MadeExcOf h h' a C args):MadeD h h' a C none :=
 ⟨x.keeps,x.new,let ⟨t,e,_⟩:=x.there;⟨_,_,t,e,rfl,λ_ z=>(by cases z),rfl,rfl,rfl⟩⟩
def MadeD.link(x:MadeD h h' a C od):W9 a od h':=λd e=>by
 obtain⟨j,_,_,L,_,h2,_⟩:=x.there;exact⟨j,L,h2 d e⟩
def zAQ(x:jL P w H h a o):∃u,h.get? a=some u:=by
 cases o with
 |l Y=>obtain⟨_,_,_,_,e⟩:=x;exact⟨_,e⟩|t Y=>obtain⟨_,_,_,o,e,_⟩:=x;exact⟨_,e⟩|dK g=>obtain⟨_,_,_,_,o,_,_,e,_⟩:=x;exact⟨_,e⟩|dT g=>obtain⟨_,_,_,_,o,_,_,e,_⟩:=x;exact⟨_,e⟩|set S n=>obtain⟨o,_,_,_,e,_⟩:=x;exact⟨_,e⟩|ins C j fs=>obtain⟨_,_,_,e,_⟩:=x;exact⟨_,e⟩|w y=>exact x|xd fs=>obtain⟨_,⟨_,_,_,e,_⟩,_⟩:=x;exact⟨_,e⟩|rng z W=>obtain⟨_,_,_,e⟩:=x;exact⟨_,e⟩|frz D u=>obtain⟨e,_⟩:=x;exact⟨_,e⟩|tbl T=>exact⟨_,(show h.get? a=some _ from x)⟩|met f y=>exact⟨_,(show h.get? a=some _ from x)⟩|ext φ=>obtain⟨_,e,_⟩:=x;exact e|dN φ=>obtain⟨_,e,_⟩:=x;exact e
def zEY(B:Heap)(H:Hp)(g:Heap)(fs:Ls Lz)(h:Heap):Prop:=∀b o,h.get? b=some o->((∃v,g.get? b=some v)\/H b≠none)->b∉fs->B.get? b=some o
def Flies(l:Ls Env)(H:Hp)(g:Heap)(a C:Lz)(h:Heap):Prop:=∃B t,Heap.FlyingW B l a (.ref C) (.ref t) h/\zEY B H g (frs l) h
def CXx(P:Lc)(w:Le):CXT:=λouter H s E e j=>∃a C L H',e=.ref a/\j.os=s.os/\AllBare j.gens/\Un (frs outer) [] H H' s.heap j.heap/\HOk P w H' j.heap/\H' a=none/\Flies outer H' s.heap a C j.heap/\W9 a L j.heap/\E (.ref C) L H'
section
variable{P:Lc}{w:Le}{fs:Ls Lz}{H H':Hp}{g h h' B:Heap}{L:Lz}
def un_on(u:Un fs [] H H' g h)(ok:HOk P w H' h)(Z:zEY B H' g (L::fs) h)(st:B.StaysIn h')(y:g.get? L=none)(t:∀b∈fs,∀o,h.get? b=some o->∃c,h'.get? b=some {o with slots:=c}):Un fs [] H H' g h' where
 keep:=λb o e n J V=>st b o (Z b o (u.keep b o e n J V) (.inl ⟨o,e⟩) λz=>by
  rcases mem_cons.mp z with rfl|z
  ·rw[y]at e;cases e
  ·exact J z)
 slot:=λb o e n J V=>by
  obtain⟨c,q⟩:=u.slot b o e n J V;obtain⟨C,a⟩:=t b J _ q;exact⟨C,a⟩
 free:=u.free
 there:=λb o e V=>by
  obtain⟨v,q⟩:=u.there b o e V;by_cases J:b∈fs
  ·obtain⟨c,a⟩:=t b J _ q;exact⟨_,a⟩
  ·exact⟨v,st b v (Z b v q (.inl ⟨o,e⟩) λz=>by
    rcases mem_cons.mp z with rfl|z
    ·rw[y]at e;cases e
    ·exact J z)⟩
 tups:=u.tups
 frzs:=u.frzs
 tbls:=u.tbls
def zCJ(ok:HOk P w H' h)(Z:zEY B H' g (L::fs) h)(st:B.StaysIn h')(D:∀b∈L::fs,H' b=none):HOk P w H' h':=λa o e=>by
 refine(ok a o e).stay (λb u J q=>?_) (λ_ q=>q) λ_ _ q=>q
 have ht:H' b≠none:=by
  rcases J with rfl|J
  ·rw[e];exact λz=>by cases z
  ·rw[J];exact λz=>by cases z
 exact st b u (Z b u q (.inr ht) λz=>ht (D b z))
def zCK(u:Un fs [] H H' g h)(ok:HOk P w H' h)(Z:zEY B H' g (L::fs) h)(st:B.StaysIn h')(y:g.get? L=none)(D:∀b∈L::fs,H' b=none):zEY B H' g fs h':=λb o e J nf=>by
 have n:b∉L::fs:=λz=>by
  rcases mem_cons.mp z with rfl|z
  ·rcases J with⟨v,q⟩|q
   ·rw[y]at q;cases q
   ·exact q (D _ (qE))
  ·exact nf z
 have:∃o1,h.get? b=some o1:=by
  rcases J with⟨v,q⟩|q
  ·exact u.there b v q (by simp)
  ·obtain⟨x,V⟩:=Option.ne_none_iff_exists'.mp q
   exact zAQ (ok b x V)
 obtain⟨o1,j⟩:=this;have S:=Z b o1 j J n;have R:=st b o1 S;rw[e]at R;cases R;exact S
end
section
variable{P:Lc}{w:Le}{K:qH}{mg:Str->Lx Lv}{base:Heap}{N:Ls Str}{qual:Str}{scope:Scope}{f:Lz}{cd:Lv}{A:Lg}{outer:Ls Env}{s:La}{H:Hp}{E:XK}
abbrev cxC(c:Bool)(P:Lc)(w:Le)(K:qH)(g:Str->Lx Lv)(base:Heap)(N:Ls Str)(a:Str)(Y:Scope)(f:Lz)(R:Lv)(A:Lg)(outer:Ls Env)(s:La)(H:Hp)(E:XK):Cx :=
 {zGY (CXx P w) P w K g base N a Y f R A outer s H E with calm:=c}
variable{c:Bool}
variable{pins:Ls (Lz×Obj)}{O:L2.St}{H':Hp}{s' s1:La}{a C:Lz}
def zCL:frs (envOfC qual scope s.heap.objs.size f cd::outer)=s.heap.objs.size::frs outer:=rfl
def zBP(I:Inv (cxC c P w K mg base N qual scope f cd A outer s H E) pins O H' s')(u:Un (frs outer) [] H H' s.heap s'.heap)(D:H' a=none)
  (n:∃B t,Heap.FlyingW B (cxC c P w K mg base N qual scope f cd A outer s H E).stack a (.ref C) (.ref t) s'.heap/\zEY B H' s.heap (frs (cxC c P w K mg base N qual scope f cd A outer s H E).stack) s'.heap) (p:W9 a od s'.heap) (X:E (.ref C) od H') :
  (cxC c P w K mg base N qual scope f cd A outer s H E).xe (.ref a) s':=by
 obtain⟨B,t,i,Z⟩:=n;have y:s.heap.get? s.heap.objs.size=none:=Heap.get?_none_of_le (le_refl _);have hN:∀b∈s.heap.objs.size::frs outer,H' b=none:=λb J=>I.stkFree b (by show b∈frs (envOfC qual scope s.heap.objs.size f cd::outer);rw[zCL];exact J)
 have l:zEY B H' s.heap (s.heap.objs.size::frs outer) s'.heap:=Z;refine wpAny_mono (wZ (ZW _ _) (wpAny_leaves_onW (base:=B) (E:=λ_ _=>False) (Q:=λ_ z=>∃h',z={s' with heap:=h'}/\Heap.FlyingW B outer a (.ref C) (.ref t) h'/\s'.heap.UpToSlots h') I.ok.frames rfl i λh' h g=>⟨h',rfl,h,g⟩)) (λ_ z ⟨⟨h',G,h,g⟩,W⟩=>?_) λ_ _ z=>z.1.elim
 subst G;have j:B.StaysIn h':=h.1;have L:∀b∈frs outer,∀o,s'.heap.get? b=some o->∃g,h'.get? b=some {o with slots:=g}:=λb J o e=>by
  obtain⟨_,v,q,k⟩:=I.funs.mem J;rw[e]at q;cases q;exact g b o e k
 exact⟨a,C,od,H',rfl,I.os,I.bare,un_on u I.hok l j y L,zCJ I.hok l j hN,D,⟨B,t,h,zCK u I.hok l j y hN⟩,p.on W,X⟩
def QU(I:Inv (cxC c P w K mg base N qual scope f cd A outer s H E) pins O H' s1)(V:MadeD s1.heap s'.heap a (.ref C) od)(S:s'={s1 with heap:=s'.heap})(hn:H' a=none)(X:E (.ref C) od H') :
  (cxC c P w K mg base N qual scope f cd A outer s H E).xe (.ref a) s':=by
 have u:Un (frs outer) [] H H' s.heap s1.heap:=I.base;have y:s.heap.get? s.heap.objs.size=none:=Heap.get?_none_of_le (le_refl _);have hN:∀b∈s.heap.objs.size::frs outer,H' b=none:=λb J=>I.stkFree b (by show b∈frs (envOfC qual scope s.heap.objs.size f cd::outer);rw[zCL];exact J)
 have Z:zEY (hideAll s1.heap (s.heap.objs.size::frs outer)) H' s.heap (s.heap.objs.size::frs outer) s1.heap:=λb o e _ nf=>hideAll_get _ e nf
 have Y:∀h∈(envOfC qual scope s.heap.objs.size f cd::outer),∀b,h.frame=some b->b∈s.heap.objs.size::frs outer:=λh M b J=>by
  exact mem_filterMap.mpr ⟨h,M,J⟩
 have l:s1.heap.FunFrames base (envOfC qual scope s.heap.objs.size f cd::outer):=I.stack;obtain⟨j,vs,t,R,e2,e3,e4,e5,x⟩:=V.there;have fresh:(hideAll s1.heap (s.heap.objs.size::frs outer)).get? a=none:=by
  cases q:(hideAll s1.heap (s.heap.objs.size::frs outer)).get? a with
  |none=>rfl|some v=>have:=of_hideAll _ q;rw[V.new]at this;cases this
 have i:s'.heap.FunFrames (hideAll s1.heap (s.heap.objs.size::frs outer)) (envOfC qual scope s.heap.objs.size f cd::outer):=(PySem.W.funFrames_hide l Y).of_keeps λb o J _=>⟨o,V.keeps b o J,rfl⟩
 refine wpAny_mono (wZ (ZW _ _) (wpAny_leaving_firstW (base:=hideAll s1.heap (s.heap.objs.size::frs outer)) (a0:=.ref t) (E:=λ_ _=>False) (Q:=λ_ z=>∃h',z={s' with heap:=h'}/\Heap.LeftW (hideAll s1.heap (s.heap.objs.size::frs outer)) (envOfC qual scope s.heap.objs.size f cd::outer) a j.cls (.ref t) s'.heap h') I.ok.frames i rfl R (λb o q=>V.keeps b o (of_hideAll _ q)) fresh e4 e5 x λh' y=>⟨h',rfl,y⟩)) (λ_ z ⟨⟨h',G,k1,⟨_,_,r⟩,n,D⟩,W⟩=>?_) λ_ _ z=>z.1.elim
 subst G;rw[e2]at n;have p:Heap.FlyingW (hideAll s1.heap (s.heap.objs.size::frs outer)) outer a (.ref C) (.ref t) h':=⟨k1,fresh,r,n⟩;have st:=p.1;have L:∀b∈frs outer,∀o,s1.heap.get? b=some o->∃g,h'.get? b=some {o with slots:=g}:=λb J o e=>by
  obtain⟨_,v,q,k⟩:=I.funs.mem J;rw[e]at q;cases q;exact D b o (V.keeps b o e) k
 have os:s'.os=s1.os:=by rw[S]
 have T:s'.gens=s1.gens:=by rw[S]
 refine⟨a,C,od,H',rfl,os.trans I.os,?_,un_on u I.hok Z st y L,zCJ I.hok Z st hN,hn,⟨_,t,p,zCK u I.hok Z st y hN⟩,V.link.on W,X⟩;rw[T];exact I.bare
end
structure RoomN(k:Nat)(A:Lg):Prop where
 gd:A.guards=some []
 dp:A.depth+3*k+5<recursionLimit
 un:A.units+16*k+200<cLine
def RoomN.mono(r:RoomN k A)(h:j<=k):RoomN j A:=⟨r.gd,by have:=r.dp;lia,by have:=r.un;lia⟩
theorem RoomN.deeper(r:RoomN (k+1) A)(env:Env):RoomN k (A.deeper env) :=
 ⟨r.gd,by have:=r.dp;show A.depth+1+3*k+5<_;lia,by have:=r.un;show A.units+3+16*k+200<_;lia⟩
theorem RoomN.depth(r:RoomN k A):A.depth<recursionLimit:=by have:=r.dp;lia
def RoomN.room(r:RoomN k A)(h:A.handled=none):Room k A:=⟨h,r.gd,r.dp,r.un⟩
def zEx(r:Room k A):RoomN k A:=⟨r.gd,r.dp,r.un⟩
section
variable{X:Cx}{pins:Ls (Lz×Obj)}{O:L2.St}{H:Hp}{s:La}
def vX(I:Inv X pins O H s)(a:Lg)(c:Bool)(E:Ly)(j:c=true->a.handled=none)(v:a.frames=some X.stack):Inv {X with A:=a,calm:=c,xe:=E} pins O H s :=
 ⟨⟨I.ok.mod,I.ok.kind,I.ok.glob,I.ok.blt,I.ok.above,I.ok.inj,I.ok.has,I.ok.cab,j,v,I.ok.stk,I.ok.exf,I.ok.bs,I.ok.bsz,I.ok.noex,I.ok.exfs,I.ok.funs,I.ok.frf⟩,I.os,I.bare,I.base,I.loc,I.cell,I.free,I.freeC,I.pin,I.hok,I.len⟩
end
abbrev cxN(c:Bool)(P:Lc)(w:Le)(K:qH)(g:Str->Lx Lv)(base:Heap)(N:Ls Str)(a:Str)(Y:Scope)(f:Lz)(R:Lv)(A:Lg)(outer:Ls Env)(s:La)(H:Hp)(E:XK):Cx :=
 cxC c P w K g base N a Y f R A outer s H E
structure FnOkN(c:Bool)(P:Lc)(w:Le)(K:qH)(mg:Str->Ln)(base:Heap)(k:Nat)(f:Lz)(fd:FuncData)(ps:Lm)(sp:Sp):Prop where
 len:∀vs H Q E,sp vs H Q E->vs.length=ps.length
 run:∀(A:Lg) (outer:List Env) (s:La) (H:Hp) (args:Args) (us:List Lv) (vs:List V) (Q:VK) (E:XK),(c=true->A.handled=none)->RoomN k A->Env0 P w K mg base A outer s H->BindsTo s fd args (ps.zip us)->zw vs us->sp vs H Q E ->
  codeAny (model P w) A (.call (.ref f) args) (CR (CXx P w) outer P w H s Q E) s
section
variable{c:Bool}{P:Lc}{w:Le}{K:qH}{mg:Str->Lx Lv}{base:Heap}
theorem FnOkN.mono(F:FnOkN c P w K mg base j f fd ps sp)(h:j<=k):FnOkN c P w K mg base k f fd ps sp :=
 ⟨F.len,λA outer s H e D W Q E a p=>F.run A outer s H e D W Q E a (p.mono h)⟩
def FnOkN.fn(F:FnOkN c P w K mg base k f fd ps sp):FnOk P w K mg base (CXx P w) k f fd ps sp :=
 ⟨F.len,λA outer s H e D W Q E p=>F.run A outer s H e D W Q E (λ_=>p.hd) (zEx p)⟩
def fn_ofN{k:Nat}{f:Lz}{name a:Str}{i:Arguments}{body:Ls Lf}{Y:Scope}{L h ae C z ct oc:Lv}{G od:Lx Lz}
  {g:Lj} {N T:Ls Str} {sp:Sp} (X:K.lookup f=some ⟨oc,od,.func (fnOf name a i body Y L h ae C G z ct),g⟩) (R:codeIn K z a=true) (S:FnScope N T Y)
  (l:∀W H Q E,sp W H Q E->W.length=T.length)
  (ab:∀(A:Lg) (outer:Ls Env) (s:La) (H:Hp) (W:Ls V) (Q:VK) (E:XK),(c=true->A.handled=none)->RoomN k (A.deeper (envOfC a Y s.heap.objs.size f z))->sp W H Q E ->
   ∃t,PSs (cxN c P w K mg base N a Y f z A outer s H E) body t/\t {nx:=λ_ H'=>Q .non H',rt:=Q} (j0 N W) H) :
  FnOkN c P w K mg base (k+1) f (fnOf name a i body Y L h ae C G z ct) T sp:=by
 refine⟨l,λA outer s H ag D W Q E hd p Z hb r j=>?_⟩;have hl:=l _ _ _ _ j;have KX:K.In s.heap:=Z.mod.kin.keeps λb o e=>(Z.bs b o e).1
 have af:s.heap.NoLimit:=Z.mod.nolimit.keeps λb o e=>(Z.bs b o e).1
 have ac:∀y∈T.zip D,Y.names.lookup y.1=some .local\/(Y.names.lookup y.1=some .cell/\((cellsFrom (s.heap.objs.size+1) Y.names []).lookup y.1).isSome=true):=λ⟨n,v⟩ O=>by
  rcases S.par n (of_mem_zip O).1 with q|q
  ·exact .inl q
  ·exact .inr ⟨q,cellsFrom_some _ _ _ (.inl q)⟩
 refine codeAny_call_function p.depth (KX _ _ X) rfl S.co S.gen rfl (codeRec_of KX R) (hb _ _ _ _ ?_);refine wpAny_newFunctionEnv_cells S.kind ac λaa he s1 x=>?_
 subst he;refine⟨af.keeps x.toInCall.keep,codeAny_func ?_⟩;obtain⟨t,ht,hq⟩:=ab A outer s H W Q E hd (p.deeper _) j;have e1:Env0 P w K mg base {A with handled:=none} outer s H:=⟨Z.frames,Z.mod,Z.bs,Z.bsz,Z.funs,Z.frf,Z.hok,Z.bare⟩
 have I0:Inv (zGY (CXx P w) P w K mg base N a Y f z {A with handled:=none} outer s H E) [] (j0 N W) H s1:=GQ S rfl e1 hl r x
 have I:Inv (cxN c P w K mg base N a Y f z A outer s H E) [] (j0 N W) H s1:=vX I0 (A.deeper (envOfC a Y s.heap.objs.size f z)) c _ hd (Around.frames_deeper Z.frames);refine wpAny_mono (ht [] s1 (j0 N W) H _ I hq) (λfl s' hs=>?_) λe s' hs=>hs
 have ad:∀{O':L2.St} {H':Hp} {v:V} {u:Lv},Inv (cxN c P w K mg base N a Y f z A outer s H E) [] O' H' s'->yy v u->Q v H'->CE outer P w H s Q u s' :=
  λ{O' H' v u} J M q=>⟨v,H',J.os,J.bare,J.base,J.hok,M,q⟩
 cases fl with
 |ret u =>
  obtain⟨v,O',H',J,M,q⟩:=hs;exact ad J M q
 |next =>
  obtain⟨O',H',J,q⟩:=hs;exact ad (v:=V.non) (u:=Value.none) J rfl q
 |brk =>
  obtain⟨_,_,_,q⟩:=hs;exact False.elim q
 |cont =>
  obtain⟨_,_,_,q⟩:=hs;exact False.elim q
end
structure Exn where
 cls:Str
 made:Bool
 vs:List Int
 deriving Inhabited
def QV(c:Str):Ls Str:=if c == "TooGreat" then ["many","most"]else if c == "NoText" then ["row"]else []
def fsV(c:Str)(vs:Ls Int):Ls (Str×V):=(QV c).zip (vs.map V.int)
def Fs(L:Lx Lz)(H:Hp)(c:Str)(vs:Ls Int):Prop:=vs=[]\/∃d,L=some d/\H d=some (XD d (fsV c vs))
def RelX(X:Cx)(G:Ls (Lz×Obj))(O:L2.St)(x:Exn)(H:Hp)(e:Lv)(s:La):Prop:=∃a C L,e=.ref a/\X.mg x.cls=some (.ref C)/\H a=none/\Fs L H x.cls x.vs /\
 ((x.made=true/\∃l,Inv X G O H l/\s={l with heap:=s.heap}/\MadeD l.heap s.heap a (.ref C) L) \/
  (x.made=false/\∃n Hc,Inv X G O Hc n/\Un (frs X.stack) [] Hc H n.heap s.heap/\Flies X.stack H n.heap a C s.heap/\W9 a L s.heap))
def XE(X:Cx)(O:L2.St)(H:Hp)(x:Exn):Prop:=∀(G:Ls (Lz×Obj)) (s:La) (e:Lv),Inv X G O H s->RelX X G O x H e s->X.xe e s
def EX(X:Cx)(O:L2.St):XK:=λc L H'=>∃x C,c=.ref C/\X.mg x.cls=some (.ref C)/\x.made=false/\Fs L H' x.cls x.vs/\XE X O H' x
section
variable{X:Cx}{pins:Ls (Lz×Obj)}{O:L2.St}{H:Hp}{s s':La}{e:Lv}
def pass_x(I:Inv X pins O H s)(h:CXx X.prog X.w X.stack H s (EX X O) e s'):X.xe e s':=by
 obtain⟨a,C,L,H',rfl,Z,l,un,S,D,i,p,x,C',Y,K,q,hf,k⟩:=h;cases Y;have I':Inv X pins O H' s':=I.call' (ch:=[]) Z un S l (λb z=>absurd z (by simp));exact k pins s' _ I' ⟨a,C,L,rfl,K,D,hf,.inr ⟨q,s,H,I,un,i,p⟩⟩
def zCM(F:FnOkN c X.prog X.w X.K X.mg X.base k f fd ps sp)(j:c=true->X.A.handled=none)(p:RoomN k X.A)(J:JL X.K fd ps [])
  (I:Inv X pins O H s) (r:zw vs us) (h:sp vs H Q (EX X O)):wpAny (model X.prog X.w) X.A (call (.ref f) us) (EP X pins O Q) X.xe s:=by
 have hl:us.length=ps.length:=by rw[<- r.length];exact F.len _ _ _ _ h
 have a:=J s us I.kIn (by rw[append_nil];exact hl);rw[append_nil]at a;refine wpAny_call (codeAny_mono (F.run X.A X.stack s H ⟨us,[]⟩ us vs Q (EX X O) j p I.env0 a r h) λr g P=>?_);cases r with
 |error e=>exact pass_x I P
 |ok i =>
  cases i with
  |ret u=>exact I.after P|next=>exact False.elim P|brk=>exact False.elim P|cont=>exact False.elim P
end
section
variable{X:Cx}{c:Bool}{k:Nat}{f:Lz}{fd:FuncData}{ps:Ls Str}{sp:Sp}{x:Str}{p pos:Pos}{e:Lb}{es:Ls Lb}{t:TA}
def zEy(F:FnOkN c X.prog X.w X.K X.mg X.base k f fd ps sp)(g:c=true->X.A.handled=none)(i:RoomN k X.A)(n:Gl X x)(K:X.mg x=some (.ref f))(C:keepIn X.K (.ref f)=true)(J:JL X.K fd ps [])
  (P:PA X (e::es) t) (a:(x==("__debug__":Str))=false:=by decide) (M:starEach (e::es) X.env=(false,eval e X.env)::starEach es X.env:=by rfl) (o:(backTo pos (starEach es X.env)).any (·.1)=false:=by rfl) :
  PE X (.Call (.Name x p) (e::es) [] pos) (λO H Q=>t O H λW H1=>sp W H1 Q (EX X O)):=by
 intro G s O H Q I h;refine wpAny_Call_Name_kw (vz I n K ?_ a);refine callWith_K (h₀:=X.base) I.ok.mod.kin C (thn (P pos G s O H _ I h) λD l ⟨W,H1,I1,r,q⟩=>⟨I1.kIn,?_⟩) M o;exact zCM F g i J I1 r q
end
def zEz{c:Bool}{P:Lc}{w:Le}{K:qH}{g:Str->Lx Lv}{base:Heap}{N:Ls Str}{r:Str}{Y:Scope}{f:Lz}{R:Lv}{A:Lg}{outer:Ls Env}{s:La}{H k:Hp}{E:XK}{O:L2.St}{x:Exn}
  (X:∀C L,g x.cls=some (.ref C)->Fs L k x.cls x.vs->E (.ref C) L k):XE (cxN c P w K g base N r Y f R A outer s H E) O k x:=by
 intro G j e I ⟨a,C,L,he,hm,hn,hf,h⟩;subst he;rcases h with⟨_,y,I1,S,V⟩|⟨_,n,Hc,Ic,un,i,p⟩
 ·exact QU I1 V S hn (X C L hm hf)
 ·obtain⟨B,t,l,u⟩:=i
  refine zBP I I.base hn ⟨B,t,l,λb o q z nf=>u b o q ?_ nf⟩ p (X C L hm hf);rcases z with⟨v,z⟩|z
  ·exact .inl (Ic.base.there b v z (by show b∉([]:Ls Lz);simp))
  ·exact .inr z
end DV
namespace DV
open PySem L2 PyProof.Rows PySem.Spec
open PySem.W (Frag Looks)
structure XCls(K:Frag)(c:Str)(C T:Lz):Prop where
 cd:∃cd,clsIn K C=some cd/\cd.name=c/\cd.mro=[.ref C,.ref T,.type "ValueError",.type "Exception",.type "BaseException",.type "object"]
 ty:typeIn K (.ref C)=some (.type "type")
 ga:findIn K (.ref C) "__getattribute__"=some (some (.builtin "BaseException.__getattribute__"))
 gn:findIn K (.ref C) "__getattr__"=some none
 gc:findIn K (.ref C) "__class__"=some (some (.builtin "object.__class__"))
 sp:specialIn K (.builtin "object.__class__") "__get__"=some (some (.builtin "getset_descriptor.__get__"))
 tk:takesIn K (.builtin "object.__class__")=some true
section
open Builtin Builtin.ObjectAttr Builtin.Getset_descriptor
variable{K:Frag}{c:Str}{C T x:Lz}{h:Heap}{ox:Obj}{M:Model}
def XCls.mro(F:XCls K c C T)(b:Lv):mroIn K C b=some ([Value.ref C,.ref T,.type "ValueError",.type "Exception",.type "BaseException",.type "object"].contains b):=by
 obtain⟨R,L,_,M⟩:=F.cd;unfold mroIn;rw[L,Option.bind_some,M];rfl
def typ(e:h.get? x=some ox)(Y:ox.cls=.ref C):Looks M h (typeOf (.ref x)) (.ref C):=Y▸(Looks.ld e).andThen .now
def zE0(F:XCls K c C T)(X:K.In h):Looks M h (find (.ref x) (.ref C) "__class__") (.bind (.builtin "getset_descriptor.__get__") (.builtin "object.__class__")):=by
 have R:Looks M h (takesStores (.builtin "object.__class__")) true:=PySem.W.looks_takesIn X F.tk;have e:Looks M h (dataDescriptor? (some (.builtin "object.__class__")) (some (.builtin "getset_descriptor.__get__"))) (some (.builtin "getset_descriptor.__get__",.builtin "object.__class__")):=R.andThen .now;exact(looks_findIn X F.gc).andThen ((PySem.W.looks_specialIn X F.sp).andThen (e.andThen (Looks.tag .now)))
end
section
open Builtin Builtin.ObjectAttr Builtin.Getset_descriptor
variable{K:Frag}{c:Str}{C T x:Lz}{ox:Obj}{prog:Lc}{w:Le}{A:Lg}{E:Ly}{s:La}
def cls_get{R:Result->La->Prop}(F:XCls K c C T)(X:K.In s.heap)(e:s.heap.get? x=some ox)(Y:ox.cls=.ref C)(P:R (.ok (.ret (.ref C))) s) :
  codeAny (model prog w) A (.call (.builtin "getset_descriptor.__get__") ⟨[.builtin "object.__class__",.ref x,.ref C],[]⟩) R s:=by
 obtain⟨J,g,a,h,Z⟩:=s;have V:Looks (model prog w) J (typeOf (.ref x)) (.ref C):=typ e Y;have v:Looks (model prog w) J (isSubtype (.ref C) (.type "object")) true:=looks_mroIn X (by rw[F.mro];rfl);refine codeAny_call_builtin PySem.W.KF.slot_gs.plain PySem.W.KF.entry_gs (PySem.W.KF.slot_gs.check _ _ _ _ _ _ _ _ PySem.W.KF.type_class (PySem.W.KF.args_gs _ _ _) ?_);unfold Builtin.«getset_descriptor.__get__»;unfold descrGet;rw[PySem.W.dga_obj];refine qB (qC ?_);unfold descrGetter descrCheckInstance descrNameAndClass isInstance;dsimp[PySem.W.KF.owner_class]
 repeat lk
 refine⟨Code.quiet_builtin _ (by left),?_⟩;refine codeAny_builtin PySem.W.KF.entry_class ?_;unfold Builtin.«object.__class__»;unfold shownTypeOf
 repeat lk
 exact P
def zCN{Q:Fin->La->Prop}(F:XCls K c C T)(X:K.In s.heap)(e:s.heap.get? x=some ox)(Y:ox.cls=.ref C)(P:Q (.done (.ret (.ref C))) s) :
  wpAny (model prog w) A (Builtin.«object.__getattribute__» ⟨[.ref x,.str "__class__" tk],[]⟩) Q E s:=by
 obtain⟨J,g,a,h,Z⟩:=s;have V:Looks (model prog w) J (typeOf (.ref x)) (.ref C):=typ e Y;have y:Looks (model prog w) J (find (.ref x) (.ref C) "__class__") _:=zE0 F X;have o:∀Q',Q' (.done (.ret (.ref C))) (⟨J,g,a,h,Z⟩:La)->wpAny (model prog w) A (bindTo (.builtin "getset_descriptor.__get__") (.builtin "object.__class__") (.ref x) (.ref C)) Q' E ⟨J,g,a,h,Z⟩:=λQ' q=>by
  unfold bindTo;refine qB (wpAny_call (cls_get F X e Y ?_));exact qC q
 refine qB (qC ?_);refine qB (qC ?_);refine qB (V.at ?_);refine qB (y.at ?_);exact o _ P
def zCO{Q:Unit->La->Prop}(F:XCls K c C T)(X:K.In s.heap)(e:s.heap.get? x=some ox)(Y:ox.cls=.ref C)(P:Q () s) :
  wpAny M A (checkBuiltinCall "BaseException.__getattribute__" ⟨[.ref x,nameV],[]⟩) Q E s:=by
 obtain⟨J,g,a,h,Z⟩:=s;have V:Looks M J (typeOf (.ref x)) (.ref C):=typ e Y;have v:Looks M J (isSubtype (.ref C) (.type "BaseException")) true:=looks_mroIn X (by rw[F.mro];rfl);have i:Looks M J (isInstance (.ref x) (.type "BaseException")) true:=V.andThen v;have u:builtinKind "BaseException.__getattribute__"=some .slot:=by left
 have r:splitId "BaseException.__getattribute__"=some ("BaseException","__getattribute__"):=by left
 have n:=PySem.F.args_bexc_ga (.ref x) nameV;dsimp[checkBuiltinCall,u,r];refine qB (i.at ?_)
 repeat (any_goals (first|assumption|wp_step))
def zE1{R:Result->La->Prop}(F:XCls K c C T)(X:K.In s.heap)(e:s.heap.get? x=some ox)(Y:ox.cls=.ref C)(P:R (.ok (.ret (.ref C))) s) :
  codeAny (model prog w) A (.call (.builtin "BaseException.__getattribute__") ⟨[.ref x,.str "__class__" tk],[]⟩) R s :=
 codeAny_call_builtin PySem.F.attr_ValueError.ga.plain PySem.F.entry_bexc_ga (zCO F X e Y (zCN F X e Y P))
def zE2{Q:Lx Lv->La->Prop}(F:XCls K c C T)(X:K.In s.heap)(e:s.heap.get? x=some ox)(Y:ox.cls=.ref C)(i:Q (some (.ref C)) {s with toks:=s.toks+1}) :
  wpAny (model prog w) A (getAttr? (.ref x) "__class__") Q E s:=by
 obtain⟨J,g,a,h,Z⟩:=s;have V:Looks (model prog w) J (typeOf (.ref x)) (.ref C):=typ e Y;have W:Looks (model prog w) J (typeLookup (.ref C) "__getattribute__") _:=looks_findIn X F.ga;have P:Looks (model prog w) J (typeLookup (.ref C) "__getattr__") _:=looks_findIn X F.gn;have n:=PySem.F.attr_ValueError.ga.bind (.ref x);unfold getAttr? getAttrBy?;refine qB (wpAny_mkText (qB (wpAny_attempt ?_)));unfold getAttrBy;refine wpAny_holding (qB (V.at (qB (W.at ?_))));have r:(Value.builtin "BaseException.__getattribute__" == Value.builtin "object.__getattribute__")=false:=by left
 dsimp;rw[r,Bool.and_false,if_neg (by decide)];unfold getAttrByItsOwn hookBefore;refine qB (P.at ?_);refine qB (wpAny_attempt (wpAny_holding ?_));unfold callGetattribute;rw[if_neg (by left)];unfold boundAndCalled;rw[n];refine qB (qC (wpAny_call (zE1 F X e Y ?_)));exact qC (qC i)
end
structure TCls(K:Frag)(T:Lz):Prop where
 cd:∃cd,clsIn K T=some cd/\cd.mro=.ref T::VB
 ty:typeIn K (.ref T)=some (.type "type")
section
variable{K:Frag}{c y:Str}{C Y T x:Lz}{h:Heap}{ox:Obj}{M:Model}
def TCls.mro(F:TCls K T)(b:Lv):mroIn K T b=some ((Value.ref T::VB).contains b):=by
 obtain⟨R,L,M⟩:=F.cd;unfold mroIn;rw[L,Option.bind_some,M];rfl
def zCP{R:ClassData}(X:K.In h)(e:clsIn K C=some R):Looks M h (isType (.ref C)) true:=by
 unfold clsIn at e;split at e
 ·rename_i ho
  intro A Q E s k q;unfold isType loadHead;exact qB (wpAny_loadPart (k _ _ (X _ _ ho)) (qC q))
 ·cases e
def not_tup{R:ClassData}{tp:Lz}{dd:Lx Lz}{c:Ls Lv}{n:Nat}{g:Lj}(X:K.In h)(e:clsIn K C=some R)(V:h.get? tp=some ⟨.type "tuple",dd,.seq c.toArray n,g⟩):(Value.ref C==.ref tp)=false:=by
 refine Bool.eq_false_iff.mpr λq=>?_
 obtain rfl:C=tp:=Value.ref.inj (beq_iff_eq.mp q);unfold clsIn at e;split at e
 ·rename_i ho;have z:=(X _ _ ho).symm.trans V;cases z
 ·cases e
def kit_exc(F:XCls K c C T):PySem.W.KitX K (.ref x) (.ref C) (λh=>∃o,h.get? x=some o/\o.cls=.ref C) where
 ty:=λM h X ⟨o,e,Y⟩=>typ e Y
 it:=λM h X _=>let ⟨_,e,_⟩:=F.cd;zCP X e
 ne:=λh t dd its n g X ht=>let ⟨_,e,_⟩:=F.cd;not_tup X e ht
 ca:=λX ⟨o,e,Y⟩ q=>zE2 F X e Y q
def kit_own(F:XCls K c C T)(G:XCls K y Y T)(h:Y≠T)(M:c=y->C=Y):kitOne K (.ref C) (.ref Y)=some (c==y):=by
 obtain⟨i,L,h2,g⟩:=F.cd;obtain⟨a,I,Z,J⟩:=G.cd;unfold kitOne;by_cases e:C=Y
 ·subst e
  rw[L]at I;cases I;rw[if_pos (by simp),<- h2,<- Z];simp
 ·have r:(c==y)=false:=by
   cases q:c==y with
   |false=>rfl|true=>exact absurd (M (by exists q)) e
  rw[if_neg (by exists e),r];unfold kitCls;dsimp;rw[if_pos (by rw[I,G.ty];rfl)];show mroIn K C (.ref Y)=_;rw[F.mro];have R:(Value.ref Y==Value.ref C)=false:=by exists λz:Y=C=>e z.symm
  have w:(Value.ref Y==Value.ref T)=false:=by exists h
  dsimp[List.contains_cons,R,w];rfl
def kit_val(F:XCls K c C T):kitOne K (.ref C) (.type "ValueError")=some true:=by
 unfold kitOne;rw[if_neg (by simp)];unfold kitCls;dsimp;rw[if_pos (by left)];show mroIn K C _=_;rw[F.mro];rfl
def QW{A:Lg}{E:Ly}{s:La}{Q:Bool->La->Prop}(F:XCls K c C T)(G:TCls K T)(X:K.In s.heap)(e:s.heap.get? x=some ox)(Y:ox.cls=.ref C)(P:Q true s):wpAny M A (excMatches (.ref x) (.ref T)) Q E s:=by
 obtain⟨J,g,a,h,k⟩:=s;obtain⟨R,I,Z⟩:=G.cd;have V:Looks M J (typeOf (.ref x)) (.ref C):=typ e Y;have tT:Looks M J (typeOf (.ref T)) (.type "type"):=PySem.W.looks_typeIn X G.ty;have n:Looks M J (isInstance (.ref T) (.type "tuple")) false:=tT.andThen (Looks.of_pure tc_notTuple);have iT:Looks M J (isType (.ref T)) true:=zCP X I;have j:Looks M J (isSubtype (.ref T) (.type "BaseException")) true:=looks_mroIn X (by rw[G.mro];rfl);have i:Looks M J (isSubtype (.ref C) (.ref T)) true:=looks_mroIn X (by rw[F.mro];simp);unfold excMatches isExcClass;refine qB (n.at ?_);refine qB (qC ?_);refine qB ?_;rw[forIn_cons];refine qB (qB (qB (iT.at ?_)));refine j.at ?_;refine qC ?_;refine qC ?_;refine qB (V.at ?_);refine qB ?_;rw[forIn_cons];refine qB (qB (i.at ?_));refine qC (qC ?_);exact qC P
def own_at(X:K.In h)(q:excJ K C=true) :
  ∃bm N nm q bs D y sub e a dd t u r n g i,h.get? C=some (excClassObj nm q C N bs bm D y sub e a dd t u r n g "ValueError.__new__")/\h.Ns N i/\i "__init__"=none/\OwnTail h VB bm:=by
 obtain⟨bm,N,nm,q,bs,D,y,sub,e,a,dd,t,u,r,n,g,R,w,l,O⟩:=(clsC K C _ _).why q rfl h X;exact⟨bm,N,nm,q,bs,D,y,sub,e,a,dd,t,u,r,n,g,_,R,.of_isNs (PySem.W.isNs_of_in X w),PySem.W.nsMap_none_of_in X w l,O⟩
end
end DV
namespace DV
open PySem L2 PyProof.Rows PySem.Spec
open PySem.W (Looks)
structure XSet(K:qH)(C T:Lz):Prop where
 cd:∃cd,clsIn K C=some cd/\cd.mro=.ref C::.ref T::VB/\cd.hasDict=true
 sa:findIn K (.ref C) "__setattr__"=some (some (.builtin "object.__setattr__"))
end DV
namespace DV
open PySem L2
set_option genInjectivity true in
inductive D where
 |non
 |bl (b:Bool)
 |int (i:Int)
 |str (x:Str)
 |t (ds:List D)
 |l (ds:List D)
 |fn (x:Str)
 |dic
 |exn (c:Str) (vs:List Int)
 |m (ks:List (List KN)) (vs:List D)
 deriving Inhabited
def oD:KN->D
 |none=>.non|some i=>.int i
mutual
def Rep(K:qH)(g:Str->Lx Lv)(H:Hp):D->V->Prop
 | .non,v=>v=.non| .bl b,v=>v=.bl b| .int i,v=>v=.int i| .str x,v=>v=.str x| .t ds,v=>∃a Y,v=.ref a/\SqT K H a Y/\Reps K g H ds Y| .l ds,v=>∃a Y,v=.ref a/\SqL K H a Y/\Reps K g H ds Y| .fn x,v=>∃f,v=.ref f/\g x=some (.ref f)| .dic,v=>∃a,v=.ref a/\H a=some (.dK [])| .exn c vs,v=>∃a C,v=.ref a/\g c=some (.ref C)/\((vs=[]/\H a=some (ExO C a))\/∃d,H a=some (ExA C d a)/\H d=some (XD d (fsV c vs)))| .m ks vs,v=>∃a E,v=.ref a/\zEw H a E/\ks=E.map (·.1)/\(∀e∈E,SqT K H e.2.1 (e.1.map oV))/\Reps K g H vs (E.map (·.2.2))
def Reps(K:qH)(g:Str->Lx Lv)(H:Hp):Ls D->Ls V->Prop
 | [],W=>W=[]|d::ds,W=>∃v r,W=v::r/\Rep K g H d v/\Reps K g H ds r
end
section
variable{K:qH}{mg:Str->Lx Lv}{H H':Hp}
def zf{a:Lz}{xs:Ls V}(e:Yr H H')(h:SqT K H a xs):SqT K H' a xs:=by
 rcases h with(h|⟨o,h⟩)|h
 ·exact .inl (.inl (e _ _ h))
 ·exact .inl (.inr ⟨o,e _ _ h⟩)
 ·exact .inr h
mutual
theorem Rep.mono(e:Yr H H'):∀{d:D} {v:V},Rep K mg H d v->Rep K mg H' d v
 | .non,_,h=>by simpa only[Rep]using h| .bl _,_,h=>by simpa only[Rep]using h| .int _,_,h=>by simpa only[Rep]using h| .str _,_,h=>by simpa only[Rep]using h
 | .t P,_,h=>by
  obtain⟨a,Y,L,h2,M⟩:=h;exact⟨a,Y,L,zf e h2,Reps.mono e M⟩
 | .l P,_,h=>by
  obtain⟨a,Y,L,h2,M⟩:=h;exact⟨a,Y,L,e.seq h2,Reps.mono e M⟩
 | .fn _,_,h=>by simpa only[Rep]using h
 | .dic,_,h=>by
  obtain⟨a,L,h2⟩:=h;exact⟨a,L,e _ _ h2⟩
 | .exn _ _,_,h=>by
  obtain⟨a,C,L,h2,M⟩:=h;refine⟨a,C,L,h2,?_⟩;rcases M with⟨hv,M⟩|⟨d,M,h4⟩
  ·exact .inl ⟨hv,e _ _ M⟩
  ·exact .inr ⟨d,e _ _ M,e _ _ h4⟩
 | .m z W,_,h=>by
  obtain⟨a,E,L,h2,M,h4,h5⟩:=h;exact⟨a,E,L,h2.mono e,M,λx c=>zf e (h4 x c),Reps.mono e h5⟩
theorem Reps.mono(e:Yr H H'):∀{P:Ls D} {W:Ls V},Reps K mg H P W->Reps K mg H' P W
 | [],_,h=>by simpa only[Reps]using h
 |d::P,_,h=>by
  obtain⟨v,r,L,h2,M⟩:=h;exact⟨v,r,L,Rep.mono e h2,Reps.mono e M⟩
end
theorem Reps.length:∀{P:Ls D} {W:Ls V},Reps K mg H P W->W.length=P.length
 | [],_,h=>by dsimp[Reps]at h;subst h;rfl
 |d::P,_,h=>by
  obtain⟨v,r,rfl,h2,M⟩:=h;simp[Reps.length M]
def Reps.nil:Reps K mg H [] []:=by dsimp[Reps]
def Reps.cons{d:D}{v:V}{ds:Ls D}{vs:Ls V}(h:Rep K mg H d v)(t:Reps K mg H ds vs):Reps K mg H (d::ds) (v::vs):=by
 dsimp[Reps];exact⟨v,vs,rfl,h,t⟩
theorem Reps.get:∀{P:Ls D} {W:Ls V} {i:Nat} {v:V},Reps K mg H P W->W[i]?=some v->∃d,P[i]?=some d/\Rep K mg H d v
 | [],_,_,_,h,e=>by dsimp[Reps]at h;subst h;simp at e
 |d::P,_,i,v,h,e=>by
  obtain⟨a,r,rfl,h2,M⟩:=h;cases i with
  |zero=>simp at e;subst e;exact⟨d,rfl,h2⟩|succ i=>simp at e;obtain⟨t,j,S⟩:=Reps.get M e;exact⟨t,by simpa using j,S⟩
theorem Reps.get':∀{P:Ls D} {W:Ls V} {i:Nat} {d:D},Reps K mg H P W->P[i]?=some d->∃v,W[i]?=some v/\Rep K mg H d v
 | [],_,_,_,h,e=>by simp at e
 |d::P,_,i,a,h,e=>by
  obtain⟨t,r,rfl,h2,M⟩:=h;cases i with
  |zero=>simp at e;subst e;exact⟨t,rfl,h2⟩|succ i=>simp at e;obtain⟨v,j,S⟩:=Reps.get' M e;exact⟨v,by simpa using j,S⟩
theorem Reps.append:∀{P E:Ls D} {W k:Ls V},Reps K mg H P W->Reps K mg H E k->Reps K mg H (P++E) (W++k)
 | [],_,_,_,h,g=>by dsimp[Reps]at h;subst h;exact g
 |d::P,_,_,_,h,g=>by
  obtain⟨t,r,rfl,h2,M⟩:=h;exact Reps.cons h2 (Reps.append M g)
theorem Reps.set:∀{P:Ls D} {W:Ls V} (i:Nat) {d:D} {v:V},Reps K mg H P W->Rep K mg H d v->Reps K mg H (P.set i d) (W.set i v)
 | [],_,_,_,_,h,g=>by dsimp[Reps]at h;subst h;exact Reps.nil
 |d::P,_,i,_,_,h,g=>by
  obtain⟨t,r,rfl,h2,M⟩:=h;cases i with
  |zero=>exact Reps.cons g M|succ i=>exact Reps.cons h2 (Reps.set i M g)
theorem Reps.take:∀{P:Ls D} {W:Ls V} (n:Nat),Reps K mg H P W->Reps K mg H (P.take n) (W.take n)
 | [],_,_,h=>by dsimp[Reps]at h;subst h;simp[Reps.nil]
 |d::P,_,n,h=>by
  obtain⟨t,r,rfl,h2,M⟩:=h;cases n with
  |zero=>exact Reps.nil|succ n=>exact Reps.cons h2 (Reps.take n M)
theorem Reps.drop:∀{P:Ls D} {W:Ls V} (n:Nat),Reps K mg H P W->Reps K mg H (P.drop n) (W.drop n)
 | [],_,_,h=>by dsimp[Reps]at h;subst h;simp[Reps.nil]
 |d::P,_,n,h=>by
  obtain⟨t,r,rfl,h2,M⟩:=h;cases n with
  |zero=>exact Reps.cons h2 M|succ n=>exact Reps.drop n M
theorem Reps.flatten{ds:Ls D}{vs:Ls V}(h:Reps K mg H ds vs):∀n:Nat,Reps K mg H (replicate n ds).flatten (replicate n vs).flatten
 |0=>Reps.nil|n+1=>by dsimp[replicate_succ,flatten_cons];exact h.append (Reps.flatten h n)
end
open Classical in
def Hm(M:Ld)(H:Hp):Hp:=λb=>if M b then none else H b
section
variable{M M':Ld}{H H':Hp}{b:Lz}{o:HO}
def zp:Hm M H b=some o↔¬M b/\H b=some o:=by
 unfold Hm;by_cases h:M b
 ·simp[h]
 ·simp[h]
def zI:Yr (Hm M H) H:=λb o h=>(zp.mp h).2
def j5(h:∀b,M' b->M b):Yr (Hm M H) (Hm M' H):=λb o e=>zp.mpr ⟨λx=>(zp.mp e).1 (h b x),(zp.mp e).2⟩
end
inductive Slot where
 |e
 |v (d:D)
 |w (ds:List D)
 |p (ds:List D)
 |m (ks:List (List KN)) (vs:List D)
 deriving Inhabited
abbrev zR:=Ls Slot
set_option genInjectivity true in
inductive R where
 |v (d:D)
 |w (ds:List D)
 |m (ks:List (List KN)) (vs:List D)
 deriving Inhabited
def R.slot:R->Slot
 | .v d=>.v d| .w ds=>.w ds| .m ks vs=>.m ks vs
def R.d:R->D
 | .v d=>d| .w ds=>.l ds| .m ks vs=>.m ks vs
inductive Ct where
 |l (ds:List D)
 |d (ks:List (List KN)) (vs:List D)
def Slot.ct?:Slot->Lx Ct
 | .w ds=>some (.l ds)| .p ds=>some (.l ds)| .m ks vs=>some (.d ks vs)|_=>none
def CRep(K:qH)(g:Str->Lx Lv)(H:Hp)(a:Lz):Ct->HO->Prop
 | .l P,o=>∃Y,o=.l Y/\Reps K g H P Y| .d ks vs,o=>∃E,(∃D,o=DicO a E D)/\ks=E.map (·.1)/\(∀e∈E,SqT K H e.2.1 (e.1.map oV))/\Reps K g H vs (E.map (·.2.2))
theorem CRep.mono{K:qH}{g:Str->Lx Lv}{H k:Hp}(e:Yr H k){a:Lz}{o:HO}:∀{c:Ct},CRep K g H a c o->CRep K g k a c o
 | .l P,⟨Y,L,h2⟩=>⟨Y,L,h2.mono e⟩| .d ks vs,⟨es,L,h2,h3,h4⟩=>⟨es,L,h2,λx V=>zf e (h3 x V),h4.mono e⟩
def Slot.list?:Slot->Lx (Ls D)
 | .w ds=>some ds| .p ds=>some ds|_=>none
abbrev Fz:=Ls (Lx V×Slot)
def QX:Lx V×Slot->Lx Lz
 | (some (.ref a),.w _)=>some a| (some (.ref a),.p _)=>some a| (some (.ref a),.m _ _)=>some a|_=>none
def yN(Z:Fz):Ls Lz:=Z.filterMap QX
def Mo(M:Ld)(Z:Fz):Ld:=λb=>M b\/b∈yN Z
def zY(Z T:Fz):yN (Z++T)=yN Z++yN T:=List.filterMap_append
def zq(o:Lx V)(d:D)(Z:Fz):yN ((o,.v d)::Z)=yN Z:=by
 unfold yN;cases o with
 |none=>rfl
 |some v=>cases v<;>rfl
def uC(a:Lz)(ds:Ls D)(Z:Fz):yN ((some (.ref a),.w ds)::Z)=a::yN Z:=rfl
def ye(o:Lx V)(Z:Fz):yN ((o,.e)::Z)=yN Z:=by
 unfold yN;cases o with
 |none=>rfl
 |some v=>cases v<;>rfl
def y9(M:Ld)(T Z:Fz):Mo M (T++Z)=Mo (Mo M T) Z:=by
 funext b
 apply propext;dsimp[Mo,zY,mem_append];constructor
 ·rintro (h|h|h)
  ·exact .inl (.inl h)
  ·exact .inl (.inr h)
  ·exact .inr h
 ·rintro ((h|h)|h)
  ·exact .inl h
  ·exact .inr (.inl h)
  ·exact .inr (.inr h)
def uD{M:Ld}{T Z:Fz}(p:T.Perm Z):Mo M T=Mo M Z:=by
 funext b
 apply propext;dsimp[Mo,yN];rw[(p.filterMap QX).mem_iff]
def vY(M:Ld)(o:Lx V)(d:D)(Z:Fz):Mo M ((o,.v d)::Z)=Mo M Z:=by unfold Mo;rw[zq]
def Mo_emp(M:Ld)(o:Lx V)(Z:Fz):Mo M ((o,.e)::Z)=Mo M Z:=by unfold Mo;rw[ye]
structure FR(K:qH)(mg:Str->Ln)(M:Ld)(H:Hp)(Z:Fz):Prop where
 val:∀o d,(o,Slot.v d)∈Z->∃v,o=some v/\Rep K mg (Hm (Mo M Z) H) d v
 own:∀o s c,(o,s)∈Z->s.ct?=some c->∃a ho,o=some (.ref a)/\H a=some ho/\¬M a/\CRep K mg (Hm (Mo M Z) H) a c ho
 nd:(yN Z).Nodup
 mal:∀b,M b->∃o,H b=some o/\OwnK o
structure Step(M:Ld)(H:Hp)(Z:Fz)(H':Hp)(Z':Fz):Prop where
 same:Yr (Hm (Mo M Z) H) (Hm (Mo M Z') H')
 keep:∀b o,M b->H b=some o->H' b=some o
section
variable{K:qH}{mg:Str->Lx Lv}{M:Ld}{H H' H1 H2:Hp}{Z Z' T Z1 Z2:Fz}
theorem Step.refl:Step M H Z H Z:=⟨Yr.refl _,λ_ _ _ h=>h⟩
theorem Step.trans(a:Step M H Z H1 Z1)(b:Step M H1 Z1 H2 Z2):Step M H Z H2 Z2 :=
 ⟨a.same.trans b.same,λx o m h=>b.keep x o m (a.keep x o m h)⟩
def J4(h:∀b,b∈yN Z->b∈yN Z'):∀b,Mo M Z b->Mo M Z' b:=λb q=>q.elim .inl λq=>.inr (h b q)
def Step.weak(a:Step M H Z H' Z')(h:∀b,b∈yN T->b∈yN Z'):Step M H Z H' T :=
 ⟨a.same.trans (j5 (J4 h)),a.keep⟩
def Step.left(a:Step M H Z H' Z')(h:∀b,b∈yN Z->b∈yN T):Step M H T H' Z' :=
 ⟨(j5 (J4 h)).trans a.same,a.keep⟩
def zC(h:T.Sublist Z):∀b,b∈yN T->b∈yN Z:=λb q=>(h.filterMap QX).subset q
def zD(h:T.Perm Z):∀b,b∈yN T->b∈yN Z:=λb q=>(h.filterMap QX).subset q
def FR.perm(h:FR K mg M H Z)(p:Z.Perm T):FR K mg M H T where
 val:=λo d q=>by rw[<- uD p];exact h.val o d (p.mem_iff.mpr q)
 own:=λo s P q e=>by rw[<- uD p];exact h.own o s P (p.mem_iff.mpr q) e
 nd:=(p.filterMap QX).nodup_iff.mp h.nd
 mal:=h.mal
def FR.sub(h:FR K mg M H Z)(p:T.Sublist Z):FR K mg M H T where
 val:=λo d q=>by
  obtain⟨v,e,r⟩:=h.val o d (p.subset q);exact⟨v,e,r.mono (j5 (J4 (zC p)))⟩
 own:=λo s P q e=>by
  obtain⟨a,Y,R,w,l,r⟩:=h.own o s P (p.subset q) e;exact⟨a,Y,R,w,l,r.mono (j5 (J4 (zC p)))⟩
 nd:=h.nd.sublist (p.filterMap QX)
 mal:=h.mal
def FR.tail{x:Lx V×Slot}(h:FR K mg M H (x::Z)):FR K mg M H Z:=h.sub (sublist_cons_self _ _)
def zCQ{s:Slot}{ds:Ls D}(e:s.list?=some ds):s.ct?=some (.l ds):=by
 cases s<;>first|(cases e;rfl)|(cases e)
def FR.ownL(h:FR K mg M H Z)(o:Lx V)(s:Slot)(ds:Ls D)(m:(o,s)∈Z)(e:s.list?=some ds):∃a xs,o=some (.ref a)/\H a=some (.l xs)/\¬M a/\Reps K mg (Hm (Mo M Z) H) ds xs:=by
 obtain⟨a,ho,R,w,l,xs,rfl,r⟩:=h.own o s _ m (zCQ e);exact⟨a,xs,R,w,l,r⟩
def wj{o:Lx V}{s:Slot}{c:Ct}{a:Lz}(h:(o,s)∈Z)(e:s.ct?=some c)(L:o=some (.ref a)):a∈yN Z:=by
 subst L;refine mem_filterMap.mpr ⟨_,h,?_⟩;cases s<;>simp[Slot.ct?]at e<;>rfl
def QY{o:Lx V}{s:Slot}{ds:Ls D}{a:Lz}(h:(o,s)∈Z)(e:s.list?=some ds)(L:o=some (.ref a)):a∈yN Z:=wj h (zCQ e) L
def QZ{a:Lz}(h:a∈yN Z):∃s c,(some (V.ref a),s)∈Z/\Slot.ct? s=some c:=by
 obtain⟨⟨o,s⟩,L,h2⟩:=mem_filterMap.mp h;unfold QX at h2;split at h2
 ·rename_i e;cases e;cases h2;exact⟨_,_,L,rfl⟩
 ·rename_i e;cases e;cases h2;exact⟨_,_,L,rfl⟩
 ·rename_i e;cases e;cases h2;exact⟨_,_,L,rfl⟩
 ·cases h2
def CRep.own{K:qH}{g:Str->Lx Lv}{H:Hp}{a:Lz}{o:HO}:∀{c:Ct},CRep K g H a c o->OwnK o
 | .l _,⟨Y,h,_⟩=>.inl ⟨Y,h⟩| .d _ _,⟨es,⟨_,h⟩,_⟩=>.inr ⟨_,h⟩
def FR.ownAt(h:FR K mg M H Z){a:Lz}(e:a∈yN Z):∃o,H a=some o/\¬M a/\OwnK o:=by
 obtain⟨s,c,L,h2⟩:=QZ e;obtain⟨j,o,R,w,l,r⟩:=h.own _ s c L h2;cases R;exact⟨o,w,l,r.own⟩
def FR.moAl(h:FR K mg M H Z)(b:Lz)(e:Mo M Z b):∃o,H b=some o/\OwnK o:=by
 rcases e with e|e
 ·exact h.mal b e
 ·obtain⟨Y,q,_,z⟩:=h.ownAt e
  exact⟨_,q,z⟩
def FR.inner(h:FR K mg M H (T++Z)):FR K mg (Mo M T) H Z where
 val:=λo d q=>by rw[<- y9];exact h.val o d (qK _ q)
 own:=λo s P q e=>by
  obtain⟨a,Y,R,w,l,r⟩:=h.own o s P (qK _ q) e;refine⟨a,Y,R,w,λm=>?_,by rw[<- y9];exact r⟩;rcases m with m|m
  ·exact l m
  ·have nd:=h.nd
   rw[zY]at nd;exact(nodup_append.mp nd).2.2 a m a (wj q e R) rfl
 nd:=by
  have nd:=h.nd;rw[zY]at nd;exact(nodup_append.mp nd).2.1
 mal:=λb q=>by
  rcases q with q|q
  ·exact h.mal b q
  ·obtain⟨Y,q,_,z⟩:=h.ownAt (a:=b) (by rw[zY];exact mem_append_left _ q)
   exact⟨_,q,z⟩
def FR.outer(h:FR K mg M H (T++Z))(g:FR K mg (Mo M T) H' Z')(st:Step (Mo M T) H Z H' Z'):FR K mg M H' (T++Z') where
 val:=λo d q=>by
  rw[y9];rcases mem_append.mp q with q|q
  ·obtain⟨v,e,r⟩:=h.val o d (mem_append_left _ q)
   rw[y9]at r;exact⟨v,e,r.mono st.same⟩
  ·exact g.val o d q
 own:=λo s P q e=>by
  rw[y9];rcases mem_append.mp q with q|q
  ·obtain⟨a,Y,R,w,l,r⟩:=h.own o s P (mem_append_left _ q) e
   rw[y9]at r;exact⟨a,Y,R,st.keep a _ (.inr (wj q e R)) w,l,r.mono st.same⟩
  ·obtain⟨a,Y,R,w,l,r⟩:=g.own o s P q e
   exact⟨a,Y,R,w,λm=>l (.inl m),r⟩
 nd:=by
  rw[zY];have nd:=h.nd;rw[zY]at nd;refine nodup_append.mpr ⟨(nodup_append.mp nd).1,g.nd,λa c b J e=>?_⟩;subst e;obtain⟨Y,_,q,_⟩:=g.ownAt J;exact q (.inr c)
 mal:=λb q=>g.mal b (.inl q)
def Step.outer(st:Step (Mo M T) H Z H' Z'):Step M H (T++Z) H' (T++Z') :=
 ⟨by rw[y9,y9];exact st.same,λb o m h=>st.keep b o (.inl m) h⟩
def jA{p:Lz}{o:HO}(G:H p=none):Yr H (upd H p o):=λb u e=>by
 rw[ze (λq=>by subst q;rw[G]at e;cases e)];exact e
def FR.grow(h:FR K mg M H Z){p:Lz}{o:HO}(G:H p=none):FR K mg M (upd H p o) Z where
 val:=λc d q=>by
  obtain⟨v,e,r⟩:=h.val c d q;exact⟨v,e,r.mono λb u x=>zp.mpr ⟨(zp.mp x).1,jA G b u (zp.mp x).2⟩⟩
 own:=λc s P q e=>by
  obtain⟨a,Y,R,w,l,r⟩:=h.own c s P q e;exact⟨a,Y,R,jA G _ _ w,l,r.mono λb u x=>zp.mpr ⟨(zp.mp x).1,jA G b u (zp.mp x).2⟩⟩
 nd:=h.nd
 mal:=λb q=>by obtain⟨u,e,z⟩:=h.mal b q;exact⟨u,jA G _ _ e,z⟩
def Step.grow{p:Lz}{o:HO}(G:H p=none):Step M H Z (upd H p o) Z :=
 ⟨λb u x=>zp.mpr ⟨(zp.mp x).1,jA G b u (zp.mp x).2⟩,λb u _ e=>jA G b u e⟩
def FR.add(h:FR K mg M H Z){v:V}{d:D}(r:Rep K mg (Hm (Mo M Z) H) d v):FR K mg M H ((some v,.v d)::Z) where
 val:=λo t q=>by
  rw[vY];rcases mem_cons.mp q with q|q
  ·cases q;exact⟨v,rfl,r⟩
  ·exact h.val o t q
 own:=λo s P q e=>by
  rw[vY];rcases mem_cons.mp q with q|q
  ·cases q;cases e
  ·exact h.own o s P q e
 nd:=by rw[zq];exact h.nd
 mal:=h.mal
def Step.add{v:Lx V}{d:D}(st:Step M H Z H' Z'):Step M H Z H' ((v,.v d)::Z'):=by
 refine⟨?_,st.keep⟩;rw[vY];exact st.same
def Zt(h:FR K mg M H Z){p:Lz}(G:H p=none):¬Mo M Z p:=λq=>by
 obtain⟨o,e,_⟩:=h.moAl p q;rw[G]at e;cases e
def wk(h:FR K mg M H Z){p:Lz}{ds:Ls D}{xs:Ls V}(G:H p=none):Yr (Hm (Mo M Z) H) (Hm (Mo M ((some (.ref p),.w ds)::Z)) (upd H p (.l xs))):=λb u x=>by
 obtain⟨L,h2⟩:=zp.mp x;refine zp.mpr ⟨λq=>?_,jA G _ _ h2⟩;rcases q with q|q
 ·exact L (.inl q)
 ·rw[uC]at q
  rcases mem_cons.mp q with q|q
  ·subst q;rw[G]at h2;cases h2
  ·exact L (.inr q)
def FR.newOwn(h:FR K mg M H Z){p:Lz}{ds:Ls D}{xs:Ls V}(G:H p=none)(r:Reps K mg (Hm (Mo M Z) H) ds xs):FR K mg M (upd H p (.l xs)) ((some (.ref p),.w ds)::Z) where
 val:=λo d q=>by
  rcases mem_cons.mp q with q|q
  ·cases q
  ·obtain⟨v,e,r⟩:=h.val o d q
   exact⟨v,e,r.mono (wk h G)⟩
 own:=λo s t q e=>by
  rcases mem_cons.mp q with q|q
  ·cases q;cases e
   exact⟨p,_,rfl,ja,λm=>Zt h G (.inl m),xs,rfl,r.mono (wk h G)⟩
  ·obtain⟨a,J,R,w,l,r⟩:=h.own o s t q e
   exact⟨a,J,R,jA G _ _ w,l,r.mono (wk h G)⟩
 nd:=by
  exact nodup_cons.mpr ⟨λq=>Zt h G (.inr q),h.nd⟩
 mal:=λb q=>by obtain⟨u,e,z⟩:=h.mal b q;exact⟨u,jA G _ _ e,z⟩
def Step.newOwn(h:FR K mg M H Z){p:Lz}{ds:Ls D}{xs:Ls V}(G:H p=none):Step M H Z (upd H p (.l xs)) ((some (.ref p),.w ds)::Z) :=
 ⟨wk h G,λb u _ e=>jA G b u e⟩
def FR.newTup(h:FR K mg M H Z){p:Lz}{ds:Ls D}{xs:Ls V}(G:H p=none)(r:Reps K mg (Hm (Mo M Z) H) ds xs):FR K mg M (upd H p (.t xs)) ((some (.ref p),.v (.t ds))::Z):=by
 refine(h.grow G).add ?_;refine⟨p,xs,rfl,SqT.of (zp.mpr ⟨Zt h G,ja⟩),r.mono λb u x=>zp.mpr ⟨(zp.mp x).1,jA G b u (zp.mp x).2⟩⟩
def Step.newVal{p:Lz}{o:HO}{v:Lx V}{d:D}(G:H p=none):Step M H Z (upd H p o) ((v,.v d)::Z):=(Step.grow G).add
def FR.frz{o:Lx V}{r:R}(h:FR K mg M H ((o,r.slot)::Z)):FR K mg M H ((o,.v r.d)::Z):=by
 cases r with
 |v d=>exact h
 |w P =>
  obtain⟨a,Y,e,c,l,j⟩:=h.ownL o (.w P) P qE rfl;subst e;have D:¬Mo M Z a:=λq=>by
   rcases q with q|q
   ·exact l q
   ·exact(nodup_cons.mp h.nd).1 q
  refine h.tail.add ?_;exact⟨a,Y,rfl,SqL.of (zp.mpr ⟨D,c⟩),j.mono (j5 (J4 (zC (sublist_cons_self _ _))))⟩
 |m z W =>
  obtain⟨a,ho,e,c,l,E,⟨k,rfl⟩,T,C,g⟩:=h.own o (.m z W) (.d z W) qE rfl;subst e;have D:¬Mo M Z a:=λq=>by
   rcases q with q|q
   ·exact l q
   ·exact(nodup_cons.mp h.nd).1 q
  refine h.tail.add ?_;have G:=j5 (H:=H) (J4 (M:=M) (zC (sublist_cons_self ((some (V.ref a),Slot.m z W)) Z)));exact⟨a,E,rfl,⟨k,zp.mpr ⟨D,c⟩⟩,T,λx i=>zf G (C x i),g.mono G⟩
def Step.frz{o:Lx V}{r:R}(h:Step M H Z H' ((o,r.slot)::Z')):Step M H Z H' ((o,.v r.d)::Z'):=by
 cases r with
 |v d=>exact h
 |w P =>
  refine h.weak λb q=>?_
  rw[zq]at q;exact(zC (sublist_cons_self _ _)) b q
 |m z W =>
  refine h.weak λb q=>?_
  rw[zq]at q;exact(zC (sublist_cons_self _ _)) b q
theorem uE:∀(O:St) (E:zR) (i:Nat) (o:Lx V) (s:Slot),(O.set i o).zip (E.set i s)=(O.zip E).set i (o,s)
 | [],_,_,_,_=>by simp|_::_,[],_,_,_=>by simp|x::O,y::E,0,o,s=>by simp|x::O,y::E,i+1,o,s=>by simp[uE O E i o s]
theorem za{α:Type}(x:α):∀(l:Ls α) (i:Nat),i<l.length->(l.set i x).Perm (x::l.eraseIdx i)
 | [],_,h=>by simp at h|y::l,0,_=>List.Perm.refl _
 |y::l,i+1,h=>by
  have I:=za x l i (by exists h);exact(I.cons y).trans (List.Perm.swap x y _)
def FR.put(h:FR K mg M H (((o:Lx V),s)::Z)){i:Nat}(W:i<Z.length):FR K mg M H (Z.set i (o,s)) :=
 (h.sub ((List.eraseIdx_sublist Z i).cons_cons (o,s))).perm (za _ _ _ W).symm
def Step.put{o:Lx V}{s:Slot}(h:Step M H Z H' ((o,s)::Z')){i:Nat}(W:i<Z'.length):Step M H Z H' (Z'.set i (o,s)):=by
 refine h.weak λb q=>?_
 exact zC ((List.eraseIdx_sublist Z' i).cons_cons (o,s)) b (zD (za _ _ _ W) b q)
end
inductive Out(α:Type) where
 |z
 |ok (a:α)
 |y (x:Exn) (E:zR)
 deriving Inhabited
abbrev ME:=zR->Out (R×zR)
abbrev MA:=zR->Out (Ls R×zR)
abbrev MT:=zR->Out (Bool×zR)
def PKp(O:St)(E:zR)(e:St)(E':zR):Prop:=∀(i:Nat) P,E[i]?=some (.p P)->(∃t,E'[i]?=some (.p t))/\e[i]?=O[i]?
def PKp.refl{O:St}{E:zR}:PKp O E O E:=λi P h=>⟨⟨P,h⟩,rfl⟩
theorem PKp.trans{O O1 c:St}{E E1 E2:zR}(a:PKp O E O1 E1)(b:PKp O1 E1 c E2):PKp O E c E2:=λi P h=>by
 obtain⟨⟨e,L⟩,R⟩:=a i P h;obtain⟨h2,w⟩:=b i e L;exact⟨h2,w.trans R⟩
structure Got(K:qH)(mg:Str->Ln)(M:Ld)(O:St)(E:zR)(H:Hp)(T0:Fz)(O':St)(E':zR)(H':Hp)(T:Fz):Prop where
 len:E'.length=O'.length
 fr:FR K mg M H' (T++(T0++O'.zip E'))
 st:Step M H (T0++O.zip E) H' (T++(T0++O'.zip E'))
 pk:PKp O E O' E'
def zCR(vs:Ls V)(rs:Ls R):Fz:=(vs.zip rs).map λp=>(some p.1,p.2.slot)
def KM(X:Cx)(M:Ld)(O:St)(E:zR)(H:Hp)(T0:Fz)(Q:VK):Out (R×zR)->Prop
 | .z=>False| .ok (r,E')=>∀v H',Got X.K X.mg M O E H T0 O E' H' [(some v,r.slot)]->Q v H'| .y x E'=>∀H',Got X.K X.mg M O E H T0 O E' H' []->XE X O H' x
def KT(X:Cx)(M:Ld)(O:St)(E:zR)(H:Hp)(T0:Fz)(Q:Bool->Hp->Prop):Out (Bool×zR)->Prop
 | .z=>False| .ok (b,E')=>∀H',Got X.K X.mg M O E H T0 O E' H' []->Q b H'| .y x E'=>∀H',Got X.K X.mg M O E H T0 O E' H' []->XE X O H' x
def KA(X:Cx)(M:Ld)(O:St)(E:zR)(H:Hp)(T0:Fz)(Q:Ls V->Hp->Prop):Out (Ls R×zR)->Prop
 | .z=>False| .ok (rs,E')=>∀W H',W.length=rs.length->Got X.K X.mg M O E H T0 O E' H' (zCR W rs)->Q W H'| .y x E'=>∀H',Got X.K X.mg M O E H T0 O E' H' []->XE X O H' x
def tM(X:Cx)(m:ME):TE:=λO H Q=>∃M E,E.length=O.length/\FR X.K X.mg M H (O.zip E)/\KM X M O E H [] Q (m E)
def tMT(X:Cx)(m:MT):TT:=λO H Q=>∃M E,E.length=O.length/\FR X.K X.mg M H (O.zip E)/\KT X M O E H [] Q (m E)
def tMA(X:Cx)(m:MA):TA:=λO H Q=>∃M E,E.length=O.length/\FR X.K X.mg M H (O.zip E)/\KA X M O E H [] Q (m E)
abbrev EOk(X:Cx)(e:Lb)(m:ME):Prop:=PE X e (tM X m)
abbrev TOk(X:Cx)(e:Lb)(m:MT):Prop:=PT X e (tMT X m)
abbrev AOk(X:Cx)(es:Ls Lb)(m:MA):Prop:=PA X es (tMA X m)
def yA{X:Cx}{e:Lb}{t t':TE}(h:PE X e t)(i:∀O H Q,t' O H Q->t O H Q):PE X e t':=λG s O H Q I q=>h G s O H Q I (i O H Q q)
def zAR{X:Cx}{e:Lb}{t t':TT}(h:PT X e t)(i:∀O H Q,t' O H Q->t O H Q):PT X e t':=λG s O H Q I q=>h G s O H Q I (i O H Q q)
def zGd{X:Cx}{e:Lb}{t t':TT}(h:PW X e t)(i:∀O H Q,t' O H Q->t O H Q):PW X e t':=λw G s O H Q I q=>h w G s O H Q I (i O H Q q)
def GW{X:Cx}{e:Ls Lb}{t t':TA}(h:PA X e t)(i:∀O H Q,t' O H Q->t O H Q):PA X e t':=λp G s O H Q I q=>h p G s O H Q I (i O H Q q)
def jf{X:Cx}{e:Lf}{t t':TS}(h:PS X e t)(i:∀D O H,t' D O H->t D O H):PS X e t':=λG s O H D I q=>h G s O H D I (i D O H q)
def zCS{X:Cx}{e:Ls Lf}{t t':TS}(h:PSs X e t)(i:∀D O H,t' D O H->t D O H):PSs X e t':=λG s O H D I q=>h G s O H D I (i D O H q)
section
variable{X:Cx}{K:qH}{mg:Str->Lx Lv}{M:Ld}{O O' O1 O2:St}{E E' E1 E2:zR}{H H' H1 H2:Hp}{T0 T T1 T2:Fz}{Q:VK}
def swapP{α:Type}(A B C:Ls α):(A++(B++([]++C))).Perm (B++(A++C)):=by
 rw[nil_append,<- append_assoc,<- append_assoc];exact(perm_append_comm).append_right _
def Jj{α:Type}{l:Ls α}{i:Nat}{x:α}(h:l[i]?=some x):l.set i x=l:=by
 obtain⟨W,rfl⟩:=qG.mp h;exact List.set_getElem_self W
theorem Got.outer(h:FR K mg M H (T0++O.zip E))(g:Got K mg (Mo M T0) O E H [] O' E' H' T):Got K mg M O E H T0 O' E' H' T where
 len:=g.len
 fr:=by
  have q:=FR.outer h g.fr g.st;exact q.perm (swapP _ _ _)
 st:=by
  have q:=Step.outer g.st;refine q.weak λb J=>?_
  exact zD (swapP _ _ _).symm b J
 pk:=g.pk
theorem Got.trans(a:Got K mg M O E H T0 O1 E1 H1 T1)(b:Got K mg M O1 E1 H1 (T1++T0) O2 E2 H2 T2):Got K mg M O E H T0 O2 E2 H2 (T2++T1) where
 len:=b.len
 fr:=by
  have q:=b.fr;rw[append_assoc]at q;rw[append_assoc];exact q
 st:=by
  have q:=b.st;rw[append_assoc,append_assoc]at q;rw[append_assoc];exact a.st.trans q
 pk:=a.pk.trans b.pk
def Got.drop(a:Got K mg M O E H T0 O1 E1 H1 (T2++T1)):Got K mg M O E H T0 O1 E1 H1 T1 where
 len:=a.len
 fr:=a.fr.sub (by rw[append_assoc];exact sublist_append_right _ _)
 st:=a.st.weak (zC (by rw[append_assoc];exact sublist_append_right _ _))
 pk:=a.pk
def Got.dropAll(a:Got K mg M O E H T0 O1 E1 H1 T1):Got K mg M O E H T0 O1 E1 H1 [] where
 len:=a.len
 fr:=a.fr.sub (sublist_append_right _ _)
 st:=a.st.weak (zC (sublist_append_right _ _))
 pk:=a.pk
def Got.trans'(a:Got K mg M O E H [] O1 E1 H1 T1)(b:Got K mg M O1 E1 H1 T1 O2 E2 H2 T2):Got K mg M O E H [] O2 E2 H2 (T2++T1):=a.trans (by rw[append_nil];exact b)
theorem Got.refl(c:E.length=O.length)(h:FR K mg M H (T0++O.zip E)):Got K mg M O E H T0 O E H []:=⟨c,h,Step.refl,PKp.refl⟩
def Got.more(a:Got K mg M O E H [] O1 E1 H1 T1)(f:FR K mg M H2 (T++O1.zip E1))(s:Step M H1 (O1.zip E1) H2 (T++O1.zip E1)):Got K mg M O E H [] O1 E1 H2 T where
 len:=a.len
 fr:=f
 st:=(a.st.weak (zC (sublist_append_right _ _))).trans s
 pk:=a.pk
def Got.frame(a:Got K mg M O E H [] O1 E1 H1 T1):FR K mg M H1 (O1.zip E1):=a.fr.sub (sublist_append_right _ _)
def zBQ(v:V)(r:R)(vs:Ls V)(rs:Ls R):zCR (v::vs) (r::rs)=(some v,r.slot)::zCR vs rs:=rfl
theorem zCT:∀{W:Ls V} {w:Ls R} {Z:Fz},W.length=w.length->FR K mg M H (zCR W w++Z)->Reps K mg (Hm (Mo M Z) H) (w.map R.d) W
 | [],[],Z,_,h=>Reps.nil
 |v::W,r::w,Z,hl,h=>by
  rw[zBQ,cons_append]at h;refine Reps.cons ?_ (zCT (by exists hl) h.tail);obtain⟨t,e,q⟩:=h.frz.val (some v) r.d qE;cases e;refine q.mono (j5 (J4 λb J=>?_));rw[zq,zY];exact qK _ J
def Got.reps{vs:Ls V}{rs:Ls R}(c:vs.length=rs.length)(a:Got K mg M O E H [] O1 E1 H1 (zCR vs rs)):Reps K mg (Hm (Mo M (O1.zip E1)) H1) (rs.map R.d) vs:=zCT c a.fr
def Got.rep{v:V}{r:R}(a:Got K mg M O E H [] O1 E1 H1 [(some v,r.slot)]):Rep K mg (Hm (Mo M (O1.zip E1)) H1) r.d v:=by
 have q:=Got.reps (vs:=[v]) (rs:=[r]) rfl a;obtain⟨t,T,e,h,_⟩:=q;cases e;exact h
def zo{m:ME}(c:E.length=O.length)(h:FR X.K X.mg M H (T0++O.zip E))
  (k:KM X M O E H T0 Q (m E)):tM X m O H Q:=by
 refine⟨Mo M T0,E,c,h.inner,?_⟩;cases e:m E with
 |z=>rw[e]at k;exact k|ok a=>rw[e]at k;exact λv H' g=>k v H' (g.outer h)|y x E'=>rw[e]at k;exact λH' g=>k H' (g.outer h)
def JM{m:MT}{Q:Bool->Hp->Prop}(c:E.length=O.length)(h:FR X.K X.mg M H (T0++O.zip E))
  (k:KT X M O E H T0 Q (m E)):tMT X m O H Q:=by
 refine⟨Mo M T0,E,c,h.inner,?_⟩;cases e:m E with
 |z=>rw[e]at k;exact k|ok a=>rw[e]at k;exact λH' g=>k H' (g.outer h)|y x E'=>rw[e]at k;exact λH' g=>k H' (g.outer h)
def JN{m:MA}{Q:Ls V->Hp->Prop}(c:E.length=O.length)(h:FR X.K X.mg M H (T0++O.zip E))
  (k:KA X M O E H T0 Q (m E)):tMA X m O H Q:=by
 refine⟨Mo M T0,E,c,h.inner,?_⟩;cases e:m E with
 |z=>rw[e]at k;exact k|ok a=>rw[e]at k;exact λW H' hv g=>k W H' hv (g.outer h)|y x E'=>rw[e]at k;exact λH' g=>k H' (g.outer h)
def eC(d:D):ME:=λE=>.ok (.v d,E)
def flat:D->Bool
 | .non | .bl _ | .int _ | .str _=>true
 |_=>false
def flV:D->V
 | .bl b=>.bl b| .int i=>.int i| .str x=>.str x|_=>.non
def zAS{d:D}(h:flat d=true):Rep K mg H d (flV d):=by
 cases d<;>simp[flat]at h<;>simp[Rep,flV]
theorem Got.flat(a:Got K mg M O E H [] O1 E1 H1 T1){d:D}(h:flat d=true):Got K mg M O E H [] O1 E1 H1 [(some (flV d),.v d)] :=
 a.more (a.frame.add (zAS h)) Step.refl.add
def ok_c{e:Lb}{d:D}(h:PE X e (tC (flV d)))(t:flat d=true:=by rfl):EOk X e (eC d):=yA h λO H Q ⟨M,E,hl,f,k⟩ =>
 k (flV d) H ((Got.refl (T0:=[]) hl f).flat t)
def ok_int{i j pos}:EOk X (.Constant (.int i) j pos) (eC (.int i)):=ok_c pe_int
def ok_bl{b j pos}:EOk X (.Constant (.bool b) j pos) (eC (.bl b)):=ok_c pe_bl
def ok_non{j pos}:EOk X (.Constant .none j pos) (eC .non):=ok_c pe_non
def ok_str{x j pos}:EOk X (.Constant (.str x) j pos) (eC (.str x)):=ok_c pe_str
def ok_fn{x:Str}{f:Lz}{y:Pos}(n:Gl X x)(K:X.mg x=some (.ref f))(j:(x==("__debug__":Str))=false:=by decide):EOk X (.Name x y) (eC (.fn x)) :=
 yA (QR (v:=.ref f) n K rfl j) λO H Q ⟨M,E,hl,fr,k⟩=>k _ H ((Got.refl (T0:=[]) hl fr).more (T:=[(some (.ref f),.v (.fn x))]) (FR.add fr (by dsimp[Rep];exact⟨f,rfl,K⟩)) Step.refl.add)
def vZ(i:Nat):ME:=λE=>match E[i]? with
 |some (.v d)=>.ok (.v d,E)|some (.w ds)=>.ok (.v (.l ds),E.set i (.v (.l ds)))|some (.m ks vs)=>.ok (.v (.m ks vs),E.set i (.v (.m ks vs)))|_=>.z
def JO{i:Nat}{s:Slot}(c:E.length=O.length)(h:E[i]?=some s):∃o,O[i]?=some o/\(O.zip E)[i]?=some (o,s):=by
 have W:i<E.length:=(qG.mp h).1;have:i<O.length:=c▸W;refine⟨O[i],by simp[this],?_⟩;rw[List.getElem?_zip_eq_some];exact⟨by simp[this],h⟩
def wm{i:Nat}{s:Slot}(c:E.length=O.length)(h:E[i]?=some s):∃o,O[i]?=some o/\(o,s)∈O.zip E:=by
 obtain⟨o,L,h2⟩:=JO c h;exact⟨o,L,mem_of_getElem? h2⟩
def zk{i:Nat}{o:Lx V}(s:Slot)(h:O[i]?=some o):O.zip (E.set i s)=(O.zip E).set i (o,s):=by
 rw[<- uE];congr 1;have W:i<O.length:=(qG.mp h).1;apply List.ext_getElem?;intro j;by_cases e:i=j
 ·subst e;rw[getElem?_set_self W,h]
 ·rw[getElem?_set_ne e]
def zAT{i:Nat}{s:Slot}{ds0:Ls D}(h:E[i]?=some s)(S:∀P,s≠.p P)(o:Slot):PKp O E O (E.set i o):=λj P e=>by
 have r:i≠j:=λq=>by subst q;rw[h]at e;exact S P (qJ e)
 exact⟨⟨P,by rw[getElem?_set_ne r];exact e⟩,rfl⟩
def ok_var(i:Nat){x:Str}{y:Pos}(h:PE X (.Name x y) (zBt i)):EOk X (.Name x y) (vZ i):=yA h λO H Q ⟨M,E,hl,f,k⟩=>by
 unfold vZ at k;cases e:E[i]? with
 |none=>rw[e]at k;exact k.elim
 |some g =>
 rw[e]at k;cases g with
 |e=>exact k.elim|p P=>exact k.elim
 |v d =>
  obtain⟨o,L,h2⟩:=wm hl e;obtain⟨v,rfl,r⟩:=f.val o d h2;exact⟨v,L,k v H ⟨hl,f.add r,Step.refl.add,PKp.refl⟩⟩
 |w P =>
  obtain⟨o,L,h2⟩:=JO hl e;obtain⟨a,Y,rfl,j,S,D⟩:=f.ownL o (.w P) P (mem_of_getElem? h2) rfl;refine⟨.ref a,L,k _ H ?_⟩;have C:i<(O.zip E).length:=(qG.mp h2).1;have p:(O.zip E).Perm ((some (.ref a),R.slot (.w P))::(O.zip E).eraseIdx i):=by
   have:=za (some (V.ref a),Slot.w P) (O.zip E) i C;rw[Jj h2]at this;exact this
  have l:=(f.perm p).frz;have u:FR X.K X.mg M H ((O.zip E).set i (some (.ref a),.v (.l P))):=l.perm (za _ _ _ C).symm;rw[<- zk (.v (.l P)) L]at u;have r:=l.val _ _ qE;obtain⟨v,ev,n⟩:=r;cases ev;have c:Mo M ((some (V.ref a),Slot.v (R.w P).d)::(O.zip E).eraseIdx i)=Mo M (O.zip (E.set i (.v (.l P)))):=by
   rw[zk (.v (.l P)) L];exact(uD (za _ _ _ C)).symm
  rw[c]at n;refine⟨by simp[hl],u.add n,?_,?_⟩
  ·refine Step.add ?_
   refine Step.weak Step.refl λb J=>?_
   refine zD p.symm b ?_;rw[nil_append,zk (.v (.l P)) L]at J;have K:=zD (za _ _ _ C) b J;exact zC (sublist_cons_self _ _) b K
  ·exact zAT (ds0:=[]) e (λt q=>by cases q) _
 |m z W =>
  obtain⟨o,L,h2⟩:=JO hl e;obtain⟨a,ho,rfl,j,S,D⟩:=f.own o (.m z W) (.d z W) (mem_of_getElem? h2) rfl;refine⟨.ref a,L,k _ H ?_⟩;have C:i<(O.zip E).length:=(qG.mp h2).1;have p:(O.zip E).Perm ((some (.ref a),R.slot (.m z W))::(O.zip E).eraseIdx i):=by
   have:=za (some (V.ref a),Slot.m z W) (O.zip E) i C;rw[Jj h2]at this;exact this
  have l:=(f.perm p).frz;have u:FR X.K X.mg M H ((O.zip E).set i (some (.ref a),.v (.m z W))):=l.perm (za _ _ _ C).symm;rw[<- zk (.v (.m z W)) L]at u;have r:=l.val _ _ qE;obtain⟨v,ev,n⟩:=r;cases ev;have c:Mo M ((some (V.ref a),Slot.v (R.m z W).d)::(O.zip E).eraseIdx i)=Mo M (O.zip (E.set i (.v (.m z W)))):=by
   rw[zk (.v (.m z W)) L];exact(uD (za _ _ _ C)).symm
  rw[c]at n;refine⟨by simp[hl],u.add n,?_,?_⟩
  ·refine Step.add ?_
   refine Step.weak Step.refl λb J=>?_
   refine zD p.symm b ?_;rw[nil_append,zk (.v (.m z W)) L]at J;have K:=zD (za _ _ _ C) b J;exact zC (sublist_cons_self _ _) b K
  ·exact zAT (ds0:=[]) e (λt q=>by cases q) _
end
def zU:Lb->Bool
 | .Starred _ _=>true|_=>false
def jB:Ls Lb->Bool
 | []=>true|e::es=>!zU e&&jB es
def zM{e:Lb}{es:Ls Lb}{env:Env}(h:zU e=false):starEach (e::es) env=(false,eval e env)::starEach es env:=by
 cases e<;>first|rfl|(cases h)
def star2{a b:Lb}{env:Env}(P:zU a=false)(J:zU b=false):starEach [a,b] env=[(false,eval a env),(false,eval b env)]:=by
 rw[zM P,zM J];rfl
def Qa{a:Lb}{env:Env}(P:zU a=false):starEach [a] env=[(false,eval a env)]:=by
 rw[zM P];rfl
def jg:Lb->Bool
 | .Set _ _ _=>false|_=>true
def yX{e:Lb}{env:Env}(h:jg e=true):∀x,foldedSetIterable e env x=pure x:=by
 intro x;cases e<;>first|rfl|(cases h)
def WM:Lb->Bool
 | .ListComp _ _ _ _=>false| .SetComp _ _ _ _=>false| .DictComp _ _ _ _ _=>false|_=>true
def uF{e:Lb}{t:Lx Lb}{l:Nat}{env:Env}(h:WM e=true):swapsWith e t l env=pure false:=by
 cases e<;>first|rfl|(cases h)
def zGe:Lb->Bool
 | .UnaryOp .Not _ _=>false| .BoolOp _ _ _=>false| .IfExp _ _ _ _=>false| .Compare _ _ _ _=>false|_=>true
def test_of{e:Lb}{env:Env}(h:zGe e=true):∀w,isTrue e env w=(do let v <- w;standAt e.pos;holding [v] (truthy v)):=by
 intro x;cases e<;>first|rfl|(cases h)|skip;rename_i op _ _;cases op<;>first|rfl|(cases h)
def zCU:Lb->Bool
 | .Slice _ _ _ _=>false|_=>true
def zCV:Lb->Bool
 | .Attribute _ _ _=>false|_=>true
def call_of{i:Lb}{args:Ls Lb}{y:Pos}{env:Env}(h:zCV i=true):eval (.Call i args [] y) env=(do callWith y (<- eval i env) [] (backTo y (starEach args env)) (backToKw y (keywordEach [] env))):=by
 cases i<;>first|rfl|(cases h)
theorem GX{env:Env}:∀{E:Ls Lb},jB E=true->(starEach E env).any (·.1)=false
 | [],_=>rfl
 |e::E,h=>by
  dsimp[jB,Bool.and_eq_true,Bool.not_eq_true']at h;rw[zM h.1];simp[GX h.2]
def zE3(y:Pos)(l:Ls (Bool×Sem Lv)):(backTo y l).any (·.1)=l.any (·.1):=by
 unfold backTo;rw[List.any_map];rfl
def j6{env:Env}{es:Ls Lb}{y:Pos}(h:jB es=true):(backTo y (starEach es env)).any (·.1)=false:=by
 rw[zE3,GX h]
end DV
namespace L2
open PySem PySem.Spec PyProof.Rows
section
variable{X:Cx}
def zGf(K:qH):R2:=λx y H Q=>∃a b Y J,x=.ref a/\y=.ref b/\SqT K H a Y/\SqT K H b J/\Y.length+J.length<=sizeLine /\
 (Y=[]->Q (.ref b) H)/\(Y≠[]->J=[]->Q (.ref a) H)/\(Y≠[]->J≠[]->∀p,H p=none->Q (.ref p) (upd H p (.t (Y++J))))
def zE4:OpR X (binaryOp .Add) (zGf X.K):=by
 intro G s O H x y v u Q I c q h;obtain⟨a,b,Y,p,rfl,rfl,P,J,hz,q0,E,S⟩:=h;cases c;cases q;obtain⟨its,T,t,_⟩:=I.tuple P;obtain⟨e,C,g,_⟩:=I.tuple J;by_cases V:Y=[]
 ·have W:its=[]:=T.nil_iff.mpr V
  obtain⟨⟨r,dd,R,w⟩,ho,Z,n,j⟩:=id t;obtain⟨⟨k,D,l,o⟩,i,M,z,K⟩:=id g;subst Z j M K;exact concat_meets ⟨_,ho,rfl⟩ ⟨_,i,rfl⟩ noFill_tuple_add seq_tuple_add PySem.F.slot_tuple_add PySem.F.entry_tuple_add (PySem.F.args_tuple_add_2 _ _)
   (tuple_addW0 a b its.toArray e.toArray n z dd D w o (by simp[W])) ⟨ho,i,⟨.ref b,H,I,rfl,q0 V⟩⟩
 ·exact op_catT G s O H (.ref a) (.ref b) (.ref a) (.ref b) Q I rfl rfl ⟨a,b,Y,p,rfl,rfl,P,J,V,hz,E V,S V⟩
def rCatL(K:qH):R2:=λx y H Q=>∃l b Y c,x=.ref l/\y=.ref b/\SqL K H l Y/\SqL K H b c/\Y.length+c.length<=sizeLine/\∀p,H p=none->Q (.ref p) (upd H p (.l (Y++c)))
def op_catL:OpR X (binaryOp .Add) (rCatL X.K):=by
 intro G s O H x y v u Q I c V h;obtain⟨l,b,Y,W,rfl,rfl,E,p,hz,q⟩:=h;cases c;cases V;obtain⟨its,r,T,_⟩:=I.list E;obtain⟨e,C,w,_⟩:=I.list p;have hl:=r.length;have S:=C.length;obtain⟨⟨P,dd,R,g⟩,n,ho,Z,J,j⟩:=T;obtain⟨⟨k,D,a,o⟩,z,i,M,L,K⟩:=w;subst Z j M K;refine concat_meets ⟨_,ho,rfl⟩ ⟨_,i,rfl⟩ noFill_list_add seq_list_add PySem.F.slot_list_add PySem.F.entry_list_add (PySem.F.args_list_add_2 _ _) (list_addW l b its.toArray e.toArray n z dd D g o (by rw[size_toArray,size_toArray];lia)) ⟨ho,i,?_⟩;have t:its.toArray++e.toArray=(its++e).toArray:=by simp
 rw[t];exact⟨.ref _,_,I.lnew (t':=s.toks) (r.append C) (by rw[length_append];lia),rfl,q _ I.fresh⟩
def YO{prog:Lc}{w:Le}{A:Lg}{E:Ly}{s:La}{t g:Lz}{p:Lh}{y C:Lv}{z W:Lx Int}{Q:Ly}(V:IsTup s.heap t p)(S:s.heap.IsSliceOf g y C .none)(k:IsPart y z)(J:IsPart C W)
  (L:HT.sIx p.size 0 z=0) (Y:HT.sIx p.size p.size W=p.size)
  (h:Q (.ref t) s):wpAny (model prog w) A (getItem (.ref t) (.ref g)) Q E s:=by
 obtain⟨Z,a,G,c⟩:=id S;have i:s.TypeIs (.ref g) "slice":=⟨Z,a,G⟩;unfold getItem
 try with_reducible refine wpAny_holding ?_
 first|refine qB (qC ?_)|skip
 refine qB (wpAny_sequenceKey V.typeIs (by decide) ?_);refine qB (wpAny_callSpecial?_slot (name:=Str.ofString "__getitem__") V.typeIs PyProof.Rows.slot_tuple_getitem
  (wpAny_call_entry PyProof.Rows.slot_tuple_getitem V.typeIs entry_tuple_getitem ?_ (args_tuple_getitem _ _)))
 show wpAny _ _ (Builtin.Tuple.tupleItemsOf (.ref t) >>= _) _ _ s
 refine qB (tupleItemsOf_ V ?_);refine qB (wpAny_typeOf i ?_);refine qB (HT.sliceApplied_gen S k J ?_);have e:(((HT.sIx p.size 0 z:Nat):Int)==0&&(1:Int)==1&&(HT.sIx p.size p.size W-HT.sIx p.size 0 z)==p.size)=true:=by
  rw[L,Y];simp
 show wpAny _ _ (if(((HT.sIx p.size 0 z:Nat):Int)==0&&(1:Int)==1&&(HT.sIx p.size p.size W-HT.sIx p.size 0 z)==p.size)=true then _ else _) _ _ s
 rw[if_pos e];refine qB (qB (wpAny_typeOf V.typeIs (qC ?_)));exact qB (wpAny_rule (qC ⟨_,rfl,qC h⟩))
def rSlTT(K:qH):V->Lx Int->Lx Int->Hp->VK->Prop:=λx z W H Q=>∃a Y,x=.ref a/\SqT K H a Y /\
 ((HT.sIx Y.length 0 z=0/\HT.sIx Y.length Y.length W=Y.length)->Q (.ref a) H) /\
 (¬(HT.sIx Y.length 0 z=0/\HT.sIx Y.length Y.length W=Y.length)->∀p,H p=none->Q (.ref p) (upd H p (.t (zEs Y z W))))
def sl_tupT:SlR X (rSlTT X.K):=by
 intro G s O H x v y C z W g Q I c S k J h;obtain⟨a,Y,rfl,V,j,e⟩:=h;by_cases R:HT.sIx Y.length 0 z=0/\HT.sIx Y.length Y.length W=Y.length
 ·cases c
  obtain⟨its,r,ht,hz⟩:=I.tuple V;have i:its.toArray.size=Y.length:=by rw[size_toArray];exact r.length.symm
  refine⟨"tuple",_,PyProof.Rows.slot_tuple_getitem.lookup,ht.typeIs,?_⟩;exact YO ht S k J (by rw[i];exact R.1) (by rw[i];exact R.2) ⟨.ref a,H,I,rfl,j R⟩
 ·exact sl_tup G s O H (.ref a) v y C z W g Q I c S k J ⟨a,Y,rfl,V,R,e R⟩
theorem GY:∀bs:Ls Bool,(List.range bs.length).all (λi=>bs.getD i false)=bs.all id
 | []=>rfl
 |b::bs=>by
  rw[length_cons,List.range_succ_eq_map,all_cons,all_cons,List.all_map,<- GY bs];rfl
def zE5(Z:X.calm=true):wB X (.builtin "all") (λY H Q=>∃(p:Lz) (bs:Ls Bool),Y=[.ref p]/\SqL X.K H p (bs.map V.bl)/\Q (.bl (bs.all id)) H):=by
 intro G s O H Y D Q I r h;obtain⟨p,bs,rfl,P,q⟩:=h;obtain⟨u,rfl,T⟩:=v3 r;cases T;obtain⟨its,M,k,hz⟩:=I.list P;have t:=M.length;refine call_all_walk (wpAny_pyIter_list k.isList ?_);have L:p<s.heap.objs.size:=by obtain⟨o,n,e,_⟩:=k;exact lt_size e
 have C:∀b o,s.heap.get? b=some o->(s.heap.push {cls:=.type "list_iterator",data:=.fields #[.ref p,.int 0 0]}).get? b=some o:=λb o e=>qA _ e
 have l:∀(i:Nat) (v:Lv),its.toArray[i]?=some v->v=Value.bool (bs.getD i false):=λi v hv=>by
  have a:its[i]?=some v:=by exists hv
  have W:i<its.length:=(qG.mp a).1;have z:i<(bs.map V.bl).length:=by rw[t];exact W
  obtain⟨K,R,w⟩:=M.get (i:=i) (x:=(bs.map V.bl)[i]) (by simp[z]);rw[a]at R;cases R;rw[length_map]at z;rw[getElem_map]at w;have:v=.bool (bs[i]):=w;rw[this];simp[z]
 refine⟨s.heap.objs.size,[s.heap.objs.size,p],[s.heap.objs.size],its.toArray.size,_,_,λi=>bs.getD i false,rfl,
  Walks.list (by show X.A.handled=none;exact I.ok.hd Z) _ p (ne_of_lt L) its.toArray,⟨⟨_,get?_push_size _ rfl,rfl,rfl⟩,?_⟩,?_,?_⟩
 ·obtain⟨o,e,c⟩:=k.isList
  exact⟨o,C _ _ e,c⟩
 ·intro i v j Q' E' hv J
  rw[l i v hv];exact wpAny_truthy_bool J
 ·intro g y E
  have e:(List.range its.toArray.size).all (λi=>bs.getD i false)=bs.all id:=by
   rw[size_toArray,<- t,length_map,GY]
  rw[e];exact⟨.bl (bs.all id),H,I.kept (t':=y) λb o S=>E b o (λm=>by
   have:b=s.heap.objs.size:=by exists m
   subst this;exact absurd (lt_size S) (lt_irrefl _)) (C b o S),rfl,q⟩
def Zq:fillsNumberSlot (.type "tuple") "mul"=pure false :=
 PySem.fillsNumberSlot_seq (id:="tuple.__mul__") (r:=some (.builtin "tuple.__rmul__")) F.slot_tuple_mul.lookup (by left) F.slot_tuple_rmul.lookup (by left)
def GZ:seqRepeat? (.type "tuple")=pure (some (.builtin "tuple.__mul__")):=by
 unfold seqRepeat?;rfl
def vA(a:Int)(t:Tok)(l:Lz)(p:Lh)(n:Nat)(dd:Lx Lz)(c:Lj) :
  Meets (Builtin.«int.__rmul__» ⟨[.int a t,.ref l],[]⟩) (λ_ R s=>s.heap.get? l=some {cls:=.type "tuple",dict:=dd,data:=.seq p n,slots:=c}/\R (.ok (.ret Value.notImplemented)) s) :=
 .of_wp λC w A R s h=>by obtain⟨G,g,d,y,Z⟩:=s;obtain⟨hl,h⟩:=h;wp_walk;exact⟨_,rfl,h⟩
def vB{E:Ly}{Q:Ly}(c:IsTup s.heap l items)(L:-(2^63)<=k)(Y:k<2^63)
  (P:(items.size:Int)*k<=sizeLine) (q:items.isEmpty=true\/k=1->Q (.ref l) s)
  (j:k<=0->Q (.ref s.heap.objs.size) {s with heap:=s.heap.push {cls:=.type "tuple",data:=.seq #[]}})
  (S:Q (.ref s.heap.objs.size) {s with heap:=s.heap.push {cls:=.type "tuple",data:=.seq ((replicate k.toNat items).foldl (·++·) #[])}})
  (h:sizeOk (.seq ((replicate k.toNat items).foldl (·++·) #[]))) :
  wpAny (model prog w) A (call (.builtin "tuple.__mul__") [.ref l,.int k t]) Q E s:=by
 refine wpAny_call_entry F.slot_tuple_mul c.typeIs F.entry_tuple_mul ?_ (F.args_tuple_mul_2 _ _);show wpAny _ _ (asIndex (.int k t) >>= _) _ _ s;refine qB (wpAny_of_eq (a:=k) rfl ?_);dsimp;rw[if_neg (by dsimp[Bool.or_eq_true,decide_eq_true_eq];lia)];refine qB (tupleItemsOf_ c ?_);by_cases R:(items.isEmpty||k==1)=true
 ·rw[if_pos R]
  unfold Builtin.Tuple.tupleIsExact;refine qB (qB (wpAny_typeOf c.typeIs (qC ?_)));rw[if_pos (by decide)];refine qB (wpAny_rule (qC ⟨_,rfl,q ?_⟩));rw[Bool.or_eq_true,beq_iff_eq]at R;exact R
 ·rw[if_neg R]
  by_cases e:(decide (k<=0)||items.isEmpty)=true
  ·rw[if_pos e]
   have C:k<=0:=by
    dsimp[Bool.or_eq_true,decide_eq_true_eq,beq_iff_eq,not_or]at R e;rcases e with e|e
    ·exact e
    ·exact absurd e R.1
   exact qB (m:=Builtin.Tuple.tupleExact _) (wpAny_newObj_type (qC ⟨_,rfl,j C⟩) (by show(#[]:Lh).size<=sizeLine;simp))
  ·rw[if_neg e]
   have g:sizeLine=16777216:=sizeLine_eq;rw[if_neg (by rw[g]at P;lia),if_neg (by unfold Builtin.Tuple.tupleTooMany;dsimp[decide_eq_true_eq];lia)];exact qB (m:=Builtin.Tuple.tupleExact _) (wpAny_newObj_type (qC ⟨_,rfl,S⟩) h)
def rRepT(K:qH):R2:=λx y H Q=>∃l k Y,x=.ref l/\y=.int k/\SqT K H l Y/\-(2^63)<=k/\k<2^63/\Y.length*k.toNat<=sizeLine /\
 (Y=[]\/k=1->Q (.ref l) H)/\(∀p,H p=none->Q (.ref p) (upd H p (.t (replicate k.toNat Y).flatten)))
def op_repT:OpR X (binaryOp .Mult) (rRepT X.K):=by
 intro G s O H x y v u Q I c V h;obtain⟨l,k,Y,rfl,rfl,E,J,h2,hz,q0,q⟩:=h;cases c;obtain⟨t,rfl⟩:=V;obtain⟨its,r,pt,_⟩:=I.tuple E;have hl:=r.length;obtain⟨⟨P,dd,R,g⟩,ho,Z,n,j⟩:=id pt;subst Z j;have w:foldl (λp M=>p++M) #[] (replicate k.toNat its.toArray)=(replicate k.toNat its).flatten.toArray:=by
  have:=WJ its k.toNat [];exact this
 have i:(replicate k.toNat its).flatten.length<=sizeLine:=by rw[QT,Nat.mul_comm,<- hl];exact hz
 have z:((its.toArray.size:Nat):Int)*k<=(sizeLine:Nat):=by
  rw[size_toArray,<- hl];by_cases C:0<=k
  ·obtain⟨m,rfl⟩:=Int.eq_ofNat_of_zero_le C
   have:Y.length*m<=sizeLine:=by exists hz
   exact_mod_cast this
  ·have:(Y.length:Int)*k<=0:=Int.mul_nonpos_of_nonneg_of_nonpos (Int.natCast_nonneg _) (by lia)
   lia
 refine wpAny_binaryOp_repeat_ref (T:="tuple") (U:="int") (by decide) ⟨_,ho,rfl⟩ (λK=>typeIs_int K k t) Zq F.fills_int_mul F.slot_int_rmul GZ F.slot_int_index.lookup
  (call_meets F.slot_int_rmul (typeIs_int s k t) F.entry_int_rmul (F.args_int_rmul_2 _ _) (vA k t l its.toArray n dd g) ⟨ho,rfl,⟨_,ho,rfl⟩,?_⟩)
 refine vB pt J h2 z (λe=>⟨.ref l,H,I,rfl,q0 ?_⟩) (λe=>?_) ?_ ?_
 ·rcases e with e|e
  ·apply Or.inl
   have:its=[]:=by exists e
   exact r.nil_iff.mp this
  ·right;exact e
 ·have a:k.toNat=0:=by lia
  have L:=q s.heap.objs.size I.fresh;rw[a]at L;exact⟨.ref s.heap.objs.size,_,I.laid (t':=s.toks) (o:=.t []) (λb D q=>qA _ q) (le_refl _) ⟨zero_le _,[],.nil,IsTup.new _ _⟩,rfl,L⟩
 ·rw[w]
  exact⟨.ref s.heap.objs.size,_,I.laid (t':=s.toks) (o:=.t (replicate k.toNat Y).flatten) (λb D q=>qA _ q) (le_refl _) ⟨by rw[QT,Nat.mul_comm];exact hz,_,r.rep k.toNat,IsTup.new _ _⟩,rfl,q _ I.fresh⟩
 ·rw[w]
  show(replicate k.toNat its).flatten.toArray.size<=sizeLine
  rw[size_toArray];exact i
end
end L2
namespace DV
open PySem L2
def cap:Nat:=1000000
def JF(h:n<=cap):n<=sizeLine:=le_trans h (by rw[sizeLine_eq];decide)
abbrev Kt(K:qH)(g:Str->Lx Lv)(M:Ld)(H:Hp)(Z:Fz)(res:R)(Q:VK):Prop :=
 ∀v H',FR K g M H' ((some v,res.slot)::Z)->Step M H Z H' ((some v,res.slot)::Z)->Q v H'
def ROk(K:qH)(g:Str->Lx Lv)(rel:R2)(f:D->D->Lx R):Prop :=
 ∀(M:Ld) (H:Hp) (Z:Fz) (x y:V) (t u:D) (o:R) (Q:VK),FR K g M H Z->Rep K g (Hm (Mo M Z) H) t x->Rep K g (Hm (Mo M Z) H) u y->f t u=some o->Kt K g M H Z o Q->rel x y H Q
def COk(K:qH)(g:Str->Lx Lv)(rel:Ls V->Hp->VK->Prop)(f:Ls D->Lx R):Prop :=
 ∀(M:Ld) (H:Hp) (Z:Fz) (Y:Ls V) (P:Ls D) (o:R) (Q:VK),FR K g M H Z->Reps K g (Hm (Mo M Z) H) P Y->f P=some o->Kt K g M H Z o Q->rel Y H Q
section
variable{X:Cx}{K:qH}{mg:Str->Lx Lv}{M:Ld}{H H':Hp}{Z:Fz}{Q:VK}{O:St}
theorem Kt.flat(k:Kt K mg M H Z (.v d) Q)(f:FR K mg M H Z)(h:flat d=true):Q (flV d) H:=k _ _ (f.add (zAS h)) Step.refl.add
def Kt.rep(k:Kt K mg M H Z (.v d) Q)(f:FR K mg M H Z)(h:Rep K mg (Hm (Mo M Z) H) d v):Q v H:=k _ _ (f.add h) Step.refl.add
theorem Kt.tup{ds:Ls D}{xs:Ls V}{p:Lz}(k:Kt K mg M H Z (.v (.t ds)) Q)(f:FR K mg M H Z)(G:H p=none)(h:Reps K mg (Hm (Mo M Z) H) ds xs):Q (.ref p) (upd H p (.t xs)):=k _ _ (f.newTup G h) (Step.newVal G)
theorem Kt.own(k:Kt K mg M H Z (.w ds) Q)(f:FR K mg M H Z)(G:H p=none)(h:Reps K mg (Hm (Mo M Z) H) ds xs):Q (.ref p) (upd H p (.l xs)):=k _ _ (f.newOwn G h) (Step.newOwn f G)
def Jk(f:D->D->Lx R)(a b:ME):ME:=λE=>match a E with
 | .z=>.z| .y x E1=>.y x E1
 | .ok (T,E1)=>match b E1 with
  | .z=>.z| .y x E2=>.y x E2
  | .ok (C,E2)=>match f T.d C.d with
   |some r=>.ok (r,E2)|none=>.z
def WN{f:D->D->Lx R}(o:ROk X.K X.mg rel f)(h:tM X (Jk f a b) O H Q):tOp rel (tM X a) (tM X b) O H Q:=by
 obtain⟨M,E,hl,fr,k⟩:=h;unfold Jk at k;refine zo (T0:=[]) hl fr ?_;cases t:a E with
 |z=>rw[t]at k;exact k|y x E1=>rw[t]at k;exact λH' g=>k H' g
 |ok p =>
  obtain⟨l,E1⟩:=p;rw[t]at k;intro x H1 I;refine zo (T0:=[(some x,l.slot)]) I.len I.fr ?_;dsimp at k;cases S:b E1 with
  |z=>rw[S]at k;exact k|y x E2=>rw[S]at k;exact λH' g=>k H' (I.trans' g).dropAll
  |ok p =>
   obtain⟨C,E2⟩:=p;rw[S]at k;intro y H2 Z;have g:=I.trans' Z;have q:=Got.reps (vs:=[y,x]) (rs:=[C,l]) rfl g;obtain⟨e,_,n,V,u,_,w,c,_⟩:=q;cases n;cases w;dsimp at k;exists ef,f l.d C.d,k,r;exact o M H2 _ x y l.d C.d r Q g.frame c V ef λv H' i j=>k v H' (g.more (T:=[(some v,r.slot)]) i j)
def zBR{f:D->D->Lx R}(L:OpR X (binaryOp op) rel)(p:ROk X.K X.mg rel f)(P:EOk X a ma)(J:EOk X b mb):EOk X (.BinOp a op b pos) (Jk f ma mb) :=
 yA (pe_op L P J) λO H Q h=>WN p h
def ZX{f:D->D->Lx R}(L:OpR X (compareOp op) rel)(p:ROk X.K X.mg rel f)(K:behindInMarks op b=false)(P:EOk X a ma)(J:EOk X b mb):EOk X (.Compare a [op] [b] pos) (Jk f ma mb) :=
 yA (pe_cmpR L P J K) λO H Q h=>WN p h
def ok_ix{f:D->D->Lx R}(L:IxR X rel)(p:ROk X.K X.mg rel f)(S:v9 b)(P:EOk X a ma)(J:EOk X b mb):EOk X (.Subscript a b pos) (Jk f ma mb) :=
 yA (pe_ix L P J S) λO H Q h=>WN p h
def tT(m:ME):MT:=λE=>match m E with
 | .z=>.z| .y x E1=>.y x E1| .ok (.v (.bl b),E1)=>.ok (b,E1)|_=>.z
def zCW{Q:Bool->Hp->Prop}(h:tMT X (tT m) O H Q):tM X m O H λx H'=>∃k,x=.bl k/\Q k H':=by
 obtain⟨M,E,hl,fr,k⟩:=h;refine⟨M,E,hl,fr,?_⟩;unfold tT at k;exists e,m E,k,r,E1;cases r with
 |w P=>exact k.elim|m _ _=>exact k.elim
 |v d =>
  cases d with
  |bl b =>
   intro v H' g;have q:=g.rep;exact⟨b,q,k H' g.dropAll⟩
  |_=>exact k.elim
def ok_test(h:EOk X e m)(M:∀w,isTrue e X.env w=(do let v <- w;standAt e.pos;holding [v] (truthy v)):=by intro _;rfl):TOk X e (tT m) :=
 zAR (pt_val h M) λO H Q q=>zCW q
def JP{f:D->D->Lx R}(L:OpR X (compareOp op) rel)(p:ROk X.K X.mg rel f)(K:behindInMarks op b=false)(P:EOk X a ma)(J:EOk X b mb):TOk X (.Compare a [op] [b] pos) (tT (Jk f ma mb)) :=
 zAR (pt_cmpR L P J K) λO H Q h=>WN p (zCW h)
def wn(a b:MT):MT:=λE=>match a E with
 | .ok (true,E1)=>b E1|o=>o
def uG(a b:MT):MT:=λE=>match a E with
 | .ok (false,E1)=>b E1|o=>o
def JH(a:MT):MT:=λE=>match a E with
 | .z=>.z| .y x E1=>.y x E1| .ok (b,E1)=>.ok (!b,E1)
def and_run{Q:Bool->Hp->Prop}(h:tMT X (wn a b) O H Q):tAnd (tMT X a) (tMT X b) O H Q:=by
 obtain⟨M,E,hl,fr,k⟩:=h;unfold wn at k;refine JM (T0:=[]) hl fr ?_;exists ea,a E,k,c,E1;intro H1 I;cases c with
 |false=>exact zGb (k H1 I)
 |true =>
  refine zGc ?_;refine JM (T0:=[]) I.len I.fr ?_;dsimp at k;cases S:b E1 with
  |z=>rw[S]at k;exact k|y x E2=>rw[S]at k;exact λH' g=>k H' (I.trans' g)|ok p=>rw[S]at k;exact λH' g=>k H' (I.trans' g)
def or_run{Q:Bool->Hp->Prop}(h:tMT X (uG a b) O H Q):tOr (tMT X a) (tMT X b) O H Q:=by
 obtain⟨M,E,hl,fr,k⟩:=h;unfold uG at k;refine JM (T0:=[]) hl fr ?_;exists ea,a E,k,c,E1;intro H1 I;cases c with
 |true=>exact zGc (k H1 I)
 |false =>
  refine zGb ?_;refine JM (T0:=[]) I.len I.fr ?_;dsimp at k;cases S:b E1 with
  |z=>rw[S]at k;exact k|y x E2=>rw[S]at k;exact λH' g=>k H' (I.trans' g)|ok p=>rw[S]at k;exact λH' g=>k H' (I.trans' g)
def not_run{Q:Bool->Hp->Prop}(h:tMT X (JH a) O H Q):tNot (tMT X a) O H Q:=by
 obtain⟨M,E,hl,fr,k⟩:=h;unfold JH at k;refine JM (T0:=[]) hl fr ?_;cases t:a E with
 |z=>rw[t]at k;exact k|y x E1=>rw[t]at k;exact k|ok p=>rw[t]at k;exact k
abbrev WOk(X:Cx)(e:Lb)(m:MT):Prop:=PW X e (tMT X m)
def wk_and1(h:TOk X a m):WOk X (.BoolOp .And [a] pos) m:=pw_and1 h
def wk_or1(h:TOk X a m):WOk X (.BoolOp .Or [a] pos) m:=pw_or1 h
def zGg{a b:Lb}{c:Ls Lb}{n I:MT}{y:Pos}(P:TOk X a n)(J:WOk X (.BoolOp .And (b::c) y) I):WOk X (.BoolOp .And (a::b::c) y) (wn n I):=zGd (pw_and P J) λO H Q=>and_run
def wk_or{a b:Lb}{c:Ls Lb}{n I:MT}{y:Pos}(P:TOk X a n)(J:WOk X (.BoolOp .Or (b::c) y) I):WOk X (.BoolOp .Or (a::b::c) y) (uG n I):=zGd (pw_or P J) λO H Q=>or_run
def tk_w(h:WOk X e m):TOk X e m:=h.pt
def tk_not(h:TOk X a m):TOk X (.UnaryOp .Not a pos) (JH m):=zAR (pt_not h) λO H Q=>not_run
def QI(a:ME):ME:=λE=>match a E with
 | .ok (.v (.bl b),E1)=>.ok (.v (.bl (!b)),E1)| .y x E1=>.y x E1|_=>.z
def uH(a b:ME):ME:=λE=>match a E with
 | .ok (.v (.bl true),E1)=>b E1| .ok (.v (.bl false),E1)=>.ok (.v (.bl false),E1)| .y x E1=>.y x E1|_=>.z
def eOr(a b:ME):ME:=λE=>match a E with
 | .ok (.v (.bl false),E1)=>b E1| .ok (.v (.bl true),E1)=>.ok (.v (.bl true),E1)| .y x E1=>.y x E1|_=>.z
def zE6(h:tM X (QI a) O H Q):tNotV (tM X a) O H Q:=by
 obtain⟨M,E,hl,fr,k⟩:=h;unfold QI at k;refine zo (T0:=[]) hl fr ?_;exists ea,a E,k,r,E1;cases r with
 |w P=>exact k.elim|m _ _=>exact k.elim
 |v d =>
  cases d with
  |bl b =>
   intro v H' g;have q:=g.rep;exact⟨b,q,k _ H' (g.flat (d:=.bl (!b)) rfl)⟩
  |_=>exact k.elim
def zE7(h:tM X (uH a b) O H Q):tAndV (tM X a) (tM X b) O H Q:=by
 obtain⟨M,E,hl,fr,k⟩:=h;unfold uH at k;refine zo (T0:=[]) hl fr ?_;exists ea,a E,k,r,E1;cases r with
 |w P=>exact k.elim|m _ _=>exact k.elim
 |v d =>
  cases d with
  |bl c =>
   intro v H' g;have q:=g.rep;refine⟨c,q,?_⟩;cases c with
   |false=>exact zGb (k _ H' (g.flat (d:=.bl false) rfl))
   |true =>
    refine zGc (zo (T0:=[]) g.len g.frame ?_);dsimp at k;cases S:b E1 with
    |z=>rw[S]at k;exact k|y x E2=>rw[S]at k;exact λH'' u=>k H'' (g.dropAll.trans' u)|ok p=>rw[S]at k;exact λl H'' u=>k l H'' (g.dropAll.trans' u)
  |_=>exact k.elim
def ok_not(h:EOk X a m):EOk X (.UnaryOp .Not a pos) (QI m):=yA (pe_not h) λO H Q=>zE6
def zGh{a b:Lb}{c:Ls Lb}{n I:ME}{y:Pos}(P:EOk X a n)(J:EOk X (.BoolOp .And (b::c) y) I):EOk X (.BoolOp .And (a::b::c) y) (uH n I):=yA (pe_and P J) λO H Q=>zE7
def ok_one(h:EOk X a m):EOk X (.BoolOp op [a] pos) m:=pe_one h
def eIf(c:MT)(a b:ME):ME:=λE=>match c E with
 | .ok (true,E1)=>a E1| .ok (false,E1)=>b E1| .y x E1=>.y x E1| .z=>.z
def if_run(h:tM X (eIf c a b) O H Q):tIf (tMT X c) (tM X a) (tM X b) O H Q:=by
 obtain⟨M,E,hl,fr,k⟩:=h;unfold eIf at k;refine JM (T0:=[]) hl fr ?_;exists ea,c E,k,t,E1;intro H1 I;cases t with
 |true =>
  refine zGc (zo (T0:=[]) I.len I.fr ?_);dsimp at k;cases S:a E1 with
  |z=>rw[S]at k;exact k|y x E2=>rw[S]at k;exact λH' g=>k H' (I.trans' g)|ok p=>rw[S]at k;exact λv H' g=>k v H' (I.trans' g)
 |false =>
  refine zGb (zo (T0:=[]) I.len I.fr ?_);dsimp at k;cases S:b E1 with
  |z=>rw[S]at k;exact k|y x E2=>rw[S]at k;exact λH' g=>k H' (I.trans' g)|ok p=>rw[S]at k;exact λv H' g=>k v H' (I.trans' g)
def ok_if(Z:TOk X c mc)(P:EOk X a ma)(J:EOk X b mb):EOk X (.IfExp c a b pos) (eIf mc ma mb):=yA (zEg Z P J) λO H Q=>if_run
def QJ:MA:=λE=>.ok ([],E)
def JI(a:ME)(m:MA):MA:=λE=>match a E with
 | .z=>.z| .y x E1=>.y x E1
 | .ok (r,E1)=>match m E1 with
  | .z=>.z| .y x E2=>.y x E2| .ok (rs,E2)=>.ok (r::rs,E2)
def ak_nil:AOk X [] QJ:=GW Yp λO H Q ⟨M,E,hl,fr,k⟩=>k [] H rfl (Got.refl (T0:=[]) hl fr)
theorem Got.perm{g:Str->Lx Lv}{M:Ld}(a:Got K g M O E H T0 O1 E1 H1 T)(p:T.Perm T'):Got K g M O E H T0 O1 E1 H1 T' where
 len:=a.len
 fr:=a.fr.perm (p.append_right _)
 st:=a.st.weak (zD (p.append_right _).symm)
 pk:=a.pk
def zE8{Q:Ls V->Hp->Prop}(h:tMA X (JI a m) O H Q):zEo (tM X a) (tMA X m) O H Q:=by
 obtain⟨M,E,hl,fr,k⟩:=h;unfold JI at k;refine zo (T0:=[]) hl fr ?_;exists ea,a E,k,r1,E1;intro x H1 I;refine JN (T0:=[(some x,r1.slot)]) I.len I.fr ?_;dsimp at k;cases S:m E1 with
 |z=>rw[S]at k;exact k|y x E2=>rw[S]at k;exact λH' g=>k H' (I.trans' g).dropAll
 |ok p =>
  rw[S]at k;intro W H2 hv Z;refine k (x::W) H2 (by simp[hv]) ?_;exact(I.trans' Z).perm (perm_append_comm)
def ak_cons(P:EOk X e a)(K:AOk X es m)(S:zU e=false:=by rfl):AOk X (e::es) (JI a m):=GW (jM P K (zM S)) λO H Q=>zE8
def eCB(f:Ls D->Lx R)(m:MA):ME:=λE=>match m E with
 | .z=>.z| .y x E1=>.y x E1
 | .ok (w,E1)=>match f (w.map R.d)with
  |some r=>.ok (r,E1)|none=>.z
def zAU{rel:Ls V->Hp->VK->Prop}{f:Ls D->Lx R}(p:COk X.K X.mg rel f)(h:tM X (eCB f m) O H Q):tCB rel (tMA X m) O H Q:=by
 obtain⟨M,E,hl,fr,k⟩:=h;unfold eCB at k;refine JN (T0:=[]) hl fr ?_;exists ea,m E,k,rs,E1;intro W H1 hv g;have q:=Got.reps hv g;dsimp at k;cases I:f (rs.map R.d)with
 |none=>rw[I]at k;exact k.elim
 |some r =>
  rw[I]at k;exact p M H1 _ W _ r Q g.frame q I λv H' i j=>k v H' (g.more (T:=[(some v,r.slot)]) i j)
def QK(m:MA):ME:=eCB (λP=>if P.length<=cap then some (.v (.t P))else none) m
def QL(m:MA):ME:=eCB (λP=>if P.length<=cap then some (.w P)else none) m
def ok_tup(h:AOk X es m):EOk X (.Tuple es x1 pos) (QK m) :=
 yA (pe_tup h) λO H Q q=>zAU (rel:=λY H1 Q=>Y.length<=sizeLine/\∀p,H1 p=none->Q (.ref p) (upd H1 p (.t Y))) (λM H Z Y P o Q f r e k=>by
  split at e
  ·rename_i a
   cases e;exact⟨by rw[r.length];exact JF a,λp G=>k.tup f G r⟩
  ·cases e) q
def ok_lst(h:AOk X es m):EOk X (.List es pos) (QL m) :=
 yA (pe_lst h) λO H Q q=>zAU (rel:=λY H1 Q=>Y.length<=sizeLine/\∀p,H1 p=none->Q (.ref p) (upd H1 p (.l Y))) (λM H Z Y P o Q f r e k=>by
  split at e
  ·rename_i a
   cases e;exact⟨by rw[r.length];exact JF a,λp G=>k.own f G r⟩
  ·cases e) q
def Ys{f:Ls D->Lx R}{m:MA}{rel:Ls V->Hp->VK->Prop}{id:String}{x:Str}{p y:Pos}{e:Lb}{es:Ls Lb}(Z:wB X (.builtin id) rel)(g:COk X.K X.mg rel f)(n:Gl X x)(K:X.mg x=none)(Y:bootBuiltins x=some (.builtin id))(P:AOk X (e::es) m)(c:x≠"__name__":=by decide)(a:(x==("__debug__":Str))=false:=by decide)
  (M:zU e=false:=by rfl) (o:jB es=true:=by rfl):EOk X (.Call (.Name x p) (e::es) [] y) (eCB f m) :=
 yA (Zs Z n K Y P c a (zM M) (j6 o)) λO H Q q=>zAU g q
def WO{f:Ls D->Lx R}{rel:Ls V->Hp->VK->Prop}(Z:wB X (.type T) rel)(g:COk X.K X.mg rel f)(n:Gl X x)(K:X.mg x=none)(Y:bootBuiltins x=some (.type T))(P:AOk X (e::es) m)(c:x≠"__name__":=by decide)(a:(x==("__debug__":Str))=false:=by decide)
  (M:zU e=false:=by rfl) (o:jB es=true:=by rfl):EOk X (.Call (.Name x p) (e::es) [] pos) (eCB f m) :=
 yA (zB9 Z n K Y P c a (zM M) (j6 o)) λO H Q q=>zAU g q
end
section
variable{X:Cx}{K:qH}{mg:Str->Lx Lv}
def zJ(h:Rep K mg H (.int i) v):v=.int i:=by simpa only[Rep]using h
def yz(h:Rep K mg H (.bl i) v):v=.bl i:=by simpa only[Rep]using h
def wT(h:Rep K mg H (.str i) v):v=.str i:=by simpa only[Rep]using h
def jk(h:Rep K mg H .non v):v=.non:=by simpa only[Rep]using h
def yO(h:Rep K mg H (.t ds) v):∃a xs,v=.ref a/\SqT K H a xs/\Reps K mg H ds xs:=by simpa only[Rep]using h
def yB(h:Rep K mg H (.l ds) v):∃a xs,v=.ref a/\SqL K H a xs/\Reps K mg H ds xs:=by simpa only[Rep]using h
def ZG:D->D->Lx R
 | .int i,.int j=>some (.v (.int (i+j)))| .t a,.t b=>if a.length+b.length<=cap then some (.v (.t (a++b)))else none| .l a,.l b=>if a.length+b.length<=cap then some (.w (a++b))else none|_,_=>none
def rAddD(K:qH):R2:=λx y H Q=>rI0 (λi j=>.int (i+j)) x y H Q\/(zGf K x y H Q\/rCatL K x y H Q)
def op_addD:OpR X (binaryOp .Add) (rAddD X.K):=op_add.or (zE4.or op_catL)
def ro_add:ROk K mg (rAddD K) ZG:=by
 intro M H Z x y h u o Q f T C e k;cases h with
 |int i =>
  cases u with
  |int j =>
   cases e;exact .inl ⟨i,j,zJ T,zJ C,k.flat f rfl⟩
  |_=>cases e
 |t a =>
  cases u with
  |t b =>
   dsimp[ZG]at e;split at e
   ·rename_i c
    cases e;obtain⟨p,Y,rfl,L,h2⟩:=yO T;obtain⟨q,J,rfl,g,h4⟩:=yO C;have W:=h2.length;have P:=h4.length;refine .inr (.inl ⟨p,q,Y,J,rfl,rfl,zf zI L,zf zI g,by rw[W,P];exact JF c,λe=>?_,λ_ e=>?_,λ_ _ V G=>k.tup f G (h2.append h4)⟩)
    ·subst e
     have:a=[]:=by exists W.symm
     subst this;exact k.rep f (by exists C)
    ·subst e
     have:b=[]:=by exists P.symm
     subst this;exact k.rep f (by exists T)
   ·cases e
  |_=>cases e
 |l a =>
  cases u with
  |l b =>
   dsimp[ZG]at e;split at e
   ·rename_i c
    cases e;obtain⟨p,Y,rfl,L,h2⟩:=yB T;obtain⟨q,J,rfl,g,h4⟩:=yB C;have W:=h2.length;have P:=h4.length;exact .inr (.inr ⟨p,q,Y,J,rfl,rfl,zI.seq L,zI.seq g,by rw[W,P];exact JF c,λV G=>k.own f G (h2.append h4)⟩)
   ·cases e
  |_=>cases e
 |_=>cases e
def zCX(C:Lk)(g:Int->Int->D):D->D->Lx R
 | .int i,.int j=>if C i j=true then some (.v (g i j))else none|_,_=>none
def zCY{C:Lk}{P:Int->Int->Prop}{g:Int->Int->D}{a:Int->Int->V}(r:∀i j,C i j=true->P i j)(n:∀i j,flat (g i j)=true/\flV (g i j)=a i j):ROk K mg (rI P a) (zCX C g):=by
 intro M H Z x y t u o Q f T h e k;cases t with
 |int i =>
  cases u with
  |int j =>
   dsimp[zCX]at e;split at e
   ·rename_i c
    cases e;refine⟨i,j,zJ T,zJ h,r i j c,?_⟩;have:=k.flat f (n i j).1;rw[(n i j).2]at this;exact this
   ·cases e
  |_=>cases e
 |_=>cases e
def zBS(g:Int->Int->D):D->D->Lx R
 | .int i,.int j=>some (.v (g i j))|_,_=>none
def WP{g:Int->Int->D}{a:Int->Int->V}(n:∀i j,flat (g i j)=true/\flV (g i j)=a i j):ROk K mg (rI0 a) (zBS g):=by
 intro M H Z x y t u o Q f T C e k;cases t with
 |int i =>
  cases u with
  |int j =>
   cases e;refine⟨i,j,zJ T,zJ C,?_⟩;have:=k.flat f (n i j).1;rw[(n i j).2]at this;exact this
  |_=>cases e
 |_=>cases e
abbrev va:=zBS λi j=>.int (i-j)
def ro_sub:ROk K mg (rI0 λi j=>.int (i-j)) va:=WP λ_ _=>⟨rfl,rfl⟩
def Big:Nat:=2^4000
def zCZ(h:n<Big):n.log2<4000:=by
 by_cases J:n=0
 ·subst J;left
 ·exact(Nat.log2_lt J).mpr h
def zAV(h:i.natAbs<Big):Builtin.Int.intBits i<=4000:=by
 unfold Builtin.Int.intBits;split
 ·exact zero_le _
 ·exact zCZ h
def zCa(L:i.natAbs<Big)(Y:j.natAbs<Big):IntMulOk i j:=by
 have n:=zAV L;have E:=zAV Y;unfold IntMulOk;have:Builtin.Int.intTooBig (((Builtin.Int.intBits i:Nat):Int)+(Builtin.Int.intBits j:Nat))=false:=by
  unfold Builtin.Int.intTooBig bitsLine;dsimp[decide_eq_false_iff_not];lia
 rw[this,Bool.and_false];decide
def CDivB(i j:Int):Prop:=0<j/\(j<1073741824\/j.natAbs<Big)
def zE9:OpR X (binaryOp .FloorDiv) (rI CDivB λi j=>.int (i/j)):=opI λi j _ _ _ _ _ Z q=>by
 have L:(0:Int)<j:=Z.1;refine PyProof.Rows.floordiv_int (by lia) (by rw[Int.fdiv_eq_ediv_of_nonneg i (by lia)];exact q) (.inl ?_);rcases Z.2 with h|h
 ·exact PyProof.noPylong_small (by lia)
 ·exact PyProof.noPylong_of_log2 (lt_of_lt_of_le (zCZ h) (by decide))
def CMulB(i j:Int):Prop:=CMul i j\/(i.natAbs<Big/\j.natAbs<Big)
def op_mulB:OpR X (binaryOp .Mult) (rI CMulB λi j=>.int (i*j)):=opI λ_ _ _ _ _ _ _ Z q=>PyProof.Rows.mul_int q (by
 rcases Z with h|h
 ·exact h.ok
 ·exact zCa h.1 h.2)
abbrev zFA:=zCX (λ_ j=>decide (0<j/\(j<1073741824\/j.natAbs<Big))) λi j=>.int (i/j)
def ro_fdiv:ROk K mg (rI CDivB λi j=>.int (i/j)) zFA:=zCY (λi j h=>(of_decide_eq_true h:0<j/\(j<1073741824\/j.natAbs<Big))) λ_ _=>⟨rfl,rfl⟩
abbrev zEZ:=zCX (λ_ j=>decide (0<j)) λi j=>.int (i%j)
def ro_mod:ROk K mg (rI (λ_ j=>0<j) λi j=>.int (i%j)) zEZ:=zCY (λi j h=>of_decide_eq_true h) λ_ _=>⟨rfl,rfl⟩
abbrev powD:=zCX (λi j=>decide (0<=j/\j<=1000000/\i.natAbs<2^64)) λi j=>.int (i^j.toNat)
def ro_pow:ROk K mg (rI CPow λi j=>.int (i^j.toNat)) powD:=zCY (λi j h=>(of_decide_eq_true h:0<=j/\j<=1000000/\i.natAbs<2^64)) λ_ _=>⟨rfl,rfl⟩
def ZY:D->D->Lx R
 | .int i,.int j=>if((-(2^64)<i/\i<2^64)\/(-(2^64)<j/\j<2^64))\/(i.natAbs<Big/\j.natAbs<Big)then some (.v (.int (i*j)))else none| .t a,.int k=>if -(2^63)<=k/\k<2^63/\a.length*k.toNat<=cap then some (.v (.t (replicate k.toNat a).flatten))else none|_,_=>none
def rMulD(K:qH):R2:=λx y H Q=>rI CMulB (λi j=>.int (i*j)) x y H Q\/rRepT K x y H Q
def op_mulD:OpR X (binaryOp .Mult) (rMulD X.K):=op_mulB.or op_repT
def ro_mul:ROk K mg (rMulD K) ZY:=by
 intro M H Z x y g u o Q f T C e k;cases g with
 |int i =>
  cases u with
  |int j =>
   dsimp[ZY]at e;split at e
   ·rename_i c
    cases e;exact .inl ⟨i,j,zJ T,zJ C,c,k.flat f rfl⟩
   ·cases e
  |_=>cases e
 |t a =>
  cases u with
  |int n =>
   dsimp[ZY]at e;split at e
   ·rename_i c
    cases e;obtain⟨p,Y,rfl,L,h2⟩:=yO T;have W:=h2.length;refine .inr ⟨p,n,Y,rfl,zJ C,zf zI L,c.1,c.2.1,by rw[W];exact JF c.2.2,λe=>?_,λV G=>k.tup f G (h2.flatten _)⟩;refine k.rep f ?_;rcases e with e|e
    ·subst e
     have:a=[]:=by exists W.symm
     subst this;exists T
    ·subst e
     exists T
   ·cases e
  |_=>cases e
 |_=>cases e
abbrev ltD:=zBS λi j=>.bl (decide (i<j))
def ro_lt:ROk K mg (rI0 λi j=>.bl (decide (i<j))) ltD:=WP λ_ _=>⟨rfl,rfl⟩
abbrev leD:=zBS λi j=>.bl (decide (i<=j))
def ro_le:ROk K mg (rI0 λi j=>.bl (decide (i<=j))) leD:=WP λ_ _=>⟨rfl,rfl⟩
abbrev gtD:=zBS λi j=>.bl (decide (j<i))
def ro_gt:ROk K mg (rI0 λi j=>.bl (decide (j<i))) gtD:=WP λ_ _=>⟨rfl,rfl⟩
abbrev geD:=zBS λi j=>.bl (decide (j<=i))
def ro_ge:ROk K mg (rI0 λi j=>.bl (decide (j<=i))) geD:=WP λ_ _=>⟨rfl,rfl⟩
def eqF:D->D->Lx R
 | .int i,.int j=>some (.v (.bl (decide (i=j))))| .bl i,.bl j=>some (.v (.bl (decide (i=j))))| .str i,.str j=>some (.v (.bl (decide (i=j))))|_,_=>none
def neF:D->D->Lx R
 | .int i,.int j=>some (.v (.bl (!decide (i=j))))| .bl i,.bl j=>some (.v (.bl (!decide (i=j))))| .str i,.str j=>some (.v (.bl (!decide (i=j))))|_,_=>none
def vint:decide (V.int i=V.int j)=decide (i=j):=by simp
def vbl:decide (V.bl i=V.bl j)=decide (i=j):=by simp
def vstr:decide (V.str i=V.str j)=decide (i=j):=by simp
def ro_eq:ROk K mg rEq eqF:=by
 intro M H Z x y t u o Q f T C e k;cases t<;>cases u<;>cases e
 ·rw[yz T,yz C];refine⟨rfl,?_⟩;rw[vbl];exact k.flat f rfl
 ·rw[zJ T,zJ C];refine⟨rfl,?_⟩;rw[vint];exact k.flat f rfl
 ·rw[wT T,wT C];refine⟨rfl,?_⟩;rw[vstr];exact k.flat f rfl
def ro_ne:ROk K mg rNe neF:=by
 intro M H Z x y t u o Q f T C e k;cases t<;>cases u<;>cases e
 ·rw[yz T,yz C];refine⟨rfl,?_⟩;rw[vbl];exact k.flat f rfl
 ·rw[zJ T,zJ C];refine⟨rfl,?_⟩;rw[vint];exact k.flat f rfl
 ·rw[wT T,wT C];refine⟨rfl,?_⟩;rw[vstr];exact k.flat f rfl
def ixD:D->D->Lx R
 | .t P,.int i=>(atI P i).map .v| .l P,.int i=>(atI P i).map .v|_,_=>none
def Zu(h:Reps K mg H ds xs)(e:atI ds i=some d):∃v,atI xs i=some v/\Rep K mg H d v:=by
 unfold atI at e ⊢;have hl:=h.length;rw[hl];exists hj,ixN ds.length i,e,j;exact h.get' e
def ro_ix:ROk K mg (λx y H Q=>rIxL K x y H Q\/rIxT K x y H Q) ixD:=by
 intro M H Z x y a u o Q f T C e k;cases a with
 |t P =>
  cases u with
  |int i =>
   dsimp[ixD]at e;exists ea,atI P i,e,d;cases e;obtain⟨p,Y,rfl,L,h2⟩:=yO T;obtain⟨v,R,w⟩:=Zu h2 ea;exact .inr ⟨p,Y,i,v,rfl,zJ C,zf zI L,R,k.rep f w⟩
  |_=>cases e
 |l P =>
  cases u with
  |int i =>
   dsimp[ixD]at e;exists ea,atI P i,e,d;cases e;obtain⟨p,Y,rfl,L,h2⟩:=yB T;obtain⟨v,R,w⟩:=Zu h2 ea;exact .inl ⟨p,Y,i,v,rfl,zJ C,zI.seq L,R,k.rep f w⟩
  |_=>cases e
 |_=>cases e
def ix_both:IxR X (λx y H Q=>rIxL X.K x y H Q\/rIxT X.K x y H Q):=zCD.or zGZ
def zCb:Ls D->Lx R
 | [.t P]=>some (.v (.int P.length))| [.l P]=>some (.v (.int P.length))|_=>none
def YQ(h:Reps K mg H [d] xs):∃v,xs=[v]/\Rep K mg H d v:=by
 dsimp[Reps]at h;obtain⟨v,r,rfl,L,rfl⟩:=h;exact⟨v,rfl,L⟩
def reps2(h:Reps K mg H [d,e] xs):∃v w,xs=[v,w]/\Rep K mg H d v/\Rep K mg H e w:=by
 dsimp[Reps]at h;obtain⟨v,r,rfl,L,w,T,rfl,h2,rfl⟩:=h;exact⟨v,w,rfl,L,h2⟩
def co_len:COk K mg (λY H Q=>∃p J,Y=[.ref p]/\(SqL K H p J\/SqT K H p J)/\Q (.int J.length) H) zCb:=by
 intro M H Z Y P o Q f r e k
 match P,e with
 | [.t P],e =>
  cases e;obtain⟨v,rfl,h⟩:=YQ r;obtain⟨p,J,rfl,L,h2⟩:=yO h;refine⟨p,J,rfl,.inr (zf zI L),?_⟩;rw[h2.length];exact k.flat f rfl
 | [.l P],e =>
  cases e;obtain⟨v,rfl,h⟩:=YQ r;obtain⟨p,J,rfl,L,h2⟩:=yB h;refine⟨p,J,rfl,.inl (zI.seq L),?_⟩;rw[h2.length];exact k.flat f rfl
def QM:Ls D->Lx R
 | [.int i,.int j]=>some (.v (.int (if j > i then j else i)))|_=>none
def co_max:COk K mg (λY H Q=>∃i j,Y=[.int i,.int j]/\Q (.int (if j > i then j else i)) H) QM:=by
 intro M H Z Y P o Q f r e k
 match P,e with
 | [.int i,.int j],e =>
  cases e;obtain⟨v,w,rfl,L,h2⟩:=reps2 r;exact⟨i,j,by rw[zJ L,zJ h2],k.flat f rfl⟩
def intF:Ls D->Lx R
 | [.int i]=>some (.v (.int i))| [.bl b]=>some (.v (.int (if b then 1 else 0)))|_=>none
def co_int:COk K mg (λY H Q=>(∃i,Y=[.int i]/\Q (.int i) H)\/∃k,Y=[.bl k]/\Q (.int (if k then 1 else 0)) H) intF:=by
 intro M H Z Y P o Q f r e k
 match P,e with
 | [.int i],e =>
  cases e;obtain⟨v,rfl,L⟩:=YQ r;exact .inl ⟨i,by rw[zJ L],k.flat f rfl⟩
 | [.bl b],e =>
  cases e;obtain⟨v,rfl,L⟩:=YQ r;exact .inr ⟨b,by rw[yz L],k.flat f rfl⟩
def zGi:Ls D->Lx R
 | [.l P]=>some (.v (.t P))| [.t P]=>some (.v (.t P))|_=>none
def zFB:COk K mg (λY H Q=>∃p J,Y=[.ref p]/\((SqL K H p J/\∀l,H l=none->Q (.ref l) (upd H l (.t J)))\/(SqT K H p J/\Q (.ref p) H))) zGi:=by
 intro M H Z Y P o Q f r e k
 match P,e with
 | [.l P],e =>
  cases e;obtain⟨v,rfl,h⟩:=YQ r;obtain⟨p,J,rfl,L,h2⟩:=yB h;exact⟨p,J,rfl,.inl ⟨zI.seq L,λl hl=>k.tup f hl h2⟩⟩
 | [.t P],e =>
  cases e;obtain⟨v,rfl,h⟩:=YQ r;have g:=h;obtain⟨p,J,rfl,L,h2⟩:=yO h;exact⟨p,J,rfl,.inr ⟨zf zI L,k.rep f g⟩⟩
def listD:Ls D->Lx R
 | [.l P]=>some (.w P)| [.t P]=>some (.w P)|_=>none
def co_list:COk K mg (λY H Q=>∃p J,Y=[.ref p]/\(SqL K H p J\/SqT K H p J)/\∀l,H l=none->Q (.ref l) (upd H l (.l J))) listD:=by
 intro M H Z Y P o Q f r e k
 match P,e with
 | [.l P],e =>
  cases e;obtain⟨v,rfl,h⟩:=YQ r;obtain⟨p,J,rfl,L,h2⟩:=yB h;exact⟨p,J,rfl,.inl (zI.seq L),λl hl=>k.own f hl h2⟩
 | [.t P],e =>
  cases e;obtain⟨v,rfl,h⟩:=YQ r;obtain⟨p,J,rfl,L,h2⟩:=yO h;exact⟨p,J,rfl,.inr (zf zI L),λl hl=>k.own f hl h2⟩
def jC:Ls D->Lx (Ls Bool)
 | []=>some []| .bl b::ds=>(jC ds).map (b::·)|_=>none
theorem Jl:∀{P:Ls D} {Y:Ls V} {bs:Ls Bool},jC P=some bs->Reps K mg H P Y->Y=bs.map V.bl
 | [],_,_,e,h=>by cases e;dsimp[Reps]at h;subst h;rfl
 |d::P,_,bs,e,h=>by
  obtain⟨v,r,rfl,L,h2⟩:=h;cases d with
  |bl b =>
   dsimp[jC]at e;exists eb,jC P,e,cs;cases e;rw[yz L,Jl eb h2];rfl
  |_=>cases e
def allD:Ls D->Lx R
 | [.l P]=>(jC P).map λbs=>.v (.bl (bs.all id))|_=>none
def co_all:COk K mg (λY H Q=>∃(p:Lz) (bs:Ls Bool),Y=[.ref p]/\SqL K H p (bs.map V.bl)/\Q (.bl (bs.all id)) H) allD:=by
 intro M H Z Y P o Q f r e k
 match P,e with
 | [.l P],e =>
  dsimp[allD]at e;exists eb,jC P,e,bs;cases e;obtain⟨v,rfl,h⟩:=YQ r;obtain⟨p,J,rfl,L,h2⟩:=yB h;have:=Jl eb h2;subst this;exact⟨p,bs,rfl,zI.seq L,k.flat f rfl⟩
end
abbrev MO:=zR->Out (Lx Int×zR)
def tMO(X:Cx)(m:MO):TO:=λO H Q=>∃M E,E.length=O.length/\FR X.K X.mg M H (O.zip E)/\match m E with
 | .z=>False| .ok (b,E')=>∀H',Got X.K X.mg M O E H [] O E' H' []->Q b H'| .y x E'=>∀H',Got X.K X.mg M O E H [] O E' H' []->XE X O H' x
section
variable{X:Cx}{K:qH}{mg:Str->Lx Lv}{O:St}{M:Ld}{E:zR}{H:Hp}{T0:Fz}
def zCc{Q:Lx Int->Hp->Prop}(c:E.length=O.length)(h:FR X.K X.mg M H (T0++O.zip E))
  (k:match m E with | .z=>False | .ok (b,E')=>∀H',Got X.K X.mg M O E H T0 O E' H' []->Q b H' | .y x E'=>∀H',Got X.K X.mg M O E H T0 O E' H' []->XE X O H' x):tMO X m O H Q:=by
 refine⟨Mo M T0,E,c,h.inner,?_⟩;cases e:m E with
 |z=>rw[e]at k;exact k|ok a=>rw[e]at k;exact λH' g=>k H' (g.outer h)|y x E'=>rw[e]at k;exact λH' g=>k H' (g.outer h)
abbrev OOk(X:Cx)(e:Lx Lb)(m:MO):Prop:=PO X e (tMO X m)
def zGj(h:PO X e t)(i:∀O H Q,t' O H Q->t O H Q):PO X e t':=λG s O H Q I q=>h G s O H Q I (i O H Q q)
def zFC:MO:=λE=>.ok (none,E)
def zCd(m:ME):MO:=λE=>match m E with
 | .ok (.v (.int i),E1)=>.ok (some i,E1)| .y x E1=>.y x E1|_=>.z
def oo_none:OOk X none zFC:=zGj po_none λO H Q ⟨M,E,hl,fr,k⟩=>k H (Got.refl (T0:=[]) hl fr)
def oo_some(h:EOk X e m):OOk X (some e) (zCd m):=zGj (po_some h) λO H Q ⟨M,E,hl,fr,k⟩=>by
 unfold zCd at k;refine zo (T0:=[]) hl fr ?_;exists ea,m E,k,r,E1;cases r with
 |w P=>exact k.elim|m _ _=>exact k.elim
 |v d =>
  cases d with
  |int i =>
   intro v H' g;exact⟨i,zJ g.rep,k H' g.dropAll⟩
  |_=>exact k.elim
def eSl(f:D->Lx Int->Lx Int->Lx R)(a:ME)(z W:MO):ME:=λE=>match a E with
 | .z=>.z| .y x E1=>.y x E1
 | .ok (r,E1)=>match z E1 with
  | .z=>.z| .y x E2=>.y x E2
  | .ok (l,E2)=>match W E2 with
   | .z=>.z| .y x E3=>.y x E3
   | .ok (u,E3)=>match f r.d l u with
    |some r=>.ok (r,E3)|none=>.z
def vb(ds:Ls D)(z W:Lx Int):Ls D:=(ds.drop (HT.sIx ds.length 0 z)).take (HT.sIx ds.length ds.length W-HT.sIx ds.length 0 z)
def slD:D->Lx Int->Lx Int->Lx R
 | .t P,z,W=>some (.v (.t (vb P z W)))| .l P,z,W=>some (.w (vb P z W))|_,_,_=>none
def zAW(h:Reps K mg H ds xs)(z W:Lx Int):Reps K mg H (vb ds z W) (zEs xs z W):=by
 unfold vb zEs;rw[h.length];exact(h.drop _).take _
def sl_run(h:tM X (eSl slD a lo hi) O H Q):tSl (λx l u H Q=>rSlTT X.K x l u H Q\/rSlL X.K x l u H Q) (tM X a) (tMO X lo) (tMO X hi) O H Q:=by
 obtain⟨M,E,hl,fr,k⟩:=h;unfold eSl at k;refine zo (T0:=[]) hl fr ?_;cases q:a E with
 |z=>rw[q]at k;exact k|y x E1=>rw[q]at k;exact λH' g=>k H' g
 |ok p =>
  obtain⟨n,E1⟩:=p;rw[q]at k;intro x H1 I;refine zCc (T0:=[(some x,n.slot)]) I.len I.fr ?_;dsimp at k;cases S:lo E1 with
  |z=>rw[S]at k;exact k|y x E2=>rw[S]at k;exact λH' g=>k H' (I.trans' g).dropAll
  |ok p =>
   obtain⟨l,E2⟩:=p;rw[S]at k;intro H2 Z;have e:=I.trans' Z;refine zCc (T0:=[(some x,n.slot)]) e.len e.fr ?_;dsimp at k;cases r:hi E2 with
   |z=>rw[r]at k;exact k|y x E3=>rw[r]at k;exact λH' g=>k H' (e.trans' g).dropAll
   |ok p =>
    obtain⟨u,E3⟩:=p;rw[r]at k;intro H3 J;have g:=e.trans' J;have c:=g.rep;have f:=g.frame;cases o:n.d with
    |t ds =>
     rw[o]at k c;have w:Kt X.K X.mg M H3 (O.zip E3) (.v (.t (vb ds l u))) Q:=λv H' i j=>k v H' (g.more (T:=[(some v,_)]) i j)
     obtain⟨p,Y,rfl,L,h2⟩:=yO c;refine .inl ⟨p,Y,rfl,zf zI L,λR=>w.rep f ?_,λ_ V G=>w.tup f G (zAW h2 l u)⟩;have:vb ds l u=ds:=by
      have hl:=h2.length;rw[hl]at R;unfold vb;rw[R.1,R.2];simp
     rw[this];exact c
    |l ds =>
     rw[o]at k c;have w:Kt X.K X.mg M H3 (O.zip E3) (.w (vb ds l u)) Q:=λv H' i j=>k v H' (g.more (T:=[(some v,_)]) i j)
     obtain⟨p,Y,rfl,L,h2⟩:=yB c;exact .inr ⟨p,Y,rfl,zI.seq L,λV G=>w.own f G (zAW h2 l u)⟩
    |_=>rw[o]at k;exact k.elim
def ok_sl(P:EOk X a ma)(c:OOk X lo ml)(J:OOk X hi mh):EOk X (.Subscript a (.Slice lo hi none p2) pos) (eSl slD ma ml mh) :=
 yA (zEr (sl_tupT.or sl_list) P c J) λO H Q=>sl_run
def tyD:D->Lx String
 | .non=>some "NoneType"| .bl _=>some "bool"| .int _=>some "int"| .str _=>some "str"| .t _=>some "tuple"| .l _=>some "list"| .dic=>some "dict"| .fn _=>none| .exn _ _=>none| .m _ _=>none
def Ga(t T:String):Bool:=t==T||(t == "bool"&&T == "int")
def zFD(C:∀t∈["NoneType","bool","int","str","tuple","list","dict"],kitOne X.K (.type t) (.type T)=some (Ga t T)) :
  wB X (.builtin "isinstance") (λY H Q=>∃x d t,Y=[x,.ty T]/\Rep X.K X.mg H d x/\tyD d=some t/\Q (.bl (Ga t T)) H):=by
 intro G s O H Y D Q I r h;obtain⟨x,d,t,rfl,k,g,q⟩:=h;obtain⟨u,M,rfl,c,V⟩:=vals2 r;cases (show M=Value.type T from V);have K:∀j,EP X G O Q (.bool (Ga t T)) {s with toks:=j}:=λj=>⟨.bl _,H,I.tok j,rfl,q⟩
 cases d with
 |non=>cases g;rw[jk k]at c;cases (show u=Value.none from c);exact kia_one PySem.W.kitx_none I.kIn True.intro (C _ (by simp)) (λz=>nomatch z) K|bl b=>cases g;rw[yz k]at c;cases (show u=Value.bool b from c);exact kia_one PySem.W.kitx_bool I.kIn True.intro (C _ (by simp)) (λz=>nomatch z) K|int i=>cases g;rw[zJ k]at c;obtain⟨t,q⟩:=(show ∃t,u=Value.int i t from c);cases q;exact kia_one PySem.W.kitx_int I.kIn True.intro (C _ (by simp)) (λz=>nomatch z) K|str y=>cases g;rw[wT k]at c;obtain⟨t,q⟩:=(show ∃t,u=Value.str y t from c);cases q;exact kia_one PySem.W.kitx_str I.kIn True.intro (C _ (by simp)) (λz=>nomatch z) K
 |t P =>
  cases g;obtain⟨a,Y,rfl,L,_⟩:=yO k;cases (show u=Value.ref a from c);obtain⟨its,_,p,_⟩:=I.tuple L;obtain⟨o,R,w,_⟩:=p;exact kia_one PySem.W.kitx_tuple I.kIn ⟨o,R,w⟩ (C _ (by simp)) (λz=>nomatch z) K
 |l P =>
  cases g;obtain⟨a,Y,rfl,L,_⟩:=yB k;cases (show u=Value.ref a from c);obtain⟨its,_,p,_⟩:=I.list L;obtain⟨o,n,R,w,_⟩:=p;exact kia_one PySem.W.kitx_list I.kIn ⟨o,R,w⟩ (C _ (by simp)) (λz=>nomatch z) K
 |dic =>
  cases g;obtain⟨a,rfl,e⟩:=k;cases (show u=Value.ref a from c);obtain⟨_,_,W,_,p⟩:=(show jL X.prog X.w H s.heap a (.dK [])from I.hok a _ e);obtain⟨o,E,v,L,h2,_⟩:=p;exact kia_one PySem.W.kitx_dict I.kIn ⟨o,L,h2.1⟩ (C _ (by simp)) (λz=>nomatch z) K
 |fn x=>cases g|exn x y=>cases g|m _ _=>cases g
def eIs(T:String)(m:ME):ME:=λE=>match m E with
 | .z=>.z| .y x E1=>.y x E1
 | .ok (r,E1)=>match tyD r.d with
  |some t=>.ok (.v (.bl (Ga t T)),E1)|none=>.z
def ok_is(C:∀t∈["NoneType","bool","int","str","tuple","list","dict"],kitOne X.K (.type t) (.type T)=some (Ga t T))(n:Gl X "isinstance")(K:X.mg "isinstance"=none)
  (c:Gl X x) (h:X.mg x=none) (e:bootBuiltins x=some (.type T)) (P:EOk X a m) (Y:bootBuiltins "isinstance"=some (.builtin "isinstance")) (D:x≠"__name__":=by decide) (j:(x==("__debug__":Str))=false:=by decide)
  (i:zU a=false:=by rfl) :
  EOk X (.Call (.Name "isinstance" p) [a,.Name x p1] [] pos) (eIs T m):=by
 refine yA (Zs (zFD C) n K Y (jM P (jM (zBu (v:=.ty T) c h e rfl D j) Yp (zM rfl)) (zM i)) (by decide) (by decide) (zM i) (j6 rfl)) λO H Q ⟨M,E,hl,fr,k⟩=>?_
 unfold eIs at k;refine zo (T0:=[]) hl fr ?_;exists ea,m E,k,r,E1;intro v H' g;dsimp at k;exists et,tyD r.d,k,t;exact⟨v,r.d,t,rfl,g.rep.mono zI,et,k _ H' (g.flat (d:=.bl (Ga t T)) rfl)⟩
inductive Fl where
 |nx
 |ret (r:R)
 |bk
 |ct
 deriving Inhabited
abbrev MS:=zR->Out (Fl×zR)
def KS(X:Cx)(M:Ld)(O:St)(E:zR)(H:Hp)(T0:Fz)(D:Ends):Out (Fl×zR)->Prop
 | .z=>False| .ok (.nx,E')=>∀O' H',Got X.K X.mg M O E H T0 O' E' H' []->D.nx O' H'| .ok (.bk,E')=>∀O' H',Got X.K X.mg M O E H T0 O' E' H' []->D.bk O' H'| .ok (.ct,E')=>∀O' H',Got X.K X.mg M O E H T0 O' E' H' []->D.ct O' H'| .ok (.ret r,E')=>∀v O' H',Got X.K X.mg M O E H T0 O' E' H' [(some v,r.slot)]->D.rt v H'| .y x E'=>∀O' H',Got X.K X.mg M O E H T0 O' E' H' []->XE X O' H' x
def tS(X:Cx)(m:MS):TS:=λD O H=>∃M E,E.length=O.length/\FR X.K X.mg M H (O.zip E)/\KS X M O E H [] D (m E)
abbrev SOk(X:Cx)(st:Lf)(m:MS):Prop:=PS X st (tS X m)
abbrev GF(X:Cx)(st:Ls Lf)(m:MS):Prop:=PSs X st (tS X m)
def WQ{m:MS}{D:Ends}(c:E.length=O.length)(h:FR X.K X.mg M H (T0++O.zip E))
  (k:KS X M O E H T0 D (m E)):tS X m D O H:=by
 refine⟨Mo M T0,E,c,h.inner,?_⟩;cases e:m E with
 |z=>rw[e]at k;exact k
 |ok a =>
  obtain⟨i,E'⟩:=a;rw[e]at k;cases i with
  |nx=>exact λO' H' g=>k O' H' (g.outer h)|bk=>exact λO' H' g=>k O' H' (g.outer h)|ct=>exact λO' H' g=>k O' H' (g.outer h)|ret r=>exact λv O' H' g=>k v O' H' (g.outer h)
 |y x E'=>rw[e]at k;exact λO' H' g=>k O' H' (g.outer h)
def QN:MS:=λE=>.ok (.nx,E)
def vC(a b:MS):MS:=λE=>match a E with
 | .ok (.nx,E1)=>b E1|o=>o
def sk_nil:GF X [] QN:=zCS pss_nil λD O H ⟨M,E,hl,fr,k⟩=>k O H (Got.refl (T0:=[]) hl fr)
def sk_one(h:SOk X st m):GF X [st] m:=pss_one h
def seq_run{a b:MS}{D:Ends}(h:tS X (vC a b) D O H):tSeq (tS X a) (tS X b) D O H:=by
 obtain⟨M,E,hl,fr,k⟩:=h;unfold vC at k;refine WQ (T0:=[]) hl fr ?_;exists ea,a E,k,fl,E1;cases fl with
 |bk=>exact k|ct=>exact k|ret r=>exact k
 |nx =>
  intro O1 H1 I;refine WQ (T0:=[]) I.len I.fr ?_;dsimp at k;cases S:b E1 with
  |z=>rw[S]at k;exact k|y x E2=>rw[S]at k;exact λO' H' g=>k O' H' (I.trans' g)
  |ok p =>
   obtain⟨c,E2⟩:=p;rw[S]at k;cases c with
   |nx=>exact λO' H' g=>k O' H' (I.trans' g)|bk=>exact λO' H' g=>k O' H' (I.trans' g)|ct=>exact λO' H' g=>k O' H' (I.trans' g)|ret r=>exact λv O' H' g=>k v O' H' (I.trans' g)
def sk_cons{st:Lf}{c:Ls Lf}{a b:MS}(L:SOk X st a)(Y:GF X c b):GF X (st::c) (vC a b):=zCS (zEh L Y) λD O H=>seq_run
def sIf(c:MT)(a b:MS):MS:=λE=>match c E with
 | .ok (true,E1)=>a E1| .ok (false,E1)=>b E1| .y x E1=>.y x E1| .z=>.z
def tS_go{m:MS}{D:Ends}{O1:St}{E1:zR}{H1:Hp}(g1:Got X.K X.mg M O E H [] O1 E1 H1 [])
  (k:match m E1 with
   | .z=>False| .ok (.nx,E')=>∀O' H',Got X.K X.mg M O E H [] O' E' H' []->D.nx O' H'| .ok (.bk,E')=>∀O' H',Got X.K X.mg M O E H [] O' E' H' []->D.bk O' H'| .ok (.ct,E')=>∀O' H',Got X.K X.mg M O E H [] O' E' H' []->D.ct O' H'| .ok (.ret r,E')=>∀v O' H',Got X.K X.mg M O E H [] O' E' H' [(some v,r.slot)]->D.rt v H'
   | .y x E'=>∀O' H',Got X.K X.mg M O E H [] O' E' H' []->XE X O' H' x):tS X m D O1 H1:=by
 refine WQ (T0:=[]) g1.len g1.fr ?_;cases S:m E1 with
 |z=>rw[S]at k;exact k|y x E2=>rw[S]at k;exact λO' H' g=>k O' H' (g1.trans' g)
 |ok p =>
  obtain⟨c,E2⟩:=p;rw[S]at k;cases c with
  |nx=>exact λO' H' g=>k O' H' (g1.trans' g)|bk=>exact λO' H' g=>k O' H' (g1.trans' g)|ct=>exact λO' H' g=>k O' H' (g1.trans' g)|ret r=>exact λv O' H' g=>k v O' H' (g1.trans' g)
def sif_run{c:MT}{a b:MS}{D:Ends}(h:tS X (sIf c a b) D O H):tIfS (tMT X c) (tS X a) (tS X b) D O H:=by
 obtain⟨M,E,hl,fr,k⟩:=h;unfold sIf at k;refine JM (T0:=[]) hl fr ?_;cases e:c E with
 |z=>rw[e]at k;exact k|y x E1=>rw[e]at k;exact λH' g=>k O H' g
 |ok p =>
  obtain⟨t,E1⟩:=p;rw[e]at k;intro H1 I;cases t with
  |true=>exact zGc (tS_go I k)|false=>exact zGb (tS_go I k)
def sk_if(Z:TOk X c mc)(P:GF X a ma)(J:GF X b mb):SOk X (.If c a b pos) (sIf mc ma mb):=jf (ps_if Z P J) λD O H=>sif_run
def Yi(i:Nat)(r:R)(E:zR):Out zR:=match E[i]? with
 |none=>.z|some (.p _)=>.z|some _=>.ok (E.set i r.slot)
def sSet(i:Nat)(m:ME):MS:=λE=>match m E with
 | .z=>.z| .y x E1=>.y x E1
 | .ok (r,E1)=>match Yi i r E1 with
  | .ok E2=>.ok (.nx,E2)|_=>.z
def WR(g:Got K mg M O E H T0 O1 E1 H1 [(some v,r.slot)])(e:Yi i r E1=.ok E2):Got K mg M O E H T0 (O1.set i (some v)) E2 H1 []:=by
 unfold Yi at e;exists e1,E1[i]?,e,sl;have o:∀ds,sl≠.p ds:=λds q=>by subst q;cases e
 have w:E2=E1.set i r.slot:=by
  cases sl with
  |p ds=>exact absurd rfl (o ds)|_=>cases e;rfl
 subst w;have W:i<E1.length:=(qG.mp e1).1;have hl:=g.len;have hz:i<(O1.zip E1).length:=by rw[List.length_zip];lia
 have hT:T0++((O1.set i (some v)).zip (E1.set i r.slot))=(T0++O1.zip E1).set (T0.length+i) (some v,r.slot):=by
  rw[uE,List.set_append_right _ _ (by lia)];congr 2;lia
 have h:T0.length+i<(T0++O1.zip E1).length:=by rw[length_append];lia
 refine⟨by simp[hl],?_,?_,?_⟩
 ·show FR K mg M H1 (T0++((O1.set i (some v)).zip (E1.set i r.slot)))
  rw[hT];exact FR.put g.fr h
 ·show Step M H _ H1 (T0++((O1.set i (some v)).zip (E1.set i r.slot)))
  rw[hT];exact Step.put g.st h
 ·refine g.pk.trans λj ds q=>?_
  have a:i≠j:=λz=>by subst z;rw[e1]at q;exact o ds (qJ q)
  exact⟨⟨ds,by rw[getElem?_set_ne a];exact q⟩,by rw[getElem?_set_ne a]⟩
def zCe{i:Nat}{m:ME}{D:Ends}(h:tS X (sSet i m) D O H):tAsg (tM X m) (QS i) D O H:=by
 obtain⟨M,E,hl,fr,k⟩:=h;unfold sSet at k;refine zo (T0:=[]) hl fr ?_;cases t:m E with
 |z=>rw[t]at k;exact k|y x E1=>rw[t]at k;exact λH' g=>k O H' g
 |ok p =>
  obtain⟨r,E1⟩:=p;rw[t]at k;intro v H' g;dsimp at k;cases l:Yi i r E1 with
  |z=>rw[l]at k;exact k.elim|y _ _=>rw[l]at k;exact k.elim
  |ok E2 =>
   rw[l]at k;exact k _ H' (WR g l)
def zGk(E:X.N.Nodup)(W:X.N[i]?=some x)(V:Loc X.env.scope x)(M:EOk X e m)(S:swapsWith e (some (.Name x pos')) pos.line X.env=pure false:=by rfl)
  (t:X.fn x=true\/X.env.scope.names.lookup x=some .local:=by first|exact .inl rfl|exact .inr rfl|assumption):SOk X (.Assign [.Name x pos'] e pos) (sSet i m) :=
 jf (ps_set E W V M S t) λD O H=>zCe
def sRet(m:ME):MS:=λE=>match m E with
 | .z=>.z| .y x E1=>.y x E1| .ok (r,E1)=>.ok (.ret r,E1)
def ret_run{m:ME}{D:Ends}(h:tS X (sRet m) D O H):tRet (tM X m) D O H:=by
 obtain⟨M,E,hl,fr,k⟩:=h;unfold sRet at k;refine zo (T0:=[]) hl fr ?_;cases t:m E with
 |z=>rw[t]at k;exact k|y x E1=>rw[t]at k;exact λH' g=>k O H' g|ok p=>rw[t]at k;exact λv H' g=>k v O H' g
def sk_ret(M:EOk X e m):SOk X (.Return (some e) pos) (sRet m):=jf (ps_ret M) λD O H=>ret_run
def zCf(i:Nat):ME:=λE=>match E[i]? with
 |some (.w P)=>.ok (.w P,E.set i .e)|some (.m ks vs)=>.ok (.m ks vs,E.set i .e)|some (.v d)=>.ok (.v d,E)|_=>.z
def ok_move(i:Nat)(h:PE X (.Name x pos) (zBt i)):EOk X (.Name x pos) (zCf i):=yA h λO H Q ⟨M,E,hl,f,k⟩=>by
 unfold zCf at k;cases e:E[i]? with
 |none=>rw[e]at k;exact k.elim
 |some c =>
 rw[e]at k;cases c with
 |e=>exact k.elim|p P=>exact k.elim
 |v d =>
  obtain⟨o,L,h2⟩:=wm hl e;obtain⟨v,rfl,r⟩:=f.val o d h2;exact⟨v,L,k v H ⟨hl,f.add r,Step.refl.add,PKp.refl⟩⟩
 |w P =>
  obtain⟨o,L,h2⟩:=JO hl e;obtain⟨a,Y,rfl,j,S,n⟩:=f.ownL o (.w P) P (mem_of_getElem? h2) rfl;refine⟨.ref a,L,k _ H ?_⟩;have C:i<(O.zip E).length:=(qG.mp h2).1;have p:(O.zip E).Perm ((some (.ref a),R.slot (.w P))::(O.zip E).eraseIdx i):=by
   have:=za (some (V.ref a),Slot.w P) (O.zip E) i C;rw[Jj h2]at this;exact this
  have G:O.zip (E.set i .e)=(O.zip E).set i (some (.ref a),.e):=zk .e L;have g:((some (V.ref a),R.slot (.w P))::O.zip (E.set i .e)).Perm ((some (V.ref a),Slot.e)::((some (V.ref a),R.slot (.w P))::(O.zip E).eraseIdx i)):=by
   rw[G];exact((za _ _ _ C).cons _).trans (List.Perm.swap _ _ _)
  have l:=f.perm p;have u:FR X.K X.mg M H ((some (V.ref a),Slot.e)::((some (V.ref a),R.slot (.w P))::(O.zip E).eraseIdx i)):={
   val:=λo d q=>by
    rcases mem_cons.mp q with q|q
    ·cases q
    ·exact l.val o d q
   own:=λo s t q y=>by
    rcases mem_cons.mp q with q|q
    ·cases q;cases y
    ·exact l.own o s t q y
   nd:=by rw[ye];exact l.nd
   mal:=l.mal}
  refine⟨by simp[hl],u.perm g.symm,?_,zAT (ds0:=[]) e (λt q=>by cases q) _⟩;refine Step.weak Step.refl λb J=>?_
  have K:=zD g b J;exact zD p.symm b K
 |m z W =>
  obtain⟨o,L,h2⟩:=JO hl e;obtain⟨a,ho,rfl,j,S,n⟩:=f.own o (.m z W) (.d z W) (mem_of_getElem? h2) rfl;refine⟨.ref a,L,k _ H ?_⟩;have C:i<(O.zip E).length:=(qG.mp h2).1;have p:(O.zip E).Perm ((some (.ref a),R.slot (.m z W))::(O.zip E).eraseIdx i):=by
   have:=za (some (V.ref a),Slot.m z W) (O.zip E) i C;rw[Jj h2]at this;exact this
  have G:O.zip (E.set i .e)=(O.zip E).set i (some (.ref a),.e):=zk .e L;have g:((some (V.ref a),R.slot (.m z W))::O.zip (E.set i .e)).Perm ((some (V.ref a),Slot.e)::((some (V.ref a),R.slot (.m z W))::(O.zip E).eraseIdx i)):=by
   rw[G];exact((za _ _ _ C).cons _).trans (List.Perm.swap _ _ _)
  have l:=f.perm p;have u:FR X.K X.mg M H ((some (V.ref a),Slot.e)::((some (V.ref a),R.slot (.m z W))::(O.zip E).eraseIdx i)):={
   val:=λo d q=>by
    rcases mem_cons.mp q with q|q
    ·cases q
    ·exact l.val o d q
   own:=λo s t q y=>by
    rcases mem_cons.mp q with q|q
    ·cases q;cases y
    ·exact l.own o s t q y
   nd:=by rw[ye];exact l.nd
   mal:=l.mal}
  refine⟨by simp[hl],u.perm g.symm,?_,zAT (ds0:=[]) e (λt q=>by cases q) _⟩;refine Step.weak Step.refl λb J=>?_
  have K:=zD g b J;exact zD p.symm b K
def sDrop(m:ME):MS:=λE=>match m E with
 | .z=>.z| .y x E1=>.y x E1| .ok (_,E1)=>.ok (.nx,E1)
def zFE{m:ME}{D:Ends}(h:tS X (sDrop m) D O H):tDrop (tM X m) D O H:=by
 obtain⟨M,E,hl,fr,k⟩:=h;unfold sDrop at k;refine zo (T0:=[]) hl fr ?_;cases t:m E with
 |z=>rw[t]at k;exact k|y x E1=>rw[t]at k;exact λH' g=>k O H' g|ok p=>rw[t]at k;exact λv H' g=>k O H' g.dropAll
def sk_drop(M:EOk X e m)(S:swapsWith e none pos.line X.env=pure false:=by rfl):SOk X (.Expr e pos) (sDrop m):=jf (zBv M S) λD O H=>zFE
end
theorem wI{α β:Type}{f:α->Lx β}{x y:α}(h:f y=f x):∀{l:Ls α} {i:Nat},l[i]?=some x->(l.set i y).filterMap f=l.filterMap f
 | [],_,e=>by simp at e
 |a::l,0,e=>by
  simp at e;subst e
  dsimp[List.set_cons_zero,filterMap_cons,h]
 |a::l,i+1,e=>by
  simp at e
  dsimp[List.set_cons_succ,filterMap_cons,wI h e]
section
variable{X:Cx}{K:qH}{mg:Str->Lx Lv}{O:St}{M:Ld}{E:zR}{H:Hp}{T0 Z:Fz}
def Slot.put:Slot->Ls D->Slot
 | .w _,es=>.w es| .p _,es=>.p es|s,_=>s
def uI(S:s.list?=some ds):QX (some (.ref p),s.put es)=QX (some (.ref p),s)/\(s.put es).list?=some es:=by
 cases s<;>simp[Slot.list?]at S<;>exact⟨rfl,rfl⟩
def FR.mut(h:FR K mg M H Z)(W:Z[i]?=some (some (.ref p),s))(S:s.list?=some ds)(r:Reps K mg (Hm (Mo M Z) H) es ys) :
  FR K mg M (upd H p (.l ys)) (Z.set i (some (.ref p),s.put es))/\Step M H Z (upd H p (.l ys)) (Z.set i (some (.ref p),s.put es)):=by
 have u:yN (Z.set i (some (.ref p),s.put es))=yN Z:=wI (uI S).1 W;have c:Mo M (Z.set i (some (.ref p),s.put es))=Mo M Z:=by unfold Mo;rw[u]
 have G:p∈yN Z:=QY (mem_of_getElem? W) S rfl;obtain⟨Q,E,g,_⟩:=h.ownAt G;have n:Hm (Mo M Z) (upd H p (.l ys))=Hm (Mo M Z) H:=by
  funext b
  unfold Hm;by_cases J:Mo M Z b
  ·simp[J]
  ·have:b≠p:=λe=>J (by subst e;exact .inr G)
   simp[J,ze this]
 have mem:∀{q:Lx V×Slot},q∈Z.set i (some (.ref p),s.put es)->q=(some (.ref p),s.put es)\/q∈Z:=λ{q} P=>(List.mem_or_eq_of_mem_set P).symm
 have C:i<Z.length:=(qG.mp W).1;have O:(yN (Z.eraseIdx i)).Nodup/\p∉yN (Z.eraseIdx i):=by
  have D:Z.Perm ((some (.ref p),s)::Z.eraseIdx i):=by
   have:=za (some (V.ref p),s) Z i C;rw[Jj W]at this;exact this
  have k:=(D.filterMap QX).nodup_iff.mp h.nd;have e:List.filterMap QX ((some (V.ref p),s)::Z.eraseIdx i)=p::yN (Z.eraseIdx i):=by
   cases s<;>simp[Slot.list?]at S<;>rfl
  rw[e]at k;exact⟨(nodup_cons.mp k).2,(nodup_cons.mp k).1⟩
 have v:(Z.set i (some (.ref p),s.put es)).Perm ((some (.ref p),s.put es)::Z.eraseIdx i):=za _ _ _ C;refine⟨⟨λo d q=>?_,λo j t q e=>?_,by rw[u];exact h.nd,λb q=>?_⟩,⟨by rw[c,n];exact Yr.refl _,λb o m e=>?_⟩⟩
 ·rw[c,n]
  rcases mem q with q|q
  ·exfalso
   cases s<;>simp[Slot.list?]at S<;>cases q
  ·exact h.val o d q
 ·rw[c,n]
  rcases mem_cons.mp (v.mem_iff.mp q)with L|L
  ·cases L
   rw[zCQ (uI (p:=p) S).2]at e;cases e;exact⟨p,_,rfl,ja,g,ys,rfl,r⟩
  ·have y:(o,j)∈Z:=(List.eraseIdx_sublist Z i).subset L
   obtain⟨a,Y,R,w,l,x⟩:=h.own o j t y e;have T:a≠p:=λz=>by
    subst z;exact O.2 (wj L e R)
   exact⟨a,Y,R,by rw[ze T];exact w,l,x⟩
 ·obtain⟨o,e,I⟩:=h.mal b q
  by_cases z:b=p
  ·subst z;exact⟨_,ja,.inl ⟨_,rfl⟩⟩
  ·exact⟨o,by rw[ze z];exact e,I⟩
 ·have T:b≠p:=λz=>g (by subst z;exact m)
  rw[ze T];exact e
theorem Got.mut(g:Got K mg M O E H [] O1 E1 H1 T)(W:E1[i]?=some s)(S:s.list?=some ds)(r:Reps K mg (Hm (Mo M (O1.zip E1)) H1) es ys) :
  ∃p,O1[i]?=some (some (.ref p))/\Got K mg M O E H [] O1 (E1.set i (s.put es)) (upd H1 p (.l ys)) []:=by
 obtain⟨o,L,h2⟩:=JO g.len W;obtain⟨p,Y,rfl,_⟩:=g.frame.ownL o s ds (mem_of_getElem? h2) S;refine⟨p,L,?_⟩;obtain⟨f,Q⟩:=FR.mut g.frame h2 S r;have e:=zk (E:=E1) (s.put es) L;rw[<- e]at f Q;refine⟨by simp[g.len],f,(g.st.weak (zC (sublist_append_right _ _))).trans Q,g.pk.trans λj t q=>?_⟩;by_cases R:i=j
 ·subst R
  rw[W]at q;cases q;have C:i<E1.length:=(qG.mp W).1;exact⟨⟨es,by rw[getElem?_set_self C];rfl⟩,rfl⟩
 ·exact⟨⟨t,by rw[getElem?_set_ne R];exact q⟩,rfl⟩
def zCg{i:Nat}{s:Slot}(c:E.length=O.length)(f:FR K mg M H (O.zip E))(h:E[i]?=some s)(S:s≠.e):∃v,O[i]?=some (some v):=by
 obtain⟨o,L,h2⟩:=wm c h;cases s with
 |e=>exact absurd rfl S|v d=>obtain⟨v,rfl,_⟩:=f.val o d h2;exact⟨v,L⟩|w P=>obtain⟨a,_,rfl,_⟩:=f.own o _ _ h2 rfl;exact⟨_,L⟩|p P=>obtain⟨a,_,rfl,_⟩:=f.own o _ _ h2 rfl;exact⟨_,L⟩|m z W=>obtain⟨a,_,rfl,_⟩:=f.own o _ _ h2 rfl;exact⟨_,L⟩
def Jv:Lx Slot->Bool
 |none=>true|some .e=>true|_=>false
def Qb(h:Jv o=false):∃s,o=some s/\s≠.e:=by
 cases o with
 |none=>cases h
 |some s=>cases s<;>simp[Jv]at h<;>exact⟨_,rfl,by intro q;cases q⟩
def ixS:Slot->Int->Lx D
 | .w P,i=>atI P i| .p P,i=>atI P i| .v (.l P),i=>atI P i|_,_=>none
def zFF(i:Nat)(m:ME):ME:=λE=>if Jv E[i]?=true then .z else match m E with
 | .z=>.z| .y x E1=>.y x E1
 | .ok (.v (.int k),E1)=>match E1[i]? with
  |some s=>match ixS s k with
   |some d=>.ok (.v d,E1)|none=>.z
  |none=>.z
 |_=>.z
def ixO_run{i:Nat}{m:ME}{Q:VK}(h:tM X (zFF i m) O H Q):tOp (rIxL X.K) (zBt i) (tM X m) O H Q:=by
 obtain⟨M,E,hl,fr,k⟩:=h;unfold zFF at k;cases c:Jv E[i]? with
 |true=>rw[c]at k;exact k.elim
 |false =>
  rw[c]at k;obtain⟨s,C,J⟩:=Qb c;obtain⟨v,hv⟩:=zCg hl fr C J;refine⟨v,hv,?_⟩;refine zo (T0:=[]) hl fr ?_;exists ea,m E,k,r,E1;cases r with
  |w P=>exact k.elim|m _ _=>exact k.elim
  |v d =>
   cases d with
   |int n =>
    intro y H' g;dsimp at k;exists e1,E1[i]?,k,s1;dsimp at k;exists e2,ixS s1 n,k,d;have f:=g.frame;have K:∀{w:V},Rep X.K X.mg (Hm (Mo M (O.zip E1)) H') d w->Q w H':=λ{w} W=>k w H' (g.more (T:=[(some w,.v d)]) (f.add W) Step.refl.add)
    obtain⟨o,L,h2⟩:=wm g.len e1;have ho:o=some v:=by rw[hv]at L;exact(qJ L).symm
    subst ho;have Z:∀{P:Ls D},s1.list?=some P->atI P n=some d->rIxL X.K v y H' Q:=λ{P} q G=>by
     obtain⟨a,Y,ev,j,_,R⟩:=f.ownL _ s1 P h2 q;cases ev;obtain⟨w,u,z⟩:=Zu R G;exact⟨a,Y,n,w,rfl,zJ g.rep,SqL.of j,u,K z⟩
    cases s1 with
    |e=>cases e2|w P=>exact Z rfl e2|p P=>exact Z rfl e2|m _ _=>cases e2
    |v dd =>
     cases dd with
     |l P =>
      obtain⟨t,ev,x⟩:=f.val _ _ h2;cases ev;obtain⟨a,Y,rfl,j,S⟩:=yB x;obtain⟨w,u,z⟩:=Zu S e2;exact⟨a,Y,n,w,rfl,zJ g.rep,zI.seq j,u,K z⟩
     |_=>cases e2
   |_=>exact k.elim
def ok_ixO(i:Nat)(Y:PE X (.Name x p) (zBt i))(J:EOk X b m)(S:v9 b):EOk X (.Subscript (.Name x p) b pos) (zFF i m) :=
 yA (pe_ix zCD Y J S) λO H Q=>ixO_run
def ZZ(i:Nat)(mi K:ME):MS:=λE=>if Jv E[i]?=true then .z else match K E with
 | .z=>.z| .y x E1=>.y x E1
 | .ok (r,E1)=>match mi E1 with
  | .z=>.z| .y x E2=>.y x E2
  | .ok (.v (.int k),E2)=>match E2[i]? with
   |none=>.z
   |some s=>match s.list? with
    |none=>.z
    |some P=>match ixN P.length k with
     |none=>.z|some j=>.ok (.nx,E2.set i (s.put (P.set j r.d)))
  |_=>.z
def zCh{i:Nat}{mi K:ME}{D:Ends}(h:tS X (ZZ i mi K) D O H):tAsg (tM X K) (gSub (zBt i) (tM X mi) rSetL) D O H:=by
 obtain⟨M,E,hl,fr,k⟩:=h;unfold ZZ at k;cases c:Jv E[i]? with
 |true=>rw[c]at k;exact k.elim
 |false =>
  rw[c]at k;obtain⟨s,T,J⟩:=Qb c;obtain⟨v,hv⟩:=zCg hl fr T J;refine zo (T0:=[]) hl fr ?_;cases t:K E with
  |z=>rw[t]at k;exact k|y x E1=>rw[t]at k;exact λH' g=>k O H' g
  |ok p =>
   obtain⟨r,E1⟩:=p;rw[t]at k;intro y H1 I;refine⟨v,hv,?_⟩;refine zo (T0:=[(some y,r.slot)]) I.len I.fr ?_;dsimp at k;cases S:mi E1 with
   |z=>rw[S]at k;exact k|y x E2=>rw[S]at k;exact λH' g=>k O H' (I.trans' g).dropAll
   |ok p =>
    obtain⟨C,E2⟩:=p;rw[S]at k;cases C with
    |w P=>exact k.elim|m _ _=>exact k.elim
    |v d =>
     cases d with
     |int n =>
      intro z H2 Z;have g:=I.trans' Z;dsimp at k;exists e1,E2[i]?,k,s1;dsimp at k;exists e2,s1.list?,k,P;dsimp at k;exists e3,ixN P.length n,k,j;have q:=Got.reps (vs:=[z,y]) (rs:=[.v (.int n),r]) rfl g;obtain⟨z',_,q1,W,e,_,q2,V,_⟩:=q;cases q1;cases q2;obtain⟨o,L,h2⟩:=wm g.len e1;obtain⟨a,Y,ev,Q,_,R⟩:=g.frame.ownL _ s1 P h2 e2;subst ev;have ev:v=.ref a:=by rw[hv]at L;exact qJ (qJ L)
      subst ev;obtain⟨p,G,u⟩:=g.mut e1 e2 (R.set j V);have l:p=a:=by rw[L]at G;cases G;rfl
      subst l;exact⟨p,Y,n,j,rfl,zJ W,Q,by rw[R.length];exact e3,k O _ u⟩
     |_=>exact k.elim
def zFG(i:Nat)(Y:PE X (.Name x p) (zBt i))(J:EOk X b mi)(M:EOk X e mv)
  (P:∀v,assign (.Subscript (.Name x p) b p1) X.env v=(do
   let ov <- holding [v] (eval (.Name x p) X.env)
   let iv <- holding [v,ov] (eval b X.env)
   standAt p1
   holding [v,ov,iv] (setItem ov iv v)
   release [v,ov,iv] []):=by intro _;rfl) (S:swapsWithSole [.Subscript (.Name x p) b p1] e pos.line X.env=pure false:=by rfl):SOk X (.Assign [.Subscript (.Name x p) b p1] e pos) (ZZ i mi mv) :=
 jf (zGV M (pg_sub Y J zEt P) S) λD O H=>zCh
def sApp(i:Nat)(m:ME):MS:=λE=>match E[i]? with
 |none=>.z
 |some c=>match c.list? with
  |none=>.z
  |some _=>match m E with
   | .z=>.z| .y x E1=>.y x E1
   | .ok (r,E1)=>match E1[i]? with
    |none=>.z
    |some s=>match s.list? with
     |none=>.z|some P=>if P.length<cap then .ok (.nx,E1.set i (s.put (P++[r.d])))else .z
def app_run{i:Nat}{m:ME}{D:Ends}(h:tS X (sApp i m) D O H):tDrop (tBM X.K "list" zCE (zBt i) (zEo (tM X m) tNil)) D O H:=by
 obtain⟨M,E,hl,fr,k⟩:=h;unfold sApp at k;exists e0,E[i]?,k,s0;dsimp at k;exists e00,s0.list?,k,ds0;obtain⟨o,L,h2⟩:=wm hl e0;obtain⟨a,Y,ev,Q,_,w⟩:=fr.ownL _ s0 ds0 h2 e00;subst ev;refine⟨.ref a,L,.inl ⟨rfl,Y,SqL.of Q⟩,?_⟩;refine zo (T0:=[]) hl fr ?_;cases t:m E with
 |z=>rw[t]at k;exact k|y x E1=>rw[t]at k;exact λH' g=>k O H' g
 |ok p =>
  obtain⟨r,E1⟩:=p;rw[t]at k;intro y H1 g;dsimp at k;exists e1,E1[i]?,k,s;dsimp at k;exists e2,s.list?,k,ds;dsimp at k;by_cases Z:ds.length<cap
  ·rw[if_pos Z]at k
   obtain⟨o,e,c⟩:=wm g.len e1;obtain⟨a',J,ev,j,_,R⟩:=g.frame.ownL _ s ds c e2;subst ev;have n:a'=a:=by rw[L]at e;cases e;rfl
   subst n;obtain⟨p,G,u⟩:=g.mut e1 e2 (R.append (Reps.cons g.rep Reps.nil));have l:p=a':=by rw[L]at G;cases G;rfl
   subst l;exact⟨p,J,y,rfl,rfl,j,by rw[R.length];exact lt_of_lt_of_le Z (JF (le_refl _)),k O _ u⟩
  ·rw[if_neg Z]at k;exact k.elim
def sk_app(i:Nat)(Y:PE X (.Name x p) (zBt i))(M:EOk X e m)
  (k:attributeBase (.Name x p) "append" X.env (eval (.Name x p) X.env)=eval (.Name x p) X.env:=by rfl)
  (g:((backTo cpos (starEach (e::[]) X.env)).all (λx=>!x.1)&&(backToKw cpos (keywordEach [] X.env)).all (λx=>x.1.isSome)
   && decide ((e::([]:Ls Lb)).length+([]:Ls Keyword).length+(if([]:Ls Keyword).isEmpty then 0 else 1)<30))=true:=by rfl)
  (c:(apos.endLine==cpos.line)=true:=by rfl) (S:starEach (e::[]) X.env=(false,eval e X.env)::starEach [] X.env:=by rfl) (a:(backTo cpos (starEach [] X.env)).any (·.1)=false:=by rfl)
  (z:swapsWith (.Call (.Attribute (.Name x p) "append" apos) [e] [] cpos) none pos.line X.env=pure false:=by rfl):SOk X (.Expr (.Call (.Attribute (.Name x p) "append" apos) [e] [] cpos) pos) (sApp i m) :=
 jf (zBv (pe_bm PySem.F.plainAttrs_list PySem.F.slot_list_append PySem.F.type_list_append GU Y (jM M Yp S) k g c S a) z) λD O H=>app_run
end
section
variable{X:Cx}{K:qH}{mg:Str->Lx Lv}{O:St}{M:Ld}{E:zR}{H:Hp}{T0 Z:Fz}
abbrev MG:=D->zR->Out zR
def GOk(X:Cx)(g:TG)(tg:MG):Prop:=∀(M:Ld) (O:St) (E:zR) (H:Hp) (T0:Fz) (x:V) (d:D) (E':zR) (Q:St->Hp->Prop),E.length=O.length->FR X.K X.mg M H ((some x,.v d)::(T0++O.zip E))->tg d E=.ok E' ->
 (∀O',Got X.K X.mg M O E H T0 O' E' H []->Q O' H)->g x O H Q
def gN(i:Nat):MG:=λd E=>Yi i (.v d) E
def go_name(i:Nat):GOk X (QS i) (gN i):=λM O E H T0 x d E' Q hl f e k =>
 k _ (WR (O1:=O) (E1:=E) (H1:=H) (r:=.v d) (v:=x) ⟨hl,f,Step.refl.add,PKp.refl⟩ e)
def gNs:Ls Nat->Ls D->zR->Out zR
 | [],[],E=>.ok E
 |i::T,d::P,E=>match Yi i (.v d) E with
  | .ok E1=>gNs T P E1|_=>.z
 |_,_,_=>.z
def gT(T:Ls Nat):MG:=λd E=>match d with
 | .t P=>gNs T P E|_=>.z
def YR:Ls Nat->TGs
 | []=>gNil|i::is=>gCons (QS i) (YR is)
theorem Gb:∀(T:Ls Nat) (P:Ls D) (Y:Ls V) {M:Ld} {O0 O:St} {E0 E E':zR} {H:Hp} {T0:Fz} {a:Lz} {ts:Ls D} {Q:St->Hp->Prop},
  Got X.K X.mg M O0 E0 H T0 O E H []->Reps X.K X.mg (Hm (Mo M (T0++O.zip E)) H) P Y->gNs T P E=.ok E'->(∀O',Got X.K X.mg M O0 E0 H T0 O' E' H []->Q O' H)->YR T Y O H Q
 | [],[],Y,M,O0,O,E0,E,E',H,T0,a,ts,Q,g,r,e,k=>by
  cases e;exact⟨r,k O g⟩
 | [],d::P,Y,M,O0,O,E0,E,E',H,T0,a,ts,Q,g,r,e,k=>by cases e|i::T,[],Y,M,O0,O,E0,E,E',H,T0,a,ts,Q,g,r,e,k=>by cases e
 |i::T,d::P,Y,M,O0,O,E0,E,E',H,T0,a,ts,Q,g,r,e,k=>by
  obtain⟨x,we,rfl,c,j⟩:=r;dsimp[gNs]at e;cases h:Yi i (.v d) E with
  |z=>rw[h]at e;cases e|y _ _=>rw[h]at e;cases e
  |ok E1 =>
   rw[h]at e;refine⟨x,we,rfl,?_⟩;have I:Got X.K X.mg M O0 E0 H T0 O E H [(some x,R.slot (.v d))]:=⟨g.len,g.fr.add c,g.st.add,g.pk⟩;have Z:=WR I h;refine Gb T P we (a:=a) (ts:=ts) Z (j.mono ?_) e k;refine j5 (J4 λb J=>?_)
   -- the stored slot T a value: it yN nothing
   unfold Yi at h;exists e2,E[i]?,h,sl;have l:E1=E.set i (.v d):=by cases sl<;>cases h<;>rfl
   subst l;have W:i<E.length:=(qG.mp e2).1;have hz:i<(O.zip E).length:=by rw[List.length_zip];have:=g.len;lia
   rw[uE]at J;rw[zY]at J ⊢;rcases mem_append.mp J with J|J
   ·exact mem_append_left _ J
   ·refine qK _ ?_
    have:=zD (za _ _ _ hz) b J;rw[zq]at this;exact zC (List.eraseIdx_sublist _ _) b this
def zGl(T:Ls Nat)(g:T.length=n):GOk X (gTup X.K n (YR T)) (gT T):=λM O E H T0 x d E' Q hl f e k=>by
 cases d with
 |t P =>
  obtain⟨v,ev,r⟩:=f.val _ _ qE;cases ev;obtain⟨a,Y,rfl,L,h2⟩:=yO r;have c:P.length=T.length:=by
   have:∀(T:Ls Nat) (P:Ls D) (E E':zR),gNs T P E=.ok E'->P.length=T.length:=by
    intro T
    induction T with
    |nil=>intro P E E' h;cases P with|nil=>rfl|cons d P=>cases h
    |cons i T I =>
     intro P E E' h;cases P with
     |nil=>cases h
     |cons d P =>
      dsimp[gNs]at h;cases R:Yi i (.v d) E with
      |ok E1=>rw[R]at h;simp[I P E1 E' h]|z=>rw[R]at h;cases h|y _ _=>rw[R]at h;cases h
   exact this T P E E' e
  refine⟨a,Y,rfl,zf zI L,by rw[h2.length,c,g],?_⟩;exact Gb T P Y (a:=a) (ts:=[]) (Got.refl hl f.tail) h2 e k
 |_=>cases e
def ZD(tg:MG)(body:MS):Ls D->zR->Out (Fl×zR)
 | [],E=>.ok (.nx,E)
 |d::P,E=>match tg d E with
  | .ok E1=>match body E1 with
   | .ok (.nx,E2)=>ZD tg body P E2| .ok (.ct,E2)=>ZD tg body P E2| .ok (.bk,E2)=>.ok (.nx,E2)| .ok (.ret r,E2)=>.ok (.ret r,E2)| .y x E2=>.y x E2| .z=>.z
  |_=>.z
def Fin(X:Cx)(M:Ld)(O:St)(E:zR)(H:Hp)(D:Ends)(o:Out (Fl×zR)):Prop:=match o with
 | .z=>False| .ok (.nx,E')=>∀O' H',Got X.K X.mg M O E H [] O' E' H' []->D.nx O' H'| .ok (.bk,E')=>∀O' H',Got X.K X.mg M O E H [] O' E' H' []->D.bk O' H'| .ok (.ct,E')=>∀O' H',Got X.K X.mg M O E H [] O' E' H' []->D.ct O' H'| .ok (.ret r,E')=>∀v O' H',Got X.K X.mg M O E H [] O' E' H' [(some v,r.slot)]->D.rt v H'| .y x E'=>∀O' H',Got X.K X.mg M O E H [] O' E' H' []->XE X O' H' x
def Got.dropT{g:Str->Lx Lv}{M:Ld}(a:Got K g M O E H [] O1 E1 H1 (T++T')):Got K g M O E H [] O1 E1 H1 T where
 len:=a.len
 fr:=a.fr.sub (by rw[append_assoc];exact(sublist_append_right _ _).append_left _)
 st:=a.st.weak (zC (by rw[append_assoc];exact(sublist_append_right _ _).append_left _))
 pk:=a.pk
def uJ{tg:MG}{body:MS}{g:TG}{D:Ends}{d:DV.D}{ds:Ls DV.D}{O1:St}{E1:zR}{H1:Hp}{T:Fz}{x:V}{P:St->Hp->Prop}(n:GOk X g tg)
  (g1:Got X.K X.mg M O E H [] O1 E1 H1 T) (c:Rep X.K X.mg (Hm (Mo M (T++O1.zip E1)) H1) d x) (K:Fin X M O E H D (ZD tg body (d::ds) E1))
  (next:∀O2 E2 H2,Got X.K X.mg M O E H [] O2 E2 H2 T->Step M H1 (T++O1.zip E1) H2 (T++O2.zip E2)->Fin X M O E H D (ZD tg body ds E2)->P O2 H2) :
  g x O1 H1 λO2 H2=>tS X body {D with nx:=P,ct:=P,bk:=D.nx} O2 H2:=by
 dsimp[ZD]at K;cases R:tg d E1 with
 |z=>rw[R]at K;exact K.elim|y _ _=>rw[R]at K;exact K.elim
 |ok E2 =>
  rw[R]at K;dsimp at K;refine n M O1 E1 H1 T x d E2 _ g1.len (g1.fr.add c) R λO2 Z=>?_
  have e:=g1.trans' Z;refine WQ (T0:=T) Z.len Z.fr ?_;cases w:body E2 with
  |z=>rw[w]at K;exact K|y y E3=>rw[w]at K;exact λO' H' u=>K O' H' (e.trans' u).dropAll
  |ok p =>
   obtain⟨i,E3⟩:=p;rw[w]at K;cases i with
   |nx=>exact λO' H' u=>next O' E3 H' (e.trans' u) (Z.st.trans u.st) K|ct=>exact λO' H' u=>next O' E3 H' (e.trans' u) (Z.st.trans u.st) K|bk=>exact λO' H' u=>K O' H' (e.trans' u).dropAll|ret r=>exact λv O' H' u=>K v O' H' (e.trans' u).dropT
def sForL(m:ME)(tg:MG)(body:MS):MS:=λE=>match m E with
 | .z=>.z| .y x E1=>.y x E1
 | .ok (r,E1)=>match r.d with
  | .l P=>ZD tg body P E1|_=>.z
def zAX{m:MS}{D:Ends}(h:tS X m D O H):∃M E,E.length=O.length/\FR X.K X.mg M H (O.zip E)/\Fin X M O E H D (m E):=h
def zFH{m:ME}{tg:MG}{g:TG}{body:MS}{D:Ends}(n:GOk X g tg)(h:tS X (sForL m tg body) D O H):tFor (iList X.K (tM X m)) g (tS X body) D O H:=by
 obtain⟨M,E,hl,fr,k⟩:=zAX h;unfold sForL at k;refine zo (T0:=[]) hl fr ?_;cases t:m E with
 |z=>rw[t]at k;exact k|y x E1=>rw[t]at k;exact λH' g=>k O H' g
 |ok p =>
  obtain⟨r,E1⟩:=p;rw[t]at k;intro v H1 L;have I:Got X.K X.mg M O E H [] O E1 H1 [(some v,.v r.d)]:=⟨L.len,L.fr.frz,L.st.frz,L.pk⟩;dsimp at k;cases o:r.d with
  |l P =>
   rw[o]at k I;have u:=L.rep;rw[o]at u;obtain⟨a,xs,rfl,j,S⟩:=yB u;refine⟨a,rfl,⟨xs,zI.seq j⟩,?_⟩;have c:∀(O':St) (E':zR),Mo M ([(some (V.ref a),Slot.v (.l P))]++O'.zip E')=Mo M (O'.zip E'):=λO' E'=>vY _ _ _ _
   refine zEl (K:=X.K) (a:=a) (xs:=xs) (λi O1 H2=>∃E2,Got X.K X.mg M O E H [] O1 E2 H2 [(some (.ref a),.v (.l P))]/\SqL X.K (Hm (Mo M (O1.zip E2)) H2) a xs/\Reps X.K X.mg (Hm (Mo M (O1.zip E2)) H2) P xs/\Fin X M O E H D (ZD tg body (P.drop i) E2))
    ⟨E1,I,j,S,k⟩ (λi O' H' _ ⟨E2,_,q,_⟩=>zI.seq q) ?_ ?_
   ·rintro i x O1 H2 T ⟨E2,Z,Y,C,w⟩
    obtain⟨d,R,rx⟩:=C.get T;have o:P.drop i=d::P.drop (i+1):=by
     obtain⟨W,rfl⟩:=qG.mp R;exact List.drop_eq_getElem_cons W
    rw[o]at w;refine uJ n Z (by rw[c];exact rx) w λO3 E3 H3 J Q e=>?_
    have G:=Q.same;exact⟨E3,J,G.seq Y,C.mono G,e⟩
   ·rintro O1 H2 ⟨E2,Z,Y,C,w⟩
    rw[C.length,List.drop_length]at w;exact w O1 H2 Z.dropAll
  |_=>rw[o]at k;exact k.elim
def zE(z:Int):Nat->Ls D
 |0=>[]|n+1=>.int z::zE (z+1) n
theorem yY(z:Int):∀n,(zE z n).length=n
 |0=>rfl|n+1=>by simp[zE,yY (z+1) n]
theorem wo:∀(n i:Nat) (z:Int),i<n->(zE z n).drop i=.int (z+i)::(zE z n).drop (i+1)
 |0,_,_,h=>by lia|n+1,0,z,_=>by simp[zE]
 |n+1,i+1,z,h=>by
  have:=wo n i (z+1) (by lia);dsimp[zE,List.drop_succ_cons];rw[this];congr 2;lia
def sForR1(m:MA)(tg:MG)(body:MS):MS:=λE=>match m E with
 | .z=>.z| .y x E1=>.y x E1
 | .ok ([r],E1)=>match r.d with
  | .int j=>if -(2^62)<=j/\j<2^62 then ZD tg body (zE 0 j.toNat) E1 else .z|_=>.z
 |_=>.z
def sForR2(m:MA)(tg:MG)(body:MS):MS:=λE=>match m E with
 | .z=>.z| .y x E1=>.y x E1
 | .ok ([r,T],E1)=>match r.d,T.d with
  | .int i,.int j=>if -(2^62)<=i/\i<2^62/\-(2^62)<=j/\j<2^62 then ZD tg body (zE i (j-i).toNat) E1 else .z|_,_=>.z
 |_=>.z
def WS{tg:MG}{g:TG}{body:MS}{D:Ends}(a:GOk X g tg){z:Int}{n:Nat}{E1:zR}{H1:Hp}(g1:Got X.K X.mg M O E H [] O E1 H1 [])(K:Fin X M O E H D (ZD tg body (zE z n) E1)) :
  ∃W:Nat->Nat->St->Hp->Prop,(∃m,W 0 m O H1)/\∀i m O H,W i m O H ->
   ((Itr z n).stop i H/\D.nx O H)\/((Itr z n).go i H/\∃N:St->Hp->Prop,(∀O' H',N O' H'->∃k,k<m/\W (i+1) k O' H')/\∀x H',(Itr z n).yld i H x H'->g x O H' λO2 H2=>tS X body {D with nx:=N,ct:=N,bk:=D.nx} O2 H2):=by
 refine zB2 (λi O1 H2=>∃E2,Got X.K X.mg M O E H [] O1 E2 H2 []/\Fin X M O E H D (ZD tg body ((zE z n).drop i) E2)) ⟨E1,g1,K⟩ ?_ ?_
 ·rintro i O1 H2 c ⟨E2,Z,K⟩
  rw[wo n i z c]at K;exact uJ a Z (by dsimp[Rep]) K λO3 E3 H3 J Q e=>⟨E3,J,e⟩
 ·rintro O1 H2 ⟨E2,Z,K⟩
  rw[List.drop_of_length_le (by rw[yY];exact le_refl _)]at K;exact K O1 H2 Z
def zCi{m:MA}{tg:MG}{g:TG}{body:MS}{D:Ends}(n:GOk X g tg)(h:tS X (sForR1 m tg body) D O H):tFor (iRng1 (tMA X m)) g (tS X body) D O H:=by
 obtain⟨M,E,hl,fr,k⟩:=zAX h;unfold sForR1 at k;refine JN (T0:=[]) hl fr ?_;cases t:m E with
 |z=>rw[t]at k;exact k|y x E1=>rw[t]at k;exact λH' g=>k O H' g
 |ok p =>
  obtain⟨w,E1⟩:=p;rw[t]at k
  match w,k with
  | [r],k =>
   intro W H1 hv I;have q:=Got.reps hv I;dsimp at k;cases o:r.d with
   |int j =>
    rw[o]at k;dsimp[List.map,o]at q;obtain⟨v,rfl,L⟩:=YQ q;dsimp at k;by_cases Z:-(2^62)<=j/\j<2^62
    ·rw[if_pos Z]at k
     exact⟨j,by rw[zJ L],Z.1,Z.2,WS n I.dropAll k⟩
    ·rw[if_neg Z]at k;exact k.elim
   |_=>rw[o]at k;exact k.elim
  | [],k=>exact k.elim|_::_::_,k=>exact k.elim
def zCj{m:MA}{tg:MG}{g:TG}{body:MS}{D:Ends}(n:GOk X g tg)(h:tS X (sForR2 m tg body) D O H):tFor (iRng2 (tMA X m)) g (tS X body) D O H:=by
 obtain⟨M,E,hl,fr,k⟩:=zAX h;unfold sForR2 at k;refine JN (T0:=[]) hl fr ?_;cases t:m E with
 |z=>rw[t]at k;exact k|y x E1=>rw[t]at k;exact λH' g=>k O H' g
 |ok p =>
  obtain⟨a,E1⟩:=p;rw[t]at k
  match a,k with
  | [r,T],k =>
   intro W H1 hv I;have q:=Got.reps hv I;dsimp at k;cases o:r.d with
   |int i =>
    cases l:T.d with
    |int j =>
     rw[o,l]at k;dsimp[List.map,o,l]at q;obtain⟨v,w,rfl,L,h2⟩:=reps2 q;dsimp at k;by_cases Z:-(2^62)<=i/\i<2^62/\-(2^62)<=j/\j<2^62
     ·rw[if_pos Z]at k
      exact⟨i,j,by rw[zJ L,zJ h2],Z,WS n I.dropAll k⟩
     ·rw[if_neg Z]at k;exact k.elim
    |_=>rw[o,l]at k;exact k.elim
   |_=>rw[o]at k;exact k.elim
  | [],k=>exact k.elim| [_],k=>exact k.elim|_::_::_::_,k=>exact k.elim
def sk_forL(G:PassesOwn (model X.prog X.w) X.A X.env X.xe)(Z:X.calm=true)(W:EOk X iter m)(n:PG X tgt g)(L:GOk X g tg)(J:GF X body mb)
  (S:∀x,foldedSetIterable iter X.env x=pure x:=by intro _;rfl):SOk X (.For tgt iter body [] pos) (sForL m tg mb):=jf (zAM G Z (zBz W) n J S) λD O H=>zFH L
def zFI(G:PassesOwn (model X.prog X.w) X.A X.env X.xe)(Z:X.calm=true)(e:Gl X "range")(K:X.mg "range"=none)(P:AOk X [a] m)(n:PG X tgt g)(L:GOk X g tg)(J:GF X body mb)
  (u:zU a=false:=by rfl) (S:∀x,foldedSetIterable (.Call (.Name "range" p) [a] [] cpos) X.env x=pure x:=by intro _;rfl):SOk X (.For tgt (.Call (.Name "range" p) [a] [] cpos) body [] pos) (sForR1 m tg mb) :=
 jf (zAM G Z (GK e K P (Qa u)) n J S) λD O H=>zCi L
def zFJ(G:PassesOwn (model X.prog X.w) X.A X.env X.xe)(Z:X.calm=true)(e:Gl X "range")(K:X.mg "range"=none)(P:AOk X [a,b] m)(n:PG X tgt g)(L:GOk X g tg)(J:GF X body mb)
  (u:zU a=false:=by rfl) (h:zU b=false:=by rfl) (S:∀x,foldedSetIterable (.Call (.Name "range" p) [a,b] [] cpos) X.env x=pure x:=by intro _;rfl):SOk X (.For tgt (.Call (.Name "range" p) [a,b] [] cpos) body [] pos) (sForR2 m tg mb) :=
 jf (zAM G Z (zB0 e K P (star2 u h) (Qa h)) n J S) λD O H=>zCj L
end
section
variable{X:Cx}{K:qH}{mg:Str->Lx Lv}{O:St}{M:Ld}{E:zR}{H H':Hp}{T0 Z T:Fz}
def zFK(h:s.list?=some ds)(h':s'.list?=some ds):QX (o,s')=QX (o,s):=by
 cases s<;>simp[Slot.list?]at h<;>cases s'<;>simp[Slot.list?]at h'<;>(cases o with|none=>rfl|some v=>cases v<;>rfl)
def Zv(h:s.list?=some ds)(h':s'.list?=some ds):yN ((o,s')::Z)=yN ((o,s)::Z):=by
 unfold yN;rw[filterMap_cons,filterMap_cons,zFK h h']
def FR.lab(f:FR K mg M H ((o,s)::Z))(h:s.list?=some ds)(h':s'.list?=some ds):FR K mg M H ((o,s')::Z):=by
 have c:Mo M ((o,s')::Z)=Mo M ((o,s)::Z):=by unfold Mo;rw[Zv h h']
 refine⟨λv d q=>?_,λv t E q e=>?_,by rw[Zv h h'];exact f.nd,f.mal⟩
 ·rw[c]
  rcases mem_cons.mp q with q|q
  ·cases q;cases h'
  ·exact f.val v d (qD _ q)
 ·rw[c]
  rcases mem_cons.mp q with q|q
  ·cases q
   rw[zCQ h']at e;cases e;exact f.own o s _ qE (zCQ h)
  ·exact f.own v t E (qD _ q) e
def Gc(W:Z[i]?=some (o,s2)):((o,s1)::(T++Z)).Perm ((o,s2)::(T++Z.set i (o,s1))):=by
 have C:i<Z.length:=(qG.mp W).1;have t:Z.Perm ((o,s2)::Z.eraseIdx i):=by
  have:=za (o,s2) Z i C;rw[Jj W]at this;exact this
 have g:(Z.set i (o,s1)).Perm ((o,s1)::Z.eraseIdx i):=za _ _ _ C;refine((t.append_left T).cons _).trans ?_;refine List.Perm.trans ?_ ((g.append_left T).cons _).symm;have a:(T++(o,s2)::Z.eraseIdx i).Perm ((o,s2)::(T++Z.eraseIdx i)):=perm_middle;have b:(T++(o,s1)::Z.eraseIdx i).Perm ((o,s1)::(T++Z.eraseIdx i)):=perm_middle;exact((a.cons _).trans (List.Perm.swap _ _ _)).trans (b.cons _).symm
inductive AR where
 |tmp (d:D)
 |ln (i:Nat)
 deriving Inhabited
def AR.slot:AR->Slot
 | .tmp d=>.v d| .ln _=>.e
def zx(vs:Ls V)(as:Ls AR):Fz:=(vs.map some).zip (as.map AR.slot)
def AV(O:St):Ls AR->Ls V->Prop
 | [],W=>W=[]| .tmp _::as,W=>∃v r,W=v::r/\AV O as r| .ln i::as,W=>∃v r,W=v::r/\O[i]?=some (some v)/\AV O as r
theorem AV.length:∀{as:Ls AR} {W:Ls V},AV O as W->W.length=as.length
 | [],_,h=>by dsimp[AV]at h;subst h;rfl| .tmp _::as,_,h=>by dsimp[AV]at h;obtain⟨v,r,rfl,h⟩:=h;simp[AV.length h]| .ln i::as,_,h=>by dsimp[AV]at h;obtain⟨v,r,rfl,_,h⟩:=h;simp[AV.length h]
def zH:Ls AR->zR->Out (Ls Slot×zR)
 | [],E=>.ok ([],E)
 | .tmp d::as,E=>match zH as E with
  | .ok (c,E')=>.ok (.v d::c,E')|_=>.z
 | .ln i::as,E=>match E[i]? with
  |none=>.z
  |some s=>match s.list? with
   |none=>.z
   |some P=>match zH as (E.set i .e)with
    | .ok (c,E')=>.ok (.p P::c,E')|_=>.z
def zF:Ls AR->Ls Slot->zR->zR->Out zR
 | [],[],_,E=>.ok E| .tmp _::as,_::c,E0,E=>zF as c E0 E
 | .ln i::as,j::c,E0,E=>match E0[i]? with
  |none=>.z
  |some s=>match s.list?,j.list?,E[i]? with
   |some _,some P,some .e=>zF as c E0 (E.set i (s.put P))|_,_,_=>.z
 |_,_,_,_=>.z
theorem WT:∀(as:Ls AR) {W:Ls V} {E E':zR} {c:Ls Slot} {T:Fz},E.length=O.length->AV O as W->zH as E=.ok (c,E')->FR K mg M H (T++(zx W as++O.zip E)) ->
  FR K mg M H (T++((W.map some).zip c++O.zip E'))/\(∀b,b∈yN (T++(zx W as++O.zip E))↔b∈yN (T++((W.map some).zip c++O.zip E')))/\c.length=as.length/\E'.length=O.length
 | [],W,E,E',c,T,hl,G,e,f=>by
  cases e;dsimp[AV]at G;subst G;exact⟨f,λb=>Iff.rfl,rfl,hl⟩
 | .tmp d::as,W,E,E',c,T,hl,G,e,f=>by
  dsimp[AV]at G;obtain⟨v,r,rfl,G⟩:=G;dsimp[zH]at e;cases R:zH as E with
  |z=>rw[R]at e;cases e|y _ _=>rw[R]at e;cases e
  |ok p =>
   obtain⟨h,E1⟩:=p;rw[R]at e;cases e;have l:FR K mg M H ((T++[(some v,.v d)])++(zx r as++O.zip E)):=by
    rw[append_assoc];exact f
   obtain⟨I,Z,J,S⟩:=WT as hl G R l;refine⟨by rw[append_assoc]at I;exact I,λb=>?_,by simp[J],S⟩;have:=Z b;rw[append_assoc,append_assoc]at this;exact this
 | .ln i::as,W,E,E',c,T,hl,G,e,f=>by
  dsimp[AV]at G;obtain⟨v,r,rfl,hv,G⟩:=G;dsimp[zH]at e;exists e0,E[i]?,e,s;dsimp at e;exists e2,s.list?,e,ds;dsimp at e;cases R:zH as (E.set i .e)with
  |z=>rw[R]at e;cases e|y _ _=>rw[R]at e;cases e
  |ok p =>
   obtain⟨h,E1⟩:=p;rw[R]at e;cases e;obtain⟨o,L,h2⟩:=JO hl e0;have ho:o=some v:=by rw[hv]at L;exact(qJ L).symm
   subst ho;have n:O.zip (E.set i .e)=(O.zip E).set i (some v,.e):=zk .e hv;have g:(T++(((some v,Slot.e)::zx r as)++O.zip E)).Perm ((some v,s)::(T++(zx r as++O.zip (E.set i .e)))):=by
    rw[n];have a:(T++(((some v,Slot.e)::zx r as)++O.zip E)).Perm ((some v,Slot.e)::((T++zx r as)++O.zip E)):=by
     rw[append_assoc];exact perm_middle
    refine a.trans ((Gc h2).trans ?_);rw[append_assoc]
   have l:=(f.perm g).lab e2 (s':=.p ds) rfl;have u:FR K mg M H ((((some v,Slot.p ds))::T)++(zx r as++O.zip (E.set i .e))):=l;obtain⟨I,Z,J,S⟩:=WT as (by simp[hl]) G R u;have k:(((some v,Slot.p ds)::T)++((r.map some).zip h++O.zip E')).Perm (T++(((some v,Slot.p ds)::(r.map some).zip h)++O.zip E')):=perm_middle.symm;refine⟨I.perm k,λb=>?_,by simp[J],S⟩;have j:b∈yN (T++(((some v,Slot.e)::zx r as)++O.zip E))↔b∈yN ((some v,s)::(T++(zx r as++O.zip (E.set i .e)))):=(g.filterMap QX).mem_iff;have Q:yN ((some v,Slot.p ds)::(T++(zx r as++O.zip (E.set i .e))))=yN ((some v,s)::(T++(zx r as++O.zip (E.set i .e)))):=Zv e2 rfl;have x:=Z b;have D:b∈yN (((some v,Slot.p ds)::T)++((r.map some).zip h++O.zip E'))↔b∈yN (T++(((some v,Slot.p ds)::(r.map some).zip h)++O.zip E')):=(k.filterMap QX).mem_iff;refine j.trans ?_;rw[<- Q];exact x.trans D
theorem uK:∀(as:Ls AR) {W:Ls V} {E0 E E':zR} {c:Ls Slot} {T:Fz},E.length=O.length->AV O as W->zF as c E0 E=.ok E'->FR K mg M H (T++((W.map some).zip c++O.zip E)) ->
  FR K mg M H (T++O.zip E')/\(∀b,b∈yN (T++O.zip E')->b∈yN (T++((W.map some).zip c++O.zip E)))/\E'.length=O.length
 | [],W,E0,E,E',c,T,hl,G,e,f=>by
  cases c with
  |cons _ _=>cases e
  |nil =>
   cases e;dsimp[AV]at G;subst G;exact⟨f,λb q=>q,hl⟩
 | .tmp d::as,W,E0,E,E',c,T,hl,G,e,f=>by
  dsimp[AV]at G;obtain⟨v,r,rfl,G⟩:=G;cases c with
  |nil=>cases e
  |cons s c =>
   dsimp[zF]at e;have sub:(T++((r.map some).zip c++O.zip E)).Sublist (T++(((some v,s)::(r.map some).zip c)++O.zip E)):=(sublist_cons_self _ _).append_left _;obtain⟨I,Z,J⟩:=uK as hl G e (f.sub sub);exact⟨I,λb q=>zC sub b (Z b q),J⟩
 | .ln i::as,W,E0,E,E',c,T,hl,G,e,f=>by
  dsimp[AV]at G;obtain⟨v,r,rfl,hv,G⟩:=G;cases c with
  |nil=>cases e
  |cons j c =>
   dsimp[zF]at e;exists e0,E0[i]?,e,s;dsimp at e;cases R:s.list? with
   |none=>rw[R]at e;cases e
   |some n =>
    cases w:j.list? with
    |none=>rw[R,w]at e;cases e
    |some ds =>
     cases l:E[i]? with
     |none=>rw[R,w,l]at e;cases e
     |some X =>
      rw[R,w,l]at e;cases X with
      |e =>
       dsimp at e;obtain⟨o,L,h2⟩:=JO hl l;have ho:o=some v:=by rw[hv]at L;exact(qJ L).symm
       subst ho;have y:O.zip (E.set i (s.put ds))=(O.zip E).set i (some v,s.put ds):=zk _ hv;have t:(s.put ds).list?=some ds:=(uI (p:=0) R).2;have g:(T++(((some v,j)::(r.map some).zip c)++O.zip E)).Perm ((some v,j)::((T++(r.map some).zip c)++O.zip E)):=by
        rw[append_assoc];exact perm_middle
       have x:=(f.perm g).lab w t;have k:((some v,s.put ds)::((T++(r.map some).zip c)++O.zip E)).Perm ((some v,Slot.e)::((T++(r.map some).zip c)++O.zip (E.set i (s.put ds)))):=by
        rw[y];exact Gc h2
       have u:=(x.perm k).tail;rw[append_assoc]at u;obtain⟨I,Z,J⟩:=uK as (by simp[hl]) G e u;refine⟨I,λb q=>?_,J⟩;have h:=Z b q;rw[<- append_assoc]at h;have S:b∈yN ((some v,Slot.e)::((T++(r.map some).zip c)++O.zip (E.set i (s.put ds)))):=zC (sublist_cons_self _ _) b h;have a:=zD k.symm b S;rw[Zv w t]at a;exact zD g.symm b a
      |_=>cases e
def Qc:Ls AR->Ls Nat
 | []=>[]| .tmp _::as=>Qc as| .ln i::as=>i::Qc as
theorem uL:∀(as:Ls AR) {E E':zR} {c:Ls Slot},zH as E=.ok (c,E')->∀(k:Nat),k∉Qc as->E'[k]?=E[k]?
 | [],E,E',c,e,k,h=>by cases e;rfl
 | .tmp d::as,E,E',c,e,k,h=>by
  dsimp[zH]at e;cases R:zH as E with
  |z=>rw[R]at e;cases e|y _ _=>rw[R]at e;cases e
  |ok p =>
   rw[R]at e;cases e;exact uL as R k h
 | .ln i::as,E,E',c,e,k,h=>by
  dsimp[zH]at e;exists e0,E[i]?,e,s;dsimp at e;exists e2,s.list?,e,ds;cases R:zH as (E.set i .e)with
  |z=>rw[R]at e;cases e|y _ _=>rw[R]at e;cases e
  |ok p =>
   rw[R]at e;cases e;dsimp[Qc,mem_cons,not_or]at h;rw[uL as R k h.2,getElem?_set_ne (λq=>h.1 q.symm)]
theorem Zw:∀(as:Ls AR) {E0 E E':zR} {c:Ls Slot},zF as c E0 E=.ok E'->∀(k:Nat),E'[k]?=E[k]?\/∃(s:Slot) (P:Ls D),E0[k]?=some s/\E'[k]?=some (s.put P)
 | [],E0,E,E',c,e,k=>by
  cases c with
  |cons _ _=>cases e|nil=>cases e;exact .inl rfl
 | .tmp d::as,E0,E,E',c,e,k=>by
  cases c with
  |nil=>cases e|cons s c=>exact Zw as e k
 | .ln i::as,E0,E,E',c,e,k=>by
  cases c with
  |nil=>cases e
  |cons j c =>
   dsimp[zF]at e;exists e0,E0[i]?,e,s;dsimp at e;cases R:s.list? with
   |none=>rw[R]at e;cases e
   |some n =>
    cases w:j.list? with
    |none=>rw[R,w]at e;cases e
    |some P =>
     cases l:E[i]? with
     |none=>rw[R,w,l]at e;cases e
     |some X =>
      rw[R,w,l]at e;cases X with
      |e =>
       rcases Zw as e k with q|q
       ·by_cases a:i=k
        ·subst a
         have C:i<E.length:=(qG.mp l).1;rw[getElem?_set_self C]at q;exact .inr ⟨s,P,e0,q⟩
        ·rw[getElem?_set_ne a]at q
         exact .inl q
       ·exact .inr q
      |_=>cases e
theorem WU:∀(as:Ls AR) {E0 E E':zR} {c:Ls Slot},zF as c E0 E=.ok E'->∀(k:Nat),k∈Qc as->∃(s:Slot) (P:Ls D),E0[k]?=some s/\E'[k]?=some (s.put P)
 | [],E0,E,E',c,e,k,h=>by cases h
 | .tmp d::as,E0,E,E',c,e,k,h=>by
  cases c with
  |nil=>cases e|cons s c=>exact WU as e k h
 | .ln i::as,E0,E,E',c,e,k,h=>by
  cases c with
  |nil=>cases e
  |cons j c =>
   dsimp[zF]at e;exists e0,E0[i]?,e,s;dsimp at e;cases R:s.list? with
   |none=>rw[R]at e;cases e
   |some n =>
    cases w:j.list? with
    |none=>rw[R,w]at e;cases e
    |some P =>
     cases l:E[i]? with
     |none=>rw[R,w,l]at e;cases e
     |some X =>
      rw[R,w,l]at e;cases X with
      |e =>
       by_cases a:i=k
       ·subst a
        rcases Zw as e i with q|q
        ·have C:i<E.length:=(qG.mp l).1
         rw[getElem?_set_self C]at q;exact⟨s,P,e0,q⟩
        ·exact q
       ·dsimp[Qc,mem_cons]at h
        rcases h with h|h
        ·exact absurd h.symm a
        ·exact WU as e k h
      |_=>cases e
def zCk{as:Ls AR}(L:zH as E1=.ok (ss,E2))(Y:zF as outs E1 E2=.ok E3):PKp O E1 O E3:=λk P e=>by
 refine⟨?_,rfl⟩;by_cases C:k∈Qc as
 ·obtain⟨s,E,j,S⟩:=WU as Y k C
  rw[e]at j;cases j;exact⟨E,S⟩
 ·rcases Zw as Y k with q|⟨s,E,j,S⟩
  ·rw[q,uL as L k C];exact⟨P,e⟩
  ·rw[e]at j;cases j
   exact⟨E,S⟩
abbrev MF:=Ls Slot->Out (R×Ls Slot)
def spM(K:qH)(g:Str->Lx Lv)(n:Nat)(F:MF):Sp:=λW H Q XQ=>W.length=n/\∃(M:Ld) (c:Ls Slot),c.length=W.length/\FR K g M H ((W.map some).zip c)/\match F c with
 | .z=>False| .ok (r,outs)=>∀v H',outs.length=W.length->FR K g M H' ((some v,r.slot)::(W.map some).zip outs)->Step M H ((W.map some).zip c) H' ((some v,r.slot)::(W.map some).zip outs)->Q v H'| .y x _=>∀C L H',g x.cls=some (.ref C)->Fs L H' x.cls x.vs->FR K g M H' []->Step M H ((W.map some).zip c) H' []->XQ (.ref C) L H'
inductive Arg where
 |ev (m:ME)
 |lend (i:Nat)
def zd:Ls Arg->zR->Out (Ls AR×zR)
 | [],E=>.ok ([],E)
 | .ev m::as,E=>match m E with
  | .z=>.z| .y x E1=>.y x E1
  | .ok (r,E1)=>match zd as E1 with
   | .ok (w,E2)=>.ok (.tmp r.d::w,E2)| .y x E2=>.y x E2| .z=>.z
 | .lend i::as,E=>if Jv E[i]?=true then .z else match zd as E with
  | .ok (w,E2)=>.ok (.ln i::w,E2)| .y x E2=>.y x E2| .z=>.z
def zFL(X:Cx)(as:Ls Arg):TA:=λO H Q=>∃M E,E.length=O.length/\FR X.K X.mg M H (O.zip E)/\match zd as E with
 | .z=>False| .ok (ars,E')=>∀W H',AV O ars W->Got X.K X.mg M O E H [] O E' H' (zx W ars)->Q W H'| .y x E'=>∀H',Got X.K X.mg M O E H [] O E' H' []->XE X O H' x
abbrev zFM(X:Cx)(es:Ls Lb)(as:Ls Arg):Prop:=PA X es (zFL X as)
def WV{as:Ls Arg}{Q:Ls V->Hp->Prop}(c:E.length=O.length)(h:FR X.K X.mg M H (T0++O.zip E))
  (k:match zd as E with | .z=>False | .ok (ars,E')=>∀W H',AV O ars W->Got X.K X.mg M O E H T0 O E' H' (zx W ars)->Q W H' | .y x E'=>∀H',Got X.K X.mg M O E H T0 O E' H' []->XE X O H' x):zFL X as O H Q:=by
 refine⟨Mo M T0,E,c,h.inner,?_⟩;cases e:zd as E with
 |z=>rw[e]at k;exact k|ok a=>rw[e]at k;exact λW H' G g=>k W H' G (g.outer h)|y x E'=>rw[e]at k;exact λH' g=>k H' (g.outer h)
def ga_nil:zFM X [] []:=GW Yp λO H Q ⟨M,E,hl,fr,k⟩=>k [] H (by dsimp[AV]) (Got.refl (T0:=[]) hl fr)
def ga_ev{as:Ls Arg}(a:EOk X e m)(c:zFM X es as)(h:zU e=false:=by rfl):zFM X (e::es) (.ev m::as):=GW (jM a c (zM h)) λO H Q ⟨M,E,hl,fr,k⟩=>by
 dsimp[zd]at k;refine zo (T0:=[]) hl fr ?_;exists ea,m E,k,r1,E1;intro x H1 q;have I:Got X.K X.mg M O E H [] O E1 H1 [(some x,.v r1.d)]:=⟨q.len,q.fr.frz,q.st.frz,q.pk⟩;refine WV (T0:=[(some x,.v r1.d)]) I.len I.fr ?_;dsimp at k;cases S:zd as E1 with
 |z=>rw[S]at k;exact k|y x E2=>rw[S]at k;exact λH' g=>k H' (I.trans' g).dropAll
 |ok p =>
  rw[S]at k;intro W H2 G Z;refine k (x::W) H2 (by dsimp[AV];exact⟨x,W,rfl,G⟩) ?_;exact(I.trans' Z).perm (perm_append_comm)
def ga_lend{as:Ls Arg}(Y:PE X (.Name x p) (zBt i))(j:zFM X es as)  : zFM X (.Name x p::es) (.lend i::as):=GW (jM Y j (zM rfl)) λO H Q ⟨M,E,hl,fr,k⟩=>by
 dsimp[zd]at k;cases c:Jv E[i]? with
 |true=>rw[c]at k;exact k.elim
 |false =>
  rw[c]at k;obtain⟨s,T,J⟩:=Qb c;obtain⟨v,Y⟩:=zCg hl fr T J;refine⟨v,Y,?_⟩;refine WV (T0:=[]) hl fr ?_;exists eb,zd as E,k,ars,E2;intro W H2 G Z;refine k (v::W) H2 (by dsimp[AV];exact⟨v,W,rfl,Y,G⟩) ?_;have g:Mo M ((some v,Slot.e)::(zx W ars++([]++O.zip E2)))=Mo M (zx W ars++([]++O.zip E2)):=Mo_emp _ _ _;refine⟨Z.len,⟨λo d q=>?_,λo t P q e=>?_,?_,Z.fr.mal⟩,⟨?_,Z.st.keep⟩,Z.pk⟩
  ·show ∃h,_/\Rep X.K X.mg (Hm (Mo M ((some v,Slot.e)::(zx W ars++([]++O.zip E2)))) H2) d h
   rw[g];rcases mem_cons.mp q with q|q
   ·cases q
   ·exact Z.fr.val o d q
  ·show ∃a ho,_/\_/\_/\CRep X.K X.mg (Hm (Mo M ((some v,Slot.e)::(zx W ars++([]++O.zip E2)))) H2) a P ho
   rw[g];rcases mem_cons.mp q with q|q
   ·cases q;cases e
   ·exact Z.fr.own o t P q e
  ·show(yN ((some v,Slot.e)::(zx W ars++([]++O.zip E2)))).Nodup
   rw[ye];exact Z.fr.nd
  ·show Yr _ (Hm (Mo M ((some v,Slot.e)::(zx W ars++([]++O.zip E2)))) H2)
   rw[g];exact Z.st.same
def Za:Ls AR->Bool
 | []=>true| .tmp _::as=>Za as| .ln _::_=>false
theorem vc:∀{as:Ls AR} {E E':zR} {c:Ls Slot},Za as=true->zH as E=.ok (c,E')->E'=E
 | [],E,E',c,_,e=>by cases e;rfl
 | .tmp d::as,E,E',c,h,e=>by
  dsimp[zH]at e;cases q:zH as E with
  |z=>rw[q]at e;cases e|y _ _=>rw[q]at e;cases e|ok p=>obtain⟨l,E1⟩:=p;rw[q]at e;cases e;exact vc (as:=as) h q
 | .ln i::as,E,E',c,h,e=>by cases h
def yl(F:MF)(as:Ls Arg):ME:=λE=>match zd as E with
 | .z=>.z| .y x E1=>.y x E1
 | .ok (w,E1)=>match zH w E1 with
  | .ok (c,E2)=>match F c with
   | .ok (r,Z)=>match zF w Z E1 E2 with
    | .ok E3=>.ok (r,E3)|_=>.z
   | .y x _=>if Za w=true then .y ⟨x.cls,false,x.vs⟩ E1 else .z| .z=>.z
  |_=>.z
def zFN(D:ars.length=n)(R:zH ars E1=.ok (ss,E2))(w:F ss=.ok (r,outs))(l:zF ars outs E1 E2=.ok E3)
  (G:AV O ars vs) (g:Got K mg M O E H [] O E1 H1 (zx vs ars)) (k:∀v H',Got K mg M O E H [] O E3 H' [(some v,r.slot)]->Q v H'):spM K mg n F vs H1 Q XQ:=by
 obtain⟨c,S,W,P⟩:=WT (T:=[]) ars g.len G R g.fr;have a:FR K mg M H1 (O.zip E2++(vs.map some).zip ss):=FR.perm (T:=O.zip E2++(vs.map some).zip ss) (Z:=(vs.map some).zip ss++O.zip E2) c perm_append_comm;have i:=G.length;refine⟨i.trans D,Mo M (O.zip E2),ss,W.trans i.symm,a.inner,?_⟩;rw[w];intro v H' o u Y;have q:=FR.outer a u Y;have t:=Step.outer Y;have p:(O.zip E2++((some v,r.slot)::(vs.map some).zip outs)).Perm ([(some v,r.slot)]++((vs.map some).zip outs++O.zip E2)):=by
  refine perm_append_comm.trans ?_;exact List.Perm.refl _
 obtain⟨j,y,e⟩:=uK ars P G l (q.perm p);refine k v H' ⟨e,j,?_,g.pk.trans (zCk R l)⟩;have I:Step M H (O.zip E) H1 (O.zip E2++(vs.map some).zip ss):=g.st.weak λb J=>(S b).mpr (zD (T:=O.zip E2++(vs.map some).zip ss) (Z:=(vs.map some).zip ss++O.zip E2) perm_append_comm b J)
 have h:=I.trans t;exact h.weak λb J=>zD p.symm b (y b J)
def zFO(D:ars.length=n)(c:Za ars=true)(R:zH ars E1=.ok (ss,E2))(w:F ss=.y x outs)
  (G:AV O ars vs) (g:Got K mg M O E H [] O E1 H1 (zx vs ars)) (k:∀C L H',mg x.cls=some (.ref C)->Fs L H' x.cls x.vs->Got K mg M O E H [] O E1 H' []->XQ (.ref C) L H'):spM K mg n F vs H1 Q XQ:=by
 obtain⟨l,S,W,P⟩:=WT (T:=[]) ars g.len G R g.fr;have a:FR K mg M H1 (O.zip E2++(vs.map some).zip ss):=FR.perm (T:=O.zip E2++(vs.map some).zip ss) (Z:=(vs.map some).zip ss++O.zip E2) l perm_append_comm;have i:=G.length;refine⟨i.trans D,Mo M (O.zip E2),ss,W.trans i.symm,a.inner,?_⟩;rw[w];intro C L H' e hf u Y;have q:=FR.outer a u Y;have t:=Step.outer Y;rw[append_nil]at q t;have I:Step M H (O.zip E) H1 (O.zip E2++(vs.map some).zip ss):=g.st.weak λb J=>(S b).mpr (zD (T:=O.zip E2++(vs.map some).zip ss) (Z:=(vs.map some).zip ss++O.zip E2) perm_append_comm b J)
 obtain rfl:=vc c R;exact k C L H' e hf ⟨g.len,q,I.trans t,g.pk⟩
theorem jv:∀(as:Ls Arg) {E E':zR} {w:Ls AR},zd as E=.ok (w,E')->w.length=as.length
 | [],E,E',w,e=>by cases e;rfl
 | .ev m::as,E,E',w,e=>by
  dsimp[zd]at e;cases t:m E with
  |z=>rw[t]at e;cases e|y _ _=>rw[t]at e;cases e
  |ok p =>
   obtain⟨r,E1⟩:=p;rw[t]at e;dsimp at e;cases S:zd as E1 with
   |z=>rw[S]at e;cases e|y _ _=>rw[S]at e;cases e|ok p=>obtain⟨a,b⟩:=p;rw[S]at e;cases e;simp[jv as S]
 | .lend i::as,E,E',w,e=>by
  dsimp[zd]at e;split at e
  ·cases e
  ·cases S:zd as E with
   |z=>rw[S]at e;cases e|y _ _=>rw[S]at e;cases e|ok p=>obtain⟨a,b⟩:=p;rw[S]at e;cases e;simp[jv as S]
def zAY{as:Ls Arg}(D:as.length=n)(h:tM X (yl F as) O H Q):zFL X as O H λW H1=>spM X.K X.mg n F W H1 Q (EX X O):=by
 obtain⟨M,E,hl,fr,k⟩:=h;unfold yl at k;refine WV (T0:=[]) hl fr ?_;exists ea,zd as E,k,ars,E1;intro W H1 G g;dsimp at k;cases R:zH ars E1 with
 |z=>rw[R]at k;exact k.elim|y _ _=>rw[R]at k;exact k.elim
 |ok p =>
  obtain⟨c,E2⟩:=p;rw[R]at k;dsimp at k;cases w:F c with
  |z=>rw[w]at k;exact k.elim
  |y x o =>
   rw[w]at k;cases hl:Za ars with
   |false=>rw[hl]at k;exact k.elim
   |true =>
    rw[hl]at k;exact zFO ((jv as ea).trans D) hl R w G g λC L H' K hf u=>⟨⟨x.cls,false,x.vs⟩,C,rfl,K,rfl,hf,k H' u⟩
  |ok p =>
   obtain⟨r,Z⟩:=p;rw[w]at k;dsimp at k;cases l:zF ars Z E1 E2 with
   |z=>rw[l]at k;exact k.elim|y _ _=>rw[l]at k;exact k.elim
   |ok E3 =>
    rw[l]at k;exact zFN ((jv as ea).trans D) R w l G g k
inductive Mask:Fz->Fz->Prop
 |nil (Z:Fz):Mask Z []
 |keep {z:Option V×Slot} {Z W:Fz}:Mask Z W->Mask (z::Z) (z::W)
 |skip {z:Option V×Slot} {Z W:Fz}:Mask Z W->Mask (z::Z) W
 |extra {o:Option V} {Z W:Fz}:Mask Z W->Mask Z ((o,.e)::W)
def Mask.emq(h:Mask Z W):Mask (z::Z) ((o,.e)::W):=.skip (.extra h)
theorem Mask.sub:∀{Z W:Fz},Mask Z W->(yN W).Sublist (yN Z)
 |_,_,.nil Z=>by simp[yN]
 |_,_,.keep (z:=z) (Z:=Z) (W:=W) h=>by
  have e:∀W:Fz,yN (z::W)=yN [z]++yN W:=λW=>zY [z] W
  rw[e Z,e W];exact h.sub.append_left _
 |_,_,.skip (z:=z) (Z:=Z) (W:=W) h=>by
  have e:∀W:Fz,yN (z::W)=yN [z]++yN W:=λW=>zY [z] W
  rw[e Z];exact h.sub.trans (sublist_append_right _ _)
 |_,_,.extra (Z:=Z) (W:=W) h=>by
  rw[ye];exact h.sub
theorem Mask.mem:∀{Z W:Fz},Mask Z W->∀o s,s≠Slot.e->(o,s)∈W->(o,s)∈Z
 |_,_,.nil Z,o,s,S,h=>by cases h
 |_,_,.keep h,o,s,S,q=>by
  rcases mem_cons.mp q with q|q
  ·subst q;exact qE
  ·exact qD _ (h.mem o s S q)
 |_,_,.skip h,o,s,S,q=>qD _ (h.mem o s S q)
 |_,_,.extra h,o,s,S,q=>by
  rcases mem_cons.mp q with q|q
  ·cases q;exact absurd rfl S
  ·exact h.mem o s S q
def FR.mask(f:FR K mg M H Z)(h:Mask Z W):FR K mg M H W where
 val:=λo d q=>by
  obtain⟨v,e,r⟩:=f.val o d (h.mem o _ (by intro z;cases z) q);exact⟨v,e,r.mono (j5 (J4 λb J=>h.sub.subset J))⟩
 own:=λo s P q e=>by
  obtain⟨a,Y,R,w,l,r⟩:=f.own o s P (h.mem o s (by intro z;subst z;cases e) q) e;exact⟨a,Y,R,w,l,r.mono (j5 (J4 λb J=>h.sub.subset J))⟩
 nd:=f.nd.sublist h.sub
 mal:=f.mal
def zu:Ls Slot->zR->Ls Slot
 | [],_=>[]| .p _::ss,s::E=>s::zu ss E|_::ss,_::E=>.e::zu ss E|_::ss,[]=>.e::zu ss []
def fnM(N:Nat)(body:MS):MF:=λc=>match body (c++replicate (N-c.length) .e)with
 | .ok (.ret r,E')=>.ok (r,zu c E')| .ok (.nx,E')=>.ok (.v .non,zu c E')| .y x E'=>.y x (zu c E')|_=>.z
theorem zb:∀(c:Ls Slot) (E:zR),(zu c E).length=c.length
 | [],_=>rfl| .p _::c,s::E=>by simp[zu,zb c E]| .e::c,s::E=>by simp[zu,zb c E]| .v _::c,s::E=>by simp[zu,zb c E]| .w _::c,s::E=>by simp[zu,zb c E]| .m _ _::c,s::E=>by simp[zu,zb c E]| .p _::c,[]=>by simp[zu,zb c []]| .e::c,[]=>by simp[zu,zb c []]| .v _::c,[]=>by simp[zu,zb c []]| .w _::c,[]=>by simp[zu,zb c []]| .m _ _::c,[]=>by simp[zu,zb c []]
theorem Zx:∀(c:Ls Slot) (W:Ls (Lx V)) (O:St) (E:zR),E.length=O.length->W.length=c.length->(∀(i:Nat) P,c[i]?=some (.p P)->O[i]?=W[i]?)->Mask (O.zip E) (W.zip (zu c E))
 | [],W,O,E,_,_,_=>by
  dsimp[zu,List.zip_nil_right];exact .nil _
 |s::c,[],O,E,_,h,_=>by simp at h|s::c,v::W,[],y::E,h,_,_=>by simp at h|s::c,v::W,x::O,[],h,_,_=>by simp at h
 |s::c,v::W,[],[],L,h2,h4=>by
  have I:=Zx c W [] [] rfl (by exists h2) λi P e=>by
   have:=h4 (i+1) P (by exists e);exists this
  cases s<;>exact .extra I
 |s::c,v::W,x::O,y::E,L,h2,h4=>by
  have I:=Zx c W O E (by exists L) (by exists h2) λi P e=>by
   have:=h4 (i+1) P (by exists e);exists this
  cases s with
  |p P =>
   have e:=h4 0 P rfl;simp at e;subst e;exact .keep I
  |e=>dsimp[zu,zip_cons_cons];exact .emq I|v d=>dsimp[zu,zip_cons_cons];exact .emq I|w P=>dsimp[zu,zip_cons_cons];exact .emq I|m z W=>dsimp[zu,zip_cons_cons];exact .emq I
theorem Qd:∀n:Nat,(replicate n (none:Lx V)).zip (replicate n Slot.e)=replicate n (none,Slot.e)
 |0=>rfl|n+1=>by simp[replicate_succ,Qd n]
def uM(n:Nat):yN (replicate n ((none:Lx V),Slot.e))=[]:=by
 induction n with
 |zero=>rfl|succ n I=>rw[replicate_succ,ye,I]
def FR.emps(f:FR K mg M H Z)(n:Nat):FR K mg M H (Z++replicate n (none,.e)):=by
 have u:yN (Z++replicate n (none,Slot.e))=yN Z:=by rw[zY,uM,append_nil]
 have c:Mo M (Z++replicate n (none,Slot.e))=Mo M Z:=by unfold Mo;rw[u]
 refine⟨λo d q=>?_,λo s P q e=>?_,by rw[u];exact f.nd,f.mal⟩
 ·rw[c]
  rcases mem_append.mp q with q|q
  ·exact f.val o d q
  ·have:=List.eq_of_mem_replicate q;cases this
 ·rw[c]
  rcases mem_append.mp q with q|q
  ·exact f.own o s P q e
  ·have:=List.eq_of_mem_replicate q;cases this;cases e
def body_ok(o:∀x O' H',(∀C L,X.mg x.cls=some (.ref C)->Fs L H' x.cls x.vs->XQ (.ref C) L H')->XE X O' H' x)(h:spM X.K X.mg n (fnM N.length body) vs H Q XQ):tS X body {nx:=λ_ H'=>Q .non H',rt:=Q} (L2.j0 N vs) H:=by
 obtain⟨hv,M,c,hl,f,k⟩:=h;have Z:(L2.j0 N vs).zip (c++replicate (N.length-c.length) Slot.e)=(vs.map some).zip c++replicate (N.length-c.length) (none,.e):=by
  unfold L2.j0;rw[zip_append (by simp[hl]),hl,Qd]
 have t:(c++replicate (N.length-c.length) Slot.e).length=(L2.j0 N vs).length:=by
  unfold L2.j0;simp[hl]
 have l:FR X.K X.mg M H ((L2.j0 N vs).zip (c++replicate (N.length-c.length) Slot.e)):=by rw[Z];exact f.emps _
 have u:∀b,b∈yN ((L2.j0 N vs).zip (c++replicate (N.length-c.length) Slot.e))->b∈yN ((vs.map some).zip c):=λb J=>by
  rw[Z,zY,uM,append_nil]at J;exact J
 refine⟨M,c++replicate (N.length-c.length) Slot.e,t,l,?_⟩;unfold fnM at k;have K:∀{O':St} {E':zR} {H':Hp} {v:V} {r:R},Got X.K X.mg M (L2.j0 N vs) (c++replicate (N.length-c.length) Slot.e) H [] O' E' H' [(some v,r.slot)] ->
   (∀v H',(zu c E').length=vs.length->FR X.K X.mg M H' ((some v,r.slot)::(vs.map some).zip (zu c E'))->Step M H ((vs.map some).zip c) H' ((some v,r.slot)::(vs.map some).zip (zu c E'))->Q v H')->Q v H':=λ{O' E' H' v r} g a=>by
  have mk:Mask (O'.zip E') ((vs.map some).zip (zu c E')):=Zx c _ O' E' g.len (by simp[hl]) λi P e=>by
   have W:i<c.length:=(qG.mp e).1;have w:(c++replicate (N.length-c.length) Slot.e)[i]?=some (.p P):=by rw[getElem?_append_left W];exact e
   have:=(g.pk i P w).2;rw[this];unfold L2.j0;rw[getElem?_append_left (by simp;lia)]
  refine a v H' (by rw[zb,hl]) (g.fr.mask (.keep mk)) ?_;exact(g.st.weak λb J=>(Mask.keep mk).sub.subset J).left u
 cases S:body (c++replicate (N.length-c.length) Slot.e)with
 |z=>rw[S]at k;exact k
 |y x E' =>
  rw[S]at k;intro O' H' g;refine o x O' H' λC L q hf=>k C L H' q hf (g.fr.sub (List.nil_sublist _)) ?_
  exact(g.st.weak λb J=>by cases J).left u
 |ok p =>
  obtain⟨j,E'⟩:=p;rw[S]at k;cases j with
  |bk=>exact k.elim|ct=>exact k.elim|ret r=>exact λv O' H' g=>K g k|nx=>exact λO' H' g=>K (r:=.v .non) (g.flat (d:=.non) rfl) k
end
section
variable{P:Lc}{w:Le}{K:qH}{mg:Str->Lx Lv}{base:Heap}
def fn_ok(F:Fun K x qual st f fd)(S:FnScope N ps (zc st))
  (J:∀(z:Lv) (A:Lg) (outer:Ls Env) (s:La) (H:Hp) (E:XK),(c=true->A.handled=none)->RoomN k (A.deeper (PyProof.Rows.envOfC qual (zc st) s.heap.objs.size f z)) ->
   GF (cxN c P w K mg base N qual (zc st) f z A outer s H E) (jK st) body):FnOkN c P w K mg base (k+1) f fd ps (spM K mg ps.length (fnM N.length body)):=by
 obtain⟨Y,L,kV,I,C,G,z,i,g,rfl,a,R⟩:=F.ex;exact fn_ofN a R S (λW H Q E h=>h.1) λA outer s H W Q E j p h=>⟨_,J z A outer s H E j p,body_ok (X:=cxN c P w K mg base N qual (zc st) f z A outer s H E) (λx O' H' e=>zEz e) h⟩
end
section
variable{X:Cx}{k:Nat}{f:Lz}{fd:FuncData}{ps:Ls Str}{F:MF}{x:Str}{p pos:Pos}{e:Lb}{es:Ls Lb}{as:Ls Arg}
def ok_call(G:FnOkN c X.prog X.w X.K X.mg X.base k f fd ps (spM X.K X.mg ps.length F))(j:c=true->X.A.handled=none)(g:RoomN k X.A)(n:Gl X x)(K:X.mg x=some (.ref f))(C:keepIn X.K (.ref f)=true)(J:JL X.K fd ps [])(P:zFM X (e::es) as)(D:as.length=ps.length:=by rfl)
  (a:(x==("__debug__":Str))=false:=by decide) (M:zU e=false:=by rfl) (o:jB es=true:=by rfl):EOk X (.Call (.Name x p) (e::es) [] pos) (yl F as) :=
 yA (zEy G j g n K C J P a (zM M) (j6 o)) λO H Q=>zAY D
end
section
variable{X:Cx}{O:St}{H:Hp}
def zFP(t:PE X fe tf)(P:PA X (e::es) ta)
  (Z:eval (.Call fe (e::es) [] pos) X.env=(do callWith pos (<- eval fe X.env) [] (backTo pos (starEach (e::es) X.env)) (backToKw pos (keywordEach [] X.env))):=by rfl)
  (M:zU e=false:=by rfl) (o:jB es=true:=by rfl) :
  PE X (.Call fe (e::es) [] pos) (λO H Q=>tf O H λv H1=>∃f y T k L,v=.ref f/\keepIn X.K (.ref f)=true/\(∃c,FnOkN c X.prog X.w X.K X.mg X.base k f y T L/\(c=true->X.A.handled=none))/\RoomN k X.A/\JL X.K y T []/\ta O H1 λW H2=>L W H2 Q (EX X O)):=by
 intro a s O H Q I h;refine PyProof.Rows.Call_ (thn (t a s O H _ I h) λv l ⟨x,H1,I1,g,f,y,T,k,L,K,C,⟨c,G,j⟩,p,J,q⟩=>?_) Z;subst K;cases g;refine callWith_K (h₀:=X.base) I1.ok.mod.kin C (thn (P pos a l O H1 _ I1 q) λD Y ⟨W,H2,I2,r,q⟩=>⟨I2.kIn,?_⟩) (zM M) (j6 o);exact zCM G j p J I2 r q
def zBT(X:Cx)(n:Nat)(j:Str->Lx MF):Prop:=∀x F,j x=some F->∃f y T k,X.mg x=some (.ref f)/\keepIn X.K (.ref f)=true/\(∃c,FnOkN c X.prog X.w X.K X.mg X.base k f y T (spM X.K X.mg n F)/\(c=true->X.A.handled=none))/\RoomN k X.A/\JL X.K y T []
def WW(j:Str->Lx MF)(a:ME)(as:Ls Arg):ME:=λE=>match a E with
 | .z=>.z| .y x E1=>.y x E1
 | .ok (.v (.fn x),E1)=>match j x with
  |some F=>yl F as E1|none=>.z
 |_=>.z
def zCl{j:Str->Lx MF}{as:Ls Arg}(V:zBT X n j)(D:as.length=n)(h:tM X (WW j mf as) O H Q) :
  tM X mf O H λv H1=>∃f t T k L,v=.ref f/\keepIn X.K (.ref f)=true/\(∃c,FnOkN c X.prog X.w X.K X.mg X.base k f t T L/\(c=true->X.A.handled=none))/\RoomN k X.A/\JL X.K t T []/\zFL X as O H1 λW H2=>L W H2 Q (EX X O):=by
 obtain⟨M,E,hl,fr,k⟩:=h;unfold WW at k;refine zo (T0:=[]) hl fr ?_;exists ea,mf E,k,r,E1;cases r with
 |w P=>exact k.elim|m _ _=>exact k.elim
 |v d =>
  cases d with
  |fn x =>
   intro v H1 g;dsimp at k;exists et,j x,k,F;have o:=g.rep;dsimp[R.d,Rep]at o;obtain⟨f,rfl,K⟩:=o;obtain⟨i,t,T,a,e,C,G,Y,J⟩:=V x F et;rw[K]at e;cases e;refine⟨f,t,T,a,_,rfl,C,G,Y,J,?_⟩;have I:=g.dropAll;have q:tM X (yl F as) O H1 Q:=by
    refine zo (T0:=[]) I.len I.fr ?_;dsimp at k;cases S:yl F as E1 with
    |z=>rw[S]at k;exact k|y x E2=>rw[S]at k;exact λH'' u=>k H'' (I.trans' u)|ok p=>rw[S]at k;exact λl H'' u=>k l H'' (I.trans' u)
   exact zAY D q
  |_=>exact k.elim
def zFQ{as:Ls Arg}{j:Str->Lx MF}(V:zBT X n j)(t:EOk X fe mf)(P:zFM X (e::es) as)(D:as.length=n:=by rfl)
  (Z:eval (.Call fe (e::es) [] pos) X.env=(do callWith pos (<- eval fe X.env) [] (backTo pos (starEach (e::es) X.env)) (backToKw pos (keywordEach [] X.env))):=by rfl)
  (M:zU e=false:=by rfl) (o:jB es=true:=by rfl):EOk X (.Call fe (e::es) [] pos) (WW j mf as) :=
 yA (zFP t P Z M o) λO H Q=>zCl V D
end
end DV
namespace L2
open PySem PySem.Spec PyProof.Rows
def Inv.big(I:Inv X pins O H s):sysModules<s.heap.objs.size:=by
 have h:mainGlobals<s.heap.objs.size:=(I.mod.glob.keeps I.bk).lt;exact lt_trans (by decide) h
def cxB(X:Cx)(N:Ls Str)(Y:Scope)(cl:Ls (Str×Lz))(C:Lz)(ex:Ls Lz)(s:La)(H:Hp):Cx :=
 {X with N:=N,s₀:=s,H₀:=H,env:=compEnvC Y cl C X.env,outer:=X.stack,ex:=ex,fn:=λy=>Y.names.lookup y==some NameKind.cell,pn:=[]}
def zEa(X:Cx)(e:Ls Lb)(t:TT):Prop:=∀(G:Ls (Lz×Obj)) (s:La) (O:St) (H:Hp) (Q:Bool->Hp->Prop),Inv X G O H s->t O H Q ->
 wpAny (model X.prog X.w) X.A (forIn e true λc r=>if r=true then do let ok <- isTrue c X.env (eval c X.env);pure (ForInStep.yield ok)else pure (ForInStep.yield r)) (TP X G O Q) X.xe s
def pif_nil:zEa X [] (λO H Q=>Q true H):=λG s O H Q I h=>wpAny_tests_nil ⟨H,I,h⟩
def pif_one(h:PT X c t):zEa X [c] t:=λG s O H Q I q=>wpAny_tests_one (h G s O H Q I q)
def y0(nl:Nat)(caps:Ls Nat)(O:St):St:=replicate nl none++caps.map λj=>(O[j]?).getD none
def zGm(p:Pos)(t:Lb)(fs:Ls Lb)(it:Lv)(env:Env)(h:Sem PySem.Fin->Sem PySem.Fin)(k:Sem PySem.Fin):Sem PySem.Fin:=do
 standAt p
 let r <- pyNext it
 match r with
 |none=>pure (.done .next)
 |some v=>do
  letOwnedTupleGo t it v
  assign t env v
  let ok <- forIn fs true λc r=>if r=true then do let ok <- isTrue c env (eval c env);pure (ForInStep.yield ok)else pure (ForInStep.yield r)
  if ok=true then h k else k
abbrev TAc:=Lz->St->Hp->(St->Hp->Prop)->Prop
def PAc(Y:Cx)(h:Lv->Env->Sem PySem.Fin->Sem PySem.Fin)(v:TAc):Prop:=∀(D:Lz) (G:Ls (Lz×Obj)) (s:La) (O:St) (H:Hp) (Nx:St->Hp->Prop) (k:Sem PySem.Fin) (Q:PySem.Fin->La->Prop) (E:Ly),Inv Y G O H s->v D O H Nx ->
 (∀O' H' j,Inv Y G O' H' j->Nx O' H'->wpAny (model Y.prog Y.w) Y.A k Q E j)->wpAny (model Y.prog Y.w) Y.A (h (.ref D) Y.env k) Q E s
def Trn(J:It)(g:TG)(tt:TT)(v:TAc)(D:Lz)(L:St->Hp->Prop)(O:St)(H:Hp):Prop:=∃W:Nat->Nat->St->Hp->Prop,(∃m,W 0 m O H)/\∀i m O' H',W i m O' H' ->
 (J.stop i H'/\L O' H')\/(J.go i H'/\∃N2:St->Hp->Prop,(∀O'' H'',N2 O'' H''->∃k,k<m/\W (i+1) k O'' H'')/\∀x H'',J.yld i H' x H''->g x O' H'' λO2 H2 =>
  tt O2 H2 λb H3=>if b=true then v D O2 H3 N2 else N2 O2 H3)
def zFR(o:Lz->HO)(nl:Nat)(caps:Ls Nat)(w:TI)(g:TG)(tt:TT)(v:TAc):TE:=λO H Q=>w O H λJ H1=>∀D,H1 D=none->Trn J g tt v D (λ_ H'=>Q (.ref D) H') (y0 nl caps O) (upd H1 D (o D))
def LoopN(P:Lc)(w:Le)(e:Lb):Prop:=∀d l u h,(Code.compLoop e d l u h).quiet=true/\(∀A:Lg,A.under (.compLoop e d l u h)=A)/\(model P w).den (.compLoop e d l u h)=(compTurn e d l u h).onRaise (λx=>do noteFrame x h;theTreesLotGoes x)
def WX{a:Ll}{aa:Lv->Env->Sem PySem.Fin->Sem PySem.Fin}{R:Result->La->Prop}{L:St->Hp->Prop} 
  (hL:LoopN Y.prog Y.w ce) (V:∀e s,¬Y.xe e s) (Z:Y.calm=true) (hg:PG Y t g) (ht:zEa Y fs tt) (he:PAc Y aa ta)
  (X:compTurn ce d (.ref it) (.ref D) Y.env=zGm p t fs (.ref it) Y.env (aa (.ref D) Y.env) (again (.compLoop ce d (.ref it) (.ref D) Y.env)))
  (T:Turn Y.prog Y.w Y.K t J fp it a) (C:∀{H':Hp},(∀b∈fp,H' b=none)->∀b∈fp,zAK Y pins H' b) (I:Inv Y pins O H s) (st:a 0 s.heap) (fr:∀b∈fp,H b=none) (h:Trn J g tt ta D L O H)
  (hR:∀O' H' j,Inv Y pins O' H' j->L O' H'->R (.ok .next) j):codeAny (model Y.prog Y.w) Y.A (.compLoop ce d (.ref it) (.ref D) Y.env) R s:=by
 obtain⟨W,⟨v,w0⟩,step⟩:=h;obtain⟨l1,P,l3⟩:=hL d (.ref it) (.ref D) Y.env;refine codeAny_loop l1 (λn j=>∃i O' H',Inv Y pins O' H' j/\a i j.heap/\(∀b∈fp,H' b=none)/\W i n O' H') (λn Q h5=>?_) v ⟨0,O,H,I,st,fr,w0⟩;obtain⟨i,O5,H5,I5,ab,M,k⟩:=h5;rw[P,l3];refine wpAny_noted ?_;rw[X];refine qB (wpAny_standAt (qB ?_));rcases step i n O5 H5 k with⟨ac,q⟩|⟨go,N2,hN,c⟩
 ·refine wpAny_mono (T.done Y rfl rfl rfl Z i pins Q O5 H5 (λ_ _=>False) I5 (C M) ab ac) (λr w G=>?_) (λ_ _ z=>z.elim)
  obtain⟨hr,I6⟩:=G;subst hr;exact qC (hR O5 H5 w I6 q)
 ·refine wpAny_mono (T.item Y rfl rfl rfl Z i pins Q O5 H5 (λ_ _=>False) I5 (C M) ab go) (λr w G=>?_) (λ_ _ z=>z.elim)
  obtain⟨u,hr,G⟩:=G;subst hr;refine qB (wpAny_mono G (λ_ y h7=>?_) (λ_ _ z=>z.elim));obtain⟨x,H7,I7,r7,y7,l,ad⟩:=h7;have I7':=I7.pinned (C ad) (T.obj _ _ l);refine qB (wpAny_mono (hg _ y O5 H7 x u _ I7' r7 (c x H7 y7)) (λ_ S h8=>?_) (λ_ _ z=>absurd z (V _ _)));obtain⟨O8,H8,I8,q8⟩:=h8;refine qB (wpAny_mono (ht _ S O8 H8 _ I8 q8) (λb s9 h9=>?_) (λ_ _ z=>absurd z (V _ _)));obtain⟨H9,I9,q9⟩:=h9;have again:∀{O7:St} {H':Hp} {j:La},Inv Y (pins++GL fp y.heap) O7 H' j->N2 O7 H'->∃m,m<n/\∃i O' H',Inv Y pins O' H' j/\a i j.heap/\(∀b∈fp,H' b=none)/\W i m O' H':=λ{O7 H' j} I' n7=>by
   obtain⟨m',K,w7⟩:=hN O7 H' n7;refine⟨m',K,i+1,O7,H',I'.unpinned,T.keep _ _ _ l λb hb o e=>(I'.pin (b,o) (qK _ (qK _ (Jh hb e)))).1,λb hb=>?_,w7⟩;obtain⟨o,e,d⟩:=T.obj _ _ l b hb;exact(I'.pin (b,o) (qK _ (qK _ (Jh hb e)))).2.1
  cases b with
  |false =>
   exact qC ⟨rfl,again I9 q9⟩
  |true =>
   exact he D _ s9 O8 H9 N2 _ _ _ I9 q9 λO' H' j I' E=>qC ⟨rfl,again I' E⟩
theorem YA{env:Env}:∀{a:Ls (Str×NameKind)} {x:Str} {k:NameKind},(a.map λ(n,k)=>if(k==NameKind.free&&env.scope.kind==.function&&env.kindOf n==some .cell)then(n,NameKind.cell)else(n,k)).lookup x=some k ->
  ∃t,a.lookup x=some t/\(k=t\/(t=.free/\k=.cell))
 | [],_,_,h=>by simp at h
 | (n,u)::r,x,k,h=>by
  have I:=@YA env r x k;rw[map_cons]at h;by_cases Z:(u==NameKind.free&&env.scope.kind==.function&&env.kindOf n==some .cell)=true
  ·dsimp[Z,if_true]at h
   cases V:x==n with
   |true =>
    dsimp[lookup_cons,V]at h ⊢;cases h;refine⟨u,rfl,.inr ⟨?_,rfl⟩⟩;dsimp[Bool.and_eq_true,beq_iff_eq]at Z;exact Z.1.1
   |false=>dsimp[lookup_cons,V]at h ⊢;exact I h
  ·have P:(u==NameKind.free&&env.scope.kind==.function&&env.kindOf n==some .cell)=false:=by exists Z
   dsimp[P,Bool.false_eq_true,if_false]at h;cases V:x==n with
   |true=>dsimp[lookup_cons,V]at h ⊢;cases h;exact⟨u,rfl,.inl rfl⟩|false=>dsimp[lookup_cons,V]at h ⊢;exact I h
theorem Zb{env:Env}:∀{a:Ls (Str×NameKind)} {x:Str},a.lookup x=some .free->env.scope.kind=.function->env.kindOf x=some .cell ->
  (a.map λ(n,k)=>if(k==NameKind.free&&env.scope.kind==.function&&env.kindOf n==some .cell)then(n,NameKind.cell)else(n,k)).lookup x=some .cell
 | [],_,h,_,_=>by simp at h
 | (n,u)::r,x,h,C,Z=>by
  have I:=@Zb env r x;rw[map_cons];cases V:x==n with
  |true =>
   have:x=n:=by exists V
   subst this;dsimp[lookup_cons,V]at h;cases h;have:(NameKind.free==NameKind.free&&env.scope.kind==.function&&env.kindOf x==some .cell)=true:=by simp[C,Z]
   dsimp[this,if_true,lookup_cons,V]
  |false =>
   dsimp[lookup_cons,V]at h;by_cases c:(u==NameKind.free&&env.scope.kind==.function&&env.kindOf n==some .cell)=true
   ·dsimp[c,if_true,lookup_cons,V];exact I h C Z
   ·have e:(u==NameKind.free&&env.scope.kind==.function&&env.kindOf n==some .cell)=false:=by exists c
    dsimp[e,Bool.false_eq_true,if_false,lookup_cons,V];exact I h C Z
def zBo(env:Env):Ls (Str×NameKind)->Ls (Str×Lz)->Ls (Str×Lz)
 | [],o=>o| (n,k)::r,o=>if k==.free then zBo env r ((n,(env.cells.lookup n).getD 0)::o)else zBo env r o
theorem ZH:∀(a:Ls (Str×NameKind)) (o:Ls (Str×Lz)),(∀y∈a,y.2=.free->∃c,env.cells.lookup y.1=some c) ->
  (forIn a o (λx r=>if(x.snd==NameKind.free)=true then do
    let c <- cellOf env x.fst
    pure (ForInStep.yield ((x.fst,c)::r))
   else pure (ForInStep.yield r)):Sem (Ls (Str×Lz)))=pure (zBo env a o)
 | [],o,_=>by rfl
 | (n,k)::r,o,h=>by
  rw[forIn_cons];by_cases C:(k==NameKind.free)=true
  ·obtain⟨c,Z⟩:=h (n,k) qE (by exists C)
   have Y:cellOf env n=pure c:=by unfold cellOf;rw[Z]
   rw[if_pos C,Y];show(forIn r ((n,c)::o) _:Sem (Ls (Str×Lz)))=_;rw[ZH r _ λy O=>h y (qD _ O)]
   conv=>rhs;unfold zBo
   rw[if_pos C,Z];rfl
  ·rw[if_neg C]
   show(forIn r o _:Sem (Ls (Str×Lz)))=_
   rw[ZH r _ λy O=>h y (qD _ O)]
   conv=>rhs;unfold zBo
   rw[if_neg C]
theorem wq:∀(a:Ls (Str×NameKind)) (o:Ls (Str×Lz)) (x:Str),(∀y∈a,y.2=.free->∃c,env.cells.lookup y.1=some c)->(∀c,o.lookup x=some c->env.cells.lookup x=some c) ->
  (∀c,(zBo env a o).lookup x=some c->env.cells.lookup x=some c)/\(((∃c,o.lookup x=some c)\/∃y∈a,y.1=x/\y.2=.free)->∃c,(zBo env a o).lookup x=some c)
 | [],o,x,_,G=>⟨G,λh=>h.elim id λ⟨y,O,_⟩=>by cases O⟩
 | (n,k)::r,o,x,h,G=>by
  unfold zBo;by_cases C:(k==NameKind.free)=true
  ·rw[if_pos C]
   obtain⟨c,Z⟩:=h (n,k) qE (by exists C);have I:=wq r ((n,(env.cells.lookup n).getD 0)::o) x (λy O=>h y (qD _ O)) (λL e=>by
    rw[lookup_cons]at e;cases V:x==n with
    |true =>
     have:x=n:=by exists V
     subst this;rw[V]at e;dsimp[Z,Option.getD_some]at e;rw[Z];exact e
    |false=>rw[V]at e;exact G L e)
   refine⟨I.1,λq=>I.2 ?_⟩;rcases q with⟨L,q⟩|⟨y,O,j,S⟩
   ·apply Or.inl
    rw[lookup_cons];cases V:x==n with
    |true=>exact⟨_,rfl⟩|false=>exact⟨L,q⟩
   ·rcases mem_cons.mp O with O|O
    ·subst O
     apply Or.inl
     subst j;exact⟨(env.cells.lookup n).getD 0,by rw[lookup_cons,beq_self_eq_true]⟩
    ·right;exact⟨y,O,j,S⟩
  ·rw[if_neg C]
   have I:=wq r o x (λy O=>h y (qD _ O)) G;refine⟨I.1,λq=>I.2 ?_⟩;rcases q with q|⟨y,O,j,S⟩
   ·exact .inl q
   ·rcases mem_cons.mp O with O|O
    ·subst O
     exact absurd (by exists S) C
    ·exact .inr ⟨y,O,j,S⟩
theorem WY:∀(a:Ls (Str×NameKind)) (h:Heap) (u:Ls (Str×Lz)) (x:Str) (c:Lz),(cellsFrom h.objs.size a u).lookup x=some c ->
  u.lookup x=some c\/((x,NameKind.cell)∈a/\h.objs.size<=c/\(pushCells h a).IsCell c none)
 | [],h,u,x,c,e=>.inl e
 | (n,k)::r,h,u,x,c,e=>by
  unfold cellsFrom at e;unfold pushCells;split at e
  ·rename_i C
   rw[if_pos C];have sz:(h.push {cls:=.type "cell",data:=.cell none}).objs.size=h.objs.size+1:=size_push ..;rw[<- sz]at e;rcases WY r (h.push {cls:=.type "cell",data:=.cell none}) _ x c e with q|⟨j,S,R⟩
   ·rw[lookup_cons]at q
    cases V:x==n with
    |true =>
     rw[V]at q;cases q;have g:x=n:=by exists V
     have i:k=.cell:=by exists C
     subst g;subst i;exact .inr ⟨qE,le_refl _,⟨_,pushCells_keeps _ _ _ _ (get?_push_size _ rfl),rfl⟩⟩
    |false=>rw[V]at q;exact .inl q
   ·exact .inr ⟨qD _ j,by rw[sz]at S;lia,R⟩
  ·rename_i C
   rw[if_neg C];rcases WY r h u x c e with q|⟨j,S,R⟩
   ·exact .inl q
   ·exact .inr ⟨qD _ j,S,R⟩
theorem uN:∀(a:Ls (Str×NameKind)) (n:Nat) (u:Ls (Str×Lz)) (x:Str),(x,NameKind.cell)∉a->(cellsFrom n a u).lookup x=u.lookup x
 | [],n,u,x,_=>rfl
 | (y,k)::r,n,u,x,h=>by
  dsimp[mem_cons,not_or]at h;unfold cellsFrom;split
  ·rename_i C
   rw[uN r _ _ x h.2,lookup_cons];cases V:x==y with
   |true =>
    have g:x=y:=by exists V
    have i:k=.cell:=by exists C
    subst g;subst i;exact absurd rfl h.1
   |false=>rfl
  ·exact uN r _ _ x h.2
theorem zCm:∀(a:Ls (Str×NameKind)) (n:Nat) (u:Ls (Str×Lz)) (x:Str) (c:Lz),(x,NameKind.cell)∈a->(cellsFrom n a u).lookup x=some c->n<=c
 | [],_,_,_,_,h,_=>by cases h
 | (y,k)::r,n,u,x,c,h,e=>by
  unfold cellsFrom at e;by_cases p:(x,NameKind.cell)∈r
  ·split at e
   ·exact Nat.le_of_succ_le (zCm r _ _ x c p e)
   ·exact zCm r _ _ x c p e
  ·rcases mem_cons.mp h with q|q
   ·cases q
    rw[if_pos (by rfl),uN r _ _ _ p,lookup_cons,beq_self_eq_true]at e;cases e;exact le_refl _
   ·exact absurd q p
theorem zCn:∀(a:Ls (Str×NameKind)) (n:Nat) (u:Ls (Str×Lz)),(∀x y c,u.lookup x=some c->u.lookup y=some c->x=y)->(∀x c,u.lookup x=some c->c<n) ->
  ∀x y c,(cellsFrom n a u).lookup x=some c->(cellsFrom n a u).lookup y=some c->x=y
 | [],n,u,W,_,x,y,c,R,w=>W x y c R w
 | (z,k)::r,n,u,W,J,x,y,c,R,w=>by
  unfold cellsFrom at R w;split at R
  ·refine zCn r (n+1) ((z,n)::u) (λx y c R w=>?_) (λx c e=>?_) x y c R (by rename_i C;rwa [if_pos C]at w)
   ·rw[lookup_cons]at R w
    cases V:x==z with
    |true =>
     rw[V]at R;cases R;have g:x=z:=by exists V
     cases O:y==z with
     |true =>
      have P:y=z:=by exists O
      rw[g,P]
     |false=>rw[O]at w;exact absurd (J y _ w) (lt_irrefl _)
    |false =>
     rw[V]at R;cases O:y==z with
     |true=>rw[O]at w;cases w;exact absurd (J x _ R) (lt_irrefl _)|false=>rw[O]at w;exact W x y c R w
   ·rw[lookup_cons]at e
    cases V:x==z with
    |true=>rw[V]at e;cases e;exact lt_succ_self _|false=>rw[V]at e;exact lt_succ_of_lt (J x c e)
  ·exact zCn r n u W J x y c R (by rename_i C;rwa [if_neg C]at w)
def Zr{E:Ly}{Q:Env->La->Prop}
  (H:Q (newEnv scope s.heap.objs.size globals (cellsFrom (s.heap.objs.size+1) scope.names cl) qual none .none (some env) builtinsNs) {s with heap:=pushCells (s.heap.push {cls:=.type "dict",data:=.dict #[]}) scope.names}) :
  wpAny M A (newFunctionEnv scope globals cl [] qual none .none (some env)) Q E s:=by
 dsimp[newFunctionEnv,Option.isSome_some,if_true];refine qB (wpAny_alloc ?_);refine qB (wpAny_layCells _ (λn k c=>by cases h:k==NameKind.cell<;>simp[h]) _ _ _ _ ?_);rw[show({s with heap:=s.heap.push {cls:=.type "dict",data:=.dict #[]}}:La).heap.objs.size=s.heap.objs.size+1 from size_push ..]
 exact qB (qC (qC H))
structure CNd(P:Lc)(w:Le)(ce target iter:Lb)(ifs:List Lb)(ma:Sem Lv)(ob:Obj)(o0:Lz->HO)(act:Lv->Env->Sem PySem.Fin->Sem PySem.Fin)(gs:List Comprehension)(p:Pos):Prop where
 cl:clausesOf ce=⟨target,iter,ifs,0⟩::gs
 lp:LoopN P w ce
 new:∀{A:Lg} {E:Ly} {s:La} {Q:Ly},Q (.ref s.heap.objs.size) {s with heap:=s.heap.push ob}->wpAny (model P w) A ma Q E s
 lay:∀(h:Heap) (H:Hp),sysModules<h.objs.size->jL P w H (h.push ob) h.objs.size (o0 h.objs.size)
 st:∀{A:Lg} {it acc:Lv} {env:Env} {R:Result->La->Prop} {s:La},codeAny (model P w) A (.compLoop ce 0 it acc env) R s->wpAny (model P w) A (pyIter it) (λit' s'=>codeAny (model P w) A (.compLoop ce 0 it' acc env) R s') (notedBy (model P w) A env λx s'=>R (.error x) s') s ->
  codeAny (model P w) A (.compStart ce 0 it acc env) R s
 tn:∀it acc env,compTurn ce 0 it acc env=zGm p target ifs it env (act acc env) (again (.compLoop ce 0 it acc env))
structure CSc(X:Cx)(scope:Scope)(nl:Nat)(caps:List Nat)(N':Lm):Prop where
 hx:∀e s,¬X.xe e s
 hc:X.calm=true
 kind:scope.kind=.function
 nm:∀y∈scope.names,y.2=.local->scope.names.lookup y.1=some .local
 ce:∀y∈scope.names,y.2=.cell->scope.names.lookup y.1=some .cell
 fr:(scope.names.all λy=>y.2 != .free||X.env.kindOf y.1==some .cell)=true
 ln:N'.length=nl+caps.length
 cp:∀(i j:Nat),caps[i]?=some j->∃x,N'[nl+i]?=some x/\X.N[j]?=some x/\scope.names.lookup x=some .free
section
variable{X:Cx}{ce target iter:Lb}{ifs:Ls Lb}{scope:Scope}{nl:Nat}{caps:Ls Nat}{N':Ls Str}{mk:Sem Lv}{ob:Obj}{o0:Lz->HO}{act:Lv->Env->Sem PySem.Fin->Sem PySem.Fin}{gs:Ls Comprehension}{p p0:Pos}{wi:TI}{g:TG}{tt:TT}{ta:TAc}
def Gd{use:Lx (Lv->Sem Unit)}{QQ:Ly}(C:CSc X scope nl caps N')(N:CNd X.prog X.w ce target iter ifs mk ob o0 act gs p)
  (hi:PI X target iter wi) (hg:∀r C K s H,PG (cxB X N' scope r C K s H) target g) (ht:∀r C K s H,zEa (cxB X N' scope r C K s H) ifs tt) (he:∀r C K s H,PAc (cxB X N' scope r C K s H) act ta)
  (hs:∀x,foldedSetIterable iter X.env x=pure x) (I:Inv X pins O H s) (h:zFR o0 nl caps wi g tt ta O H Q)
  (am:∀(D C:Lz) (H5:Hp) (s6:La) (m6:Str->Lx Lv),Inv X pins O H5 s6->zAK X pins H5 C->s6.heap.Ns C m6->Q (.ref D) H5->compPost (model X.prog X.w) X.A X.xe use QQ (.ref D) C (.ok .next) s6) :
  wpAny (model X.prog X.w) X.A (comprehension ce scope X.env p0 mk false (eval iter X.env) use) QQ X.xe s:=by
 have ar:∀y∈scope.names,y.2=.free->X.env.kindOf y.1=some .cell:=λy hy e=>by
  have:=all_eq_true.mp C.fr y hy;rw[e]at this;exists this
 have V:∀y∈scope.names,y.2=.free->∃c,X.env.cells.lookup y.1=some c:=λy hy e=>I.ok.has y.1 (.inl (ar y hy e))
 have P:closureFor scope X.env=pure (zBo X.env scope.names []):=by
  dsimp[closureFor];rw[ZH scope.names [] V];rfl
 have ab:∀x c,(zBo X.env scope.names []).lookup x=some c->X.env.cells.lookup x=some c:=λx c e=>(wq scope.names [] x V (λ_ z=>by cases z)).1 c e
 have ah:∀x,(∃y∈scope.names,y.1=x/\y.2=.free)->∃c,(zBo X.env scope.names []).lookup x=some c:=λx q=>(wq scope.names [] x V (λ_ z=>by cases z)).2 (.inr q)
 generalize zBo X.env scope.names []=r at P ab ah;refine wpAny_comprehension_free (use:=use) N.cl hs P C.kind C.nm (thn (hi pins s O H _ I h) λxv s1 h1=>thn h1 λitv s2 h2=>?_);obtain⟨it,fp,tn,J,H2,e,I2,T,ad,f2,au⟩:=h2;subst e;refine N.new (Zr ?_);dsimp;generalize ai:s2.heap.push ob=h3;have hC:h3.objs.size=s2.heap.objs.size+1:=by rw[<- ai,size_push]
 have hD:H2 s2.heap.objs.size=none:=I2.hok.fresh (le_refl _);have ax:=au s2.heap.objs.size hD
 -- the state at the block's entry
 have I3:Inv X pins O (upd H2 s2.heap.objs.size (o0 s2.heap.objs.size)) {s2 with heap:=h3}:=by
  rw[<- ai];exact I2.laid (t':=s2.toks) (λb o q=>qA _ q) (le_refl _) (N.lay _ _ (Inv.big I2))
 have ap:∀x,scope.names.lookup x=some .free->(x,NameKind.cell)∉scope.names:=λx e z=>by
  have:=C.ce _ z rfl;rw[e]at this;cases this
 have aw:(h3.push {cls:=.type "dict",data:=.dict #[]}).objs.size=h3.objs.size+1:=size_push ..;have E:∀x c,(cellsFrom (h3.objs.size+1) scope.names r).lookup x=some c->r.lookup x=some c\/((x,NameKind.cell)∈scope.names/\h3.objs.size+1<=c/\(pushCells (h3.push {cls:=.type "dict",data:=.dict #[]}) scope.names).IsCell c none):=λx c e=>by
  rw[<- aw]at e ⊢;exact WY _ _ _ x c e
 have aj:∀x,scope.names.lookup x=some .free->(cellsFrom (h3.objs.size+1) scope.names r).lookup x=r.lookup x:=λx e=>uN _ _ _ x (ap x e)
 have ae:∀x,scope.names.lookup x=some .cell->∃c,(cellsFrom (h3.objs.size+1) scope.names r).lookup x=some c:=λx e=>by
  have:=cellsFrom_some scope.names (h3.objs.size+1) r (x:=x) (.inl e);exact Option.isSome_iff_exists.mp this
 have az:∀x c,r.lookup x=some c->c<h3.objs.size:=λx c e=>by
  obtain⟨v,q⟩:=I3.cell x c (ab x c e);exact q.lt
 have ag:=zCn scope.names (h3.objs.size+1) r (λx y c R w=>I.ok.inj x y c (ab x c R) (ab y c w)) λx c e=>lt_succ_of_lt (az x c e)
 have ac:(pushCells (h3.push {cls:=.type "dict",data:=.dict #[]}) scope.names).Ns h3.objs.size λ_=>none:=(Heap.Ns.new h3 (.type "dict")).keeps (pushCells_keeps _ _)
 have n:∀b o,h3.get? b=some o->(pushCells (h3.push {cls:=.type "dict",data:=.dict #[]}) scope.names).get? b=some o:=λb o e=>pushCells_keeps _ _ b o (qA _ e)
 generalize aa:pushCells (h3.push {cls:=.type "dict",data:=.dict #[]}) scope.names=h₁ at ac n E ⊢;generalize a4:cellsFrom (h3.objs.size+1) scope.names r=cs at E aj ae ag ⊢;have a0:∀b∈fp,b≠s2.heap.objs.size:=λb hb z=>by
  obtain⟨o,e,_⟩:=T.obj 0 s2.heap ad b hb;subst z;exact absurd (lt_size e) (lt_irrefl _)
 have a2:∀b∈fp,upd H2 s2.heap.objs.size (o0 s2.heap.objs.size) b=none:=λb hb=>by rw[ze (a0 b hb)];exact(f2 b hb).1
 have W:∀b∈fp,b≠h3.objs.size:=λb hb z=>by
  obtain⟨o,e,_⟩:=T.obj 0 s2.heap ad b hb;have q:b<s2.heap.objs.size:=lt_size e;rw[z,hC]at q;exact absurd q (not_lt.mpr (le_succ _))
 have ay:upd H2 s2.heap.objs.size (o0 s2.heap.objs.size) h3.objs.size=none:=I3.hok.fresh (le_refl _);have M:∀b∈fp,(b∈X.ex\/X.s₀.heap.objs.size<=b)/\b≠X.env.locals/\(∀x c,X.env.cells.lookup x=some c->c≠b)/\∀p∈X.pn++pins,p.1≠b:=λb hb=>by
  obtain⟨_,q2,_,q4,q5,q6⟩:=f2 b hb;exact⟨q4,q2,q5,q6⟩
 have a1:∀b∈fp,b<h3.objs.size:=λb hb=>by
  obtain⟨o,e,_⟩:=T.obj 0 s2.heap ad b hb;have q:b<s2.heap.objs.size:=lt_size e;rw[hC];exact lt_succ_of_lt q
 have af:∀b∈fp,∀x c,cs.lookup x=some c->c≠b:=λb hb x c e=>by
  rcases E x c e with q|⟨_,q,_⟩
  ·exact(M b hb).2.2.1 x c (ab x c q)
  ·intro z;subst z
   exact absurd (lt_of_lt_of_le (a1 _ hb) (Nat.le_of_succ_le q)) (lt_irrefl _)
 let Y:Cx:=cxB X N' scope cs h3.objs.size fp {s2 with heap:=h3} (upd H2 s2.heap.objs.size (o0 s2.heap.objs.size))
 have S:∀x k,Y.env.kindOf x=some k->∃t,scope.names.lookup x=some t/\(k=t\/(t=.free/\k=.cell)):=λx k e=>YA e
 have aq:Y.Ok:={
  mod:=I.ok.mod
  kind:=C.kind
  glob:=I.ok.glob
  blt:=I.ok.blt
  above:=le_refl _
  inj:=ag
  has:=λx q=>by
   have:scope.names.lookup x=some .cell\/scope.names.lookup x=some .free:=by
    rcases q with q|q
    ·obtain⟨t,e,z⟩:=S x _ q
     rcases z with z|z
     ·subst z;exact .inl e
     ·rw[z.1]at e;exact .inr e
    ·obtain⟨t,e,z⟩:=S x _ q
     rcases z with z|z
     ·subst z;exact .inr e
     ·rw[z.1]at e;exact .inr e
   rcases this with q|q
   ·exact ae x q
   ·obtain⟨c,e⟩:=ah x ⟨(x,.free),PySem.mem_of_lookup q,rfl,rfl⟩
    exact⟨c,by show cs.lookup x=_;rw[aj x q];exact e⟩
  cab:=λx c z e=>by
   have z:scope.names.lookup x=some .cell:=by
    have z:(scope.names.lookup x==some NameKind.cell)=true:=z;exists z
   have e:cs.lookup x=some c:=e;rw[<- a4]at e;exact le_trans (le_succ _) (zCm _ _ _ x c (PySem.mem_of_lookup z) e)
  hd:=I.ok.hd
  frames:=I.ok.frames
  stk:=.inl rfl
  exf:=λb hb=>⟨W b hb,af b hb⟩
  bs:=λb o e=>I3.bs b o e
  bsz:=le_trans I.ok.bsz I3.sz
  noex:=λb o e hb=>by
   obtain⟨q,_⟩:=M b hb;rcases q with q|q
   ·exact I.ok.noex b o e q
   ·exact absurd (lt_of_lt_of_le (lt_size e) I.ok.bsz) (not_lt.mpr q)
  exfs:=λb hb z=>by
   have:=I2.stkSub b z;rcases mem_cons.mp this with q|q
   ·exact(M b hb).2.1 q
   ·exact(f2 b hb).2.2.1 q
  funs:=I3.stack
  frf:=I3.stkFree}
 have ak:∀b o,h3.get? b=some o->h₁.get? b=some o:=n;have an:(y0 nl caps O).length=N'.length:=by unfold y0;simp[C.ln]
 have IY:Inv Y [] (y0 nl caps O) (upd H2 s2.heap.objs.size (o0 s2.heap.objs.size)) {s2 with heap:=h₁}:={
  ok:=aq
  os:=rfl
  bare:=I3.bare
  base:=Un.kept ak
  loc:=by
   refine⟨_,ac,λi x v R w e3=>?_⟩;have R:N'[i]?=some x:=R;have hi:nl<=i:=by
    by_cases z:nl<=i
    ·exact z
    ·unfold y0 at w
     rw[getElem?_append_left (by simp;lia),List.getElem?_replicate]at w;split at w<;>cases w
   unfold y0 at w;rw[getElem?_append_right (by exists hi),length_replicate,getElem?_map]at w;exists ej,caps[i-nl]?,w,j;dsimp[Option.map_some,Option.some.injEq]at w;obtain⟨Z,c1,c2,a⟩:=C.cp (i-nl) j ej;have K:Z=x:=by
    rw[show nl+(i-nl)=i by lia,R]at c1;exact(qJ c1).symm
   subst K;have e4:O[j]?=some (some v):=by
    cases z:O[j]? with
    |none=>rw[z]at w;cases w|some o=>rw[z]at w;simp at w;rw[w]
   have kx:X.env.kindOf Z=some .cell:=ar (Z,.free) (PySem.mem_of_lookup a) rfl;obtain⟨mm,_,lk⟩:=I3.loc;obtain⟨u,ru,lu⟩:=lk j Z v c2 e4 (.inr (.inl kx));refine⟨u,ru,?_⟩;rcases lu with⟨z,_⟩|⟨_,c,d1,d2⟩
   ·rw[kx]at z;cases z
   ·obtain⟨L,d3⟩:=ah Z ⟨(Z,.free),PySem.mem_of_lookup a,rfl,rfl⟩
    have:L=c:=by have:=ab Z L d3;rw[d1]at this;exact(qJ this).symm
    subst this;exact .inr ⟨.inl (Zb a I.ok.kind kx),L,by show cs.lookup _=_;rw[aj Z a];exact d3,d2.keeps n⟩
  cell:=λx c e=>by
   rcases E x c e with e|⟨_,_,q⟩
   ·obtain⟨v,q⟩:=I3.cell x c (ab x c e)
    exact⟨v,q.keeps n⟩
   ·exact⟨_,q⟩
  free:=ay
  freeC:=λx c e=>by
   rcases E x c e with e|⟨_,q,_⟩
   ·exact I3.freeC x c (ab x c e)
   ·exact I3.hok.fresh (le_trans (le_succ _) q)
  pin:=λp G=>absurd (show p∈([]:Ls (Lz×Obj))from G) (by simp)
  hok:=I3.hok.kept n
  len:=an}
 have ao:tn 0 h₁:=T.keep 0 s2.heap h₁ ad λb hb o e=>n b o (by rw[<- ai];exact qA _ e)
 have a3:∀{H':Hp},(∀b∈fp,H' b=none)->∀b∈fp,zAK Y [] H' b:=λhn b hb =>
  ⟨hn b hb,W b hb,aq.exfs b hb,.inl hb,af b hb,λp G=>absurd (show p∈([]:Ls (Lz×Obj))from G) (by simp)⟩
 have av:∀l:La,l={s2 with heap:=h₁}->codeAny (model X.prog X.w) X.A (.compLoop ce 0 (.ref it) (.ref s2.heap.objs.size) Y.env) (compPost (model X.prog X.w) X.A X.xe use QQ (.ref s2.heap.objs.size) h3.objs.size) l:=by
  rintro l rfl
  refine WX (Y:=Y) N.lp C.hx C.hc (hg _ _ _ _ _) (ht _ _ _ _ _) (he _ _ _ _ _) (N.tn _ _ _) T a3 IY ao a2 ax λO5 H5 s6 I6 q=>?_
  obtain⟨m6,n6,_⟩:=I6.loc;have u:Un (frs X.stack) fp (upd H2 s2.heap.objs.size (o0 s2.heap.objs.size)) H5 h3 s6.heap:=I6.base;have I7:Inv X pins O H5 s6:=I3.call' (s':=s6) (ch:=fp) I6.os u I6.hok I6.bare M;exact am _ _ H5 s6 m6 I7 (I3.fpOk (le_refl _) I6.free) n6 q
 exact N.st (av _ rfl) (T.self X.A 0 _ _ _ ao (av _ rfl))
def pe_comp(C:CSc X scope nl caps N')(N:CNd X.prog X.w ce target iter ifs mk ob o0 act gs p)(W:PI X target iter wi)(n:∀r C K s H,PG (cxB X N' scope r C K s H) target g)(V:∀r C K s H,zEa (cxB X N' scope r C K s H) ifs tt)(M:∀r C K s H,PAc (cxB X N' scope r C K s H) act ta)
  (S:∀x,foldedSetIterable iter X.env x=pure x) (Y:eval ce X.env=comprehension ce scope X.env p0 mk false (eval iter X.env)):PE X ce (zFR o0 nl caps wi g tt ta):=by
 intro G s O H Q I h;rw[Y];refine Gd (use:=none) C N W n V M S I h λD C H5 w k I7 f R q=>?_
 refine⟨k,R,λi L=>?_⟩;obtain⟨l,u,a,j,T,c⟩:=f;exact⟨.ref D,H5,I7.turned (it:=C) (t':=w.toks) (λb o J e=>L.extBut b o J e) l (λz=>u z) j T c,rfl,q⟩
def ps_setC(E:X.N.Nodup)(aa:X.N[i]?=some y)(hy:Loc X.env.scope y)(t:X.fn y=true\/X.env.scope.names.lookup y=some .local)(C:CSc X scope nl caps N')(N:CNd X.prog X.w ce target iter ifs mk ob o0 act gs p)
  (W:PI X target iter wi) (n:∀r C K s H,PG (cxB X N' scope r C K s H) target g) (V:∀r C K s H,zEa (cxB X N' scope r C K s H) ifs tt) (M:∀r C K s H,PAc (cxB X N' scope r C K s H) act ta)
  (S:∀x,foldedSetIterable iter X.env x=pure x) (Q:swapsWith ce (some (.Name y py)) spos.line X.env=pure true)
  (Y:∀u,evalThenUse ce X.env u=(do let _ <- comprehension ce scope X.env p0 mk false (eval iter X.env) (some u))) :
  PS X (.Assign [.Name y py] ce spos) (tAsg (zFR o0 nl caps wi g tt ta) (QS i)):=by
 intro G s O H D I h;rw[exec_Assign_Name_used _ _ _ _ Q];refine qB (wpAny_standAt (qB ?_));rw[Y];refine qB (wpAny_mono (Gd (use:=some (assign (.Name y py) X.env)) (QQ:=λ_ j=>SP X G D .next j) C N W n V M S I h λDa C H5 w k I7 f R q=>?_) (λ_ j hq=>qC (qC hq)) λ_ _ e=>e);obtain⟨l,f2,f3,f4,T,c⟩:=f;show wpAny _ X.A (assign (.Name y py) X.env (.ref Da)) _ _ w;refine wpAny_assign_Name (GJ I7 E aa hy (v:=.ref Da) rfl (λs7 I8 ⟨a,sb,P⟩=>?_) t);have Z:C≠a:=by
  rcases P with P|P
  ·rw[P];exact f2
  ·exact λz=>T y a P z.symm
 refine⟨k,R.sameBut sb Z,λh' L=>?_⟩;exact⟨_,H5,I8.turned (it:=C) (t':=s7.toks) (λb o J e=>L.extBut b o J e) l (λz=>f2 z) f4 T c,q⟩
end
def act1(c:Lb):Lv->Env->Sem PySem.Fin->Sem PySem.Fin:=λu h k=>do
 (do let x <- eval c h;let _ <- call (.builtin "list.append") [u,x];pure ())
 k
def ta1(t:TE):TAc:=λD O H Nx=>t O H λy H4=>∃J,H4 D=some (.l J)/\J.length<sizeLine/\Nx O (upd H4 D (.l (J++[y])))
def pa_elt(V:∀e s,¬Y.xe e s)(M:PE Y elt te):PAc Y (act1 elt) (ta1 te):=λD G s O H Nx k Q E I h C=>by
 unfold act1;refine qB (qB (wpAny_mono (M G s O H _ I h) (λy T R=>?_) λ_ _ z=>absurd z (V _ _)));obtain⟨c,H10,I10,r,J,j,hz,n⟩:=R;have q:=GU (X:=Y) _ T O H10 (.ref D) [c] (.ref D) [y] (λv H'=>Nx O H') I10 rfl (.cons r .nil) ⟨_,J,c,rfl,rfl,j,hz,n⟩;refine qB (wpAny_mono q (λ_ P a=>?_) λ_ _ z=>absurd z (V _ _));obtain⟨i,H11,I11,_,g⟩:=a;exact qC (C O H11 P I11 g)
abbrev lstO:Obj:={cls:=.type "list",data:=.seq #[]}
def zAZ(h:Heap)(H:Hp)(_:sysModules<h.objs.size):jL P w H (h.push lstO) h.objs.size (.l []):=⟨zero_le _,[],0,.nil,get?_push_size _ rfl⟩
def zCo{E:Ly}{Q:Ly}(h:Q (.ref s.heap.objs.size) {s with heap:=s.heap.push lstO}):wpAny (model P w) A (newList []) Q E s :=
 wpAny_newObj_type h (by show(#[]:Lh).size<=sizeLine;simp)
def zCp:CNd P w (.ListComp elt [⟨target,iter,ifs,0⟩] scope pos) target iter ifs (newList []) lstO (λ_=>.l []) (act1 elt) [] iter.pos :=
 ⟨rfl,λ_ _ _ _=>⟨rfl,λ_=>rfl,rfl⟩,zCo,zAZ,λJ h=>codeAny_compStart_list J h,λ_ _ _=>rfl⟩
end L2
namespace DV
open PySem L2
section
variable{X:Cx}{K:qH}{mg:Str->Lx Lv}{O:St}{M:Ld}{E:zR}{H:Hp}{T0 Z T:Fz}
structure ItOk(K:qH)(mg:Str->Ln)(J:It)(ds:List D)(Iv:Hp->Prop):Prop where
 mono:∀H H',Yr H H'->Iv H->Iv H'
 go:∀i Hh H,Yr Hh H->Iv Hh->i<ds.length->J.go i H
 yld:∀i Hh H x H',Yr Hh H->Iv Hh->i<ds.length->J.yld i H x H'->∃d,ds[i]?=some d/\((H'=H/\Rep K mg Hh d x)\/∃q xs es,H q=none/\H'=upd H q (.t xs)/\x=.ref q/\d=.t es/\Reps K mg Hh es xs)
 stop:∀i Hh H,Yr Hh H->Iv Hh->ds.length<=i->J.stop i H
abbrev MI:=zR->Out (Ls D×zR)
def tMI(X:Cx)(m:MI):TI:=λO H R=>∃M E,E.length=O.length/\FR X.K X.mg M H (O.zip E)/\match m E with
 | .z=>False| .ok (ds,E')=>∀J Iv H',ItOk X.K X.mg J ds Iv->Iv (Hm (Mo M (O.zip E')) H')->Got X.K X.mg M O E H [] O E' H' []->R J H'| .y x E'=>∀H',Got X.K X.mg M O E H [] O E' H' []->XE X O H' x
abbrev IOk(X:Cx)(tg e:Lb)(m:MI):Prop:=PI X tg e (tMI X m)
def WZ(h:PI X tg e t)(i:∀O H R,t' O H R->t O H R):PI X tg e t':=λG s O H R I q=>h G s O H R I (i O H R q)
def iL(m:ME):MI:=λE=>match m E with
 | .z=>.z| .y x E1=>.y x E1
 | .ok (r,E1)=>match r.d with
  | .l P=>.ok (P,E1)|_=>.z
def iT(m:ME):MI:=λE=>match m E with
 | .z=>.z| .y x E1=>.y x E1
 | .ok (r,E1)=>match r.d with
  | .t P=>.ok (P,E1)|_=>.z
def it_list:ItOk K mg (Itl K a) ds (λH=>SqL K H a xs/\Reps K mg H ds xs) where
 mono:=λH H' s h=>⟨s.seq h.1,h.2.mono s⟩
 go:=λi Hh H s h W=>⟨xs,xs[i]'(by rw[h.2.length];exact W),s.seq h.1,by simp⟩
 yld:=λi Hh H x H' s h W y=>by
  obtain⟨e,y⟩:=y;obtain⟨d,L,h2⟩:=h.2.get (y xs (s.seq h.1));exact⟨d,L,.inl ⟨e,h2⟩⟩
 stop:=λi Hh H s h W=>⟨xs,s.seq h.1,by rw[h.2.length];exact W⟩
def it_tup:ItOk K mg (Itt K a) ds (λH=>SqT K H a xs/\Reps K mg H ds xs) where
 mono:=λH H' s h=>⟨zf s h.1,h.2.mono s⟩
 go:=λi Hh H s h W=>⟨xs,xs[i]'(by rw[h.2.length];exact W),zf s h.1,by simp⟩
 yld:=λi Hh H x H' s h W y=>by
  obtain⟨e,y⟩:=y;obtain⟨d,L,h2⟩:=h.2.get (y xs (zf s h.1));exact⟨d,L,.inl ⟨e,h2⟩⟩
 stop:=λi Hh H s h W=>⟨xs,zf s h.1,by rw[h.2.length];exact W⟩
def Ge:∀(n i:Nat) (z:Int),i<n->(zE z n)[i]?=some (.int (z+i)):=λn i z h=>by
 have:=wo n i z h;have e:((zE z n).drop i)[0]?=some (.int (z+i)):=by rw[this];rfl
 exists e
def it_rng:ItOk K mg (Itr lo n) (zE lo n) (λ_=>True) where
 mono:=λ_ _ _ h=>h
 go:=λi Hh H s h W=>by rw[yY]at W;exact W
 yld:=λi Hh H x H' s h W y=>by
  obtain⟨e,y⟩:=y;rw[yY]at W;exact⟨_,Ge n i lo W,.inl ⟨e,by rw[y];dsimp[Rep]⟩⟩
 stop:=λi Hh H s h W=>by rw[yY]at W;exact W
def Qe(h:EOk X e m):IOk X tg e (iL m):=WZ (zBz h) λO H R ⟨M,E,hl,fr,k⟩=>by
 unfold iL at k;refine zo (T0:=[]) hl fr ?_;exists ea,m E,k,r,E1;intro v H1 g;dsimp at k;cases o:r.d with
 |l P =>
  rw[o]at k;have u:=g.rep;rw[o]at u;obtain⟨a,Y,rfl,j,S⟩:=yB u;exact⟨a,rfl,⟨Y,zI.seq j⟩,k _ _ H1 it_list ⟨j,S⟩ g.dropAll⟩
 |_=>rw[o]at k;exact k.elim
def zGn(h:EOk X e m):IOk X tg e (iT m):=WZ (pi_tup h) λO H R ⟨M,E,hl,fr,k⟩=>by
 unfold iT at k;refine zo (T0:=[]) hl fr ?_;exists ea,m E,k,r,E1;intro v H1 g;dsimp at k;cases o:r.d with
 |t P =>
  rw[o]at k;have u:=g.rep;rw[o]at u;obtain⟨a,Y,rfl,j,S⟩:=yO u;exact⟨a,rfl,⟨Y,zf zI j⟩,k _ _ H1 it_tup ⟨j,S⟩ g.dropAll⟩
 |_=>rw[o]at k;exact k.elim
def iR1(m:MA):MI:=λE=>match m E with
 | .z=>.z| .y x E1=>.y x E1
 | .ok ([r],E1)=>match r.d with
  | .int j=>if -(2^62)<=j/\j<2^62 then .ok (zE 0 j.toNat,E1)else .z|_=>.z
 |_=>.z
def io_r1(e:Gl X "range")(K:X.mg "range"=none)(P:AOk X [a] m)(u:zU a=false:=by rfl):IOk X tg (.Call (.Name "range" p) [a] [] cpos) (iR1 m):=WZ (GK e K P (Qa u)) λO H R ⟨M,E,hl,fr,k⟩=>by
 unfold iR1 at k;refine JN (T0:=[]) hl fr ?_;exists ea,m E,k,rs,E1
 match rs,k with
 | [r],k =>
  intro W H1 hv I;have q:=Got.reps hv I;dsimp at k;cases o:r.d with
  |int j =>
   rw[o]at k;dsimp[List.map,o]at q;obtain⟨v,rfl,L⟩:=YQ q;dsimp at k;by_cases Z:-(2^62)<=j/\j<2^62
   ·rw[if_pos Z]at k
    exact⟨j,by rw[zJ L],Z.1,Z.2,k _ _ H1 it_rng trivial I.dropAll⟩
   ·rw[if_neg Z]at k;exact k.elim
  |_=>rw[o]at k;exact k.elim
 | [],k=>exact k.elim|_::_::_,k=>exact k.elim
structure Ak(α:Type) where
 r:α->R
 z:α
 o:Lz->HO
abbrev Ak.s{α:Type}(k:Ak α)(a:α):Slot:=(k.r a).slot
abbrev MC(α:Type):=zR->α->Out (α×zR)
def jl{α:Type}(tg:MG)(tt:MT)(n:MC α):Ls D->zR->α->Out (α×zR)
 | [],E,u=>.ok (u,E)
 |d::P,E,u=>match tg d E with
  | .ok E1=>match tt E1 with
   | .ok (true,E2)=>match n E2 u with
    | .ok (e,E3)=>jl tg tt n P E3 e|_=>.z
   | .ok (false,E2)=>jl tg tt n P E2 u|_=>.z
  |_=>.z
def ma1(el:ME):MC (Ls D):=λE u=>match el E with
 | .ok (r,E3)=>if u.length<cap then .ok (u++[r.d],E3)else .z|_=>.z
def maL{α:Type}(mi:MI)(tg:MG)(tt:MT)(n:MC α):MC α:=λE u=>match mi E with
 | .ok (P,E1)=>jl tg tt n P E1 u|_=>.z
def YS(E:zR):Ls Nat->Out (Ls AR)
 | []=>.ok []
 |j::c=>match E[j]? with
  |some (.v d)=>match YS E c with
   | .ok as=>.ok (.tmp d::as)|_=>.z
  |some s=>match s.list? with
   |some _=>match YS E c with
    | .ok as=>.ok (.ln j::as)|_=>.z
   |none=>.z
  |none=>.z
def JG{α:Type}(k:Ak α)(nl:Nat)(caps:Ls Nat)(mi:MI)(tg:MG)(tt:MT)(n:MC α):ME:=λE=>match mi E with
 | .z=>.z| .y x E1=>.y x E1
 | .ok (P,E1)=>match YS E1 caps with
  | .ok w=>match zH w E1 with
   | .ok (c,E2)=>match jl tg tt n P (replicate nl .e++c) k.z with
    | .ok (o,Eb)=>match zF w ((zu (replicate nl .e++c) Eb).drop nl) E1 E2 with
     | .ok E3=>.ok (k.r o,E3)|_=>.z
    |_=>.z
   |_=>.z
  |_=>.z
abbrev akL:Ak (Ls D):=⟨.w,[],λ_=>.l []⟩
abbrev uO(tg:MG)(tt:MT)(el:ME):=jl tg tt (ma1 el)
abbrev Qf(nl:Nat)(caps:Ls Nat)(mi:MI)(tg:MG)(tt:MT)(el:ME):ME:=JG akL nl caps mi tg tt (ma1 el)
def wC:MT:=λE=>.ok (true,E)
abbrev IfOk(X:Cx)(e:Ls Lb)(m:MT):Prop:=zEa X e (tMT X m)
def Zy(h:zEa X ifs t)(i:∀O H Q,t' O H Q->t O H Q):zEa X ifs t':=λG s O H Q I q=>h G s O H Q I (i O H Q q)
def uP:IfOk X [] wC:=Zy pif_nil λO H Q ⟨M,E,hl,fr,k⟩=>k H (Got.refl (T0:=[]) hl fr)
def zCq(h:TOk X c m):IfOk X [c] m:=pif_one h
theorem zCr:∀(c:Ls Nat) {as:Ls AR} {T:Fz},E.length=O.length->YS E c=.ok as->FR K mg M H (T++O.zip E) ->
  ∃h,AV O as h/\h.map some=c.map (λj=>(O[j]?).getD none)/\FR K mg M H (T++(zx h as++O.zip E))/\∀b,b∈yN (T++(zx h as++O.zip E))->b∈yN (T++O.zip E)
 | [],as,T,hl,e,f=>by
  cases e;exact⟨[],by dsimp[AV],rfl,f,λb q=>q⟩
 |j::c,as,T,hl,e,f=>by
  dsimp[YS]at e;exists ej,E[j]?,e,s;obtain⟨o,L,h2⟩:=wm hl ej;have l:∀{P:Ls D},s.list?=some P->(match YS E c with | .ok as=>Out.ok (AR.ln j::as)|_=>.z)=.ok as->∃h,AV O as h/\h.map some=(j::c).map (λj=>(O[j]?).getD none)/\FR K mg M H (T++(zx h as++O.zip E))/\∀b,b∈yN (T++(zx h as++O.zip E))->b∈yN (T++O.zip E):=λ{P} u e=>by
   cases Y:YS E c with
   |z=>rw[Y]at e;cases e|y _ _=>rw[Y]at e;cases e
   |ok g =>
    rw[Y]at e;cases e;obtain⟨a,G,ev,_⟩:=f.ownL o s P (qK _ h2) u;subst ev;obtain⟨h,n,S,R,k⟩:=zCr c hl Y f;have p:(T++(((some (V.ref a),Slot.e)::zx h g)++O.zip E)).Perm ((some (V.ref a),Slot.e)::(T++(zx h g++O.zip E))):=perm_middle;have i:FR K mg M H ((some (V.ref a),Slot.e)::(T++(zx h g++O.zip E))):=R.mask (.extra (by
     have:∀W:Fz,Mask W W:=by
      intro W
      induction W with
      |nil=>exact .nil _|cons x W I=>exact .keep I
     exact this _))
    refine⟨.ref a::h,by dsimp[AV];exact⟨_,h,rfl,L,n⟩,by simp[L,S],i.perm p.symm,λb J=>?_⟩;have:=zD p b J;exact k b this
  cases s with
  |e=>cases e|w P=>exact l rfl e|p P=>exact l rfl e|m _ _=>cases e
  |v d =>
   cases Y:YS E c with
   |z=>rw[Y]at e;cases e|y _ _=>rw[Y]at e;cases e
   |ok g =>
    rw[Y]at e;cases e;obtain⟨v,ev,r⟩:=f.val o d (qK _ h2);subst ev;obtain⟨h,n,S,R,k⟩:=zCr c hl Y f;obtain⟨t,X,C⟩:=R.val (some v) d (qK _ (qK _ h2));cases X;have p:(T++(((some v,Slot.v d)::zx h g)++O.zip E)).Perm ((some v,Slot.v d)::(T++(zx h g++O.zip E))):=perm_middle;refine⟨v::h,by dsimp[AV];exact⟨v,h,rfl,n⟩,by simp[L,S],(R.add C).perm p.symm,λb J=>?_⟩;have:=zD p b J;rw[zq]at this;exact k b this
def zCs(n:Nat)(Z:Fz):yN (replicate n ((none:Lx V),Slot.e)++Z)=yN Z:=by rw[zY,uM,nil_append]
def FR.emps0(f:FR K mg M H Z)(n:Nat):FR K mg M H (replicate n (none,.e)++Z):=(f.emps n).perm perm_append_comm
end
def tN(K:qH)(g:Str->Lx Lv)(m:ME):TE:=λO H Q=>∃M E,E.length=O.length/\FR K g M H (O.zip E)/\match m E with
 | .ok (r,E')=>∀v H',Got K g M O E H [] O E' H' [(some v,r.slot)]->Q v H'|_=>False
def tNT(K:qH)(g:Str->Lx Lv)(m:MT):TT:=λO H Q=>∃M E,E.length=O.length/\FR K g M H (O.zip E)/\match m E with
 | .ok (b,E')=>∀H',Got K g M O E H [] O E' H' []->Q b H'|_=>False
section
variable{X:Cx}{K:qH}{mg:Str->Lx Lv}{O:St}{M:Ld}{E:zR}{H:Hp}{T0 Z T:Fz}
def tN_M(h:tN X.K X.mg m O H Q):tM X m O H Q:=by
 obtain⟨M,E,hl,fr,k⟩:=h;refine⟨M,E,hl,fr,?_⟩;cases e:m E with
 |z=>rw[e]at k;exact k|y x E1=>rw[e]at k;exact k.elim|ok p=>rw[e]at k;exact k
def tNT_M{Q:Bool->Hp->Prop}(h:tNT X.K X.mg m O H Q):tMT X m O H Q:=by
 obtain⟨M,E,hl,fr,k⟩:=h;refine⟨M,E,hl,fr,?_⟩;cases e:m E with
 |z=>rw[e]at k;exact k|y x E1=>rw[e]at k;exact k.elim|ok p=>rw[e]at k;exact k
def tN_run(c:E.length=O.length)(h:FR K mg M H (T0++O.zip E))(e:m E=.ok (r,E'))(k:∀v H',Got K mg M O E H T0 O E' H' [(some v,r.slot)]->Q v H'):tN K mg m O H Q:=by
 refine⟨Mo M T0,E,c,h.inner,?_⟩;rw[e];exact λv H' g=>k v H' (g.outer h)
def tNT_run{Q:Bool->Hp->Prop}(c:E.length=O.length)(h:FR K mg M H (T0++O.zip E))(e:m E=.ok (b,E'))(k:∀H',Got K mg M O E H T0 O E' H' []->Q b H'):tNT K mg m O H Q:=by
 refine⟨Mo M T0,E,c,h.inner,?_⟩;rw[e];exact λH' g=>k H' (g.outer h)
def zCt{w:Ls AR}{E1 E2 x:zR}{c Z:Ls Slot}{r:R}{vs:Ls V}{v:V}{H1 k:Hp}(i:zH w E1=.ok (c,E2))(l:zF w Z E1 E2=.ok x)
  (G:AV O w vs) (a:FR K mg M H1 (O.zip E2++(vs.map some).zip c)) (I:Step M H (O.zip E) H1 (O.zip E2++(vs.map some).zip c)) (P:E2.length=O.length) (g:PKp O E O E1)
  (u:FR K mg (Mo M (O.zip E2)) k ((some v,r.slot)::(vs.map some).zip Z)) (Y:Step (Mo M (O.zip E2)) H1 ((vs.map some).zip c) k ((some v,r.slot)::(vs.map some).zip Z)):Got K mg M O E H [] O x k [(some v,r.slot)]:=by
 have q:=FR.outer a u Y;have t:=Step.outer Y;have p:(O.zip E2++((some v,r.slot)::(vs.map some).zip Z)).Perm ([(some v,r.slot)]++((vs.map some).zip Z++O.zip E2)):=by
  refine perm_append_comm.trans ?_;exact List.Perm.refl _
 obtain⟨j,y,e⟩:=uK w P G l (q.perm p);refine⟨e,j,?_,g.trans (zCk i l)⟩;have h:=I.trans t;exact h.weak λb J=>zD p.symm b (y b J)
theorem Yt:∀(n:Nat) {Z W:Fz},Mask Z W->Mask Z (W.drop n)
 |0,_,_,h=>h|n+1,_,_,.nil Z=>by dsimp[List.drop_nil];exact .nil _|n+1,_,_,.keep h=>.skip (Yt n h)|n+1,_,_,.skip h=>.skip (Yt (n+1) h)|n+1,_,_,.extra h=>Yt n h
theorem Gf{α β:Type}:∀(n:Nat) (l:Ls α) (m:Ls β),(l.zip m).drop n=(l.drop n).zip (m.drop n)
 |0,_,_=>rfl|n+1,[],_=>by simp|n+1,_::_,[]=>by simp|n+1,_::l,_::m=>by simp[Gf n l m]
def taL(w:TI)(g:TG)(tt:TT)(v:TAc):TAc:=λD O H Nx=>w O H λJ H1=>Trn J g tt v D Nx O H1
structure GA(K:qH)(mg:Str->Ln)(M:Ld)(D:Lz)(O:St)(E:zR)(H:Hp)(a:Slot)(O':St)(E':zR)(H':Hp)(a':Slot):Prop where
 len:E'.length=O'.length
 fr:FR K mg M H' ((some (.ref D),a')::O'.zip E')
 st:Step M H ((some (.ref D),a)::O.zip E) H' ((some (.ref D),a')::O'.zip E')
 pk:PKp O E O' E'
def GA.of{D:Lz}{a:Slot}{e:St}{E':zR}{k:Hp}(g:Got K mg M O E H [(some (.ref D),a)] e E' k []):GA K mg M D O E H a e E' k a:=⟨g.len,g.fr,g.st,g.pk⟩
theorem GA.trans{D:Lz}{a0 p a2:Slot}{O1 c:St}{E1 E2:zR}{H1 e:Hp}(a:GA K mg M D O E H a0 O1 E1 H1 p)(b:GA K mg M D O1 E1 H1 p c E2 e a2):GA K mg M D O E H a0 c E2 e a2:=⟨b.len,b.fr,a.st.trans b.st,a.pk.trans b.pk⟩
def Qg{α:Type}(k:Ak α)(K:qH)(g:Str->Lx Lv)(n:MC α)(v:TAc):Prop:=∀(M:Ld) (D:Lz) (O:St) (E:zR) (H:Hp) (u e:α) (E':zR) (Nx:St->Hp->Prop),E.length=O.length->FR K g M H ((some (.ref D),k.s u)::O.zip E)->n E u=.ok (e,E')->(∀O' H',GA K g M D O E H (k.s u) O' E' H' (k.s e)->Nx O' H')->v D O H Nx
def AkOk{α:Type}(k:Ak α):Prop:=∀{K:qH} {g:Str->Lx Lv} {M:Ld} {H:Hp} {Z:Fz} {D:Lz},FR K g M H Z->H D=none->FR K g M (upd H D (k.o D)) ((some (.ref D),k.s k.z)::Z)/\Step M H Z (upd H D (k.o D)) ((some (.ref D),k.s k.z)::Z)
def uQ:AkOk akL:=λf h=>⟨f.newOwn (ds:=[]) (xs:=[]) h Reps.nil,Step.newOwn (ds:=[]) (xs:=[]) f h⟩
def tNI(K:qH)(g:Str->Lx Lv)(m:MI):TI:=λO H R=>∃M E,E.length=O.length/\FR K g M H (O.zip E)/\match m E with
 | .ok (P,E')=>∀J Iv H',ItOk K g J P Iv->Iv (Hm (Mo M (O.zip E')) H')->Got K g M O E H [] O E' H' []->R J H'|_=>False
def tNI_M{R:It->Hp->Prop}(h:tNI X.K X.mg m O H R):tMI X m O H R:=by
 obtain⟨M,E,hl,fr,k⟩:=h;refine⟨M,E,hl,fr,?_⟩;cases e:m E with
 |z=>rw[e]at k;exact k|y x E1=>rw[e]at k;exact k.elim|ok p=>rw[e]at k;exact k
def yld_ga{J:It}{ds:Ls D}{I:Hp->Prop}{O e:St}{E0 E':zR}{H1 k H:Hp}{a:Lz}{g u:Slot}{i:Nat}{x:V}(it:ItOk K mg J ds I)(C:i<ds.length)(r:GA K mg M a O E0 H1 g e E' k u)(t:I (Hm (Mo M ((some (.ref a),u)::e.zip E')) k))(y:J.yld i k x H) :
  ∃d,ds[i]?=some d/\GA K mg M a O E0 H1 g e E' H u/\I (Hm (Mo M ((some (.ref a),u)::e.zip E')) H)/\Rep K mg (Hm (Mo M ((some (.ref a),u)::e.zip E')) H) d x:=by
 obtain⟨d,j,h⟩:=it.yld i _ _ x _ zI t C y;rcases h with⟨rfl,c⟩|⟨q,Y,E,P,rfl,rfl,rfl,w⟩
 ·exact⟨d,j,r,t,c⟩
 ·have l:=r.fr.newTup P w
  have n:Step M k ((some (.ref a),u)::e.zip E') (upd k q (.t Y)) ((some (.ref q),.v (.t E))::((some (.ref a),u)::e.zip E')):=Step.newVal P;obtain⟨v,ev,o⟩:=l.val _ _ qE;cases ev;have G:=n.same;exact⟨_,j,⟨r.len,l.tail,r.st.trans ⟨G,n.keep⟩,r.pk⟩,it.mono _ _ G t,o⟩
def uR:Qg akL K mg (ma1 el) (ta1 (tN K mg el)):=λM D O E H u e E' Nx hl fr c hN=>by
 unfold ma1 at c;cases l:el E with
 |z=>rw[l]at c;cases c|y _ _=>rw[l]at c;cases c
 |ok p =>
  obtain⟨r,Ec⟩:=p;rw[l]at c;dsimp at c;by_cases Q:u.length<cap
  ·rw[if_pos Q]at c
   cases c;refine tN_run (T0:=[(some (.ref D),.w u)]) hl fr l λk H4 T=>?_
   have h:FR K mg M H4 ((some k,.v r.d)::((some (.ref D),Slot.w u)::O.zip E')):=FR.frz (r:=r) T.fr;obtain⟨o,Z,V⟩:=h.val _ _ qE;cases Z;rw[vY]at V;have j:=h.tail;obtain⟨a,J,t,P,_,g⟩:=j.ownL _ _ u qE rfl;cases t;refine⟨J,P,by rw[g.length];exact lt_of_lt_of_le Q (JF (le_refl _)),hN O _ ?_⟩;obtain⟨n,G⟩:=FR.mut (i:=0) (s:=.w u) j rfl rfl (g.append (Reps.cons V Reps.nil));have sz:Step M H ((some (.ref D),Slot.w u)::O.zip E) H4 ((some (.ref D),Slot.w u)::O.zip E'):=T.st.weak (zC (sublist_cons_self _ _));exact⟨T.len,n,sz.trans G,T.pk⟩
  ·rw[if_neg Q]at c;cases c
def zGo{α:Type}{k:Ak α}{n:MC α}(ho:GOk X g tg)(P:Qg k X.K X.mg n ta){I:Hp->Prop}(it:ItOk X.K X.mg J ds I){u Q:α}{L:St->Hp->Prop}(c:E.length=O.length)(v:FR X.K X.mg M H ((some (.ref Da),k.s u)::O.zip E))(K:I (Hm (Mo M ((some (.ref Da),k.s u)::O.zip E)) H))(em:jl tg tt n ds E u=.ok (Q,EF))
  (hN:∀O' H',GA X.K X.mg M Da O E H (k.s u) O' EF H' (k.s Q)->L O' H'):Trn J g (tNT X.K X.mg tt) ta Da L O H:=by
 refine⟨λi m O' H'=>m=ds.length-i/\i<=ds.length/\∃E' e,GA X.K X.mg M Da O E H (k.s u) O' E' H' (k.s e)/\I (Hm (Mo M ((some (.ref Da),k.s e)::O'.zip E')) H')/\jl tg tt n (ds.drop i) E' e=.ok (Q,EF),
  ⟨ds.length,by simp,zero_le _,E,u,⟨c,v,Step.refl,PKp.refl⟩,K,em⟩,?_⟩
 rintro i m O' H' ⟨rfl,hi,E',e,r,t,a⟩
 by_cases C:i<ds.length
 ·refine .inr ⟨it.go i _ H' zI t C,λO'' H''=>(i+1<=ds.length/\∃E' e,GA X.K X.mg M Da O E H (k.s u) O'' E' H'' (k.s e)/\I (Hm (Mo M ((some (.ref Da),k.s e)::O''.zip E')) H'')/\jl tg tt n (ds.drop (i+1)) E' e=.ok (Q,EF)),
   λO'' H'' q=>⟨ds.length-(i+1),by lia,rfl,q⟩,λx H'' y=>?_⟩
  obtain⟨d,j,r,t,rx⟩:=yld_ga it C r t y;have o:ds.drop i=d::ds.drop (i+1):=by
   obtain⟨G,rfl⟩:=qG.mp j;exact List.drop_eq_getElem_cons G
  rw[o]at a;dsimp[jl]at a;cases R:tg d E' with
  |z=>rw[R]at a;cases a|y _ _=>rw[R]at a;cases a
  |ok Ea =>
   rw[R]at a;dsimp at a;refine ho _ O' E' _ [(some (.ref Da),k.s e)] x d Ea _ r.len (r.fr.add rx) R λO2 h=>?_
   have Z:=r.trans (GA.of h);cases w:tt Ea with
   |z=>rw[w]at a;cases a|y _ _=>rw[w]at a;cases a
   |ok p =>
    obtain⟨b,Eb2⟩:=p;rw[w]at a;refine tNT_run h.len h.fr w λH3 D=>?_
    have W:GA X.K X.mg M Da O2 Ea H'' (k.s e) O2 Eb2 H3 (k.s e):=⟨D.len,D.fr,D.st,D.pk⟩;have g3:=Z.trans W;have T:=it.mono _ _ (h.st.same.trans D.st.same) t;cases b with
    |false=>exact zGb ⟨C,Eb2,e,g3,T,a⟩
    |true =>
     refine zGc ?_;dsimp at a;cases l:n Eb2 e with
     |z=>rw[l]at a;cases a|y _ _=>rw[l]at a;cases a
     |ok p =>
      obtain⟨V,Ec⟩:=p;rw[l]at a;exact P M Da O2 Eb2 H3 e V Ec _ g3.len g3.fr l λO4 H4 S=>⟨C,Ec,V,g3.trans S,it.mono _ _ S.st.same T,a⟩
 ·have Y:i=ds.length:=by lia
  subst Y;rw[List.drop_length]at a;cases a;exact .inl ⟨it.stop _ _ H' zI t (le_refl _),hN O' H' r⟩
def zAa{α:Type}{k:Ak α}{n:MC α}(L:GOk X g tg)(P:Qg k X.K X.mg n ta):Qg k X.K X.mg (maL mi tg tt n) (taL (tNI X.K X.mg mi) g (tNT X.K X.mg tt) ta):=λM D O E H u Q EF Nx hl fr c hN=>by
 unfold maL at c;cases a:mi E with
 |z=>rw[a]at c;cases c|y _ _=>rw[a]at c;cases c
 |ok p =>
  obtain⟨e,E1⟩:=p;rw[a]at c;refine⟨Mo M [(some (.ref D),k.s u)],E,hl,FR.inner (T:=[(some (.ref D),k.s u)]) fr,?_⟩;rw[a];intro J Iv H1 l K I;have Z:Got X.K X.mg M O E H [(some (.ref D),k.s u)] O E1 H1 []:=I.outer (T0:=[(some (.ref D),k.s u)]) fr;rw[<- y9]at K;exact zGo L P l Z.len Z.fr K c λO' H' h=>hN O' H' ((GA.of Z).trans h)
def zAb{α:Type}{k:Ak α}(hk:AkOk k){nl:Nat}{caps:Ls Nat}{mi:MI}{tg:MG}{tt:MT}{n:MC α}{v:TAc}{g:TG}{Q:VK}(L:GOk X g tg)(P:Qg k X.K X.mg n v)(h:tM X (JG k nl caps mi tg tt n) O H Q):zFR k.o nl caps (tMI X mi) g (tNT X.K X.mg tt) v O H Q:=by
 obtain⟨M,E,hl,fr,a⟩:=h;unfold JG at a;refine⟨M,E,hl,fr,?_⟩;exists ei,mi E,a,ds,E1;intro J Iv H1 l K I D hD;dsimp at a;cases Y:YS E1 caps with
 |z=>rw[Y]at a;exact a.elim|y _ _=>rw[Y]at a;exact a.elim
 |ok w =>
  rw[Y]at a;dsimp at a;cases q:zH w E1 with
  |z=>rw[q]at a;exact a.elim|y _ _=>rw[q]at a;exact a.elim
  |ok p =>
   obtain⟨ss,E2⟩:=p;rw[q]at a;dsimp at a;cases c:jl tg tt n ds (replicate nl .e++ss) k.z with
   |z=>rw[c]at a;exact a.elim|y _ _=>rw[c]at a;exact a.elim
   |ok p =>
    obtain⟨o,Eb⟩:=p;rw[c]at a;dsimp at a;cases S:zF w ((zu (replicate nl .e++ss) Eb).drop nl) E1 E2 with
    |z=>rw[S]at a;exact a.elim|y _ _=>rw[S]at a;exact a.elim
    |ok E3 =>
     rw[S]at a;obtain⟨W,G,ae,f1,o1⟩:=zCr (T:=[]) caps I.len Y I.fr;obtain⟨f2,o2,l2,R⟩:=WT (T:=[]) w I.len G q f1;have hv:=G.length;have u:FR X.K X.mg M H1 (O.zip E2++(W.map some).zip ss):=FR.perm (T:=O.zip E2++(W.map some).zip ss) (Z:=(W.map some).zip ss++O.zip E2) f2 perm_append_comm;have i:∀b,b∈yN (O.zip E2++(W.map some).zip ss)->b∈yN (O.zip E1):=λb hb =>
      o1 b ((o2 b).mpr (zD (T:=O.zip E2++(W.map some).zip ss) (Z:=(W.map some).zip ss++O.zip E2) perm_append_comm b hb))
     have af:Step M H (O.zip E) H1 (O.zip E2++(W.map some).zip ss):=I.st.weak i;have eO:y0 nl caps O=replicate nl none++W.map some:=by unfold L2.y0;rw[ae]
     rw[eO];have ez:(replicate nl (none:Lx V)++W.map some).zip (replicate nl Slot.e++ss)=replicate nl (none,.e)++(W.map some).zip ss:=by
      rw[zip_append (by simp),Qd]
     have f4:FR X.K X.mg (Mo M (O.zip E2)) H1 ((replicate nl (none:Lx V)++W.map some).zip (replicate nl Slot.e++ss)):=by
      rw[ez];exact(FR.inner u).emps0 nl
     have x:yN ((replicate nl (none:Lx V)++W.map some).zip (replicate nl Slot.e++ss))=yN ((W.map some).zip ss):=by rw[ez,zCs]
     generalize t:replicate nl (none:Lx V)++W.map some=O0 at f4 x ⊢;generalize ac:replicate nl Slot.e++ss=E0 at f4 x c S ⊢;have C:E0.length=O0.length:=by rw[<- t,<- ac];simp[l2,hv]
     obtain⟨f5,s5⟩:=hk f4 hD;have ab:Iv (Hm (Mo (Mo M (O.zip E2)) ((some (.ref D),k.s k.z)::O0.zip E0)) (upd H1 D (k.o D))):=by
      refine l.mono _ _ s5.same (l.mono _ _ (j5 λb hb=>?_) K);rcases hb with hb|hb
      ·rcases hb with hb|hb
       ·exact .inl hb
       ·exact .inr (i b (by rw[zY];exact mem_append_left _ hb))
      ·rw[x]at hb
       exact .inr (i b (by rw[zY];exact qK _ hb))
     refine zGo L P l C f5 ab c λO' H' ga=>a _ H' ?_
     have gb:Got X.K X.mg (Mo M (O.zip E2)) O0 E0 H1 [] O' Eb H' [(some (.ref D),k.s o)]:=⟨ga.len,ga.fr,s5.trans ga.st,ga.pk⟩;have ad:Mask (O'.zip Eb) (O0.zip (zu E0 Eb)):=Zx E0 O0 O' Eb gb.len (C.symm) λj aa e=>(gb.pk j aa e).2
     have mk:Mask (O'.zip Eb) ((W.map some).zip ((zu E0 Eb).drop nl)):=by
      have:=Yt nl ad;have e:(O0.zip (zu E0 Eb)).drop nl=(W.map some).zip ((zu E0 Eb).drop nl):=by
       rw[Gf,<- t];congr 1;rw[List.drop_left' (by simp)]
      rw[e]at this;exact this
     refine zCt (r:=k.r o) q S G u af R I.pk (gb.fr.mask (.keep mk)) ?_;refine(gb.st.weak λb hb=>(Mask.keep mk).sub.subset hb).left λb hb=>?_
     rw[nil_append,x]at hb;exact hb
end
section
variable{X:Cx}{ce target iter:Lb}{ifs:Ls Lb}{scope:Scope}{nl:Nat}{caps:Ls Nat}{N':Ls Str}{mk:Sem Lv}{ob:Obj}{act:Lv->Env->Sem PySem.Fin->Sem PySem.Fin}{gs:Ls Comprehension}{p p0:Pos}{α:Type}{k:Ak α}{ma:MC α}{mi:MI}{tg:MG}{tt:MT}{ta:TAc}{g:TG}
def zCu(C:CSc X scope nl caps N')(a:AkOk k)(P:Qg k X.K X.mg ma ta)(N:CNd X.prog X.w ce target iter ifs mk ob k.o act gs p)(M:∀r C K s H,PAc (cxB X N' scope r C K s H) act ta)(Y:eval ce X.env=comprehension ce scope X.env p0 mk false (eval iter X.env))
  (W:IOk X target iter mi) (n:∀r C K s H,PG (cxB X N' scope r C K s H) target g) (L:GOk X g tg) (V:∀r C K s H,IfOk (cxB X N' scope r C K s H) ifs tt) (S:∀x,foldedSetIterable iter X.env x=pure x):EOk X ce (JG k nl caps mi tg tt ma) :=
 yA (pe_comp C N W n (λr C K s H=>Zy (V r C K s H) λO H Q q=>tNT_M (X:=cxB X N' scope r C K s _) q) M S Y) λO H Q=>zAb a L P
def zCv(E:X.N.Nodup)(G:X.N[i]?=some y)(c:Loc X.env.scope y)(t:X.fn y=true\/X.env.scope.names.lookup y=some .local)(C:CSc X scope nl caps N')(a:AkOk k)(P:Qg k X.K X.mg ma ta)(N:CNd X.prog X.w ce target iter ifs mk ob k.o act gs p)(M:∀r C K s H,PAc (cxB X N' scope r C K s H) act ta)
  (Y:∀u,evalThenUse ce X.env u=(do let _ <- comprehension ce scope X.env p0 mk false (eval iter X.env) (some u)))
  (W:IOk X target iter mi) (n:∀r C K s H,PG (cxB X N' scope r C K s H) target g) (L:GOk X g tg) (V:∀r C K s H,IfOk (cxB X N' scope r C K s H) ifs tt)
  (S:∀x,foldedSetIterable iter X.env x=pure x) (z:swapsWith ce (some (.Name y py)) spos.line X.env=pure true):SOk X (.Assign [.Name y py] ce spos) (sSet i (JG k nl caps mi tg tt ma)) :=
 jf (ps_setC E G c t C N W n (λr C K s H=>Zy (V r C K s H) λO H Q q=>tNT_M (X:=cxB X N' scope r C K s _) q) M S z Y) λD O H h=>zAb a L P (zCe h)
end
def mem7{P:String->Prop}(L:P "NoneType")(Y:P "bool")(M:P "int")(h:P "str")(X:P "tuple")(G:P "list")(z:P "dict"):∀t∈["NoneType","bool","int","str","tuple","list","dict"],P t:=by
 intro t ht;dsimp[mem_cons,mem_nil_iff,or_false]at ht;rcases ht with rfl|rfl|rfl|rfl|rfl|rfl|rfl<;>assumption
abbrev Kit(K:qH)(T:String):Prop:=∀t∈["NoneType","bool","int","str","tuple","list","dict"],kitOne K (.type t) (.type T)=some (Ga t T)
def kit_int(K:qH):Kit K "int":=mem7 rfl rfl rfl rfl rfl rfl rfl
def zFS(K:qH):Kit K "bool":=mem7 rfl rfl rfl rfl rfl rfl rfl
def zCw(K:qH):Kit K "tuple":=mem7 rfl rfl rfl rfl rfl rfl rfl
def zFT(K:qH):Kit K "list":=mem7 rfl rfl rfl rfl rfl rfl rfl
def kit_str(K:qH):Kit K "str":=mem7 rfl rfl rfl rfl rfl rfl rfl
def zFU(K:qH):Kit K "dict":=mem7 rfl rfl rfl rfl rfl rfl rfl
def wt:bootBuiltins "isinstance"=some (.builtin "isinstance"):=by left
def bt_len:bootBuiltins "len"=some (.builtin "len"):=by left
def zGp:bootBuiltins "max"=some (.builtin "max"):=by left
def bt_all:bootBuiltins "all"=some (.builtin "all"):=by left
def zGq:bootBuiltins "int"=some (.type "int"):=by left
def bt_bool:bootBuiltins "bool"=some (.type "bool"):=by left
def zAc:bootBuiltins "tuple"=some (.type "tuple"):=by left
def zCx:bootBuiltins "list"=some (.type "list"):=by left
def bt_str:bootBuiltins "str"=some (.type "str"):=by left
def bt_dict:bootBuiltins "dict"=some (.type "dict"):=by left
section
variable{X:Cx}{K:qH}{mg:Str->Lx Lv}{O:St}{H:Hp}
def eNeg(a:ME):ME:=λE=>match a E with
 | .ok (.v (.int i),E1)=>.ok (.v (.int (-i)),E1)| .y x E1=>.y x E1|_=>.z
def ok_neg(h:EOk X a m):EOk X (.UnaryOp .USub a pos) (eNeg m):=yA (pe_un un_neg h) λO H Q ⟨M,E,hl,fr,k⟩=>by
 unfold eNeg at k;refine zo (T0:=[]) hl fr ?_;exists ea,m E,k,r,E1;cases r with
 |w P=>exact k.elim|m _ _=>exact k.elim
 |v d =>
  cases d with
  |int i =>
   intro v H' g;exact⟨i,zJ g.rep,k _ H' (g.flat (d:=.int (-i)) rfl)⟩
  |_=>exact k.elim
def y4(p V:Lk)(a b c:ME):ME:=λE=>match a E with
 | .z=>.z| .y x E1=>.y x E1
 | .ok (.v (.int i),E1)=>match b E1 with
  | .z=>.z| .y x E2=>.y x E2
  | .ok (.v (.int j),E2)=>if p i j=true then match c E2 with
    | .z=>.z| .y x E3=>.y x E3| .ok (.v (.int k),E3)=>.ok (.v (.bl (V j k)),E3)|_=>.z
   else .ok (.v (.bl false),E2)
  |_=>.z
 |_=>.z
def Gg{p V:Lk}(h:tM X (y4 p V a b c) O H Q):zB6 (rI0 λi j=>.bl (p i j)) (rI0 λi j=>.bl (V i j)) (tM X a) (tM X b) (tM X c) O H Q:=by
 obtain⟨M,E,hl,fr,k⟩:=h;unfold y4 at k;refine zo (T0:=[]) hl fr ?_;exists ea,a E,k,r,E1;cases r with
 |w P=>exact k.elim|m _ _=>exact k.elim
 |v d =>
  cases d with
  |int i =>
   intro x H1 I;have t:=I.dropAll;refine zo (T0:=[]) t.len t.fr ?_;dsimp at k;cases S:b E1 with
   |z=>rw[S]at k;exact k|y x E2=>rw[S]at k;exact λH' g=>k H' (t.trans' g)
   |ok q =>
    obtain⟨C,E2⟩:=q;rw[S]at k;cases C with
    |w P=>exact k.elim|m _ _=>exact k.elim
    |v u =>
     cases u with
     |int j =>
      intro y H2 Z;have e:=(t.trans' Z).dropAll;refine⟨i,j,zJ I.rep,zJ Z.rep,p i j,rfl,?_⟩;dsimp at k;cases l:p i j with
      |false =>
       rw[l]at k;exact zGb (k _ H2 (e.flat (d:=.bl false) rfl))
      |true =>
       rw[l]at k;dsimp[if_true]at k;refine zGc (zo (T0:=[]) e.len e.fr ?_);cases Y:c E2 with
       |z=>rw[Y]at k;exact k|y x E3=>rw[Y]at k;exact λH' g=>k H' (e.trans' g)
       |ok q =>
        obtain⟨W,E3⟩:=q;rw[Y]at k;cases W with
        |w P=>exact k.elim|m _ _=>exact k.elim
        |v o =>
         cases o with
         |int n =>
          intro w H3 J;exact⟨j,n,zJ Z.rep,zJ J.rep,k _ H3 ((e.trans' J).flat (d:=.bl (V j n)) rfl)⟩
         |_=>exact k.elim
     |_=>exact k.elim
  |_=>exact k.elim
def zFV{p V:Lk}(L:OpR X (compareOp op) (rI0 λi j=>.bl (p i j)))(D:OpR X (compareOp op') (rI0 λi j=>.bl (V i j)))(P:EOk X a ma)(J:EOk X b mb)(Z:EOk X c mc)
  (K:lastMarks [op,op'] [b,c]=false:=by with_unfolding_all rfl):EOk X (.Compare a [op,op'] [b,c] pos) (y4 p V ma mb mc):=yA (zEm L D P J Z K) λO H Q=>Gg
def zCy{p V:Lk}(L:OpR X (compareOp op) (rI0 λi j=>.bl (p i j)))(D:OpR X (compareOp op') (rI0 λi j=>.bl (V i j)))(P:EOk X a ma)(J:EOk X b mb)(Z:EOk X c mc)
  (K:lastMarks [op,op'] [b,c]=false:=by with_unfolding_all rfl):TOk X (.Compare a [op,op'] [b,c] pos) (tT (y4 p V ma mb mc)):=zAR (zEn L D P J Z K) λO H Q q=>Gg (zCW q)
abbrev ltB:Lk:=λi j=>decide (i<j)
abbrev leB:Lk:=λi j=>decide (i<=j)
abbrev gtB:Lk:=λi j=>decide (j<i)
abbrev geB:Lk:=λi j=>decide (j<=i)
def zFW(X:Cx)(Y:Scope):Ls Nat->Ls Str->Prop
 | [],[]=>True|j::js,x::xs=>X.N[j]?=some x/\Y.names.lookup x=some .free/\zFW X Y js xs|_,_=>False
theorem zGr{Y:Scope}{loc:Ls Str}:∀{n:Ls Nat} {P:Ls Str},zFW X Y n P->P.length=n.length/\∀(i j:Nat),n[i]?=some j->∃x,P[i]?=some x/\X.N[j]?=some x/\Y.names.lookup x=some .free
 | [],[],h=>⟨rfl,λi j e=>by simp at e⟩| [],_::_,h=>h.elim|_::_,[],h=>h.elim
 |j::c,x::a,h=>by
  obtain⟨L,h2,M⟩:=h;obtain⟨w,p⟩:=zGr (loc:=loc) M;refine⟨by simp[w],λi k e=>?_⟩;cases i with
  |zero=>simp at e;subst e;exact⟨x,rfl,L,h2⟩|succ i=>simp at e;obtain⟨y,q⟩:=p i k e;exact⟨y,by exists q⟩
def csc_of{Y:Scope}{nl:Nat}{caps:Ls Nat}(loc P:Ls Str)(h:loc.length=nl)(V:∀e s,¬X.xe e s)(Z:X.calm=true)(k:Y.kind=.function)(c:∀y∈Y.names,y.2=.local->Y.names.lookup y.1=some .local)(a:∀y∈Y.names,y.2=.cell->Y.names.lookup y.1=some .cell)
  (H:(Y.names.all λy=>y.2 != .free||X.env.kindOf y.1==some .cell)=true) (Q:zFW X Y caps P):CSc X Y nl caps (loc++P):=by
 obtain⟨c1,p⟩:=zGr (loc:=loc) Q;refine⟨V,Z,k,c,a,H,by simp[h,c1],λi j e=>?_⟩;obtain⟨x,g,S,R⟩:=p i j e;refine⟨x,?_,S,R⟩;rw[getElem?_append_right (by lia),h,Nat.add_sub_cancel_left];exact g
section
variable{elt target iter:Lb}{ifs:Ls Lb}{scope:Scope}{pos:Pos}{mi:MI}{tg:MG}{tt:MT}{el:ME}{g:TG}{nl:Nat}{caps:Ls Nat}{N':Ls Str}
def Qh(C:CSc X scope nl caps N')(M:∀r C K s H,EOk (cxB X N' scope r C K s H) elt el)(r Ca K s H):PAc (cxB X N' scope r Ca K s H) (act1 elt) (ta1 (tN X.K X.mg el)):=pa_elt C.hx (yA (M r _ K s H) λO H Q q=>tN_M q)
def ok_lc(C:CSc X scope nl caps N')(W:IOk X target iter mi)(n:∀r C K s H,PG (cxB X N' scope r C K s H) target g)(L:GOk X g tg)(V:∀r C K s H,IfOk (cxB X N' scope r C K s H) ifs tt)(M:∀r C K s H,EOk (cxB X N' scope r C K s H) elt el)
  (S:∀x,foldedSetIterable iter X.env x=pure x):EOk X (.ListComp elt [⟨target,iter,ifs,0⟩] scope pos) (Qf nl caps mi tg tt el) :=
 zCu C uQ uR zCp (Qh C M) rfl W n L V S
def sk_lc(E:X.N.Nodup)(G:X.N[i]?=some y)(O:Loc X.env.scope y)(t:X.fn y=true\/X.env.scope.names.lookup y=some .local)(C:CSc X scope nl caps N')(W:IOk X target iter mi)(n:∀r C K s H,PG (cxB X N' scope r C K s H) target g)(L:GOk X g tg)(V:∀r C K s H,IfOk (cxB X N' scope r C K s H) ifs tt)
  (M:∀r C K s H,EOk (cxB X N' scope r C K s H) elt el) (S:∀x,foldedSetIterable iter X.env x=pure x) (z:swapsWith (.ListComp elt [⟨target,iter,ifs,0⟩] scope pos) (some (.Name y py)) spos.line X.env=pure true) :
  SOk X (.Assign [.Name y py] (.ListComp elt [⟨target,iter,ifs,0⟩] scope pos) spos) (sSet i (Qf nl caps mi tg tt el)) :=
 zCv E G O t C uQ uR zCp (Qh C M) (λ_=>rfl) W n L V S z
end
end
section
variable(P:Lc)(w:Le)(K:qH)(mg:Str->Lx Lv)(base:Heap)
def JQ(x:Str)(st:Lf)(T:Ls Str):Prop:=∃(a:Lz) (y:FuncData),mg x=some (.ref a)/\Fun K x x st a y/\JL K y T []
def FOk(c:Bool)(x:Str)(k:Nat)(T:Ls Str)(F:MF):Prop:=∃(a:Lz) (y:FuncData),mg x=some (.ref a)/\keepIn K (.ref a)=true/\JL K y T []/\FnOkN c P w K mg base k a y T (spM K mg T.length F)
end
def uS(l:Ls (Str×MF)):Str->Lx MF:=λx=>l.lookup x
section
variable{X:Cx}{n:Nat}
def tab_nil:zBT X n (uS []):=λx F e=>by cases e
def zFX(K:X.mg x=some (.ref f))(C:keepIn X.K (.ref f)=true)(G:FnOkN c X.prog X.w X.K X.mg X.base k f fd ps (spM X.K X.mg n F))(j:c=true->X.A.handled=none)(p:RoomN k X.A)(J:JL X.K fd ps [])
  (h:zBT X n (uS l)):zBT X n (uS ((x,F)::l)):=λy F' e=>by
 unfold uS at e;rw[lookup_cons]at e;cases O:y==x with
 |true =>
  rw[O]at e;cases e;have:y=x:=by exists O
  subst this;exact⟨f,fd,ps,k,K,C,⟨c,G,j⟩,p,J⟩
 |false=>rw[O]at e;exact h y F' e
end
mutual
def deq:D->D->Bool
 | .t a,d=>match d with
  | .t b=>deqs a b|_=>false
 | .l a,d=>match d with
  | .l b=>deqs a b|_=>false
 |a,d=>match d with
  | .t _=>false| .l _=>false|b=>eqV (flV a) (flV b)
def deqs:Ls D->Ls D->Bool
 | [],[]=>true|a::as,b::bs=>deq a b&&deqs as bs| [],_::_=>false|_::_,[]=>false
end
def eqb:Nat->D->Bool
 |_,.non=>true|_,.bl _=>true|_,.int _=>true|_,.str x=>PyData.canLay0 (.str x)|n+1,.t ds=>ds.all (eqb n)|n+1,.l ds=>ds.all (eqb n)|_,_=>false
section
variable{X:Cx}{K:qH}{mg:Str->Lx Lv}
def rEqD(K:qH)(g:Str->Lx Lv)(n:Bool):R2:=λx y H Q=>∃d e,eqb 20 d=true/\eqb 20 e=true/\Rep K g H d x/\Rep K g H e y/\Q (.bl (if n then !deq d e else deq d e)) H
def zGs(n:Bool)(d e:D):Lx R:=if eqb 20 d=true/\eqb 20 e=true then some (.v (.bl (if n then !deq d e else deq d e)))else none
def zGt:ROk K mg (rEqD K mg neg) (zGs neg):=by
 intro M H Z x y t u o Q f T C e k;unfold zGs at e;split at e
 ·rename_i a
  cases e;exact⟨t,u,a.1,a.2,T.mono zI,C.mono zI,k.flat f rfl⟩
 ·cases e
end
end DV
namespace L2
open PySem PySem.Spec PyProof.Rows
section
variable{X:Cx}
def Zz{ns:Ls Int}{c:Ls Lv}(M:zw (ns.map V.int) c)(i:Nat)(v:Lv)(Y:c.toArray[i]?=some v):∃t,v=.int (ns.getD i 0) t:=by
 have a:c[i]?=some v:=by exists Y
 have W:i<c.length:=(qG.mp a).1;have hl:=M.length;have g:i<(ns.map V.int).length:=by rw[hl];exact W
 obtain⟨K,R,w⟩:=M.get (i:=i) (x:=(ns.map V.int)[i]) (by simp[g]);rw[a]at R;cases R;rw[length_map]at g;rw[getElem_map]at w;obtain⟨t,e⟩:=(show ∃t,v=.int (ns[i]) t from w);exact⟨t,by rw[e];simp[g]⟩
def Qi(ns:Ls Int):Int:=ns.getD (argBest (λi j=>decide (ns.getD i 0 > ns.getD j 0)) (ns.length-1)) 0
theorem Wa(ns:Ls Int):∀k,k<=ns.length->preSum (λi=>ns.getD i 0) k=(ns.take k).sum
 |0,_=>by simp[preSum]
 |k+1,h=>by
  have C:k<ns.length:=by lia
  rw[preSum,Wa ns k (by lia),List.take_add_one,getElem?_eq_getElem C,sum_append];simp[C]
def zCz(Z:X.calm=true):wB X (.builtin "sum") (λY H Q=>∃(p:Lz) (E:Ls Int),Y=[.ref p]/\SqL X.K H p (E.map V.int)/\Q (.int E.sum) H):=by
 intro G s O H Y D Q I r h;obtain⟨p,E,rfl,P,q⟩:=h;obtain⟨u,rfl,L⟩:=v3 r;cases L;obtain⟨its,M,k,hz⟩:=I.list P;have a:its.length=E.length:=by rw[<- M.length,length_map]
 have x:p<s.heap.objs.size:=by obtain⟨o,n,e,_⟩:=k;exact lt_size e
 have C:∀b o,s.heap.get? b=some o->(s.heap.push {cls:=.type "list_iterator",data:=.fields #[.ref p,.int 0 0]}).get? b=some o:=λb o e=>qA _ e
 refine call_sum_walkAnyS (wpAny_pyIter_list k.isList ?_);refine⟨s.heap.objs.size,[s.heap.objs.size,p],[s.heap.objs.size],_,its.toArray.size,_,_,λi=>E.getD i 0,rfl,
  (Walks.list (by show X.A.handled=none;exact I.ok.hd Z) _ p (ne_of_lt x) its.toArray).toS,⟨⟨_,get?_push_size _ rfl,rfl,rfl⟩,?_⟩,?_,Zz M,?_⟩
 ·obtain⟨o,e,c⟩:=k.isList
  exact⟨o,C _ _ e,c⟩
 ·intro b J
  rw[size_push];rcases mem_cons.mp J with rfl|J
  ·exact lt_succ_self _
  ·have:b=p:=by exists J
   subst this;exact lt_succ_of_lt x
 ·intro j t' K
  rw[size_toArray,a,Wa E _ (le_refl _),take_length];obtain⟨g,z,t,y,v⟩:=j;have R:z=s.gens:=K.gens;have w:t=s.drawn:=K.drawn;have l:v=s.os:=K.os;subst R w l;exact⟨.int E.sum,H,I.kept (t':=y) λb o S=>K.heap b o (λm=>by
   have:b=s.heap.objs.size:=by exists m
   subst this;exact absurd (lt_size S) (lt_irrefl _)) (C b o S),⟨_,rfl⟩,q⟩
def zC0(Z:X.calm=true):wB X (.builtin "sum") (λY H Q=>∃(p:Lz) (E:Ls Int),Y=[.ref p]/\SqT X.K H p (E.map V.int)/\Q (.int E.sum) H):=by
 intro G s O H Y D Q I r h;obtain⟨p,E,rfl,P,q⟩:=h;obtain⟨u,rfl,z⟩:=v3 r;cases z;obtain⟨its,M,k,hz⟩:=I.tuple P;have a:its.length=E.length:=by rw[<- M.length,length_map]
 have n:p<s.heap.objs.size:=by obtain⟨o,e,_⟩:=k;exact lt_size e
 have C:∀b o,s.heap.get? b=some o->(s.heap.push {cls:=.type "tuple_iterator",data:=.fields #[.ref p,.int 0 0]}).get? b=some o:=λb o e=>qA _ e
 refine call_sum_walkAnyS (wpAny_pyIter_tuple (show s.heap.IsTuple p its.toArray from k) ?_);refine⟨s.heap.objs.size,[s.heap.objs.size,p],[s.heap.objs.size],_,its.toArray.size,_,_,λi=>E.getD i 0,rfl,
  (Walks.tuple (by show X.A.handled=none;exact I.ok.hd Z) _ p (ne_of_lt n) its.toArray).toS,⟨⟨_,get?_push_size _ rfl,rfl,rfl⟩,?_⟩,?_,Zz M,?_⟩
 ·obtain⟨o,e,c⟩:=k
  exact⟨o,C _ _ e,c⟩
 ·intro b J
  rw[size_push];rcases mem_cons.mp J with rfl|J
  ·exact lt_succ_self _
  ·have:b=p:=by exists J
   subst this;exact lt_succ_of_lt n
 ·intro j t' K
  rw[size_toArray,a,Wa E _ (le_refl _),take_length];obtain⟨g,x,t,y,v⟩:=j;have R:x=s.gens:=K.gens;have w:t=s.drawn:=K.drawn;have l:v=s.os:=K.os;subst R w l;exact⟨.int E.sum,H,I.kept (t':=y) λb o S=>K.heap b o (λm=>by
   have:b=s.heap.objs.size:=by exists m
   subst this;exact absurd (lt_size S) (lt_irrefl _)) (C b o S),⟨_,rfl⟩,q⟩
def zBU(a:Int)(t:Tok)(l:Lz)(c:Lh)(n:Nat)(dd:Lx Lz)(g:Lj) :
  Meets (Builtin.«int.__rmul__» ⟨[.int a t,.ref l],[]⟩) (λ_ R s=>s.heap.get? l=some {cls:=.type "list",dict:=dd,data:=.seq c n,slots:=g}/\R (.ok (.ret Value.notImplemented)) s) :=
 .of_wp λC w A R s h=>by
  obtain⟨hl,h⟩:=h
  wp_walk
  exact⟨_,rfl,h⟩
def zC1(l:Lz)(c:Lh)(n:Nat)(dd:Lx Lz)(g:Lj)(k:Int)(u:Tok)(J:¬(!Builtin.List.listFitsIndex k)=true)(L:¬c.size*k.toNat > (2^63-1)/8)(Y:¬Builtin.List.listTooLong (c.size*k.toNat)=true) :
  Meets (Builtin.«list.__mul__» ⟨[.ref l,.int k u],[]⟩) (λ_ R s=>s.heap.get? l=some {cls:=.type "list",dict:=dd,data:=.seq c n,slots:=g} /\
   R (.ok (.ret (Value.ref s.heap.objs.size))) {s with heap:=s.heap.push {cls:=Value.type "list",data:=Data.seq (foldl (λa b=>a++b) #[] (replicate (if c.isEmpty=true then 0 else k.toNat) c))},toks:=s.toks}) :=
 .of_wp λC w A R s h=>by
  obtain⟨hl,h⟩:=h;have fits:=AutoListH.joined_fits Y
  wp_walk
  refine wpAny_ite_false (decide_eq_false (not_lt.mpr fits)) ?_
  wp_walk
  exact⟨_,rfl,h⟩
def rRepL(K:qH):R2:=λx y H Q=>∃l k Y,x=.ref l/\y=.int k/\SqL K H l Y/\-(2^63)<=k/\k<2^63/\Y.length*k.toNat<=sizeLine /\
 ∀p,H p=none->Q (.ref p) (upd H p (.l (replicate k.toNat Y).flatten))
def op_repL:OpR X (binaryOp .Mult) (rRepL X.K):=by
 intro G s O H x y v u Q I c V h;obtain⟨l,k,Y,rfl,rfl,E,L,h2,hz,q⟩:=h;cases c;obtain⟨t,rfl⟩:=V;obtain⟨its,r,C,_⟩:=I.list E;have hl:=r.length;obtain⟨⟨P,dd,R,g⟩,n,ho,Z,J,j⟩:=C;subst Z j;have i:its.toArray.size*k.toNat<=sizeLine:=by rw[size_toArray,<- hl];exact hz
 have c1:¬its.toArray.size*k.toNat > (2^63-1)/8:=by
  have:(sizeLine:Nat)<=(2^63-1)/8:=by decide
  lia
 have p:¬(!Builtin.List.listFitsIndex k)=true:=by rw[fitsIndex_both L h2];exact qF
 have o:¬Builtin.List.listTooLong (its.toArray.size*k.toNat)=true:=by rw[zEu i];exact qF
 have w:foldl (λa b=>a++b) #[] (replicate (if its.toArray.isEmpty=true then 0 else k.toNat) its.toArray)=(replicate k.toNat its).flatten.toArray:=by
  have e:∀m:Nat,foldl (λa b=>a++b) #[] (replicate m its.toArray)=(replicate m its).flatten.toArray:=λm=>by
   have:=WJ its m [];exact this
  rw[e];cases its with
  |nil=>simp|cons a D=>rw[if_neg (by simp)]
 refine wpAny_binaryOp_repeat_ref (T:="list") (U:="int") (by decide) ⟨_,ho,rfl⟩ (λz=>typeIs_int z k t) noFill_list_mul F.fills_int_mul F.slot_int_rmul repeat_list F.slot_int_index.lookup
  (call_meets F.slot_int_rmul (typeIs_int s k t) F.entry_int_rmul (F.args_int_rmul_2 _ _) (zBU k t l its.toArray n dd g) ⟨ho,rfl,⟨_,ho,rfl⟩,?_⟩)
 refine call_meets F.slot_list_mul ⟨_,ho,rfl⟩ F.entry_list_mul (F.args_list_mul_2 _ _) (zC1 l its.toArray n dd g k t p c1 o) ⟨ho,?_⟩;rw[w];exact⟨.ref _,_,I.lnew (t':=s.toks) (r.rep k.toNat) (by rw[QT,Nat.mul_comm];exact hz),rfl,q _ I.fresh⟩
def isV:V->V->Lx Bool
 | .non,.non=>some true| .non,.bl _=>some false| .bl _,.non=>some false| .bl a,.bl b=>some (a==b)| .non,.int _=>some false| .int _,.non=>some false| .non,.str _=>some false| .str _,.non=>some false| .ref _,.non=>some false| .non,.ref _=>some false| .ref _,.bl _=>some false| .bl _,.ref _=>some false| .int _,.bl _=>some false| .bl _,.int _=>some false| .str _,.bl _=>some false| .bl _,.str _=>some false|_,_=>none
def zC2(h:isV x y=some b)(c:yy x u)(V:yy y v):isSame u v=pure b:=by
 cases x<;>cases y<;>simp[isV]at h<;>subst h<;>first
  | (cases c;cases V;rfl)
  | (rename_i a b;cases c;cases V;cases a<;>cases b<;>rfl)
  | (cases c;obtain⟨t,rfl⟩:=V;rfl)
  | (obtain⟨t,rfl⟩:=c;cases V;rfl)
def op_is:OpR X (compareOp .Is) (λx y H Q=>∃b,isV x y=some b/\Q (.bl b) H):=by
 intro G s O H x y v u Q I a V h;obtain⟨b,J,q⟩:=h;show wpAny _ _ (isSame v u >>= λc=>pure (Value.bool c)) _ _ _;rw[zC2 J a V];exact qC ⟨.bl b,H,I,rfl,q⟩
def zAd:OpR X (compareOp .IsNot) (λx y H Q=>∃b,isV x y=some b/\Q (.bl (!b)) H):=by
 intro G s O H x y v u Q I a V h;obtain⟨b,J,q⟩:=h;show wpAny _ _ (isSame v u >>= λc=>pure (Value.bool (!c))) _ _ _;rw[zC2 J a V];exact qC ⟨.bl (!b),H,I,rfl,q⟩
end
def evens{α:Type}:Ls α->Ls α
 | []=>[]| [a]=>[a]|a::_::r=>a::evens r
def Gh{α:Type}(k:Bool)(xs:Ls α):Ls α:=if k then evens xs else xs.reverse
theorem zw.evens:∀{Y:Ls V} {D:Ls Lv},zw Y D->zw (evens Y) (L2.evens D)
 | [],_,h=>by cases h;exact .nil
 | [_],_,h=>by cases h with|cons a t=>cases t;exact .cons a .nil
 |_::_::_,_,h=>by cases h with|cons a t=>cases t with|cons _ r=>exact .cons a (zw.evens r)
def zw.rev(r:zw xs us):zw xs.reverse us.reverse:=by
 induction r with
 |nil=>exact .nil|cons a r I=>rw[reverse_cons,reverse_cons];exact I.append (.cons a .nil)
def zw.step(k:Bool)(r:zw xs us):zw (Gh k xs) (Gh k us):=by
 cases k
 ·dsimp[Gh,Bool.false_eq_true,if_false];exact r.rev
 ·dsimp[Gh,if_true];exact r.evens
end L2
namespace DV
open PySem PySem.W PyProof.Rows
variable{κ:Nat->Int}
def ev(κ:Nat->Int){α:Type}:KasT α->α
 | .ret a=>a| .ask i j k=>ev κ (k (decide (κ i<κ j)))
def Kp(κ:Nat->Int)(p:Array Nat)(t:Nat):Int:=κ (p.getD t 0)
def getD_q(p:Array Nat)(t:Nat):p.getD t 0=(p[t]?).getD 0:=by simp
def Srt(κ:Nat->Int)(p:Array Nat)(m:Nat):Prop:=∀i,0<i->i<m->Kp κ p (i-1)<=Kp κ p i
def Dsc(κ:Nat->Int)(p:Array Nat)(m:Nat):Prop:=∀i,0<i->i<m->Kp κ p i<=Kp κ p (i-1)
theorem Srt.le(h:Srt κ p m):∀(d i:Nat),i+d<m->Kp κ p i<=Kp κ p (i+d)
 |0,i,_=>Int.le_refl _
 |d+1,i,W=>by
  have L:=Srt.le h d i (by lia);have h2:=h (i+(d+1)) (by lia) W;rw[show i+(d+1)-1=i+d by lia]at h2;lia
def Srt.same(h:Srt κ p m)(e:∀t,Kp κ q t=Kp κ p t):Srt κ q m:=λi J W=>by rw[e,e];exact h i J W
def Dsc.same(h:Dsc κ p m)(e:∀t,Kp κ q t=Kp κ p t):Dsc κ q m:=λi J W=>by rw[e,e];exact h i J W
def zFY(p:Array Nat)(i j:Nat):(kas_rev p i j).Perm p:=mirror_perm _ _ _ _
def Bd(n:Nat)(p:Array Nat):Prop:=0<n/\∀x∈p,x<n
def Bd.at(h:Bd n p)(t:Nat):p.getD t 0<n:=by
 rw[getD_q];cases e:p[t]? with
 |none=>exact h.1|some x=>exact h.2 x (Array.mem_of_getElem? e)
def Bd.perm(h:Bd n p)(e:q.Perm p):Bd n q:=⟨h.1,λx V=>h.2 x (e.mem_iff.mp V)⟩
def Bd.rev(h:Bd n p)(i j:Nat):Bd n (kas_rev p i j):=h.perm (zFY _ _ _)
end DV
namespace L2
open PySem PySem.Spec PyProof.Rows PySem.W
end L2
namespace DV
open PySem L2 PyProof.Rows PySem.W
def tlt:Ls D->Ls D->Lx Bool
 | [],[]=>some false| [],_::_=>some true|_::_,[]=>some false
 |p::T,q::a=>if deq p q=true then tlt T a else match p,q with
  | .int i,.int j=>some (decide (i<j))|_,_=>none
def zC3:D->Ls D
 | .t E=>E|_=>[]
def ltAtD(ds:Ls D)(i j:Nat):Lx Bool:=tlt (zC3 (ds.getD i .non)) (zC3 (ds.getD j .non))
def rkD(ds:Ls D)(i:Nat):Int:=(((List.range ds.length).filter λk=>ltAtD ds k i==some true).length:Nat)
structure SortOk(ds:List D):Prop where
 few:ds.length<64
 tups:∀d∈ds,∃es,d=.t es/\(∀e∈es,eqb 18 e=true)/\(2<=ds.length->∃i r,es=.int i::r)
 lt:∀i j,i<ds.length->j<ds.length->ltAtD ds i j=some (decide (rkD ds i<rkD ds j))
 one:∀i j,i<ds.length->j<ds.length->rkD ds i=rkD ds j->ds.getD i .non=ds.getD j .non
end DV
namespace L2
open PySem PySem.Spec PyProof.Rows
section
variable{prog:Lc}{w:Le}{A:Lg}{R:Result->La->Prop}{I:Lz}{fp wr:Ls Lz}{n:Nat}{P:Nat->Lv->Prop}{St:Ll}
def Yu:(toString "max"++toString ".loop":String)="max.loop":=by decide
theorem Wb(W:Walks prog w A.in1 I fp wr n P St){a:Nat->Nat->Bool}(K:CmpOf prog w A.in1 .Gt P a)(S:Lz)(i:S∉fp)(k:Ls (Str×Lv)) :
  ∀(m j:Nat) (s:La) (best:Lv) (c:Nat),n=j+1+m->St (j+1) s.heap->P (argBest a j) best->s.heap.get? S=some {cls:=.type "list",dict:=none,data:=.seq #[best,best] c,slots:=#[]} ->
  (∀v g y,P (argBest a (n-1)) v->(∀b o,b∉wr->b≠S->s.heap.get? b=some o->g.get? b=some o)->R (.ok (.ret v)) {s with heap:=g,toks:=y}) ->
  codeAny (model prog w) A (.builtin "max.loop" ⟨[.ref I,.none,.ref S],k⟩) R s
 |0,j,s,best,c,D,u,C,G,r=>by
  have q:S∉wr:=λz=>i (W.sub _ z)
  refine codeAny_builtin F.entry_max_loop ?_;rw[Around.under_plainId F.plain_max_loop _];show wpAny _ A.in1 (seqItems? (.ref S) >>= _) _ _ s;refine qB (wpAny_seqItems G rfl ?_);show wpAny _ A.in1 (tryCatch (pyNext (.ref I)) _ >>= _) _ _ s;have en:j+1=n:=by lia
  refine qB (wpAny_tryCatch (W.done s _ _ (en▸u) λg y E=>?_));have p:=E S _ q G;show wpAny _ A.in1 (updateSeq S (λ_=>#[]) >>= _) _ _ _;refine qB (wpAny_updateSeq p rfl (qB (wpAny_letGo (qC (r best _ y ?_ ?_)))))
  ·rw[<- en];exact C
  ·exact λb o J h e=>(get?_update_other _ _ (Ne.symm h)).trans (E b o J e)
 |m+1,j,s,best,c,D,u,C,G,r=>by
  have q:S∉wr:=λz=>i (W.sub _ z)
  have T:j+1<n:=by lia
  refine codeAny_builtin F.entry_max_loop ?_;rw[Around.under_plainId F.plain_max_loop _];show wpAny _ A.in1 (seqItems? (.ref S) >>= _) _ _ s;refine qB (wpAny_seqItems G rfl ?_);show wpAny _ A.in1 (tryCatch (pyNext (.ref I)) _ >>= _) _ _ s;refine qB (wpAny_tryCatch (W.item (j+1) s _ _ T u λv g y hv O E=>?_));have p:=E S _ q G;show wpAny _ A.in1 (tryCatch (holding [v,v] (richCompare .Gt v best >>= _)) _ >>= _) _ _ _;refine qB (wpAny_tryCatch (wpAny_holding (qB (K (j+1) (argBest a j) v best _ _ _ hv C ?_))));refine qB (wpAny_holding (wpAny_truthy_bool (qB (wpAny_letGo (qC ?_)))));cases J:a (j+1) (argBest a j)with
  |true =>
   dsimp[if_true];refine qB (wpAny_updateSeq p rfl (qB (wpAny_letGo ?_)));rw[Yu];refine qC ⟨plainId_quiet F.plain_max_loop _,Wb W K S i k m (j+1) _ v _ (by lia) (W.frame _ _ _ O λb Q o e=>?_) (by dsimp[argBest,J,if_true];exact hv) (get?_update_self _ p rfl) λt M L H x=>?_⟩
   ·exact(get?_update_other _ _ (λz:S=b=>i (by rw[z];exact Q))).trans e
   ·exact r t M L H λb o l h e=>x b o l h ((get?_update_other _ _ (Ne.symm h)).trans (E b o l e))
  |false =>
   dsimp[Bool.false_eq_true,if_false];refine qB (wpAny_letGo ?_);rw[Yu];refine qC ⟨plainId_quiet F.plain_max_loop _,Wb W K S i k m (j+1) _ best c (by lia) O (by dsimp[argBest,J,Bool.false_eq_true,if_false];exact C) p λt M L H x=>?_⟩;exact r t M L H λb o l h e=>x b o l h (E b o l e)
def zBV(W:Walks prog w A.in1 I fp wr n P St){a:Nat->Nat->Bool}(K:CmpOf prog w A.in1 .Gt P a)(S:Lz)(i:S∉fp)(d:Lv)(u:St 0 s.heap)
  (G:s.heap.get? S=some {cls:=.type "list",dict:=none,data:=.seq #[] c,slots:=#[]})
  (r:∀v g y,(n=0/\v=d)\/(0<n/\P (argBest a (n-1)) v)->(∀b o,b∉wr->b≠S->s.heap.get? b=some o->g.get? b=some o)->R (.ok (.ret v)) {s with heap:=g,toks:=y}) :
  codeAny (model prog w) A (.builtin "max.loop" ⟨[.ref I,.none,.ref S],[(Str.ofString "default",d)]⟩) R s:=by
 have q:S∉wr:=λz=>i (W.sub _ z)
 refine codeAny_builtin F.entry_max_loop ?_;rw[Around.under_plainId F.plain_max_loop _];show wpAny _ A.in1 (seqItems? (.ref S) >>= _) _ _ s;refine qB (wpAny_seqItems G rfl ?_);show wpAny _ A.in1 (tryCatch (pyNext (.ref I)) _ >>= _) _ _ s;by_cases D:n=0
 ·refine qB (wpAny_tryCatch (W.done s _ _ (D▸u) λg y E=>?_))
  show wpAny _ A.in1 (rule _ >>= λ_=>ret d) _ _ _
  refine qB (wpAny_rule (qC (r d g y (.inl ⟨D,rfl⟩) λb o j _ e=>E b o j e)))
 ·have J:0<n:=Nat.pos_of_ne_zero D
  refine qB (wpAny_tryCatch (W.item 0 s _ _ J u λv g y hv O E=>?_));have p:=E S _ q G;show wpAny _ A.in1 (updateSeq S (λ_=>#[v,v]) >>= _) _ _ _;refine qB (wpAny_updateSeq p rfl ?_);rw[Yu];refine qC ⟨plainId_quiet F.plain_max_loop _,Wb W K S i _ (n-1) 0 _ v _ (by lia) (W.frame _ _ _ O λb Q o e=>?_) hv (get?_update_self _ p rfl) λt M L H x=>?_⟩
  ·exact(get?_update_other _ _ (λz:S=b=>i (by rw[z];exact Q))).trans e
  ·exact r t M L (.inr ⟨J,H⟩) λb o l h e=>x b o l h ((get?_update_other _ _ (Ne.symm h)).trans (E b o l e))
end
def zC4(a v:Lv):argsOk "max" ⟨[a],[(Str.ofString "default",v)]⟩:=by unfold argsOk;kernel_rfl
def Wc(ns:Ls Int)(k:Int):Int:=if ns.length=0 then k else Qi ns
section
variable{prog:Lc}{w:Le}{A:Lg}{E:Ly}{s:La}
def Gi{id:String}{b:Builtin}{args:Ls Lv}{k:Ls (Str×Lv)}{Q:Ly}(C:builtinKind id=none)(G:plainId id=true)(J:entryFor table id=some b)(P:argsOk id ⟨args,k⟩)
  (Z:wpAny (model prog w) A.in1 (b ⟨args,k⟩) (λK j=>match K with
   | .done f=>(match(Except.ok f:Result)with | .ok (.ret v)=>Q v j | .ok _=>False | .error e=>E e j)
   | .again c'=>c'.quiet=true/\codeAny (model prog w) A c' (λr j=>match r with | .ok (.ret v)=>Q v j | .ok _=>False | .error e=>E e j) j) E s) :
  wpAny (model prog w) A (call (.builtin id) args k) Q E s:=by
 refine wpAny_call (codeAny_call_builtin G J ?_);dsimp[checkBuiltinCall,C];cases a:Manifest.signature? id with
 |none=>exact qC Z
 |some g =>
  have c:Bind.checkArgs id g ⟨args,k⟩=pure ():=by simpa only[argsOk,a]using P
  dsimp[c];exact qC Z
end
section
variable{X:Cx}{e d:Lb}{te td:TE}{p pos kp:Pos}
def zC5(r:X.calm=true)(I:Inv X pins O H s)(P:SqL X.K H l (ns.map V.int))(q:Q (.int (Wc ns k)) H) :
  wpAny (model X.prog X.w) X.A (call (.builtin "max") [.ref l] [(Str.ofString "default",.int k t)]) (EP X pins O Q) X.xe s:=by
 obtain⟨its,M,j,hz⟩:=I.list P;have h:its.length=ns.length:=by rw[<- M.length,length_map]
 have G:l<s.heap.objs.size:=by obtain⟨o,n,e,_⟩:=j;exact lt_size e
 have C:∀b o,s.heap.get? b=some o->(s.heap.push {cls:=.type "list_iterator",data:=.fields #[.ref l,.int 0 0]}).get? b=some o:=λb o e=>qA _ e
 refine Gi F.kind_max F.plain_max F.entry_max (zC4 _ _) ?_;show wpAny _ X.A.in1 (Builtin.Builtins.bindParams "max" ["key","default"] 0 ⟨[],[(Str.ofString "default",.int k t)]⟩ >>= _) _ _ s;refine qB (wpAny_of_eq (show Builtin.Builtins.bindParams "max" ["key","default"] 0 ⟨[],[(Str.ofString "default",.int k t)]⟩=pure [none,some (.int k t)]from rfl) ?_);refine qB (qC (qB (wpAny_pyIter_list j.isList (qB (wpAny_newObj_type ?_)))));rw[Yu];have T:s.heap.objs.size<(s.heap.push {cls:=.type "list_iterator",data:=.fields #[.ref l,.int 0 0]}).objs.size:=by rw[size_push];exact lt_succ_self _
 refine qC ⟨plainId_quiet F.plain_max_loop _,zBV (fp:=[s.heap.objs.size,l]) (wr:=[s.heap.objs.size])
  (Walks.list (by show X.A.handled=none;exact I.ok.hd r) _ l (ne_of_lt G) its.toArray) (CmpOf.ints_gt (λi=>ns.getD i 0) (Zz M)) _ ?_ (.int k t) ⟨⟨_,qA _ (get?_push_size _ rfl),rfl,rfl⟩,?_⟩ (get?_push_size _ rfl) ?_⟩
 ·intro K
  rcases mem_cons.mp K with e|e
  ·rw[e]at T;exact absurd T (lt_irrefl _)
  ·have w:=mem_singleton.mp e
   rw[w]at T;exact absurd (lt_trans G T) (lt_irrefl _)
 ·obtain⟨o,e,c⟩:=j.isList
  exact⟨o,qA _ (C _ _ e),c⟩
 ·intro v g y hv E
  have a:∀b o,s.heap.get? b=some o->g.get? b=some o:=λb o S=>E b o (λm=>by
   have:b=s.heap.objs.size:=by exists m
   subst this;exact absurd (lt_size S) (lt_irrefl _)) (λz=>by
   have:=lt_size S;rw[z]at this;exact absurd (lt_trans this T) (lt_irrefl _)) (qA _ (C b o S))
  rcases hv with⟨J,rfl⟩|⟨J,u⟩
  ·have Z:ns.length=0:=by rw[<- h];exists J
   have p:Wc ns k=k:=by unfold Wc;rw[if_pos Z]
   rw[p]at q;exact⟨.int k,H,I.kept (t':=y) a,⟨_,rfl⟩,q⟩
  ·obtain⟨t',e⟩:=Zz M _ v u
   subst e;have Z:¬ns.length=0:=by rw[<- h];simp at J;lia
   have p:Wc ns k=Qi ns:=by unfold Wc;rw[if_neg Z]
   rw[p]at q;rw[size_toArray,h];exact⟨.int (Qi ns),H,I.kept (t':=y) a,⟨_,rfl⟩,q⟩
def pe_maxd(Z:X.calm=true)(n:Gl X "max")(K:X.mg "max"=none)(Y:bootBuiltins "max"=some (.builtin "max"))(M:PE X e te)(g:PE X d td)(a:starEach [e] X.env=[(false,eval e X.env)]) :
  PE X (.Call (.Name "max" p) [e] [⟨some (Str.ofString "default"),d,kp⟩] pos) (λO H Q=>te O H λx H1=>td O H1 λz H2=>∃l E k,x=.ref l/\z=.int k/\SqL X.K H2 l (E.map V.int)/\Q (.int (Wc E k)) H2):=by
 intro G s O H Q I h;refine wpAny_Call_Name_kw (J3 I n K Y ?_ (by decide) (by decide));refine callWith_kw ?_ (by rw[a];rfl) (by rw[a];rfl);refine thn ((jM M Yp a) pos G s O H (λW H1=>match W with
  | [x]=>td O H1 λz H2=>∃l E k,x=.ref l/\z=.int k/\SqL X.K H2 l (E.map V.int)/\Q (.int (Wc E k)) H2|_=>False) I h) λD i ⟨W,H1,I1,T,j⟩=>?_
 match W,j with
 | [x],j =>
  obtain⟨u,rfl,c⟩:=v3 T;refine kws_cons (thn (g G i O H1 _ I1 j) λw v ⟨z,H2,I2,o,l,E,k,R,r,P,q⟩=>kws_nil ?_);subst R r;cases c;obtain⟨t,rfl⟩:=o;exact zC5 Z I2 P q
end
end L2
namespace DV
open PySem L2
section
variable{X:Cx}{K:qH}{mg:Str->Lx Lv}
def call_or{r T:Ls V->Hp->VK->Prop}(h:wB X f r)(h':wB X f T):wB X f (λY H Q=>r Y H Q\/T Y H Q):=by
 intro G s O H Y D Q I M q;rcases q with q|q
 ·exact h G s O H Y D Q I M q
 ·exact h' G s O H Y D Q I M q
def eqG(d e:D):Lx R:=match eqF d e with
 |some r=>some r|none=>zGs false d e
def neG(d e:D):Lx R:=match neF d e with
 |some r=>some r|none=>zGs true d e
def zGu:ROk K mg (λx y H Q=>rEq x y H Q\/rEqD K mg false x y H Q) eqG:=by
 intro M H Z x y t u o Q f T C e k;unfold eqG at e;cases h:eqF t u with
 |some r=>rw[h]at e;cases e;exact .inl (ro_eq M H Z x y t u o Q f T C h k)|none=>rw[h]at e;exact .inr (zGt M H Z x y t u o Q f T C e k)
def zGv:ROk K mg (λx y H Q=>rNe x y H Q\/rEqD K mg true x y H Q) neG:=by
 intro M H Z x y t u o Q f T C e k;unfold neG at e;cases h:neF t u with
 |some r=>rw[h]at e;cases e;exact .inl (ro_ne M H Z x y t u o Q f T C h k)|none=>rw[h]at e;exact .inr (zGt M H Z x y t u o Q f T C e k)
def isD:D->D->Lx Bool
 | .non,.non=>some true| .bl a,.bl b=>some (a==b)| .non,.bl _=>some false| .bl _,.non=>some false| .non,.int _=>some false| .int _,.non=>some false| .non,.str _=>some false| .str _,.non=>some false| .int _,.bl _=>some false| .bl _,.int _=>some false| .str _,.bl _=>some false| .bl _,.str _=>some false| .t _,.non=>some false| .l _,.non=>some false| .t _,.bl _=>some false| .l _,.bl _=>some false|_,_=>none
def isG(n:Bool)(d e:D):Lx R:=(isD d e).map λb=>.v (.bl (if n then !b else b))
def zGw(h:isD d e=some b)(c:Rep K mg H d x)(V:Rep K mg H e y):isV x y=some b:=by
 cases d<;>cases e<;>dsimp[isD]at h<;>first
  | (cases h;done)
  | (cases h;rw[jk c,jk V];rfl)
  | (cases h;rw[yz c,yz V];rfl)
  | (cases h;rw[jk c,yz V];rfl)
  | (cases h;rw[yz c,jk V];rfl)
  | (cases h;rw[jk c,zJ V];rfl)
  | (cases h;rw[zJ c,jk V];rfl)
  | (cases h;rw[jk c,wT V];rfl)
  | (cases h;rw[wT c,jk V];rfl)
  | (cases h;rw[zJ c,yz V];rfl)
  | (cases h;rw[yz c,zJ V];rfl)
  | (cases h;rw[wT c,yz V];rfl)
  | (cases h;rw[yz c,wT V];rfl)
  | (cases h;obtain⟨a,Y,rfl,_⟩:=yO c;rw[jk V];rfl)
  | (cases h;obtain⟨a,Y,rfl,_⟩:=yB c;rw[jk V];rfl)
  | (cases h;obtain⟨a,Y,rfl,_⟩:=yO c;rw[yz V];rfl)
  | (cases h;obtain⟨a,Y,rfl,_⟩:=yB c;rw[yz V];rfl)
def ro_is:ROk K mg (λx y H Q=>∃b,isV x y=some b/\Q (.bl b) H) (isG false):=by
 intro M H Z x y t u o Q f T C e k;unfold isG at e;cases h:isD t u with
 |none=>rw[h]at e;cases e|some b=>rw[h]at e;cases e;exact⟨b,zGw h T C,k.flat f rfl⟩
def zAe:ROk K mg (λx y H Q=>∃b,isV x y=some b/\Q (.bl (!b)) H) (isG true):=by
 intro M H Z x y t u o Q f T C e k;unfold isG at e;cases h:isD t u with
 |none=>rw[h]at e;cases e|some b=>rw[h]at e;cases e;exact⟨b,zGw h T C,k.flat f rfl⟩
def Yv(d e:D):Lx R:=match ZY d e with
 |some r=>some r
 |none=>match d,e with
  | .l a,.int k=>if -(2^63)<=k/\k<2^63/\a.length*k.toNat<=cap then some (.w (replicate k.toNat a).flatten)else none|_,_=>none
def ro_mulG:ROk K mg (λx y H Q=>rMulD K x y H Q\/rRepL K x y H Q) Yv:=by
 intro M H Z x y t u o Q f T C e k;unfold Yv at e;cases h:ZY t u with
 |some r=>rw[h]at e;cases e;exact .inl (ro_mul M H Z x y t u o Q f T C h k)
 |none =>
  rw[h]at e;cases t with
  |l a =>
   cases u with
   |int n =>
    dsimp at e;split at e
    ·rename_i c
     cases e;obtain⟨p,Y,rfl,L,h2⟩:=yB T;rw[zJ C];exact .inr ⟨p,n,Y,rfl,rfl,zI.seq L,c.1,c.2.1,by rw[h2.length];exact JF c.2.2,λq P=>k.own f P (h2.flatten _)⟩
    ·cases e
   |_=>cases e
  |_=>cases e
def jh:Ls D->Lx (Ls Int)
 | []=>some []| .int i::ds=>(jh ds).map (i::·)|_::_=>none
theorem jN:∀{P:Ls D} {Y:Ls V} {E:Ls Int},jh P=some E->Reps K mg H P Y->Y=E.map V.int
 | [],_,_,e,h=>by cases e;dsimp[Reps]at h;subst h;rfl
 |d::P,_,E,e,h=>by
  dsimp[Reps]at h;obtain⟨v,r,rfl,L,h2⟩:=h;cases d with
  |int i =>
   dsimp[jh]at e;exists eb,jh P,e,cs;cases e;rw[zJ L,jN eb h2];rfl
  |_=>cases e
def zBp:Ls D->Lx R
 | [.int i,.int j]=>QM [.int i,.int j]
 | [.l P]=>match jh P with
  |some E=>if 0<E.length then some (.v (.int (Qi E)))else none|none=>none
 |_=>none
def zFZ:Ls D->Lx R
 | [.l P]=>(jh P).map λE=>.v (.int E.sum)| [.t P]=>(jh P).map λE=>.v (.int E.sum)|_=>none
def co_sumG:COk K mg (λY H Q=>(∃(p:Lz) (E:Ls Int),Y=[.ref p]/\SqL K H p (E.map V.int)/\Q (.int E.sum) H)\/∃(p:Lz) (E:Ls Int),Y=[.ref p]/\SqT K H p (E.map V.int)/\Q (.int E.sum) H) zFZ:=by
 intro M H Z Y P o Q f r e k
 match P,e with
 | [.l P],e =>
  dsimp[zFZ]at e;exists hi,jh P,e,E;cases e;obtain⟨v,rfl,h⟩:=YQ r;obtain⟨p,J,rfl,L,h2⟩:=yB h;rw[jN hi h2]at L;exact .inl ⟨p,E,rfl,zI.seq L,k.flat f rfl⟩
 | [.t P],e =>
  dsimp[zFZ]at e;exists hi,jh P,e,E;cases e;obtain⟨v,rfl,h⟩:=YQ r;obtain⟨p,J,rfl,L,h2⟩:=yO h;rw[jN hi h2]at L;exact .inr ⟨p,E,rfl,zf zI L,k.flat f rfl⟩
end
section
variable{X:Cx}{O:St}{H:Hp}
theorem Reps.evens{g:Str->Lx Lv}:∀{P:Ls D} {Y:Ls V},Reps K g H P Y->Reps K g H (L2.evens P) (L2.evens Y)
 | [],_,h=>by dsimp[Reps]at h;subst h;dsimp[L2.evens];exact Reps.nil
 | [d],_,h=>by
  dsimp[Reps]at h;obtain⟨v,r,rfl,L,rfl⟩:=h;dsimp[L2.evens];exact Reps.cons L Reps.nil
 |d::e::P,_,h=>by
  dsimp[Reps]at h;obtain⟨v,r,rfl,L,t,T,rfl,h2,M⟩:=h;dsimp[L2.evens];exact Reps.cons L (Reps.evens M)
theorem Reps.rev{g:Str->Lx Lv}:∀{P:Ls D} {Y:Ls V},Reps K g H P Y->Reps K g H P.reverse Y.reverse
 | [],_,h=>by dsimp[Reps]at h;subst h;exact Reps.nil
 |d::P,_,h=>by
  dsimp[Reps]at h;obtain⟨v,r,rfl,L,h2⟩:=h;rw[reverse_cons,reverse_cons];exact(Reps.rev h2).append (Reps.cons L Reps.nil)
def Reps.step{g:Str->Lx Lv}(k:Bool)(h:Reps K g H ds xs):Reps K g H (Gh k ds) (Gh k xs):=by
 cases k
 ·dsimp[Gh,Bool.false_eq_true,if_false];exact h.rev
 ·dsimp[Gh,if_true];exact h.evens
def zBW:D->D->Lx R
 | .l P,.int k=>(jh P).map λE=>.v (.int (Wc E k))|_,_=>none
def ro_maxd{g:Str->Lx Lv}:ROk K g (λx z H Q=>∃l E k,x=.ref l/\z=.int k/\SqL K H l (E.map V.int)/\Q (.int (Wc E k)) H) zBW:=by
 intro M H Z x y t u o Q f T C e k;cases t with
 |l P =>
  cases u with
  |int n =>
   dsimp[zBW]at e;exists hi,jh P,e,E;cases e;obtain⟨p,J,rfl,L,h2⟩:=yB T;rw[jN hi h2]at L;exact⟨p,E,n,rfl,zJ C,zI.seq L,k.flat f rfl⟩
  |_=>cases e
 |_=>cases e
def ok_maxd(Z:X.calm=true)(n:Gl X "max")(K:X.mg "max"=none)(M:EOk X e m)(j:EOk X d md)(S:zU e=false):EOk X (.Call (.Name "max" p) [e] [⟨some (Str.ofString "default"),d,kp⟩] pos) (Jk zBW m md) :=
 yA (pe_maxd Z n K zGp M j (Qa S)) λO H Q q=>WN ro_maxd q
def sTup(T:Ls Nat)(m:ME):MS:=λE=>match m E with
 | .z=>.z| .y x E1=>.y x E1
 | .ok (r,E1)=>match gT T r.d E1 with
  | .ok E2=>.ok (.nx,E2)|_=>.z
def zFa{T:Ls Nat}{m:ME}{D:Ends}(h:tS X (sTup T m) D O H):tAsg (tM X m) (gTup X.K T.length (YR T)) D O H:=by
 obtain⟨M,E,hl,fr,k⟩:=h;unfold sTup at k;refine zo (T0:=[]) hl fr ?_;cases t:m E with
 |z=>rw[t]at k;exact k|y x E1=>rw[t]at k;exact λH' g=>k O H' g
 |ok p =>
  obtain⟨r,E1⟩:=p;rw[t]at k;intro v H1 g;dsimp at k;cases Y:gT T r.d E1 with
  |z=>rw[Y]at k;exact k.elim|y _ _=>rw[Y]at k;exact k.elim
  |ok E2 =>
   rw[Y]at k;have q:=g.dropAll;exact zGl (X:=X) T rfl M O E1 H1 [] v r.d E2 _ q.len (FR.add q.frame g.rep) Y λO' u=>k O' H1 (q.trans' u)
def sk_tup(n:PG X (.Tuple es k p) (gTup X.K is.length (YR is)))(M:EOk X e m)(S:swapsWithSole [.Tuple es k p] e pos.line X.env=pure false)(R:swappedStores [.Tuple es k p] e X.env=pure none):SOk X (.Assign [.Tuple es k p] e pos) (sTup is m) :=
 jf (zGV M n S R) λD O H=>zFa
def sk_any:SOk X st (λ_=>.z):=jf zEi λD O H ⟨M,E,hl,fr,k⟩=>k
end
section
variable{X:Cx}{pins:Ls (Lz×Obj)}{O:L2.St}{H:Hp}{s:La}
def zC6(I:Inv X pins O H s){a:Lz}(h:s.heap.get? a=none):H a=none:=by
 cases q:H a with
 |none=>rfl|some o=>obtain⟨u,e⟩:=zAQ (I.hok a o q);rw[h]at e;cases e
def sRaise(c:Str):MS:=λE=>.y ⟨c,true,[]⟩ E
def zFb{c:Str}{C:Lz}{L a y:Pos}(Z:X.calm=true)(n:Gl X c)(K:X.mg c=some (.ref C))(q:excJ X.K C=true)(j:(c==("__debug__":Str))=false):SOk X (.Raise (some (.Call (.Name c L) [] [] a)) none y) (sRaise c):=by
 intro G s O H D I ⟨M,E,hl,fr,k⟩;have w:XE X O H ⟨c,true,[]⟩:=k O H (Got.refl (T0:=[]) hl fr);obtain⟨bm,N,nm,Y,bs,hdct,sn,sub,ab,col,dd,k0,k1,k2,k3,k5,i,r,hN,h,T⟩:=own_at I.kIn q;refine wpAny_Raise_call_subT (nm:=nm) (q:=Y) (C:=C) (N:=N) (bs:=bs) (bm:=bm) (hdct:=hdct) (sn:=sn) (sub:=sub) (ab:=ab) (col:=col) (dd:=dd) (k0:=k0) (k1:=k1) (k2:=k2) (k3:=k3) (k5:=k5) PySem.F.excBase_ValueError (T.hasType (by left)) (I.ok.hd Z) rfl h (vz I n K ⟨rfl,?_⟩ j);refine qC ⟨rfl,zero_le _,r,hN,T,λg e V=>?_⟩;refine w G _ _ (I.kept V.keeps) ⟨e,C,none,rfl,K,zC6 I V.new,.inl rfl,.inl ⟨rfl,s,I,rfl,MadeD.of V⟩⟩
def zC7{A:Lg}{M:Model}{E:Ly}{i:Nat}{x:Str}{v:V}{Q:Unit->La->Prop}(I:Inv X pins O H s)(hN:X.N.Nodup)(W:X.N[i]?=some x)(hx:X.env.scope.names.lookup x=some .local)(hv:O[i]?=some (some v))
  (h:∀s',Inv X pins (O.set i none) H s'->Q () s'):wpAny M A (unbindName X.env x) Q E s:=by
 obtain⟨m,D,hl⟩:=id I.loc;have aa:(X.env.scope.kind==.class||(X.env.scope.kind==.module&&X.env.locals != X.env.globals))=false:=by rw[I.ok.kind];rfl
 obtain⟨u,_,lk⟩:=hl i x v W hv (.inl hx);have K:m x=some u:=by
  rcases lk with⟨_,e⟩|⟨z,_⟩
  ·exact e
  ·have Y:X.env.scope.names.lookup x=some .cell\/X.env.scope.names.lookup x=some .free:=z
   rcases Y with Y|Y<;>(rw[hx]at Y;cases Y)
 refine wpAny_unbindName_local hx D K aa λh' u' ac S=>?_
 obtain⟨oL,_,_,ad,_⟩:=id D;have a:∀b,b≠X.env.locals->h'.get? b=s.heap.get? b:=λb J=>S.2 b J
 have L:∀b o,X.s₀.heap.get? b=some o->b≠X.env.locals:=λb o e=>ne_of_lt (lt_of_lt_of_le (lt_size e) I.ok.above)
 refine h _ ⟨I.ok,I.os,I.bare,⟨λb o e n J hx=>(a b (L b o e)).trans (I.base.keep b o e n J hx),λb o e n J hx=>?_,I.base.free,λb o e hx=>?_,I.base.tups,I.base.frzs,I.base.tbls⟩,⟨_,ac,λj y t R w l=>?_⟩,λy c e=>?_,I.free,I.freeC,λp G=>?_,λb o e=>?_,by exists I.len⟩
 ·obtain⟨g,q⟩:=I.base.slot b o e n J hx
  exact⟨g,(a b (L b o e)).trans q⟩
 ·obtain⟨o',q⟩:=I.base.there b o e hx
  exact⟨o',(a b (L b o e)).trans q⟩
 ·have ab:i<O.length:=(qG.mp hv).1
  have T:j≠i:=λz=>by
   subst z;rw[getElem?_set_self ab]at w;cases w
  rw[getElem?_set_ne (Ne.symm T)]at w;obtain⟨u2,C,q⟩:=hl j y t R w l;refine⟨u2,C,?_⟩;rcases q with⟨k,e⟩|⟨k,c,e,z⟩
  ·have P:y≠x:=λe=>T (vx hN R (e▸W))
   exact .inl ⟨k,by simp[P,e]⟩
  ·exact .inr ⟨k,c,e,z.sameBut S (I.cne y c e)⟩
 ·obtain⟨w',z⟩:=I.cell y c e
  exact⟨w',z.sameBut S (I.cne y c e)⟩
 ·obtain⟨e,n,r,nf,d⟩:=I.pin p G
  exact⟨(a p.1 r).trans e,n,r,nf,d⟩
 ·refine(I.hok b o e).stay (λc w' Z q=>(a c λz=>?_).trans q) (λ_ q=>q) λ_ _ q=>q
  subst z;rcases Z with rfl|Z
  ·rw[I.free]at e;cases e
  ·rw[I.free]at Z;cases Z
def zC8{sc:La}{w:Hp}{B:Heap}{a C:Lz}{t:Lv}{h6:Heap}(I:Inv X pins O H s)(x:Inv X pins O w sc)(P:Un (frs X.stack) [] w H sc.heap s.heap)(i:Heap.FlyingW B X.stack a (.ref C) t s.heap)(Z:zEY B H sc.heap (frs X.stack) s.heap)(D:H a=none)
  (K:Heap.FlyingW B X.stack a (.ref C) t h6) (g:s.heap.UpToSlots h6) {p:HO} (R:jL X.prog X.w (upd H a p) h6 a p):Inv X pins O (upd H a p) {s with heap:=h6}:=by
 obtain⟨j,W,M,S,Q,_⟩:=i.first;have E:a∉frs X.stack:=λz=>by
  obtain⟨_,o,q,k⟩:=I.stack.mem z;rw[M]at q;cases q;exact k W Q
 have y:sc.heap.get? a=none:=by
  cases q:sc.heap.get? a with
  |none=>rfl
  |some o =>
   have:=Z a j M (.inl ⟨o,q⟩) E;rw[i.2.1]at this;cases this
 have l:zEY B H sc.heap (a::frs X.stack) s.heap:=λb o e z nf=>Z b o e z λq=>nf (qD _ q)
 have hN:∀b∈a::frs X.stack,H b=none:=λb J=>by
  rcases mem_cons.mp J with rfl|J
  ·exact D
  ·exact I.stkFree b J
 have L:∀b∈frs X.stack,∀o,s.heap.get? b=some o->∃g,h6.get? b=some {o with slots:=g}:=λb J o e=>by
  obtain⟨_,v,q,k⟩:=I.stack.mem J;rw[e]at q;cases q;exact g b o e k
 have h:=un_on P I.hok l K.1 y L;have G:HOk X.prog X.w H h6:=zCJ I.hok l K.1 hN;have r:∀{b:Lz} {o:HO},H b=some o->b≠a:=λ{b o} e z=>by subst z;rw[D]at e;cases e
 refine x.call' (s':={s with heap:=h6}) (ch:=[]) (I.os.trans x.os.symm) ?_ (λb o e=>?_) I.bare (λb z=>absurd z (by simp))
 ·exact⟨h.keep,h.slot,λb o e n V=>by
   have:b≠a:=λz=>by subst z;rw[y]at e;cases e
   rw[ze this];exact h.free b o e n V,h.there,λb Y e=>by have q:=h.tups b Y e;rw[ze (r q)];exact q,λb o u e=>by have q:=h.frzs b o u e;rw[ze (r q)];exact q,λb T e=>by obtain⟨m,q⟩:=h.tbls b T e;exact⟨m,by rw[ze (r q)];exact q⟩⟩
 ·by_cases J:b=a
  ·subst J
   rw[ja]at e;cases e;exact R
  ·rw[ze J]at e
   exact(G b o e).stay (λc w' _ q=>q) (λc q=>by rw[ze (r q)];exact q) λc Y q=>by rw[ze (r q)];exact q
abbrev trX(X:Cx)(pn:Ls (Lz×Obj))(E:Ly):Cx:={X with pn:=pn,xe:=E}
abbrev hdX(X:Cx)(a:Lz):Cx:={X with A:=X.A.mark (some (.ref a)),calm:=false,xe:=λ_ _=>False}
def inv_tr(I:Inv X pins O H s)(E:Ly):Inv (trX X (X.pn++pins) E) [] O H s :=
 ⟨⟨I.ok.mod,I.ok.kind,I.ok.glob,I.ok.blt,I.ok.above,I.ok.inj,I.ok.has,I.ok.cab,I.ok.hd,I.ok.frames,I.ok.stk,I.ok.exf,I.ok.bs,I.ok.bsz,I.ok.noex,I.ok.exfs,I.ok.funs,I.ok.frf⟩,I.os,I.bare,I.base,I.loc,I.cell,I.free,I.freeC,λp G=>I.pin p (by exists G),I.hok,I.len⟩
def Jm{c:Ls (Lz×Obj)}{E:Ly}(I:Inv (trX X (X.pn++pins) E) c O H s):Inv X pins O H s :=
 ⟨⟨I.ok.mod,I.ok.kind,I.ok.glob,I.ok.blt,I.ok.above,I.ok.inj,I.ok.has,I.ok.cab,I.ok.hd,I.ok.frames,I.ok.stk,I.ok.exf,I.ok.bs,I.ok.bsz,I.ok.noex,I.ok.exfs,I.ok.funs,I.ok.frf⟩,I.os,I.bare,I.base,I.loc,I.cell,I.free,I.freeC,λp G=>I.pin p (mem_append_left _ G),I.hok,I.len⟩
def uT{c:Ls (Lz×Obj)}{E:Ly}{D:Ends}{f:Flow}{s':La}(h:SP (trX X (X.pn++pins) E) c D f s'):SP X pins D f s':=by
 cases f with
 |next=>obtain⟨O',H',I,q⟩:=h;exact⟨O',H',Jm I,q⟩|brk=>obtain⟨O',H',I,q⟩:=h;exact⟨O',H',Jm I,q⟩|cont=>obtain⟨O',H',I,q⟩:=h;exact⟨O',H',Jm I,q⟩|ret u=>obtain⟨v,O',H',I,r,q⟩:=h;exact⟨v,O',H',Jm I,r,q⟩
def zGx(I:Inv X pins O H s)(a:Lz):Inv (hdX X a) pins O H s:=vX I _ false _ (λz=>by cases z) I.ok.frames
def zFc{a:Lz}(I:Inv (hdX X a) pins O H s)(j:X.calm=true->X.A.handled=none):Inv X pins O H s :=
 ⟨⟨I.ok.mod,I.ok.kind,I.ok.glob,I.ok.blt,I.ok.above,I.ok.inj,I.ok.has,I.ok.cab,j,I.ok.frames,I.ok.stk,I.ok.exf,I.ok.bs,I.ok.bsz,I.ok.noex,I.ok.exfs,I.ok.funs,I.ok.frf⟩,I.os,I.bare,I.base,I.loc,I.cell,I.free,I.freeC,I.pin,I.hok,I.len⟩
def sTry(cl:Ls Str)(i:Nat)(b h:MS):MS:=λE=>match b E with
 | .y x E1=>if(!x.made&&cl.contains x.cls)=true then(match Yi i (.v (.exn x.cls x.vs)) E1 with
   | .ok E2=>(match h E2 with
    | .ok (.ret r,E3)=>.ok (.ret r,E3)|_=>.z)
   |_=>.z)else .z
 |o=>o
def sk_try{body ac:Ls Lf}{b0:Lf}{n t:Str}{i:Nat}{T:Lz}{np hp a0:Pos}{mb w:MS}{cl:Ls Str}(ae:X.stack=X.env::X.outer/\X.env.frame=some X.env.locals)(hN:X.N.Nodup)(W:X.N[i]?=some n)(V:X.env.scope.names.lookup n=some .local)
  (hg:Gl X t) (j:(t==("__debug__":Str))=false) (hm:X.mg t=some (.ref T)) (hT:TCls X.K T) (ao:∀c∈cl,∃C,X.mg c=some (.ref C)/\XCls X.K c C T)
  (hb:∀pn E,GF (trX X pn E) body mb) (hh:∀a,GF (hdX X a) (b0::ac) w) :
  SOk X (.Try body [.ExceptHandler (some (.Name t np)) (some n) (b0::ac) hp] [] [] a0) (sTry cl i mb w):=by
 intro G s O H D I ⟨M,E,hl,fr,k⟩;rw[arm_exec_Try];refine qB (wpAny_standAt (wpAny_tryStmt_except ?_));unfold sTry at k;refine wpAny_mono (hb (X.pn++G) _ [] s O H D (inv_tr I _) ⟨M,E,hl,fr,?_⟩) (λf s1 q=>?_) λ_ _ z=>z
 ·cases S:mb E with
  |z=>rw[S]at k;exact k
  |ok p =>
   rw[S]at k;obtain⟨fl,E1⟩:=p;cases fl<;>exact k
  |y x E1 =>
   rw[S]at k;dsimp at k;intro O1 H1 g;intro an s1 e I1 ⟨a,C,od,he,hmx,hn,hf,rel⟩;subst he;cases P:(!x.made&&cl.contains x.cls)with
   |false=>rw[P]at k;exact k.elim
   |true =>
   rw[P]at k;dsimp[Bool.and_eq_true,Bool.not_eq_true']at P;obtain⟨aw,Y⟩:=P;rcases rel with⟨z,_⟩|⟨_,sc,Hc,Ic,un,⟨B,h,fl,Z⟩,dl⟩
   ·rw[aw]at z;cases z
   obtain⟨C',ar,FC⟩:=ao x.cls (by exists Y);have ec:C=C':=by
    have z:X.mg x.cls=some (.ref C):=hmx;rw[ar]at z;cases z;rfl
   subst ec;have J1:Inv X G O1 H1 s1:=Jm I1;have Jc:Inv X G O1 Hc sc:=Jm Ic;have ax:X.A.frames=some (X.env::X.outer):=by rw[<- ae.1];exact J1.ok.frames
   have au:Heap.FlyingW B (X.env::X.outer) a (.ref C) (.ref h) s1.heap:=by rw[<- ae.1];exact fl
   obtain⟨oX,hX,hR⟩:∃oX:HO,(∀(h':Heap) (o:Obj) (vs:Lh),h'.get? a=some o->o.cls=.ref C->o.data=.fields vs->W9 a od h'->jL X.prog X.w (upd H1 a oX) h' a oX) /\
     ((x.vs=[]/\oX=ExO C a)\/∃d,oX=ExA C d a/\H1 d=some (XD d (fsV x.cls x.vs))):=by
    rcases hf with hv|⟨d,e1,e2⟩
    ·exact⟨ExO C a,λh' o _ q c _ _=>zCH q c,.inl ⟨hv,rfl⟩⟩
    ·refine⟨ExA C d a,λh' o _ q c dt l=>?_,.inr ⟨d,rfl,e2⟩⟩
     obtain⟨o',L,k'⟩:=l d e1;rw[q]at L;cases L;exact zCI q c k' dt
   refine wpAny_mono (wZ (GV _ _) (wpAny_looks_onW (E:=λ_ _=>False) (Q:=λ_ z=>∃h',z={s1 with heap:=h'}/\Heap.HeldW B (X.env::X.outer) a (.ref C) (.ref h) X.env.locals h'/\s1.heap.UpToSlots h') ax ae.2 au λh4 ad ag=>⟨h4,rfl,ad,ag⟩)) (λ_ z4 ⟨⟨h4,ay,ad,ag⟩,ap⟩=>?_) λ_ _ z=>z.1.elim
   subst ay;refine wpAny_mono (wZ (wS _ _) (wpAny_landsW (E:=λ_ _=>False) (Q:=λ_ z=>∃h',z={s1 with heap:=h'}/\Heap.FlyingW B (X.env::X.outer) a (.ref C) (.ref h) h'/\h4.UpToSlots h') ad λh5 ab af=>⟨h5,rfl,ab,af⟩)) (λ_ z5 ⟨⟨h5,av,ab,af⟩,aq⟩=>?_) λ_ _ z=>z.1.elim
   subst av;have ak:=(dl.on ap).on aq;have aj:Heap.FlyingW B X.stack a (.ref C) (.ref h) h5:=by rw[ae.1];exact ab
   obtain⟨o5,v5,e5,c5,d5,_⟩:=ab.first;have J5:=zC8 J1 Jc un fl Z hn aj (ag.trans af) (hX h5 o5 v5 e5 c5 d5 ak);refine wpAny_handleBy_cons (codeAny_handlers_test ?_) (by intro z;cases z);refine vz (X:=hdX X a) (zGx J5 a) hg hm ?_ j;refine QW FC hT J5.kIn e5 c5 ?_;refine codeAny_handlers_suite_as ?_;refine wpAny_mono (wZ (wS _ _) (PyProof.Rows.lands_againW (E:=λ_ _=>False) (Q:=λ_ z=>∃h',z={s1 with heap:=h'}/\Heap.FlyingW B (X.env::X.outer) a (.ref C) (.ref h) h'/\h5.UpToSlots h') ab λh6 K ah=>⟨h6,rfl,K,ah⟩)) (λ_ z6 ⟨⟨h6,az,K,ah⟩,am⟩=>?_) λ_ _ z=>z.1.elim
   subst az;have ai:Heap.FlyingW B X.stack a (.ref C) (.ref h) h6:=by rw[ae.1];exact K
   obtain⟨o6,v6,e6,c6,d6,_⟩:=K.first;have J6:=zC8 J1 Jc un fl Z hn ai ((ag.trans af).trans ah) (hX h6 o6 v6 e6 c6 d6 (ak.on am));have g2:Got X.K X.mg M O E H [] O1 E1 (upd H1 a oX) [(some (.ref a),R.slot (.v (.exn x.cls x.vs)))]:=by
    refine g.more (T:=[(some (.ref a),.v (.exn x.cls x.vs))]) ((g.frame.grow hn).add ?_) (Step.newVal hn);dsimp[Rep];have ha:Hm (Mo M (O1.zip E1)) (upd H1 a oX) a=some oX:=zp.mpr ⟨Zt g.frame hn,ja⟩;refine⟨a,C,rfl,hmx,?_⟩;rcases hR with⟨hv,rfl⟩|⟨d,rfl,j⟩
    ·exact .inl ⟨hv,ha⟩
    ·refine .inr ⟨d,ha,zp.mpr ⟨λq=>?_,?_⟩⟩
     ·obtain⟨o,q,ok⟩:=g.frame.moAl d q
      rcases ok with⟨xs,rfl⟩|⟨φ,rfl⟩
      ·exact XD_ne j q
      ·rw[j]at q;unfold XD at q;cases q
     ·rw[ze (jz j hn)];exact j
   cases ep:Yi i (.v (.exn x.cls x.vs)) E1 with
   |z=>rw[ep]at k;exact k.elim|y _ _=>rw[ep]at k;exact k.elim
   |ok E2 =>
   rw[ep]at k;dsimp at k;have J:=WR g2 ep;refine Yo (i:=i) (v:=.ref a) J6 hN W (.inl V) rfl (λs7 J7=>?_) (.inr V);refine wpAny_mono (hh a G s7 (O1.set i (some (.ref a))) (upd H1 a oX) {D with nx:=λ_ _=>False,bk:=λ_ _=>False,ct:=λ_ _=>False} (zGx J7 a) (WQ (T0:=[]) J.len J.fr ?_)) (λf s8 q=>?_) λ_ _ z=>z.elim
   ·cases eh:w E2 with
    |z=>rw[eh]at k;exact k.elim|y _ _=>rw[eh]at k;exact k.elim
    |ok p =>
     obtain⟨fl,E3⟩:=p;rw[eh]at k;cases fl with
     |nx=>exact k.elim|bk=>exact k.elim|ct=>exact k.elim|ret r=>exact λv O' H' g4=>k v O' H' (J.trans' g4)
   ·cases f with
    |next=>obtain⟨_,_,_,z⟩:=q;exact z.elim|brk=>obtain⟨_,_,_,z⟩:=q;exact z.elim|cont=>obtain⟨_,_,_,z⟩:=q;exact z.elim
    |ret u =>
     obtain⟨v,O3,H3,J8,ru,dr⟩:=q;have J8':=zFc J8 I.ok.hd;refine qB (wpAny_bindName (Yo (i:=i) (v:=.non) J8' hN W (.inl V) rfl (λs9 J9=>?_) (.inr V)));unfold unbindBehindTheSuite;refine wpAny_onRaise ?_;refine zC7 (v:=.non) J9 hN W V ?_ λaa J10=>⟨v,_,H3,J10,ru,dr⟩
     have:i<O3.length:=by rw[J8.len];exact(qG.mp W).1
     rw[getElem?_set_self this]
 ·cases f with
  |next=>exact wpAny_execs_nil (uT q)|brk=>exact uT q|cont=>exact uT q|ret u=>exact uT q
end
section
variable{X:Cx}{O:L2.St}{H:Hp}
def zAf{cl:Ls Str}{v:V}{cv:Lv}{b:Str->Bool}(M:∀u,yy v u->u=cv)(i:∀c∈cl,∃C T,X.mg c=some (.ref C)/\XCls X.K c C T/\kitOne X.K (.ref C) cv=some (b c)) :
  wB X (.builtin "isinstance") (λY H Q=>∃x c W,Y=[x,v]/\Rep X.K X.mg H (.exn c W) x/\c∈cl/\Q (.bl (b c)) H):=by
 intro G s O H Y D Q I r h;obtain⟨x,c,W,rfl,k,Z,q⟩:=h;obtain⟨u,j,rfl,l,n⟩:=vals2 r;obtain rfl:=M j n;obtain⟨a,C,rfl,K,P⟩:=k;obtain⟨C',T,e,F,g⟩:=i c Z;rw[K]at e;cases e;cases (show u=Value.ref a from l);have φ:∃o,s.heap.get? a=some o/\o.cls=.ref C:=by
  rcases P with⟨_,P⟩|⟨d,P,_⟩
  ·exact(show jL X.prog X.w H s.heap a (ExO C a)from I.hok a _ P).1
  ·obtain⟨⟨o,L,h2,_⟩,_⟩:=(show jL X.prog X.w H s.heap a (ExA C d a)from I.hok a _ P)
   exact⟨o,L,h2⟩
 exact kia_one (kit_exc F) I.kIn φ g (λz=>nomatch z) λy=>⟨.bl _,H,I.tok y,rfl,q⟩
def eIsX(cl:Ls Str)(b:Str->Bool)(m:ME):ME:=λE=>match m E with
 | .z=>.z| .y x E1=>.y x E1| .ok (.v (.exn c _),E1)=>if cl.contains c=true then .ok (.v (.bl (b c)),E1)else .z|_=>.z
def zC9{b:Str->Bool}(h:tM X (eIsX cl b m) O H Q):tM X m O H λx H1=>∃y c W,[x,v]=[y,v]/\Rep X.K X.mg H1 (.exn c W) y/\c∈cl/\Q (.bl (b c)) H1:=by
 obtain⟨M,E,hl,fr,k⟩:=h;unfold eIsX at k;refine zo (T0:=[]) hl fr ?_;exists ea,m E,k,r,E1;cases r with
 |w P=>exact k.elim|m _ _=>exact k.elim
 |v d =>
  cases d with
  |exn c W =>
   dsimp at k;intro v H' g;cases Z:cl.contains c with
   |false=>rw[Z]at k;exact k.elim
   |true =>
    rw[Z]at k;exact⟨v,c,W,rfl,g.rep.mono zI,by simpa using Z,k _ H' (g.flat (d:=.bl (b c)) rfl)⟩
  |_=>exact k.elim
def ok_isC{cl:Ls Str}{y:Str}{Y T:Lz}{a:Lb}{m:ME}{p t o:Pos}(V:∀c∈cl,∃C,X.mg c=some (.ref C)/\XCls X.K c C T)(l:X.mg y=some (.ref Y))(i:XCls X.K y Y T)(k:Y≠T)(n:Gl X "isinstance")(K:X.mg "isinstance"=none)
  (g:Gl X y) (P:EOk X a m) (q:bootBuiltins "isinstance"=some (.builtin "isinstance")) (j:(y==("__debug__":Str))=false) (M:zU a=false) :
  EOk X (.Call (.Name "isinstance" p) [a,.Name y t] [] o) (eIsX cl (·==y) m) :=
 yA (Zs (zAf (cl:=cl) (v:=.ref Y) (cv:=.ref Y) (b:=(·==y)) (λu h=>h) λc Z=>by
  obtain⟨C,L,h2⟩:=V c Z;exact⟨C,T,L,h2,kit_own h2 i k λe=>by subst e;rw[L]at l;cases l;rfl⟩) n K q (jM P (jM (QR (v:=.ref Y) g l rfl j) Yp (zM rfl)) (zM M)) (by decide) (by decide) (zM M) (j6 rfl)) λO H Q h=>zC9 h
def ok_isV{cl:Ls Str}{T:Lz}{a:Lb}{m:ME}{p t y:Pos}(V:∀c∈cl,∃C,X.mg c=some (.ref C)/\XCls X.K c C T)(n:Gl X "isinstance")(K:X.mg "isinstance"=none)
  (i:Gl X "ValueError") (e:X.mg "ValueError"=none) (g:bootBuiltins "ValueError"=some (.type "ValueError")) (P:EOk X a m) (Y:bootBuiltins "isinstance"=some (.builtin "isinstance")) (M:zU a=false) :
  EOk X (.Call (.Name "isinstance" p) [a,.Name "ValueError" t] [] y) (eIsX cl (λ_=>true) m) :=
 yA (Zs (zAf (cl:=cl) (v:=.ty "ValueError") (cv:=.type "ValueError") (b:=λ_=>true) (λu h=>h) λc Z=>by
  obtain⟨C,L,h2⟩:=V c Z;exact⟨C,T,L,h2,kit_val h2⟩) n K Y (jM P (jM (zBu (v:=.ty "ValueError") i e g rfl (by decide) (by decide)) Yp (zM rfl)) (zM M)) (by decide) (by decide) (zM M) (j6 rfl)) λO H Q h=>zC9 h
end
section
variable{X:Cx}{O:L2.St}{H:Hp}
def Gj(k:Bool):Lv->Bool
 | .bool b=>b==k|_=>false
def zGy(k:Int):Lv->Bool
 | .int b _=>b==k|_=>false
theorem ZI:∀{bs:Ls Bool} {D:Ls Lv},zw (bs.map V.bl) D->D=bs.map Value.bool
 | [],_,.nil=>rfl
 |b::bs,_,.cons r t=>by
  cases (show _=Value.bool b from r);rw[ZI t];rfl
theorem Yw:∀{E:Ls Int} {D:Ls Lv},zw (E.map V.int) D->∀u∈D,∃i t,u=.int i t
 | [],_,.nil,_,h=>by cases h
 |n::E,_,.cons r t,u,h=>by
  rcases mem_cons.mp h with rfl|h
  ·obtain⟨y,e⟩:=r;exact⟨n,y,e⟩
  ·exact Yw t u h
theorem JR(k:Int):∀{E:Ls Int} {D:Ls Lv},zw (E.map V.int) D->D.countP (zGy k)=E.count k
 | [],_,.nil=>rfl
 |n::E,_,.cons r t=>by
  obtain⟨y,e⟩:=r;subst e;rw[List.countP_cons,List.count_cons,JR k t];rfl
def zFd:MtM X "list.count" (λx W H Q=>∃l,x=.ref l/\((∃(bs:Ls Bool) (k:Bool),W=[.bl k]/\SqL X.K H l (bs.map V.bl)/\Q (.int (bs.count k:Nat)) H)\/(∃(E:Ls Int) (k:Int),W=[.int k]/\SqL X.K H l (E.map V.int)/\Q (.int (E.count k:Nat)) H))):=by
 intro G s O H x W v D Q I c M h;obtain⟨l,rfl,h⟩:=h;cases c;rcases h with⟨bs,k,rfl,S,q⟩|⟨E,k,rfl,S,q⟩
 ·obtain⟨u,rfl,j⟩:=M.one
  cases (show u=Value.bool k from j);obtain⟨its,r,p,_⟩:=I.list S;obtain⟨⟨c0,dd,z,g⟩,n,e,Y,o,w⟩:=p;subst Y o w;have J:=ZI r;subst J;refine call_meets PySem.F.slot_list_count ⟨_,e,rfl⟩ PySem.F.entry_list_count (PySem.F.args_list_count_2 _ _) (SeqAt.list_countAt l _ n none g (.bool k) (Gj k)) ⟨e,λy a=>?_,?_⟩
  ·have P:y∈bs.map Value.bool:=by exists a
   obtain⟨b,_,rfl⟩:=mem_map.mp P;exact SeqAt.EqAt.bool_bool b k
  ·have:(bs.map Value.bool).countP (Gj k)=bs.count k:=by rw[List.countP_map,List.count];rfl
   rw[show(bs.map Value.bool).toArray.toList=bs.map Value.bool from rfl,this];exact⟨.int _,H,I.tok _,⟨_,rfl⟩,q⟩
 ·obtain⟨u,rfl,j⟩:=M.one
  obtain⟨C,K⟩:=(show ∃t,u=Value.int k t from j);subst K;obtain⟨its,r,p,_⟩:=I.list S;obtain⟨⟨c0,dd,z,g⟩,n,e,Y,o,w⟩:=p;subst Y o w;refine call_meets PySem.F.slot_list_count ⟨_,e,rfl⟩ PySem.F.entry_list_count (PySem.F.args_list_count_2 _ _) (SeqAt.list_countAt l _ n none g (.int k C) (zGy k)) ⟨e,λy a=>?_,?_⟩
  ·obtain⟨i,t,rfl⟩:=Yw r y (by exists a)
   exact SeqAt.EqAt.int_int i t k C
  ·rw[show its.toArray.toList=its from rfl,JR k r]
   exact⟨.int _,H,I.tok _,⟨_,rfl⟩,q⟩
def zFe:MtM X "list.index" (λx W H Q=>∃l,x=.ref l/\∃(bs:Ls Bool) (k:Bool) (j:Nat),W=[.bl k]/\SqL X.K H l (bs.map V.bl)/\bs.findIdx? (·==k)=some j/\j<1000000/\Q (.int (j:Nat)) H):=by
 intro G s O H x W v D Q I c M h;obtain⟨l,rfl,bs,k,j,rfl,S,T,a,q⟩:=h;cases c;obtain⟨u,rfl,i⟩:=M.one;cases (show u=Value.bool k from i);obtain⟨its,r,p,_⟩:=I.list S;obtain⟨⟨c0,dd,z,g⟩,n,e,Y,o,E⟩:=p;subst Y o E;have J:=ZI r;subst J;obtain⟨L,h2,w⟩:=List.findIdx?_eq_some_iff_getElem.mp T;refine call_meets PySem.F.slot_list_index ⟨_,e,rfl⟩ PySem.F.entry_list_index (PySem.F.args_list_index_2 _ _) (SeqAt.list_indexAt l _ n none g (.bool k) (Gj k) j (by exists L) (by lia) ?_ ?_) ⟨e,λy t=>?_,⟨.int _,H,I.tok _,⟨_,rfl⟩,q⟩⟩
 ·simpa[Gj]using h2
 ·intro m K C
  have:=w m C;simpa[Gj]using this
 ·have P:y∈bs.map Value.bool:=by exists t
  obtain⟨b,_,rfl⟩:=mem_map.mp P;exact SeqAt.EqAt.bool_bool b k
def eMet(f:D->D->Lx R)(a b:ME):ME:=λE=>match a E with
 | .z=>.z| .y x E1=>.y x E1
 | .ok (T,E1)=>match T.d with
  | .l _=>(match b E1 with
   | .z=>.z| .y x E2=>.y x E2
   | .ok (C,E2)=>match f T.d C.d with
    |some r=>.ok (r,E2)|none=>.z)
  |_=>.z
def cntD:D->D->Lx R
 | .l P,.bl k=>(jC P).map λbs=>.v (.int (bs.count k:Nat))| .l P,.int k=>(jh P).map λE=>.v (.int (E.count k:Nat))|_,_=>none
def idxD:D->D->Lx R
 | .l P,.bl k=>(jC P).bind λbs=>match bs.findIdx? (·==k)with
  |some j=>if j<1000000 then some (.v (.int (j:Nat)))else none|none=>none
 |_,_=>none
def zDA{f:D->D->Lx R}{rel:V->Ls V->Hp->VK->Prop}(t:ROk X.K X.mg (λx y H Q=>rel x [y] H Q) f)(h:tM X (eMet f a b) O H Q):tBM X.K "list" rel (tM X a) (zEo (tM X b) tNil) O H Q:=by
 obtain⟨M,E,hl,fr,k⟩:=h;unfold eMet at k;refine zo (T0:=[]) hl fr ?_;exists ea,a E,k,r1,E1;intro x H1 I;dsimp at k;cases o:r1.d with
 |l P =>
  rw[o]at k;have c:=I.rep;rw[o]at c;obtain⟨l,Y,K,u,_⟩:=yB c;subst K;refine⟨(show tyV X.K "list" (.ref l) H1 from .inl ⟨rfl,Y,zI.seq u⟩),?_⟩;refine zo (T0:=[(some (.ref l),r1.slot)]) I.len I.fr ?_;cases S:b E1 with
  |z=>rw[S]at k;exact k|y x E2=>rw[S]at k;exact λH' g=>k H' (I.trans' g).dropAll
  |ok p =>
   obtain⟨C,E2⟩:=p;rw[S]at k;intro y H2 Z;have g:=I.trans' Z;have q:=Got.reps (vs:=[y,.ref l]) (rs:=[C,r1]) rfl g;obtain⟨e,_,G,n,J,_,w,c,_⟩:=q;cases G;cases w;dsimp at k;exists ef,f (.l P) C.d,k,r;rw[o]at c;exact t M H2 _ (.ref l) y (.l P) C.d r Q g.frame c n ef λv H' i j=>k v H' (g.more (T:=[(some v,r.slot)]) i j)
 |_=>rw[o]at k;exact k.elim
def ro_cnt{g:Str->Lx Lv}:ROk K g (λx y H Q=>∃l,x=.ref l/\((∃(bs:Ls Bool) (k:Bool),[y]=[.bl k]/\SqL K H l (bs.map V.bl)/\Q (.int (bs.count k:Nat)) H)\/(∃(E:Ls Int) (k:Int),[y]=[.int k]/\SqL K H l (E.map V.int)/\Q (.int (E.count k:Nat)) H))) cntD:=by
 intro M H Z x y t u o Q f T C e k;cases t with
 |l P =>
  obtain⟨l,Y,rfl,S,w⟩:=yB T;refine⟨l,rfl,?_⟩;cases u with
  |bl b =>
   dsimp[cntD]at e;exists eb,jC P,e,bs;cases e;rw[Jl eb w]at S;exact .inl ⟨bs,b,by rw[yz C],zI.seq S,k.flat f rfl⟩
  |int i =>
   dsimp[cntD]at e;exists eb,jh P,e,E;cases e;rw[jN eb w]at S;exact .inr ⟨E,i,by rw[zJ C],zI.seq S,k.flat f rfl⟩
  |_=>cases e
 |_=>cases e
def ro_idx{g:Str->Lx Lv}:ROk K g (λx y H Q=>∃l,x=.ref l/\∃(bs:Ls Bool) (k:Bool) (j:Nat),[y]=[.bl k]/\SqL K H l (bs.map V.bl)/\bs.findIdx? (·==k)=some j/\j<1000000/\Q (.int (j:Nat)) H) idxD:=by
 intro M H Z x y t u o Q f c C e k;cases t with
 |l P =>
  obtain⟨l,Y,rfl,a,w⟩:=yB c;refine⟨l,rfl,?_⟩;cases u with
  |bl b =>
   dsimp[idxD]at e;cases S:jC P with
   |none=>rw[S]at e;cases e
   |some bs =>
    rw[S,Option.bind_some]at e;cases R:bs.findIdx? (·==b)with
    |none=>rw[R]at e;cases e
    |some j =>
     rw[R]at e;dsimp at e;split at e
     ·rename_i T
      cases e;rw[Jl S w]at a;exact⟨bs,b,j,by rw[yz C],zI.seq a,R,T,k.flat f rfl⟩
     ·cases e
  |_=>cases e
 |_=>cases e
def ok_cnt(L:EOk X o a)(M:EOk X e b)(k:attributeBase o "count" X.env (eval o X.env)=eval o X.env)(S:zU e=false)(c:(apos.endLine==cpos.line)=true)
  (g:((backTo cpos (starEach (e::[]) X.env)).all (λx=>!x.1)&&(backToKw cpos (keywordEach [] X.env)).all (λx=>x.1.isSome)&&decide ((e::([]:Ls Lb)).length+([]:Ls Keyword).length+(if([]:Ls Keyword).isEmpty then 0 else 1)<30))=true) :
  EOk X (.Call (.Attribute o "count" apos) [e] [] cpos) (eMet cntD a b) :=
 yA (pe_bm PySem.F.plainAttrs_list PySem.F.slot_list_count PySem.F.type_list_count zFd L (jM M Yp (zM S)) k g c (zM S) rfl) λO H Q h=>zDA ro_cnt h
def ok_idx(L:EOk X o a)(M:EOk X e b)(k:attributeBase o "index" X.env (eval o X.env)=eval o X.env)(S:zU e=false)(c:(apos.endLine==cpos.line)=true)
  (g:((backTo cpos (starEach (e::[]) X.env)).all (λx=>!x.1)&&(backToKw cpos (keywordEach [] X.env)).all (λx=>x.1.isSome)&&decide ((e::([]:Ls Lb)).length+([]:Ls Keyword).length+(if([]:Ls Keyword).isEmpty then 0 else 1)<30))=true) :
  EOk X (.Call (.Attribute o "index" apos) [e] [] cpos) (eMet idxD a b) :=
 yA (pe_bm PySem.F.plainAttrs_list PySem.F.slot_list_index PySem.F.type_list_index zFe L (jM M Yp (zM S)) k g c (zM S) rfl) λO H Q h=>zDA ro_idx h
end
end DV
namespace DV
open PySem L2 PyProof.Rows
def xinIn(K:qH)(C f:Lz):Bool:=clsI K C (some (some (.ref f)))
def XO(C a:Lz)(L:Lx Lz):HO:=.ext λh=>∃o t,h.get? a=some o/\o.cls=.ref C/\o.dict=L/\o.data=.fields #[.ref t,.none,.none,.none,.bool false,.none]
def spI(c:Str)(C:Lz):Sp:=λW H Q _=>∃(a:Lz) (E:Ls Int),W=.ref a::E.map V.int/\E.length=(QV c).length/\(∀n∈E,n.natAbs.log2<1920)/\H a=some (XO C a none)/\∀d,H d=none->Q .non (upd (upd H d (XD d (fsV c E))) a (XO C a (some d)))
def RIok(P:Lc)(w:Le)(K:qH)(g:Str->Lx Lv)(base:Heap)(c:Str):Prop:=∃C f y,g c=some (.ref C)/\keepIn K (.ref C)=true/\xinIn K C f=true/\typeIn K (.ref f)=some (.type "function") /\
 JL K y ("self"::QV c) []/\FnOkN true P w K g base 2 f y ("self"::QV c) (spI c C)
end DV
namespace DV
open PySem L2 PyProof.Rows
open PySem.W (Looks)
structure TGet(K:qH)(T:Lz):Prop where
 rd:PySem.W.readsIn K T (.type "type")=true
 sp:specialIn K (.ref T) "__getattribute__"=some (some (.builtin "type.__getattribute__"))
 fc:PySem.W.findCls K (.ref T) (.type "type") "__init__"=some (.val (.builtin "ValueError.__init__"))
structure RiAt(K:qH)(mg:Str->Ln)(c:Str)(st:Lf):Prop where
 ex:∃C T f fd qual,mg c=some (.ref C)/\mg "ThrowError"=some (.ref T)/\keepIn K (.ref C)=true/\xinIn K C f=true/\typeIn K (.ref f)=some (.type "function")/\Fun K "__init__" qual st f fd/\JL K fd ("self"::QV c) []/\TGet K T/\XSet K C T/\∀n∈QV c,findIn K (.ref C) n=some none
def ris_nil{R:Str->Prop}:∀c∈([]:Ls Str),R c:=λ_ h=>by cases h
def RAok(K:qH)(g:Str->Lx Lv)(c:Str):Prop:=∃C T,g c=some (.ref C)/\g "ThrowError"=some (.ref T)/\XSet K C T/\∀n∈QV c,findIn K (.ref C) n=some none
end DV
namespace DV
open PySem L2
section
variable{X:Cx}{O:L2.St}{H:Hp}{K:qH}{mg:Str->Lx Lv}{M:Ld}{E E1:zR}{T0:Fz}
def whN(c:MT)(b:MS):Nat->MS
 |0=>λ_=>.z
 |n+1=>λE=>match c E with
  | .z=>.z| .y x E1=>.y x E1| .ok (false,E1)=>.ok (.nx,E1)
  | .ok (true,E1)=>match b E1 with
   | .ok (.nx,E2)=>whN c b n E2| .ok (.ct,E2)=>whN c b n E2| .ok (.bk,E2)=>.ok (.nx,E2)|o=>o
def whN_run{c:MT}{b:MS}{D:Ends}{n:Nat}(h:tS X (whN c b n) D O H):zGW (tMT X c) (tS X b) D O H:=by
 refine⟨λm O H=>tS X (whN c b m) D O H,⟨n,h⟩,λm O H h=>?_⟩;cases m with
 |zero=>obtain⟨M,E,hl,fr,k⟩:=h;exact k.elim
 |succ m =>
  obtain⟨M,E,hl,fr,k⟩:=h;unfold whN at k;refine JM (T0:=[]) hl fr ?_;cases Y:c E with
  |z=>rw[Y]at k;exact k|y x E1=>rw[Y]at k;exact λH' g=>k O H' g
  |ok p =>
   obtain⟨t,E1⟩:=p;rw[Y]at k;intro H1 I;cases t with
   |false=>exact zGb (k O H1 I)
   |true =>
    refine zGc ⟨λO' H'=>tS X (whN c b m) D O' H',λO' H' q=>⟨m,lt_succ_self m,q⟩,?_⟩;refine WQ (T0:=[]) I.len I.fr ?_;dsimp at k;cases S:b E1 with
    |z=>rw[S]at k;exact k|y x E2=>rw[S]at k;exact λO' H' g=>k O' H' (I.trans' g)
    |ok p =>
     obtain⟨i,E2⟩:=p;rw[S]at k;cases i with
     |ret r=>exact λv O' H' g=>k v O' H' (I.trans' g)|bk=>exact λO' H' g=>k O' H' (I.trans' g)|nx=>exact λO' H' g=>go I g k|ct=>exact λO' H' g=>go I g k
where
 go {c:MT} {b:MS} {D:Ends} {n:Nat} {M:Ld} {O O1 O':L2.St} {E E1 E2:zR} {H H1 H':Hp} (I:Got X.K X.mg M O E H [] O1 E1 H1 []) (g:Got X.K X.mg M O1 E1 H1 [] O' E2 H' [])
  (k:match whN c b n E2 with
   | .z=>False| .ok (.nx,E')=>∀O' H',Got X.K X.mg M O E H [] O' E' H' []->D.nx O' H'| .ok (.bk,E')=>∀O' H',Got X.K X.mg M O E H [] O' E' H' []->D.bk O' H'| .ok (.ct,E')=>∀O' H',Got X.K X.mg M O E H [] O' E' H' []->D.ct O' H'| .ok (.ret r,E')=>∀v O' H',Got X.K X.mg M O E H [] O' E' H' [(some v,r.slot)]->D.rt v H'
   | .y x E'=>∀O' H',Got X.K X.mg M O E H [] O' E' H' []->XE X O' H' x):tS X (whN c b n) D O' H':=by
  have a:=I.trans' g;refine WQ (T0:=[]) a.len a.fr ?_;cases e:whN c b n E2 with
  |z=>rw[e]at k;exact k|y x E3=>rw[e]at k;exact λO3 H3 J=>k O3 H3 (a.trans' J)
  |ok p =>
   obtain⟨i,E3⟩:=p;rw[e]at k;cases i with
   |nx=>exact λO3 H3 J=>k O3 H3 (a.trans' J)|bk=>exact λO3 H3 J=>k O3 H3 (a.trans' J)|ct=>exact λO3 H3 J=>k O3 H3 (a.trans' J)|ret r=>exact λv O3 H3 J=>k v O3 H3 (a.trans' J)
def sWhile(c:MT)(b:MS):MS:=whN c b 1000000
def zFf(G:PassesOwn (model X.prog X.w) X.A X.env X.xe)(Z:TOk X c mc)(J:GF X body mb):SOk X (.While c body [] pos) (sWhile mc mb) :=
 jf (zEk G Z J) λD O H h=>whN_run h
def sAug(i:Nat)(f:Int->Int->Lx Int)(m:ME):MS:=λE=>match E[i]? with
 |some (.v (.int a))=>(match m E with
  | .z=>.z| .y x E1=>.y x E1
  | .ok (r,E1)=>match r.d with
   | .int b=>(match E1[i]?,f a b with
    |some (.v (.int j)),some z=>if j=a then .ok (.nx,E1.set i (.v (.int z)))else .z|_,_=>.z)
   |_=>.z)
 |_=>.z
def Qj{i:Nat}{f:Int->Int->Lx Int}{e:TIp}{m:ME}{D:Ends}(W:∀a b z H Q,f a b=some z->Q (.int z) H->e (.int a) (.int b) H Q)(h:tS X (sAug i f m) D O H):tAug i (tM X m) e D O H:=by
 obtain⟨M,E,hl,fr,k⟩:=h;unfold sAug at k;exists e0,E[i]?,k,s0;cases s0 with
 |v d =>
  cases d with
  |int a =>
   dsimp at k;obtain⟨o,L,h2⟩:=wm hl e0;obtain⟨v,rfl,u⟩:=fr.val o (.int a) h2;have ev:=zJ u;subst ev;refine⟨.int a,L,?_⟩;refine zo (T0:=[]) hl fr ?_;cases c:m E with
   |z=>rw[c]at k;exact k|y x E1=>rw[c]at k;exact λH' g=>k O H' g
   |ok p =>
    obtain⟨r,E1⟩:=p;rw[c]at k;intro y H1 g;dsimp at k;cases q:r.d with
    |int b =>
     rw[q]at k;dsimp at k;have V:=g.rep;rw[q]at V;have Z:=zJ V;subst Z;cases R:E1[i]? with
     |none=>rw[R]at k;exact k.elim
     |some l =>
      cases I:f a b with
      |none=>rw[R,I]at k;cases l<;>first|exact k.elim|(rename_i d;cases d<;>exact k.elim)
      |some z =>
       rw[R,I]at k;cases l with
       |v t =>
        cases t with
        |int j =>
         dsimp at k;by_cases P:j=a
         ·rw[if_pos P]at k
          refine W a b z _ _ I (k _ H1 ?_);have n:=g.dropAll.flat (d:=.int z) rfl;exact WR (r:=.v (.int z)) n (by dsimp[Yi,R];rfl)
         ·rw[if_neg P]at k;exact k.elim
        |_=>exact k.elim
       |_=>exact k.elim
    |_=>rw[q]at k;exact k.elim
  |_=>exact k.elim
 |_=>exact k.elim
def ip_mulB:PIp X .Mult (λx y H Q=>∃i j,x=.int i/\y=.int j/\CMulB i j/\Q (.int (i*j)) H):=by
 intro G s O H x y v u Q I T C h;obtain⟨i,j,R,w,Z,q⟩:=h;subst R;subst w;obtain⟨t,rfl⟩:=T;obtain⟨o,rfl⟩:=C;refine PyProof.Rows.imul_int ⟨.int _,H,I.tok _,⟨_,rfl⟩,q⟩ ?_;rcases Z with h|h
 ·exact h.ok
 ·exact zCa h.1 h.2
def zDB:Int->Int->Lx Int:=λa b=>if((-(2^64)<a/\a<2^64)\/(-(2^64)<b/\b<2^64))\/(a.natAbs<Big/\b.natAbs<Big)then some (a*b)else none
def zDC{i:Nat}{x:Str}{e:Lb}{m:ME}{y p:Pos}(E:X.N.Nodup)(W:X.N[i]?=some x)(V:Loc X.env.scope x)(t:X.fn x=true\/X.env.scope.names.lookup x=some .local)(M:EOk X e m):SOk X (.AugAssign (.Name x p) .Add e y) (sAug i (λa b=>some (a+b)) m) :=
 jf (zBx E W V M ip_add t) λD O H h=>Qj (λa b z H Q G q=>by cases G;exact⟨a,b,rfl,rfl,q⟩) h
def zDD{i:Nat}{x:Str}{e:Lb}{m:ME}{y p:Pos}(E:X.N.Nodup)(W:X.N[i]?=some x)(V:Loc X.env.scope x)(t:X.fn x=true\/X.env.scope.names.lookup x=some .local)(M:EOk X e m):SOk X (.AugAssign (.Name x p) .Sub e y) (sAug i (λa b=>some (a-b)) m) :=
 jf (zBx E W V M ip_sub t) λD O H h=>Qj (λa b z H Q G q=>by cases G;exact⟨a,b,rfl,rfl,q⟩) h
def zDE{i:Nat}{x:Str}{e:Lb}{m:ME}{y p:Pos}(E:X.N.Nodup)(W:X.N[i]?=some x)(V:Loc X.env.scope x)(t:X.fn x=true\/X.env.scope.names.lookup x=some .local)(M:EOk X e m):SOk X (.AugAssign (.Name x p) .Mult e y) (sAug i zDB m) :=
 jf (zBx E W V M ip_mulB t) λD O H h=>Qj (λa b z H Q G q=>by
  unfold zDB at G;split at G
  ·rename_i Z
   cases G;exact⟨a,b,rfl,rfl,Z,q⟩
  ·cases G) h
end
mutual
def pyD:D->Lx PyData
 | .non=>some .none| .bl b=>some (.bool b)| .int i=>some (.int i)| .str x=>some (.str x)| .t P=>(pyDs P).map .tuple| .l P=>(pyDs P).map .list| .dic=>some (.dict [])|_=>none
def pyDs:Ls D->Lx (Ls PyData)
 | []=>some []
 |d::P=>match pyD d,pyDs P with
  |some x,some Y=>some (x::Y)|_,_=>none
end
section
variable{X:Cx}{O:L2.St}{pins:Ls (Lz×Obj)}{H:Hp}{s:La}
def zFg(K:qH):Prop:=∃o E n,K.lookup sysModules=some o/\o.data=.dict E n
def sm_ne(I:Inv X pins O H s)(S:zFg X.K)(R:s.heap.get? a=some o)(w:o.data=.seq vs n):sysModules≠a:=by
 obtain⟨p,E,m,j,c⟩:=S;intro e;have:=I.kIn _ _ j;rw[e,R]at this;cases this;rw[c]at w;cases w
mutual
theorem Jo(I:Inv X pins O H s)(S:zFg X.K):∀{d:D} {v:V} {u:Lv} {x:PyData},Rep X.K X.mg H d v->yy v u->pyD d=some x->∃as,Reads s.heap u x as/\sysModules∉as
 | .non,v,u,x=>λr M e=>by cases e;rw[jk r]at M;cases (show u=Value.none from M);exact⟨_,.none,by simp⟩| .bl b,v,u,x=>λr M e=>by cases e;rw[yz r]at M;cases (show u=Value.bool b from M);exact⟨_,.bool b,by simp⟩| .int i,v,u,x=>λr M e=>by cases e;rw[zJ r]at M;obtain⟨t,q⟩:=(show ∃t,u=Value.int i t from M);subst q;exact⟨_,.int i t,by simp⟩| .str y,v,u,x=>λr M e=>by cases e;rw[wT r]at M;obtain⟨t,q⟩:=(show ∃t,u=Value.str y t from M);subst q;exact⟨_,.str y t,by simp⟩
 | .t P,v,u,x=>λr M e=>by
  obtain⟨a,Y,rfl,L,h2⟩:=yO r;cases (show u=Value.ref a from M);obtain⟨its,T,p,_⟩:=I.tuple L;obtain⟨o,R,w,n,l⟩:=p;dsimp[pyD]at e;exists eq,pyDs P,e,J;cases e;obtain⟨as,q,z⟩:=readss_of I S h2 T eq;exact⟨_,.tuple R w l (by exists q),z⟩
 | .l P,v,u,x=>λr M e=>by
  obtain⟨a,Y,rfl,L,h2⟩:=yB r;cases (show u=Value.ref a from M);obtain⟨its,T,p,_⟩:=I.list L;obtain⟨o,n,R,w,_,l⟩:=p;dsimp[pyD]at e;exists eq,pyDs P,e,J;cases e;obtain⟨as,q,z⟩:=readss_of I S h2 T eq;exact⟨_,.list R w l (by exists q),λK=>(mem_cons.mp K).elim (sm_ne I S R l) z⟩
 | .fn y,v,u,x=>λr M e=>by cases e
 | .dic,v,u,x=>λr M e=>by
  cases e;dsimp[Rep]at r;obtain⟨a,rfl,L⟩:=r;cases (show u=Value.ref a from M);obtain⟨_,G,vs,k,o,E,C,j,c,g,_,Q,_⟩:(([]:Ls (Key×V)).length<=sizeLine)/\(a==sysModules)=false/\∃vs,KV [] vs/\s.heap.DictOf (QP X.prog X.w) a vs:=I.hok a _ L;cases k;have Z:E.toList=[]:=by cases h:E.toList with|nil=>rfl|cons y J=>rw[h]at Q;cases Q
  refine⟨_,.dict j c.1 g (kvs:=[]) (by rw[Z];exact .nil) (by rw[Z];exact .nil),λK=>?_⟩;rcases mem_cons.mp K with K|K
  ·exact beq_eq_false_iff_ne.mp G K.symm
  ·cases K
 | .exn _ _,_,_,_=>λ_ _ e=>by cases e| .m _ _,_,_,_=>λ_ _ e=>by cases e
theorem readss_of(I:Inv X pins O H s)(S:zFg X.K):∀{P:Ls D} {W:Ls V} {c:Ls Lv} {Y:Ls PyData},Reps X.K X.mg H P W->zw W c->pyDs P=some Y->∃as,ReadsAll s.heap c Y as/\sysModules∉as
 | [],W,c,Y=>λr M e=>by
  cases e;dsimp[Reps]at r;subst r;cases M;exact⟨_,.nil,by simp⟩
 |d::P,W,c,Y=>λr M e=>by
  dsimp[Reps]at r;obtain⟨v,a,rfl,T,C⟩:=r;cases M with
  |cons p q =>
   dsimp[pyDs]at e;cases R:pyD d with
   |none=>rw[R]at e;cases e
   |some x =>
    cases w:pyDs P with
    |none=>rw[R,w]at e;cases e
    |some J =>
     rw[R,w]at e;cases e;obtain⟨as,g,k⟩:=Jo I S T p R;obtain⟨bs,z,i⟩:=readss_of I S C q w;exact⟨_,.cons g z,λK=>(mem_append.mp K).elim k i⟩
end
def Gm(d:D):Lx R:=match pyD d with
 |some x=>if x.showable=true/\x.depth<=60/\x.shown.length<=cap then some (.v (.str x.shown))else none|none=>none
def zBX(S:zFg X.K)(n:X.A.guards=some [])(E:X.A.units+64<cLine):wB X (.builtin "repr") (λY H Q=>∃x d r,Y=[x]/\Rep X.K X.mg H d x/\Gm d=some r/\∃t,r=.v (.str t)/\Q (.str t) H):=by
 intro G s O H Y D Q I J h;obtain⟨x,d,r,rfl,k,v,t,rfl,q⟩:=h;obtain⟨u,rfl,j⟩:=J.one;unfold Gm at v;exists ep,pyD d,v,p;dsimp at v;split at v
 ·rename_i Z
  cases v;obtain⟨as,w,z⟩:=Jo I S k j ep;have K:∀g l c,(∀b o,s.heap.get? b=some o->g.get? b=some o)->EP X G O Q (.str p.shown l) {s with heap:=g,toks:=c}:=λg l c C=>⟨.str _,H,I.kept (t':=c) C,⟨_,rfl⟩,q⟩
  have a:EP X G O Q (.str p.shown s.toks) {s with toks:=s.toks+1}:=⟨.str _,H,I.tok _,⟨_,rfl⟩,q⟩
  cases w with
  |none=>exact PySem.P.repr_of_none a|bool b=>exact PySem.P.repr_of_bool a
  |int i t =>
   have W:(decide (i.natAbs.log2<1920))=true:=Z.1;exact PySem.P.repr_of_int (of_decide_eq_true W) a
  |str y t=>exact PySem.P.repr_of_str a (JF Z.2.2)|list L h2 M h4=>exact repr_of_reads' (.list L h2 M h4) Z.1 (λ_=>z) n (by have:=Z.2.1;lia) (λ_ _ e=>e) (λg u l C=>K g u l C) (JF Z.2.2)|tuple L h2 M h4=>exact repr_of_reads' (.tuple L h2 M h4) Z.1 (λ_=>z) n (by have:=Z.2.1;lia) (λ_ _ e=>e) (λg u l C=>K g u l C) (JF Z.2.2)|dict L h2 M h4 h5=>exact repr_of_reads' (.dict L h2 M h4 h5) Z.1 (λ_=>z) n (by have:=Z.2.1;lia) (λ_ _ e=>e) (λg u l C=>K g u l C) (JF Z.2.2)
 ·cases v
def zDF:Ls D->Lx R
 | [d]=>Gm d|_=>none
def co_repr{g:Str->Lx Lv}:COk K g (λY H Q=>∃x d r,Y=[x]/\Rep K g H d x/\Gm d=some r/\∃t,r=.v (.str t)/\Q (.str t) H) zDF:=by
 intro M H Z Y P res Q f r e k
 match P,e with
 | [d],e =>
  dsimp[Reps]at r;obtain⟨v,a,rfl,T,rfl⟩:=r;have y:=e;replace y:Gm d=some res:=y;unfold Gm at y;cases l:pyD d with
  |none=>rw[l]at y;cases y
  |some p =>
   rw[l]at y;dsimp at y;split at y
   ·cases y
    exact⟨v,d,_,rfl,T.mono zI,e,_,rfl,k.flat f rfl⟩
   ·cases y
end
end DV
namespace L2
open PySem PySem.Spec PyProof.Rows
section
variable{X:Cx}{pins:Ls (Lz×Obj)}{O:Ls (Lx V)}{H:Hp}{s:La}{h':Heap}
def Inv.turnLay{t':Nat}{fp:Ls Lz}{q:Lz}{xs:Ls V}(I:Inv X pins O H s)(t:∀b∈fp,zAK X pins H b)(k:∀b o,b∉fp->s.heap.get? b=some o->h'.get? b=some o)(P:s.heap.objs.size<=q)(p:jL X.prog X.w (upd H q (.t xs)) h' q (.t xs)):Inv X pins O (upd H q (.t xs)) {s with heap:=h',toks:=t'}:=by
 have D:H q=none:=I.hok.fresh P;have a:∀b u,H b=some u->b≠q:=λb u e z=>by rw[z,D]at e;cases e
 have nf:∀b u,H b=some u->b∉fp:=λb u e z=>by rw[(t b z).1]at e;cases e
 refine I.step (g':=s.gens) (d':=s.drawn) (ch:=fp) (λb J=>?_) (λb o _ _ Z e _=>k b o Z e) (λb o _ _ Z e _=>⟨o.slots,k b o Z e⟩) (λb o _ e n=>?_) (λb o Z e=>⟨o,k b o Z e⟩)
  (λb g e=>?_) (λb o u e=>?_) (λb w e=>⟨#[],?_⟩) (λm K=>?_) (λb u e=>?_) I.bare
 ·obtain⟨_,h,_,i,j,T⟩:=t b J
  exact⟨i,h,j,T⟩
 ·have:b≠q:=λz=>by subst z;exact absurd (lt_of_lt_of_le (lt_size e) P) (lt_irrefl _)
  rw[ze this];exact n
 ·rw[ze (a b _ e)];exact e
 ·rw[ze (a b _ e)];exact e
 ·rw[ze (a b _ e),e];simp
 ·obtain⟨o,E,l,ho,r⟩:=K
  exact⟨o,E,l,k _ o (λz=>(t _ z).2.1 rfl) ho,r⟩
 ·by_cases J:b=q
  ·subst J;rw[ja]at e;cases e;exact p
  ·rw[ze J]at e
   refine(I.hok b u e).stay (λc v Z L=>k c v ?_ L) (λc L=>?_) λc g L=>?_
   ·rcases Z with z|z
    ·rw[z];exact nf b u e
    ·exact nf c _ z
   ·rw[ze (a c _ L)];exact L
   ·rw[ze (a c _ L)];exact L
def Inv.turnL{t':Nat}{fp:Ls Lz}(I:Inv X pins O H s)(t:∀b∈fp,zAK X pins H b)(k:∀b o,b∉fp->s.heap.get? b=some o->h'.get? b=some o):Inv X pins O H {s with heap:=h',toks:=t'}:=by
 have nf:∀b u,H b=some u->b∉fp:=λb u e z=>by rw[(t b z).1]at e;cases e
 refine I.step (g':=s.gens) (d':=s.drawn) (ch:=fp) (λb J=>?_) (λb o _ _ Z e _=>k b o Z e) (λb o _ _ Z e _=>⟨o.slots,k b o Z e⟩) (λ_ _ _ _ n=>n) (λb o Z e=>⟨o,k b o Z e⟩)
  (λ_ _ e=>e) (λ_ _ _ e=>e) (λb h e=>⟨#[],by rw[e];simp⟩) (λm K=>?_) (λb u e=>?_) I.bare
 ·obtain⟨_,a,_,g,j,T⟩:=t b J
  exact⟨g,a,j,T⟩
 ·obtain⟨o,E,l,ho,r⟩:=K
  exact⟨o,E,l,k _ o (λz=>(t _ z).2.1 rfl) ho,r⟩
 ·refine(I.hok b u e).stay (λc v Z L=>k c v ?_ L) (λ_ q=>q) λ_ _ q=>q
  rcases Z with z|z
  ·rw[z];exact nf b u e
  ·exact nf c _ z
end
end L2
namespace DV
open PySem
abbrev IsZ(h:Heap)(z l G:Lz)(r:Lv)(b:Bool):Prop:=h.get? z=some {cls:=.type "zip",dict:=none,data:=.fields #[r,.bool b,.bool false,.ref l,.ref G],slots:=#[]}
def Wt(r:Lv):Prop:=r=.none\/∃a:Nat,r=rawInt a
section
variable{prog:Lc}{w:Le}{A:Lg}{E:Ly}{s:La}
def st_iter{α:Type}{Q:α->La->Prop}(J:A.handled=none)(X:∀g e,(∀b o,s.heap.get? b=some o->g.get? b=some o)->(∃o,g.get? e=some o/\o.cls=.type "StopIteration")->E (.ref e) {s with heap:=g}):wpAny (model prog w) A.in1 (Builtin.SmallTypes.stopIteration:Sem α) Q E s:=by
 refine qB ?_;refine qB (wpAny_newObj_type ?_ (by size_fits));refine qB (m:=firstArgMember _ _) (wpAny_of_eq (a:=Value.none) rfl ?_);refine wpAny_newObj_type ?_ (by size_fits);have h:A.in1.handled=none:=J;refine qB (wpAny_handled ?_);rw[h];refine qB (qC (wpAny_throw ?_));exact X _ _ (λb o S=>qA _ (qA _ S)) ⟨_,get?_push_size _ rfl,rfl⟩
def sp_tup{Q:Lx Lv->La->Prop}(J:A.handled=none)(a:s.heap.IsTupleIter it t i)(l:s.heap.IsTuple t items)
  (L:∀x,items[i]?=some x->∀g,g.IsTupleIter it t (i+1)->Heap.SameBut it s.heap g->Q (some x) {s with heap:=g})
  (Y:items[i]?=none->∀g e,Heap.ExtBut it s.heap g->(∃o,g.get? e=some o/\o.cls=.type "StopIteration")->E (.ref e) {s with heap:=g}) :
  wpAny (model prog w) A (callSpecial? (.ref it) (Str.ofString "__next__")) Q E s:=by
 have⟨o,ho,Z,j⟩:=id a;obtain⟨u,hu,_,n,c⟩:=l;refine wpAny_callSpecial?_slot a.typeIs F.slot_tuple_iterator_next (wpAny_call_entry F.slot_tuple_iterator_next a.typeIs F.entry_tuple_iterator_next ?_ (F.args_tuple_iterator_next_1 _));refine qB (m:=field (.ref it) 0) (wpAny_field ho j (x:=.ref t) rfl ?_);have v:¬(Value.ref t==Value.none)=true:=qF;refine qB (m:=field (.ref it) 1) (wpAny_field ho j (x:=.int i 0) rfl ?_);refine qB (m:=seqItems? (.ref t)) (wpAny_seqItems hu c ?_);cases V:items[i]? with
 |some x =>
  dsimp[Int.toNat_natCast,V];refine qB (wpAny_setField ho j (by simp) (qC ⟨x,rfl,L x V _ ?_ (Heap.SameBut.update ..)⟩));exact⟨_,get?_update_self _ ho (Obj.isFreed_of_fields (Obj.data_mapFields j _)),(Obj.cls_mapFields ..).trans Z,by rw[Obj.data_mapFields j];simp[rawInt]⟩
 |none =>
  dsimp[Int.toNat_natCast,V];refine qB (wpAny_rule (qB (wpAny_setField ho j (by simp) ?_)));refine st_iter J λg e k q=>Y V g e (λb o h S=>k b o ?_) q
  exact(Heap.SameBut.update ..).extBut b o h S
structure Src(prog:Lc)(w:Le)(A:Lg)(it l:Lz)(items:Lh)(st:Ll):Prop where
 keep:∀{i:Nat} {h h':Heap},st i h->(∀b,b=it\/b=l->∀o,h.get? b=some o->h'.get? b=some o)->st i h'
 lt:∀{i:Nat} {h:Heap},st i h->it<h.objs.size
 next:∀{i:Nat} {s:La} {Q:Ly} {E:Ly},st i s.heap->(∀x,items[i]?=some x->∀h',st (i+1) h'->Heap.SameBut it s.heap h'->Q x {s with heap:=h'}) ->
  (items[i]?=none->∀h' e,Heap.ExtBut it s.heap h'->(∃o,h'.get? e=some o/\o.cls=.type "StopIteration")->E (.ref e) {s with heap:=h'})->wpAny (model prog w) A (Builtin.SmallTypes.nextOf (.ref it)) Q E s
def src_tup(J:A.handled=none)(r:t≠it)(p:Lh):Src prog w A it t p (λi h=>h.IsTupleIter it t i/\h.IsTuple t p) where
 keep:=λc k=>⟨c.1.at λo e=>k it (.inl rfl) o e,c.2.at λo e=>k t (.inr rfl) o e⟩
 lt:=λc=>by obtain⟨⟨o,e,_⟩,_⟩:=c;exact lt_size e
 next:=λ{i s Q E} c L h2=>by
  exact qB (sp_tup J c.1 c.2 (λx V g a b=>qC (L x V g ⟨a,c.2.extBut b.extBut r⟩ b)) h2)
def zFh(J:A.handled=none)(r:t≠it)(p:Lh):Src prog w A it t p (λi h=>h.IsListIter it t i/\h.IsList t p) where
 keep:=λc k=>⟨c.1.at λo e=>k it (.inl rfl) o e,c.2.at λo e=>k t (.inr rfl) o e⟩
 lt:=λc=>by obtain⟨⟨o,e,_⟩,_⟩:=c;exact lt_size e
 next:=λ{i s Q E} c L h2=>by
  cases V:p[i]? with
  |some x=>exact wpAny_nextOf_list_item c.1 c.2 V λg a b=>L x V g ⟨a,c.2.extBut b.extBut r⟩ b|none=>exact wpAny_nextOf_list_end J c.1 c.2 V (h2 V)
def zFi{Q:Bool->La->Prop}(P:IsZ s.heap z TI TO f0 b)(t:Wt f0)(V:Q true s)(D:∀g v,IsZ g z TI TO f0 v->(∀c o,c≠z->s.heap.get? c=some o->g.get? c=some o)->g.objs.size=s.heap.objs.size->Q false {s with heap:=g}) :
  wpAny (model prog w) A (Builtin.SmallTypes.ownedTupleIsFree (.ref z)) Q E s:=by
 rcases t with rfl|⟨a,rfl⟩
 ·exact qB (wpAny_field P rfl (x:=.none) rfl (qC V))
 ·refine qB (wpAny_field P rfl (x:=rawInt a) rfl ?_)
  refine qB ?_;have al:∀(Q':Lx Obj->La->Prop),Q' (s.heap.get? (a:Int).toNat) s->wpAny (model prog w) A (loadIfAlive (a:Int).toNat) Q' E s:=λQ' h=>λ_ _ _=>h
  refine al _ ?_;cases s.heap.get? (a:Int).toNat with
  |none=>exact qC V
  |some o =>
   refine qB (wpAny_field P rfl (x:=.bool b) rfl ?_);cases b with
   |true=>exact qC (D s.heap true P (λ_ _ _ e=>e) rfl)|false=>exact qB (wpAny_setField_rec P (by simp) λg Y v=>qC (D g true Y (λc o c1 e=>v.extBut _ _ c1 e) v.1))
def zq_next{I h:Ll}{Q:Ly}(S:Src prog w A i1 l1 xs I)(r:Src prog w A i2 l2 ys h)(D:ZipApart z TI TO i1 i2 l1 l2)
  (P:IsZ s.heap z TI TO f0 bb) (hf:Wt f0) (aa:IsPair s.heap TI (.ref i1) (.ref i2)) (G:IsPair s.heap TO a b) (h1:I k s.heap) (h2:h k s.heap)
  (hQ:∀x y,xs[k]?=some x->ys[k]?=some y->∀g f1 b1,Wt f1->IsZ g z TI TO f1 b1->(∃u v,IsPair g TO u v)->I (k+1) g->h (k+1) g->IsPair g s.heap.objs.size x y ->
   (∀c o,c≠z->c≠TO->c≠i1->c≠i2->s.heap.get? c=some o->g.get? c=some o)->Q (.ref s.heap.objs.size) {s with heap:=g})
  (X:xs[k]?=none\/ys[k]?=none->∀g e,(∀c o,c≠z->c≠TO->c≠i1->c≠i2->s.heap.get? c=some o->g.get? c=some o)->(∃o,g.get? e=some o/\o.cls=.type "StopIteration")->E (.ref e) {s with heap:=g}) :
  wpAny (model prog w) A (Builtin.«zip.__next__» ⟨[.ref z],[]⟩) (λK s'=>∃v,K=.done (.ret v)/\Q v s') E s:=by
 refine qB (m:=field (.ref z) 2) (wpAny_field P rfl (x:=.bool false) rfl ?_);refine qB (m:=field (.ref z) 3) (wpAny_field P rfl (x:=.ref TI) rfl ?_);refine qB (wpAny_seqItems aa rfl ?_);refine qB (m:=Builtin.SmallTypes.ownedTupleIsFree (.ref z)) (zFi P hf ?_ λg1 b1 z1 k1 e1=>?_)
 ·dsimp[if_true]
  refine qB (wpAny_rule (qB (wpAny_field P rfl (x:=.ref TO) rfl (qB (wpAny_setField_rec P (by simp) λg1 z1 b1=>?_)))));refine qB ?_;have l:I k g1:=S.keep h1 λc Z o e=>b1.extBut c o (by rcases Z with rfl|rfl;exact D.i1z;exact D.l1z) e
  refine qB (qB (wpAny_onRaise (qB (m:=Builtin.SmallTypes.nextOf (.ref i1)) (S.next l (λx V g2 Y b2=>qC ?_) λV g2 e b2 M=>?_))))
  ·have t2:IsPair g2 TO a b:=b2.extBut _ _ D.TOi1 (b1.extBut _ _ D.TOz G)
   refine qB (wpAny_seqItems t2 rfl (qB (wpAny_updateSeq_pair t2 λg3 t3 i=>qB (wpAny_letGo (qC ?_)))));have n:∀c o,c≠z->c≠TO->c≠i1->s.heap.get? c=some o->g3.get? c=some o:=λc o c1 p c3 e=>i.extBut _ _ p (b2.extBut _ _ c3 (b1.extBut _ _ c1 e))
   have t:I (k+1) g3:=S.keep Y λc Z o e=>i.extBut c o (by rcases Z with rfl|rfl;exact D.TOi1.symm;exact D.l1TO) e
   have W:h k g3:=r.keep h2 λc Z o e=>n c o (by rcases Z with rfl|rfl;exact D.i2z;exact D.l2z) (by rcases Z with rfl|rfl;exact D.TOi2.symm;exact D.l2TO) (by rcases Z with rfl|rfl;exact D.i12.symm;exact D.l2i1) e
   have z3:IsZ g3 z TI TO .ellipsis bb:=i.extBut _ _ D.TOz.symm (b2.extBut _ _ D.i1z.symm z1);refine qB (qB (wpAny_onRaise (qB (m:=Builtin.SmallTypes.nextOf (.ref i2)) (r.next W (λy O g4 r4 C=>qC ?_) λO g4 e C M=>?_))))
   ·have t4:IsPair g4 TO x b:=C.extBut _ _ D.TOi2 t3
    refine qB (wpAny_seqItems t4 rfl (qB (wpAny_updateSeq_pair t4 λg5 H j=>qB (wpAny_letGo (qC (qC ?_))))));have H:IsPair g5 TO x y:=H;have k5:∀c o,c≠z->c≠TO->c≠i1->c≠i2->s.heap.get? c=some o->g5.get? c=some o:=λc o c1 p c3 J e=>j.extBut _ _ p (C.extBut _ _ J (n c o c1 p c3 e))
    have s5:I (k+1) g5:=S.keep t λc Z o e=>j.extBut c o (by rcases Z with rfl|rfl;exact D.TOi1.symm;exact D.l1TO) (C.extBut c o (by rcases Z with rfl|rfl;exact D.i12;exact D.l1i2) e)
    have R:h (k+1) g5:=r.keep r4 λc Z o e=>j.extBut c o (by rcases Z with rfl|rfl;exact D.TOi2.symm;exact D.l2TO) e
    have z5:IsZ g5 z TI TO .ellipsis bb:=j.extBut _ _ D.TOz.symm (C.extBut _ _ D.i2z.symm z3);have sz:g5.objs.size=s.heap.objs.size:=by rw[j.1,C.1,i.1,b2.1,b1.1]
    refine qB (wpAny_seqItems H rfl (qB (wpAny_newTuple ?_)));refine qB (m:=Builtin.SmallTypes.ownedTupleHandOut (.ref z) (.ref g5.objs.size)) ?_;have z6:IsZ (g5.push {cls:=.type "tuple",data:=.seq #[x,y]}) z TI TO .ellipsis bb:=qA _ z5;refine qB (wpAny_setField_rec z6 (by simp) λg7 z7 b7=>?_);refine wpAny_setField_rec z7 (by simp) λL z8 b8=>?_
    have T:∀c o,c≠z->g5.get? c=some o->L.get? c=some o:=λc o c1 e=>b8.extBut _ _ c1 (b7.extBut _ _ c1 (qA _ e))
    have zl:z<g5.objs.size:=lt_size z5;have p8:IsPair L g5.objs.size x y:=b8.extBut _ _ (ne_of_gt zl) (b7.extBut _ _ (ne_of_gt zl) (get?_push_size _ rfl));rw[sz]at p8;refine qC ⟨_,rfl,?_⟩;have K:=hQ x y V O L _ _ (.inr ⟨_,rfl⟩) z8 ⟨_,_,T _ _ D.TOz H⟩ (S.keep s5 λc Z o e=>T c o (by rcases Z with rfl|rfl;exact D.i1z;exact D.l1z) e) (r.keep R λc Z o e=>T c o (by rcases Z with rfl|rfl;exact D.i2z;exact D.l2z) e) p8 λc o c1 p c3 J e=>T c o c1 (k5 c o c1 p c3 J e)
    rw[sz];exact K
   ·have z4:IsZ g4 z TI TO .ellipsis bb:=C _ _ D.i2z.symm z3
    obtain⟨oe,ho,Z⟩:=M;have ez:e≠z:=λq=>by subst q;rw[z4]at ho;cases ho;simp at Z
    exact wpAny_setField_rec z4 (by simp) λg5 _ j=>X (.inr O) g5 e (λc o c1 p c3 J x=>j.extBut _ _ c1 (C _ _ J (n c o c1 p c3 x))) ⟨oe,j.extBut _ _ ez ho,Z⟩
  ·have z2:IsZ g2 z TI TO .ellipsis bb:=b2 _ _ D.i1z.symm z1
   obtain⟨oe,ho,Z⟩:=M;have ez:e≠z:=λq=>by subst q;rw[z2]at ho;cases ho;simp at Z
   exact wpAny_setField_rec z2 (by simp) λg3 _ i=>X (.inl V) g3 e (λc o c1 p c3 J x=>i.extBut _ _ c1 (b2 _ _ c3 (b1.extBut _ _ c1 x))) ⟨oe,i.extBut _ _ ez ho,Z⟩
 ·dsimp[Bool.false_eq_true,if_false]
  refine qB ?_;rw[<- Array.forIn_toList];have l:I k g1:=S.keep h1 λc Z o e=>k1 c o (by rcases Z with rfl|rfl;exact D.i1z;exact D.l1z) e
  refine qB (qB (wpAny_holding (qB (m:=Builtin.SmallTypes.nextOf (.ref i1)) (S.next l (λx V g2 Y b2=>qC ?_) λV g2 e b2 M=>?_))))
  ·refine qC ?_
   have k2:∀c o,c≠z->c≠i1->s.heap.get? c=some o->g2.get? c=some o:=λc o c1 c3 e=>b2.extBut _ _ c3 (k1 _ _ c1 e)
   have r2:h k g2:=r.keep h2 λc Z o e=>k2 c o (by rcases Z with rfl|rfl;exact D.i2z;exact D.l2z) (by rcases Z with rfl|rfl;exact D.i12.symm;exact D.l2i1) e
   refine qB (qB (wpAny_holding (qB (m:=Builtin.SmallTypes.nextOf (.ref i2)) (r.next r2 (λy O g3 W i=>qC ?_) λO g3 e i M=>?_))))
   ·refine qC ?_
    refine qC ?_;refine qB (wpAny_newTuple (hsz:=by simp[sizeLine_eq]) (qC ⟨_,rfl,?_⟩));have sz:g3.objs.size=s.heap.objs.size:=by rw[i.1,b2.1,e1]
    have n:∀c o,c≠z->c≠i1->c≠i2->s.heap.get? c=some o->g3.get? c=some o:=λc o c1 c3 J e=>i.extBut _ _ J (k2 c o c1 c3 e)
    have t:I (k+1) g3:=S.keep Y λc Z o e=>i.extBut c o (by rcases Z with rfl|rfl;exact D.i12;exact D.l1i2) e
    have z3:IsZ g3 z TI TO f0 b1:=i.extBut _ _ D.i2z.symm (b2.extBut _ _ D.i1z.symm z1);have K:=hQ x y V O (g3.push {cls:=.type "tuple",data:=.seq #[x,y]}) _ _ hf (qA _ z3) ⟨_,_,qA _ (n _ _ D.TOz D.TOi1 D.TOi2 G)⟩ (S.keep t λc Z o e=>qA _ e) (r.keep W λc Z o e=>qA _ e) (sz▸get?_push_size _ rfl) λc o c1 p c3 J e=>qA _ (n c o c1 c3 J e)
    rw[sz];exact K
   ·exact X (.inr O) g3 e (λc o c1 p c3 J x=>i _ _ J (k2 c o c1 c3 x)) M
  ·exact X (.inl V) g2 e (λc o c1 p c3 J x=>b2 _ _ c3 (k1 _ _ c1 x)) M
def Gn{I h:Ll}{Q:Lx Lv->La->Prop}(S:Src prog w A.in1 i1 l1 xs I)(r:Src prog w A.in1 i2 l2 ys h)(D:ZipApart z TI TO i1 i2 l1 l2)
  (P:IsZ s.heap z TI TO f0 bb) (t:Wt f0) (J:IsPair s.heap TI (.ref i1) (.ref i2)) (G:IsPair s.heap TO a b) (L:I k s.heap) (Y:h k s.heap)
  (H:∀x y,xs[k]?=some x->ys[k]?=some y->∀g l n,Wt l->IsZ g z TI TO l n->(∃u v,IsPair g TO u v)->I (k+1) g->h (k+1) g->IsPair g s.heap.objs.size x y ->
   (∀c o,c≠z->c≠TO->c≠i1->c≠i2->s.heap.get? c=some o->g.get? c=some o)->Q (some (.ref s.heap.objs.size)) {s with heap:=g})
  (X:xs[k]?=none\/ys[k]?=none->∀g,(∀c o,c≠z->c≠TO->c≠i1->c≠i2->s.heap.get? c=some o->g.get? c=some o)->Q none {s with heap:=g}):wpAny (model prog w) A (pyNext (.ref z)) Q E s:=by
 have hT:s.TypeIs (.ref z) "zip":=⟨_,P,rfl⟩;refine qB (wpAny_attempt (wpAny_callSpecial?_slot hT F.slot_zip_next (wpAny_call_entry F.slot_zip_next hT F.entry_zip_next (zq_next S r D P t J G L Y (λx y V O g l n R p a2 W i K j=>?_) λq g e C M=>?_) (F.args_zip_next_1 _))))
 ·exact qC (H x y V O g l n R p a2 W i K j)
 ·obtain⟨o,ho,Z⟩:=M
  exact qB (wpAny_isInstance (T:="StopIteration") (b:=true) ⟨o,ho,Z⟩ isSubtype_stop (qC (X q g C)))
def it_zipN{Q:Ly}(P:IsZ s.heap z TI TO f0 b)(h:Q (.ref z) s):wpAny (model prog w) A (pyIter (.ref z)) Q E s:=by
 have hT:s.TypeIs (.ref z) "zip":=⟨_,P,rfl⟩;refine wpAny_pyIter_slot hT F.slot_zip_iter (wpAny_call_entry F.slot_zip_iter hT F.entry_zip_iter ?_ (F.args_zip_iter_1 _));exact qC ⟨_,rfl,"zip",_,hT,F.slot_zip_next.lookup,h⟩
def TgZ(tg:Lb):Prop:=(∃u x p,tg=.Tuple u x p)\/∃y p,tg=.Name y p
def lo_zip{Q:Unit->La->Prop}(V:TgZ tg)(t:Wt f0)(P:IsZ s.heap z TI TO f0 b)(H:∀g l,Wt l->IsZ g z TI TO l b->(∀c o,c≠z->s.heap.get? c=some o->g.get? c=some o)->Q () {s with heap:=g}):wpAny (model prog w) A (letOwnedTupleGo tg (.ref z) (.ref T)) Q E s:=by
 rcases V with⟨u,x,p,rfl⟩|⟨y,p,rfl⟩
 ·unfold letOwnedTupleGo
  refine qB (wpAny_load P ?_);refine wpAny_ite_split (λ_=>qB (wpAny_rule ?_)) (λ_=>qC (H s.heap f0 t P λ_ _ _ e=>e));exact wpAny_setField_rec P (by simp) λg h L=>H g .none (.inl rfl) h λc o c1 e=>L.extBut _ _ c1 e
 ·exact qC (H s.heap f0 t P λ_ _ _ e=>e)
end
abbrev itO(c:String)(l:Lz):Obj:={cls:=.type c,data:=.fields #[.ref l,.int 0 0]}
abbrev zpA(h:Heap)(a p:String)(W P:Lz):Heap:=(h.push (itO a W)).push (itO p P)
abbrev zpB(h:Heap)(a p:String)(W P:Lz):Heap:=(zpA h a p W P).push {cls:=.type "tuple",data:=.seq #[.ref h.objs.size,.ref (h.push (itO a W)).objs.size]}
abbrev zpC(h:Heap)(a p:String)(W P:Lz):Heap:=(zpB h a p W P).push {cls:=.type "tuple",data:=.seq #[.none,.none]}
abbrev zpD(h:Heap)(a p:String)(W P:Lz):Heap:=(zpC h a p W P).push {cls:=.type "zip",data:=.fields #[.none,.bool false,.bool false,.ref (zpA h a p W P).objs.size,.ref (zpB h a p W P).objs.size]}
def zFj(W P:Lz)(xs ys:Lh):Meets (Builtin.«zip.__new__» ⟨[.type "zip",.ref W,.ref P],[]⟩) (λ_ R s=>s.heap.IsTuple W xs/\s.heap.IsTuple P ys/\R (.ok (.ret (.ref (zpC s.heap "tuple_iterator" "tuple_iterator" W P).objs.size))) {s with heap:=zpD s.heap "tuple_iterator" "tuple_iterator" W P}) :=
 .of_wp λC w A R s h=>by
  obtain⟨G,g,d,y,Z⟩:=s;obtain⟨L,h2,h⟩:=h;have S:=sub_zip;have p:Heap.IsTuple (Shared.heap ⟨G,g,d,y,Z⟩) W xs:=L;have z:Heap.IsTuple (Shared.heap ⟨G.push (itO "tuple_iterator" W),g,d,y,Z⟩) P ys:=h2.at λo e=>qA _ e
  wp_walk using wpAny_pyIter_tuple p,wpAny_pyIter_tuple z
  exact⟨_,rfl,h⟩
def zFk(W P:Lz)(xs ys:Lh):Meets (Builtin.«zip.__new__» ⟨[.type "zip",.ref W,.ref P],[]⟩) (λ_ R s=>s.heap.IsTuple W xs/\s.heap.IsList P ys/\R (.ok (.ret (.ref (zpC s.heap "tuple_iterator" "list_iterator" W P).objs.size))) {s with heap:=zpD s.heap "tuple_iterator" "list_iterator" W P}) :=
 .of_wp λC w A R s h=>by
  obtain⟨G,g,d,y,Z⟩:=s;obtain⟨L,h2,h⟩:=h;have S:=sub_zip;have p:Heap.IsTuple (Shared.heap ⟨G,g,d,y,Z⟩) W xs:=L;have z:Heap.IsList (Shared.heap ⟨G.push (itO "tuple_iterator" W),g,d,y,Z⟩) P ys:=h2.at λo e=>qA _ e
  wp_walk using wpAny_pyIter_tuple p,wpAny_pyIter_list z
  exact⟨_,rfl,h⟩
def zFl(W P:Lz)(xs ys:Lh):Meets (Builtin.«zip.__new__» ⟨[.type "zip",.ref W,.ref P],[]⟩) (λ_ R s=>s.heap.IsList W xs/\s.heap.IsTuple P ys/\R (.ok (.ret (.ref (zpC s.heap "list_iterator" "tuple_iterator" W P).objs.size))) {s with heap:=zpD s.heap "list_iterator" "tuple_iterator" W P}) :=
 .of_wp λC w A R s h=>by
  obtain⟨G,g,d,y,Z⟩:=s;obtain⟨L,h2,h⟩:=h;have S:=sub_zip;have p:Heap.IsList (Shared.heap ⟨G,g,d,y,Z⟩) W xs:=L;have z:Heap.IsTuple (Shared.heap ⟨G.push (itO "list_iterator" W),g,d,y,Z⟩) P ys:=h2.at λo e=>qA _ e
  wp_walk using wpAny_pyIter_list p,wpAny_pyIter_tuple z
  exact⟨_,rfl,h⟩
def zFm(W P:Lz)(xs ys:Lh):Meets (Builtin.«zip.__new__» ⟨[.type "zip",.ref W,.ref P],[]⟩) (λ_ R s=>s.heap.IsList W xs/\s.heap.IsList P ys/\R (.ok (.ret (.ref (zpC s.heap "list_iterator" "list_iterator" W P).objs.size))) {s with heap:=zpD s.heap "list_iterator" "list_iterator" W P}):=meets_zip_new W P xs ys
structure Zp(h h':Heap)(c1 c2:String)(l1 l2:Lz):Prop where
 z:IsZip h' (h.objs.size+4) (h.objs.size+2) (h.objs.size+3) .none
 a:IsPair h' (h.objs.size+2) (.ref h.objs.size) (.ref (h.objs.size+1))
 b:IsPair h' (h.objs.size+3) .none .none
 i1:h'.get? h.objs.size=some (itO c1 l1)
 i2:h'.get? (h.objs.size+1)=some (itO c2 l2)
 kp:∀c o,h.get? c=some o->h'.get? c=some o
def zp_of(h:Heap)(a p:String)(W P:Lz):Zp h (zpD h a p W P) a p W P/\(zpC h a p W P).objs.size=h.objs.size+4:=by
 have C:(h.push (itO a W)).objs.size=h.objs.size+1:=size_push ..;have z:(zpA h a p W P).objs.size=h.objs.size+2:=by rw[size_push,C]
 have y:(zpB h a p W P).objs.size=h.objs.size+3:=by rw[size_push,z]
 have n:(zpC h a p W P).objs.size=h.objs.size+4:=by rw[size_push,y]
 have u:=λ(h:Heap) (o:Obj) {b:Lz} {q:Obj} (e:h.get? b=some q)=>qA (h:=h) o e
 have Q:(zpD h a p W P).get? (zpC h a p W P).objs.size=some _:=get?_push_size _ rfl;have S:(zpD h a p W P).get? (zpB h a p W P).objs.size=some _:=qA _ (get?_push_size _ rfl);have J:(zpD h a p W P).get? (zpA h a p W P).objs.size=some _:=qA _ (qA _ (get?_push_size _ rfl));have Z:(zpD h a p W P).get? (h.push (itO a W)).objs.size=some (itO p P):=qA _ (qA _ (qA _ (get?_push_size _ rfl)));have I:(zpD h a p W P).get? h.objs.size=some (itO a W):=qA _ (qA _ (qA _ (qA _ (get?_push_size _ rfl))));rw[z,y,n]at Q;rw[C,z]at J;rw[y]at S;rw[C]at Z;exact⟨⟨Q,J,S,I,Z,λc o e=>qA _ (qA _ (qA _ (qA _ (qA _ e))))⟩,n⟩
section
variable{prog:Lc}{w:Le}{A:Lg}{E:Ly}{s:La}
def SqO(h:Heap)(t:Bool)(l:Lz)(xs:Lh):Prop:=if t then h.IsTuple l xs else h.IsList l xs
def itC(t:Bool):String:=if t then "tuple_iterator" else "list_iterator"
def zp_call{Q:Ly}(L:SqO s.heap t1 l1 xs)(Y:SqO s.heap t2 l2 ys)(h:∀g,Zp s.heap g (itC t1) (itC t2) l1 l2->Q (.ref (s.heap.objs.size+4)) {s with heap:=g}):wpAny (model prog w) A (call (.type "zip") [.ref l1,.ref l2]) Q E s:=by
 obtain⟨z,n⟩:=zp_of s.heap (itC t1) (itC t2) l1 l2;have hz:=h _ z;have K:∀{P:Heap->Prop},P s.heap->Meets (Builtin.«zip.__new__» ⟨[.type "zip",.ref l1,.ref l2],[]⟩) (λ_ R s=>P s.heap/\R (.ok (.ret (.ref (zpC s.heap (itC t1) (itC t2) l1 l2).objs.size))) {s with heap:=zpD s.heap (itC t1) (itC t2) l1 l2})->wpAny (model prog w) A (call (.type "zip") [.ref l1,.ref l2]) Q E s:=λ{P} C m=>by
  refine callType_new F.called_zip (by decide) (F.typeCall_zip_2 _ _) (F.newCall_zip_2 _ _) (λi=>F.args_object_init_3 i _ _) F.entry_zip_new m ⟨C,?_⟩;show _/\_;rw[n];exact⟨⟨_,z.z,rfl⟩,hz⟩
 cases t1<;>cases t2
 ·exact K (P:=λh=>h.IsList l1 xs/\h.IsList l2 ys) ⟨L,Y⟩ (Meets.of_imp (zFm l1 l2 xs ys) λA R s q=>⟨q.1.1,q.1.2,q.2⟩)
 ·exact K (P:=λh=>h.IsList l1 xs/\h.IsTuple l2 ys) ⟨L,Y⟩ (Meets.of_imp (zFl l1 l2 xs ys) λA R s q=>⟨q.1.1,q.1.2,q.2⟩)
 ·exact K (P:=λh=>h.IsTuple l1 xs/\h.IsList l2 ys) ⟨L,Y⟩ (Meets.of_imp (zFk l1 l2 xs ys) λA R s q=>⟨q.1.1,q.1.2,q.2⟩)
 ·exact K (P:=λh=>h.IsTuple l1 xs/\h.IsTuple l2 ys) ⟨L,Y⟩ (Meets.of_imp (zFj l1 l2 xs ys) λA R s q=>⟨q.1.1,q.1.2,q.2⟩)
end
end DV
namespace DV
open PySem L2 PySem.Spec PyProof.Rows
def SqH(K:qH)(H:Hp)(t:Bool)(a:Lz)(xs:Ls V):Prop:=if t then SqT K H a xs else SqL K H a xs
section
variable{X:Cx}{pins:Ls (Lz×Obj)}{O:L2.St}{H:Hp}{s:La}{a b:Lz}{xs ys:Ls V}
def wu(I:Inv X pins O H s)(h:SqH X.K H t a xs):∃its:Ls Lv,zw xs its/\SqO s.heap t a its.toArray:=by
 cases t with
 |true =>
  obtain⟨its,r,p,_⟩:=I.tuple h;exact⟨its,r,p⟩
 |false =>
  obtain⟨its,r,p,_⟩:=I.list h;exact⟨its,r,p.isList⟩
def Qk(I:Inv X pins O H s)(h:SqH X.K H t a xs)(h':SqH X.K H t a ys):xs=ys:=by
 cases t with
 |true=>exact I.tuple_inj h h'|false=>exact I.list_inj h h'
def vd(I:Inv X pins O H s)(h:SqH X.K H t a xs)(f:zAK X pins H b):a≠b:=by
 intro z;subst z;have Z:∀o,X.K.lookup a=some o->False:=λo C=>by
  have J:=I.ok.mod.kin a o C;have e:=I.ok.bs a o J;rcases f.2.2.2.1 with q|q
  ·exact I.ok.noex a o J q
  ·exact absurd (lt_of_lt_of_le (lt_size e.1) q) (lt_irrefl _)
 have k:∀u,Rd H a u->False:=λu r=>by
  rcases r with r|⟨o,r⟩<;>rw[f.1]at r<;>cases r
 cases t with
 |true =>
  rcases h with h|⟨o,its,n,C,_⟩
  ·exact k _ h
  ·exact Z o C
 |false =>
  rcases h with h|⟨o,its,n,C,_⟩
  ·exact k _ h
  ·exact Z o C
end
def Itz(K:qH)(t1 t2:Bool)(a b:Lz):It :=
 ⟨λi H=>∃Y J,SqH K H t1 a Y/\SqH K H t2 b J/\i<Y.length/\i<J.length,
  λi H x H'=>∃q u v,(∀Y,SqH K H t1 a Y->Y[i]?=some u)/\(∀J,SqH K H t2 b J->J[i]?=some v)/\H q=none/\H'=upd H q (.t [u,v])/\x=.ref q,
  λi H=>∃Y J,SqH K H t1 a Y/\SqH K H t2 b J/\(Y.length<=i\/J.length<=i)⟩
def ItA(t:Bool)(h:Heap)(it l:Lz)(i:Nat):Prop:=if t then h.IsTupleIter it l i else h.IsListIter it l i
def ve(x:ItA t h it l i)(k:∀o,h.get? it=some o->h'.get? it=some o):ItA t h' it l i:=by
 cases t with
 |true=>exact Heap.IsTupleIter.at x k|false=>exact Heap.IsListIter.at x k
def ZJ(x:ItA t h it l i):∃o,h.get? it=some o/\∀v,o.data≠.cell v:=by
 cases t with
 |true=>obtain⟨o,e,c,d⟩:=x;exact⟨o,e,λv z=>by rw[d]at z;cases z⟩|false=>obtain⟨o,e,c,d⟩:=x;exact⟨o,e,λv z=>by rw[d]at z;cases z⟩
def srcA(J:A.handled=none)(t:Bool)(r:l≠it)(p:Lh):Src prog w A it l p (λi h=>ItA t h it l i/\SqO h t l p):=by
 cases t with
 |true=>exact src_tup J r p|false=>exact zFh J r p
structure Five(z TI TO i1 i2:Lz):Prop where
 a1:TI≠z
 a2:TO≠z
 a3:i1≠z
 a4:i2≠z
 a5:TI≠TO
 a6:TI≠i1
 a7:TI≠i2
 a8:TO≠i1
 a9:TO≠i2
 a10:i1≠i2
def ZSn(z l G w p:Lz)(t1 t2:Bool)(a b:Lz)(i:Nat)(h:Heap):Prop:=(∃r b,Wt r/\IsZ h z l G r b)/\IsPair h l (.ref w) (.ref p)/\(∃u v,IsPair h G u v)/\ItA t1 h w a i/\ItA t2 h p b i
def zFn{P:Lc}{w:Le}{K:qH}{tg:Lb}{z l G i1 p:Lz}(ht:TgZ tg)(F:Five z l G i1 p)(t1 t2:Bool)(a b:Lz):Turn P w K tg (Itz K t1 t2 a b) [z,l,G,i1,p] z (ZSn z l G i1 p t1 t2 a b) where
 mem:=by simp
 obj:=λi h Q c Z=>by
  obtain⟨⟨r,bb,ab,hz⟩,T,⟨u,v,t⟩,L,h2⟩:=Q;dsimp[mem_cons,mem_nil_iff,or_false]at Z;rcases Z with rfl|rfl|rfl|rfl|rfl
  ·exact⟨_,hz,λv z=>by cases z⟩
  ·exact⟨_,T,λv z=>by cases z⟩
  ·exact⟨_,t,λv z=>by cases z⟩
  ·exact ZJ L
  ·exact ZJ h2
 keep:=λi h h' Q k=>by
  obtain⟨⟨r,bb,ab,hz⟩,T,⟨u,v,t⟩,L,h2⟩:=Q;exact⟨⟨r,bb,ab,k z (by simp) _ hz⟩,k l (by simp) _ T,⟨u,v,k G (by simp) _ t⟩,ve L λo e=>k i1 (by simp) o e,ve h2 λo e=>k p (by simp) o e⟩
 item:=by
  intro X C R hK Z i ae s O H E I hf Q n;subst C R hK;obtain⟨⟨r,bb,ab,hz⟩,T,⟨u0,v0,t⟩,L,h2⟩:=Q;obtain⟨Y,ys,j,S,l1,l2⟩:=n;obtain⟨us,r1,p1⟩:=wu I j;obtain⟨W,r2,g⟩:=wu I S;have na:∀c∈[z,l,G,i1,p],a≠c:=λc Z=>vd I j (hf c Z)
  have nb:∀c∈[z,l,G,i1,p],b≠c:=λc Z=>vd I S (hf c Z)
  have D:ZipApart z l G i1 p a b:=⟨F.a1,F.a2,F.a3,F.a4,F.a5,F.a6,F.a7,F.a8,F.a9,F.a10,na z (by simp),na G (by simp),na i1 (by simp),na p (by simp),nb z (by simp),nb G (by simp),nb i1 (by simp),nb p (by simp)⟩;have J:X.A.in1.handled=none:=I.ok.hd Z;obtain⟨u,eu⟩:∃u,Y[i]?=some u:=⟨_,getElem?_eq_getElem l1⟩;obtain⟨v,ev⟩:∃v,ys[i]?=some v:=⟨_,getElem?_eq_getElem l2⟩;obtain⟨u',ad,ru⟩:=r1.get eu;obtain⟨v',ac,rv⟩:=r2.get ev;refine Gn (srcA J t1 (na i1 (by simp)) us.toArray) (srcA J t2 (nb p (by simp)) W.toArray) D hz ab T t ⟨L,p1⟩ ⟨h2,g⟩ (λx y V hy h' f1 b1 w1 z1 o1 s1 s2 pq kk=>?_) (λM=>?_)
  ·have ex:x=u':=by simp[ad]at V;exact V.symm
   have ey:y=v':=by simp[ac]at hy;exact hy.symm
   subst ex ey;refine⟨_,rfl,lo_zip (s:={s with heap:=h'}) ht w1 z1 λh2 f2 w2 z2 b2=>?_⟩
   have lt:∀{c o},s.heap.get? c=some o->s.heap.objs.size≠c:=λe=>ne_of_gt (lt_size e)
   have ag:IsPair h2 s.heap.objs.size x y:=b2 _ _ (lt hz) pq;have k2:∀c o,c∉[z,l,G,i1,p]->s.heap.get? c=some o->h2.get? c=some o:=λc o Z e=>b2 _ _ (λq=>Z (by simp[q])) (kk c o (λq=>Z (by simp[q])) (λq=>Z (by simp[q])) (λq=>Z (by simp[q])) (λq=>Z (by simp[q])) e)
   obtain⟨ou,ov,o1⟩:=o1;have af:jL X.prog X.w (upd H s.heap.objs.size (.t [u,v])) h2 s.heap.objs.size (.t [u,v]):=⟨by simp[sizeLine_eq],[x,y],.cons ru (.cons rv .nil),⟨_,ag,rfl,_,rfl⟩⟩;have I2:=I.turnLay (t':=s.toks) hf k2 (le_refl _) af;have fresh:H s.heap.objs.size=none:=I.hok.fresh (le_refl _);refine⟨.ref s.heap.objs.size,_,I2,rfl,⟨_,u,v,λzs hz=>by rw[Qk I hz j];exact eu,λzs hz=>by rw[Qk I hz S];exact ev,fresh,rfl,rfl⟩,⟨⟨f2,b1,w2,z2⟩,b2 _ _ F.a1 (kk l _ F.a1 F.a5 F.a6 F.a7 T),⟨_,_,b2 _ _ F.a2 o1⟩,ve s1.1 λo e=>b2 _ _ F.a3 e,ve s2.1 λo e=>b2 _ _ F.a4 e⟩,λc Z=>?_⟩;have:c≠s.heap.objs.size:=λq=>by
    obtain⟨o,e⟩:∃o,s.heap.get? c=some o:=by
     dsimp[mem_cons,mem_nil_iff,or_false]at Z;rcases Z with rfl|rfl|rfl|rfl|rfl
     ·exact⟨_,hz⟩
     ·exact⟨_,T⟩
     ·exact⟨_,t⟩
     ·obtain⟨o,e,_⟩:=ZJ L;exact⟨o,e⟩
     ·obtain⟨o,e,_⟩:=ZJ h2;exact⟨o,e⟩
    exact lt e q.symm
   rw[ze this];exact(hf c Z).1
  ·exfalso
   rcases M with M|M
   ·simp[ad]at M
   ·simp[ac]at M
 done:=by
  intro X C R hK Z i ae s O H E I hf Q n;subst C R hK;obtain⟨⟨r,bb,ab,hz⟩,T,⟨u0,v0,t⟩,L,h2⟩:=Q;obtain⟨Y,ys,j,S,aa⟩:=n;obtain⟨us,r1,p1⟩:=wu I j;obtain⟨W,r2,g⟩:=wu I S;have na:∀c∈[z,l,G,i1,p],a≠c:=λc Z=>vd I j (hf c Z)
  have nb:∀c∈[z,l,G,i1,p],b≠c:=λc Z=>vd I S (hf c Z)
  have D:ZipApart z l G i1 p a b:=⟨F.a1,F.a2,F.a3,F.a4,F.a5,F.a6,F.a7,F.a8,F.a9,F.a10,na z (by simp),na G (by simp),na i1 (by simp),na p (by simp),nb z (by simp),nb G (by simp),nb i1 (by simp),nb p (by simp)⟩;have J:X.A.in1.handled=none:=I.ok.hd Z;have e1:=r1.length;have e2:=r2.length;refine Gn (srcA J t1 (na i1 (by simp)) us.toArray) (srcA J t2 (nb p (by simp)) W.toArray) D hz ab T t ⟨L,p1⟩ ⟨h2,g⟩ (λx y V hy=>?_) (λM h' kk=>⟨rfl,?_⟩)
  ·exfalso
   simp at V hy
   have a1:=(qG.mp V).1;have a2:=(qG.mp hy).1;lia
  ·exact I.turnL (t':=s.toks) hf λc o Z e=>kk c o (λq=>Z (by simp[q])) (λq=>Z (by simp[q])) (λq=>Z (by simp[q])) (λq=>Z (by simp[q])) e
 self:=λ_ _ _ _ _ Q h=>by
  obtain⟨⟨r,bb,ab,hz⟩,_⟩:=Q;exact it_zipN hz h
section
variable{X:Cx}{K:qH}{mg:Str->Lx Lv}{O:L2.St}{H:Hp}
def iZip(K:qH)(t1 t2:Bool)(v:TA):TI:=λO H R=>v O H λW H1=>∃a b Y J,W=[.ref a,.ref b]/\SqH K H1 t1 a Y/\SqH K H1 t2 b J/\R (Itz K t1 t2 a b) H1
def bt_zip:bootBuiltins "zip"=some (.type "zip"):=by left
def zDG(e:h.get? it=some (itO (itC t) l)):ItA t h it l 0:=by
 cases t with
 |true=>exact⟨_,e,rfl,rfl⟩|false=>exact⟨_,e,rfl,rfl⟩
def five(n:Lz):Five (n+4) (n+2) (n+3) n (n+1) :=
 have e:∀i j:Nat,i≠j->n+i≠n+j:=λi j h q=>h (Nat.add_left_cancel q)
 ⟨e 2 4 (by decide),e 3 4 (by decide),e 0 4 (by decide),e 1 4 (by decide),e 2 3 (by decide),e 2 0 (by decide),e 2 1 (by decide),e 3 0 (by decide),e 3 1 (by decide),e 0 1 (by decide)⟩
def pi_zip(V:TgZ tg)(C:Gl X "zip")(K:X.mg "zip"=none)(P:PA X [e,f] ta)(S:starEach [e,f] X.env=[(false,eval e X.env),(false,eval f X.env)]:=by rfl)(J:starEach [f] X.env=[(false,eval f X.env)]:=by rfl) :
  PI X tg (.Call (.Name "zip" p) [e,f] [] pos) (iZip X.K t1 t2 ta):=by
 intro G s O H R I h;refine Call_ (J3 I C K bt_zip (PyProof.Rows.callWith_type1 (thn (P pos G s O H _ I h) λD l ⟨W,H1,I1,T,E⟩=>?_) (by rw[S,J]) (by rw[J];rfl)));obtain⟨a,b,Y,M,ev,u,k,q⟩:=E;subst ev;cases T with
 |cons r x =>
  cases x with
  |cons y x =>
   cases x;cases r;cases y;obtain⟨i,w,t⟩:=wu I1 u;obtain⟨o,v,g⟩:=wu I1 k;refine zp_call t g λL z=>?_
   refine wpAny_pyIter_zip (s:={l with heap:=L}) z.z ?_
   have n:∀j,l.heap.objs.size<=l.heap.objs.size+j:=λj=>Nat.le_add_right _ _
   have fr:∀c,l.heap.objs.size<=c->zAK X G H1 c:=λc Z=>I1.fpOk Z (I1.hok.fresh Z)
   refine⟨_,[l.heap.objs.size+4,l.heap.objs.size+2,l.heap.objs.size+3,l.heap.objs.size,l.heap.objs.size+1],_,_,H1,rfl,I1.kept (t':=l.toks) z.kp,zFn V (five _) t1 t2 a b,⟨⟨.none,false,.inl rfl,z.z⟩,z.a,⟨_,_,z.b⟩,zDG z.i1,zDG z.i2⟩,λc Z=>?_,q⟩;dsimp[mem_cons,mem_nil_iff,or_false]at Z;rcases Z with rfl|rfl|rfl|rfl|rfl
   ·exact fr _ (n 4)
   ·exact fr _ (n 2)
   ·exact fr _ (n 3)
   ·exact fr _ (n 0)
   ·exact fr _ (n 1)
def vD(d e:D):D:=.t [d,e]
def yJ(e:Yr H H')(h:SqH K H t a xs):SqH K H' t a xs:=by
 cases t with
 |true=>exact zf e h|false=>exact e.seq h
def it_zip:ItOk K mg (Itz K t1 t2 a b) (zipWith vD ds es) (λH=>SqH K H t1 a xs/\Reps K mg H ds xs/\SqH K H t2 b ys/\Reps K mg H es ys) where
 mono:=λH H' s h=>⟨yJ s h.1,h.2.1.mono s,yJ s h.2.2.1,h.2.2.2.mono s⟩
 go:=λi Hh H s h W=>by
  rw[List.length_zipWith]at W;exact⟨xs,ys,yJ s h.1,yJ s h.2.2.1,by rw[h.2.1.length];lia,by rw[h.2.2.2.length];lia⟩
 yld:=λi Hh H x H' s h W y=>by
  obtain⟨q,u,v,L,h2,P,rfl,rfl⟩:=y;have R:=L xs (yJ s h.1);have w:=h2 ys (yJ s h.2.2.1);obtain⟨d,I,T⟩:=h.2.1.get R;obtain⟨e,Z,C⟩:=h.2.2.2.get w;refine⟨vD d e,by rw[List.getElem?_zipWith,I,Z],.inr ⟨q,[u,v],[d,e],P,rfl,rfl,rfl,Reps.cons T (Reps.cons C Reps.nil)⟩⟩
 stop:=λi Hh H s h W=>by
  rw[List.length_zipWith]at W;refine⟨xs,ys,yJ s h.1,yJ s h.2.2.1,?_⟩;rw[h.2.1.length,h.2.2.2.length];lia
end
end DV
namespace DV
open PySem L2
section
variable{X:Cx}
def zBq:Bool->D->Lx (Ls D)
 |true,.t P=>some P|false,.l P=>some P|_,_=>none
def iZ(t1 t2:Bool)(m:MA):MI:=λE=>match m E with
 | .z=>.z| .y x E1=>.y x E1
 | .ok ([r,T],E1)=>match zBq t1 r.d,zBq t2 T.d with
  |some P,some a=>.ok (zipWith vD P a,E1)|_,_=>.z
 |_=>.z
def Ql{g:Str->Lx Lv}(e:zBq t d=some ds)(r:Rep K g H d v):∃a xs,v=.ref a/\SqH K H t a xs/\Reps K g H ds xs:=by
 cases t with
 |true =>
  cases d with
  |t E=>cases e;exact yO r|_=>cases e
 |false =>
  cases d with
  |l E=>cases e;exact yB r|_=>cases e
def zDH(V:TgZ tg)(e:Gl X "zip")(K:X.mg "zip"=none)(P:AOk X [a,b] m)(u:zU a=false:=by rfl)(h:zU b=false:=by rfl) :
  IOk X tg (.Call (.Name "zip" p) [a,b] [] cpos) (iZ t1 t2 m):=WZ (pi_zip V e K P (star2 u h) (Qa h)) λO H R ⟨M,E,hl,fr,k⟩=>by
 unfold iZ at k;refine JN (T0:=[]) hl fr ?_;exists ea,m E,k,rs,E1
 match rs,k with
 | [r,T],k =>
  intro W H1 hv I;have q:=Got.reps hv I;dsimp at k;cases o:zBq t1 r.d with
  |none=>rw[o]at k;exact k.elim
  |some j =>
   cases l:zBq t2 T.d with
   |none=>rw[o,l]at k;exact k.elim
   |some n =>
    rw[o,l]at k;dsimp[List.map]at q;obtain⟨v,w,rfl,L,h2⟩:=reps2 q;obtain⟨c,Y,rfl,c1,g⟩:=Ql o L;obtain⟨d,J,rfl,t,i⟩:=Ql l h2;exact⟨c,d,Y,J,rfl,yJ zI c1,yJ zI t,k _ _ H1 it_zip ⟨c1,g,t,i⟩ I.dropAll⟩
 | [],k=>exact k.elim| [_],k=>exact k.elim|_::_::_::_,k=>exact k.elim
end
section
variable{X:Cx}{K:qH}{mg:Str->Lx Lv}{O:L2.St}{M:Ld}{E:zR}{H:Hp}
def zFo{J:It}{ds:Ls D}{I:Hp->Prop}{O e:L2.St}{E0 E':zR}{H1 k H:Hp}{i:Nat}{x:V}(it:ItOk K mg J ds I)(C:i<ds.length)(r:Got K mg M O E0 H1 [] e E' k [])(t:I (Hm (Mo M (e.zip E')) k))(y:J.yld i k x H) :
  ∃d,ds[i]?=some d/\Got K mg M O E0 H1 [] e E' H []/\I (Hm (Mo M (e.zip E')) H)/\Rep K mg (Hm (Mo M (e.zip E')) H) d x:=by
 obtain⟨d,j,h⟩:=it.yld i _ _ x _ zI t C y;rcases h with⟨rfl,c⟩|⟨q,Y,E,P,rfl,rfl,rfl,w⟩
 ·exact⟨d,j,r,t,c⟩
 ·have f:FR K mg M k (e.zip E'):=r.fr
  have l:=f.newTup P w;have g:Step M k (e.zip E') (upd k q (.t Y)) ((some (.ref q),.v (.t E))::e.zip E'):=Step.newVal P;obtain⟨v,ev,a⟩:=l.val _ _ qE;cases ev;have G:=g.same;rw[vY]at a G;have n:Step M k (e.zip E') (upd k q (.t Y)) (e.zip E'):=⟨G,g.keep⟩;exact⟨_,j,⟨r.len,l.tail,r.st.trans n,r.pk⟩,it.mono _ _ G t,a⟩
def sForI(mi:MI)(tg:MG)(body:MS):MS:=λE=>match mi E with
 | .z=>.z| .y x E1=>.y x E1| .ok (ds,E1)=>ZD tg body ds E1
def zFp{mi:MI}{tg:MG}{g:TG}{body:MS}{D:Ends}(n:GOk X g tg)(h:tS X (sForI mi tg body) D O H):tFor (tMI X mi) g (tS X body) D O H:=by
 obtain⟨M,E,hl,fr,k⟩:=zAX h;unfold sForI at k;refine⟨M,E,hl,fr,?_⟩;cases a:mi E with
 |z=>rw[a]at k;exact k|y x E1=>rw[a]at k;exact λH' g=>k O H' g
 |ok p =>
  obtain⟨P,E1⟩:=p;rw[a]at k;intro J Iv H1 l v I;refine⟨λi m O1 H2=>m=P.length-i/\i<=P.length/\∃E2,Got X.K X.mg M O E H [] O1 E2 H2 []/\Iv (Hm (Mo M (O1.zip E2)) H2)/\Fin X M O E H D (ZD tg body (P.drop i) E2),⟨P.length,by simp,zero_le _,E1,I,v,k⟩,?_⟩
  rintro i m O1 H2 ⟨rfl,W,E2,Z,r,K⟩
  by_cases C:i<P.length
  ·refine .inr ⟨l.go i _ H2 zI r C,λO3 H3=>i+1<=P.length/\∃E3,Got X.K X.mg M O E H [] O3 E3 H3 []/\Iv (Hm (Mo M (O3.zip E3)) H3)/\Fin X M O E H D (ZD tg body (P.drop (i+1)) E3),λO3 H3 q=>⟨P.length-(i+1),by lia,rfl,q⟩,λx H3 y=>?_⟩
   obtain⟨d,j,u,T,c⟩:=zFo l C Z r y;have o:P.drop i=d::P.drop (i+1):=by
    obtain⟨G,rfl⟩:=qG.mp j;exact List.drop_eq_getElem_cons G
   rw[o]at K;exact uJ n u c K λO4 E4 H4 S Q t=>⟨C,E4,S,l.mono _ _ Q.same T,t⟩
  ·have e:i=P.length:=by lia
   subst e;rw[List.drop_length]at K;exact .inl ⟨l.stop _ _ H2 zI r (le_refl _),K O1 H2 Z⟩
def sk_forI(G:PassesOwn (model X.prog X.w) X.A X.env X.xe)(Z:X.calm=true)(W:IOk X tgt iter mi)(n:PG X tgt g)(L:GOk X g tg)(J:GF X body mb)
  (S:∀x,foldedSetIterable iter X.env x=pure x:=by intro _;rfl):SOk X (.For tgt iter body [] pos) (sForI mi tg mb):=jf (zAM G Z W n J S) λD O H=>zFp L
end
end DV
namespace DV
open PySem L2 PySem.Spec PyProof.Rows
section
variable{prog:Lc}{w:Le}{A:Lg}{E:Ly}{s:La}
def en_next{e it l:Lz}{k:Nat}{p:Lh}{st:Ll}{old:Lv}{Q:Ly}(S:Src prog w A it l p st)(r:e≠it)(nl:l≠e)(M:IsEnum s.heap e it k old)(L:st k s.heap)
  (H:∀x,p[k]?=some x->∀I,IsEnumOut I e it ((k:Int)+1) x s.heap.objs.size->st (k+1) I->IsPair I s.heap.objs.size (.int k s.toks) x->(∀b o,b≠e->b≠it->s.heap.get? b=some o->I.get? b=some o)->Q (.ref s.heap.objs.size) {s with heap:=I,toks:=s.toks+1})
  (X:p[k]?=none->∀I x,Heap.ExtBut it s.heap I->(∃o,I.get? x=some o/\o.cls=.type "StopIteration")->E (.ref x) {s with heap:=I}) :
  wpAny (model prog w) A (Builtin.«enumerate.__next__» ⟨[.ref e],[]⟩) (λK s'=>∃v,K=.done (.ret v)/\Q v s') E s:=by
 obtain⟨G,g,d,y,Z⟩:=s;refine qB (m:=field (.ref e) 2) (wpAny_field M rfl (x:=.ref it) rfl (qB (S.next L (λx V g1 s1 n=>?_) X)));have n:Heap.SameBut it G g1:=n;have R:IsEnum g1 e it k old:=(n.2 e r).trans M;refine qB (m:=field (.ref e) 3) (wpAny_field R rfl (x:=rawInt k) rfl ?_);refine qB (m:=field (.ref e) 4) (wpAny_field R rfl (x:=.none) rfl ?_);refine qB (m:=mkInt k) (wpAny_mkInt ?_);refine qB (m:=setField (.ref e) 3 (rawInt ((k:Int)+1))) (wpAny_setField_rec R (by simp) λg2 Y P=>?_);have P:Heap.SameBut e g1 g2:=P;have Y:IsEnum g2 e it ((k:Int)+1) old:=Y;refine qB (m:=setField (.ref e) 4 .none) (wpAny_setField_rec Y (by simp) λg3 e3 i=>?_);have i:Heap.SameBut e g2 g3:=i;have e3:IsEnum g3 e it ((k:Int)+1) old:=e3;refine qB (m:=newTuple [.int k y,x]) (wpAny_newTuple ?_);have sz:g3.objs.size=G.objs.size:=by rw[i.1,P.1,n.1]
 have u:e<G.objs.size:=lt_size M;have O:IsEnum (g3.push {cls:=.type "tuple",data:=.seq #[.int k y,x]}) e it ((k:Int)+1) old:=qA _ e3;have t:IsPair (g3.push {cls:=.type "tuple",data:=.seq #[.int k y,x]}) G.objs.size (.int k y) x:=by rw[<- sz];exact get?_push_size _ rfl
 have W:∀b o,b≠e->g1.get? b=some o->(g3.push {cls:=.type "tuple",data:=.seq #[.int k y,x]}).get? b=some o:=λb o h q=>qA _ (i.extBut b o h (P.extBut b o h q))
 generalize g3.push {cls:=.type "tuple",data:=.seq #[.int k y,x]}=g4 at O t W;refine qB (m:=Builtin.SmallTypes.ownedTupleIsFree (.ref e)) ?_;rw[sz];unfold Builtin.SmallTypes.ownedTupleIsFree;refine qB (wpAny_field O rfl (x:=.none) rfl (qC ?_));dsimp[if_true];refine qB (wpAny_rule (qB (wpAny_field O rfl (x:=old) rfl (qB (wpAny_setField_rec O (by simp) λg5 C j=>?_)))));have j:Heap.SameBut e g4 g5:=j;have C:IsEnum g5 e it ((k:Int)+1) x:=C;refine qB (m:=Builtin.SmallTypes.ownedTupleHandOut (.ref e) (.ref G.objs.size)) ?_;unfold Builtin.SmallTypes.ownedTupleHandOut;refine qB (wpAny_setField_rec C (by simp) λg6 e6 a=>?_);have a:Heap.SameBut e g5 g6:=a;have e6:IsEnumOut g6 e it ((k:Int)+1) x G.objs.size:=e6;refine wpAny_setField_rec e6 (by simp) λg7 z c=>?_
 have c:Heap.SameBut e g6 g7:=c;have z:IsEnumOut g7 e it ((k:Int)+1) x G.objs.size:=z;have T:∀b o,b≠e->g4.get? b=some o->g7.get? b=some o:=λb o h q=>c.extBut b o h (a.extBut b o h (j.extBut b o h q))
 refine qB (wpAny_letGo (qC ⟨_,rfl,H x V g7 z (S.keep s1 λb J o q=>?_) (T _ _ (ne_of_gt u) t) λb o h D q=>T b o h (W b o h (n.extBut b o D q))⟩));have h:b≠e:=by rcases J with rfl|rfl;exact r.symm;exact nl
 exact T b o h (W b o h q)
def Go{e it l:Lz}{k:Nat}{p:Lh}{st:Ll}{n:Lv}{Q:Lx Lv->La->Prop}(S:Src prog w A.in1 it l p st)(r:e≠it)(nl:l≠e)(M:IsEnum s.heap e it k n)(L:st k s.heap)
  (H:∀x,p[k]?=some x->∀g,IsEnumOut g e it ((k:Int)+1) x s.heap.objs.size->st (k+1) g->IsPair g s.heap.objs.size (.int k s.toks) x->(∀b o,b≠e->b≠it->s.heap.get? b=some o->g.get? b=some o)->Q (some (.ref s.heap.objs.size)) {s with heap:=g,toks:=s.toks+1})
  (X:p[k]?=none->∀g,(∀b o,b≠it->s.heap.get? b=some o->g.get? b=some o)->Q none {s with heap:=g}):wpAny (model prog w) A (pyNext (.ref e)) Q E s:=by
 have hT:s.TypeIs (.ref e) "enumerate":=⟨_,M,rfl⟩;unfold pyNext;refine qB (wpAny_attempt (wpAny_callSpecial?_slot hT F.slot_enumerate_next (wpAny_call_entry F.slot_enumerate_next hT F.entry_enumerate_next (en_next S r nl M L (λx V g a z W i=>?_) λV g y C q=>?_) (F.args_enumerate_next_1 _))))
 ·exact qC (H x V g a z W i)
 ·obtain⟨o,ho,Z⟩:=q
  exact qB (wpAny_isInstance (T:="StopIteration") (b:=true) ⟨o,ho,Z⟩ isSubtype_stop (qC (X V g λb o h e=>C b o h e)))
end
def Ite(K:qH)(t:Bool)(a:Lz):It :=
 ⟨λi H=>∃Y,SqH K H t a Y/\i<Y.length,
  λi H x H'=>∃q u,(∀Y,SqH K H t a Y->Y[i]?=some u)/\H q=none/\H'=upd H q (.t [.int i,u])/\x=.ref q,
  λi H=>∃Y,SqH K H t a Y/\Y.length<=i⟩
def ESt(e it:Lz)(t:Bool)(a:Lz)(i:Nat)(h:Heap):Prop:=(∃n,IsEnum h e it i n)/\ItA t h it a i
def zDI{P:Lc}{w:Le}{K:qH}{g:Ls Lb}{x1}{ab:Pos}{e it:Lz}(r:e≠it)(t:Bool)(a:Lz):Turn P w K (.Tuple g x1 ab) (Ite K t a) [e,it] e (ESt e it t a) where
 mem:=by simp
 obj:=λi h Q c Z=>by
  obtain⟨⟨n,M⟩,L⟩:=Q;dsimp[mem_cons,mem_nil_iff,or_false]at Z;rcases Z with rfl|rfl
  ·exact⟨_,M,λv z=>by cases z⟩
  ·exact ZJ L
 keep:=λi h h' Q k=>by
  obtain⟨⟨n,M⟩,L⟩:=Q;exact⟨⟨n,k e (by simp) _ M⟩,ve L λo q=>k it (by simp) o q⟩
 item:=by
  intro X C R hK Z i G s O H E I hf Q hg;subst C R hK;obtain⟨⟨n,M⟩,L⟩:=Q;obtain⟨Y,j,W⟩:=hg;obtain⟨D,T,p1⟩:=wu I j;have na:∀c∈[e,it],a≠c:=λc Z=>vd I j (hf c Z)
  have J:X.A.in1.handled=none:=I.ok.hd Z;obtain⟨u,eu⟩:∃u,Y[i]?=some u:=⟨_,getElem?_eq_getElem W⟩;obtain⟨u',y,ru⟩:=T.get eu;refine Go (srcA J t (na it (by simp)) D.toArray) r (na e (by simp)) M ⟨L,p1⟩ (λx V h' S l pq kk=>?_) (λV=>?_)
  ·have ex:x=u':=by simp[y]at V;exact V.symm
   subst ex;refine⟨_,rfl,wpAny_letOwnedTupleGo_enum S λh2 z2 b2=>?_⟩;have lt:∀{c o},s.heap.get? c=some o->s.heap.objs.size≠c:=λq=>ne_of_gt (lt_size q)
   have aa:IsPair h2 s.heap.objs.size (.int i s.toks) x:=b2.extBut _ _ (lt M) pq;have k2:∀c o,c∉[e,it]->s.heap.get? c=some o->h2.get? c=some o:=λc o Z q=>b2.extBut _ _ (λz=>Z (by simp[z])) (kk c o (λz=>Z (by simp[z])) (λz=>Z (by simp[z])) q)
   have p:jL X.prog X.w (upd H s.heap.objs.size (.t [.int i,u])) h2 s.heap.objs.size (.t [.int i,u]):=⟨by simp[sizeLine_eq],[.int i s.toks,x],.cons ⟨_,rfl⟩ (.cons ru .nil),⟨_,aa,rfl,_,rfl⟩⟩;have I2:=I.turnLay (t':=s.toks+1) hf k2 (le_refl _) p;have fresh:H s.heap.objs.size=none:=I.hok.fresh (le_refl _);refine⟨.ref s.heap.objs.size,_,I2,rfl,⟨_,u,λzs hz=>by rw[Qk I hz j];exact eu,fresh,rfl,rfl⟩,⟨⟨_,by have:=z2;exists this⟩,ve l.1 λo q=>b2.extBut _ _ r.symm q⟩,λc Z=>?_⟩;have:c≠s.heap.objs.size:=λq=>by
    obtain⟨o,e⟩:∃o,s.heap.get? c=some o:=by
     dsimp[mem_cons,mem_nil_iff,or_false]at Z;rcases Z with rfl|rfl
     ·exact⟨_,M⟩
     ·obtain⟨o,e,_⟩:=ZJ L;exact⟨o,e⟩
    exact lt e q.symm
   rw[ze this];exact(hf c Z).1
  ·exfalso
   simp[y]at V
 done:=by
  intro X C R hK Z i G s O H E I hf Q hg;subst C R hK;obtain⟨⟨n,M⟩,L⟩:=Q;obtain⟨Y,j,W⟩:=hg;obtain⟨D,T,p1⟩:=wu I j;have na:∀c∈[e,it],a≠c:=λc Z=>vd I j (hf c Z)
  have J:X.A.in1.handled=none:=I.ok.hd Z;have e1:=T.length;refine Go (srcA J t (na it (by simp)) D.toArray) r (na e (by simp)) M ⟨L,p1⟩ (λx V=>?_) (λV h' kk=>⟨rfl,?_⟩)
  ·exfalso
   simp at V
   have a1:=(qG.mp V).1;lia
  ·exact I.turnL (t':=s.toks) hf λc o Z q=>kk c o (λz=>Z (by simp[z])) q
 self:=λ_ _ _ _ _ Q h=>by
  obtain⟨⟨n,M⟩,_⟩:=Q;exact wpAny_pyIter_enum M h
end DV
namespace DV
open PySem L2 PySem.Spec PyProof.Rows
open AutoSeq1 (wpAny_loadPart')
abbrev enH(h:Heap)(c:String)(l:Lz):Heap:=(h.push (itO c l)).push {cls:=.type "enumerate",data:=.fields #[.none,.bool false,.ref h.objs.size,rawInt 0,.none,.none]}
def en_newT(l:Lz)(items:Lh)(n:Nat)(dd:Lx Lz)(a:Lj) :
  Meets (Builtin.«enumerate.__new__» ⟨[.type "enumerate",.ref l],[]⟩) (λ_ R s=>s.heap.get? l=some {cls:=.type "tuple",dict:=dd,data:=.seq items n,slots:=a}/\R (.ok (.ret (.ref (s.heap.push (itO "tuple_iterator" l)).objs.size))) {s with heap:=enH s.heap "tuple_iterator" l}) :=
 .of_wp λC w A R s h=>by
  obtain⟨G,g,d,y,Z⟩:=s;obtain⟨hl,h⟩:=h;have S:=sub_enumerate;have p:Heap.IsTuple (Shared.heap ⟨G,g,d,y,Z⟩) l items:=⟨_,hl,rfl,n,rfl⟩
  wp_walk using wpAny_loadPart' hl
  refine wpAny_stack_any λQ=>qC ?_
  split
  ·rename_i c _ _ _ _ _
   cases (c==Value.type "enumerate")<;>(wp_walk using wpAny_loadPart' hl,wpAny_pyIter_tuple p;exact⟨_,rfl,h⟩)
  ·wp_walk using wpAny_loadPart' hl,wpAny_pyIter_tuple p;exact⟨_,rfl,h⟩
section
variable{prog:Lc}{w:Le}{A:Lg}{E:Ly}{s:La}
structure En(h h':Heap)(c:String)(l:Lz):Prop where
 e:IsEnum h' (h.objs.size+1) h.objs.size 0 .none
 i:h'.get? h.objs.size=some (itO c l)
 kp:∀b o,h.get? b=some o->h'.get? b=some o
def en_call{Q:Ly}(L:SqO s.heap t l xs)(h:∀g,(IsEnum g (s.heap.objs.size+1) s.heap.objs.size 0 .none)->ItA t g s.heap.objs.size l 0->(∀b o,s.heap.get? b=some o->g.get? b=some o)->Q (.ref (s.heap.objs.size+1)) {s with heap:=g}):wpAny (model prog w) A (call (.type "enumerate") [.ref l]) Q E s:=by
 cases t with
 |false =>
  exact call_enumerate_list L λg a b c k=>h g a b k
 |true =>
  obtain⟨⟨r,dd,H,j⟩,e,c,n,d⟩:=(L:s.heap.IsTuple l xs);simp only at c d;subst c d;refine callType_new F.called_enumerate (by decide) (F.typeCall_enumerate_1 _) (F.newCall_enumerate_1 _) (λi=>F.args_object_init_2 i _) F.entry_enumerate_new (en_newT l xs n dd j) ⟨e,?_⟩;have hz:(s.heap.push (itO "tuple_iterator" l)).objs.size=s.heap.objs.size+1:=size_push ..;have I:(enH s.heap "tuple_iterator" l).get? (s.heap.push (itO "tuple_iterator" l)).objs.size=some _:=get?_push_size _ rfl;rw[hz]at I;show _/\_;rw[hz];exact⟨⟨_,I,rfl⟩,h _ I ⟨_,qA _ (get?_push_size _ rfl),rfl,rfl⟩ λb o x=>qA _ (qA _ x)⟩
end
section
variable{X:Cx}{K:qH}{mg:Str->Lx Lv}{O:L2.St}{H:Hp}
def iEnum(K:qH)(t:Bool)(v:TA):TI:=λO H R=>v O H λW H1=>∃a Y,W=[.ref a]/\SqH K H1 t a Y/\R (Ite K t a) H1
def bt_enum:bootBuiltins "enumerate"=some (.type "enumerate"):=by left
def pi_enum{x1}(n:Gl X "enumerate")(K:X.mg "enumerate"=none)(P:PA X [e] ta)(S:starEach [e] X.env=[(false,eval e X.env)]:=by rfl) :
  PI X (.Tuple elts x1 tp) (.Call (.Name "enumerate" p) [e] [] pos) (iEnum X.K t ta):=by
 intro G s O H R I h;refine Call_ (J3 I n K bt_enum (PyProof.Rows.callWith_type1 (thn (P pos G s O H _ I h) λD l ⟨W,H1,I1,T,j⟩=>?_) S rfl));obtain⟨a,Y,ev,u,q⟩:=j;subst ev;cases T with
 |cons r x =>
  cases x;cases r;obtain⟨i,w,y⟩:=wu I1 u;refine en_call y λg o k E=>?_
  refine wpAny_pyIter_enum (s:={l with heap:=g}) o ?_
  have fr:∀c,l.heap.objs.size<=c->zAK X G H1 c:=λc Z=>I1.fpOk Z (I1.hok.fresh Z)
  have v:l.heap.objs.size+1≠l.heap.objs.size:=λz=>by have:=Nat.succ_ne_self l.heap.objs.size;exact this z
  refine⟨_,[l.heap.objs.size+1,l.heap.objs.size],_,_,H1,rfl,I1.kept (t':=l.toks) E,zDI v t a,⟨⟨_,o⟩,k⟩,λc Z=>?_,q⟩;dsimp[mem_cons,mem_nil_iff,or_false]at Z;rcases Z with rfl|rfl
  ·exact fr _ (le_succ _)
  ·exact fr _ (le_refl _)
def zBY:Nat->Ls D->Ls D
 |_,[]=>[]|n,d::ds=>.t [.int (n:Int),d]::zBY (n+1) ds
theorem Z0:∀(P:Ls D) (n:Nat),(zBY n P).length=P.length
 | [],_=>rfl|d::P,n=>by simp[zBY,Z0 P]
theorem uU:∀(P:Ls D) (n i:Nat) (d:D),P[i]?=some d->(zBY n P)[i]?=some (.t [.int ((n+i:Nat):Int),d])
 | [],_,_,_,h=>by simp at h|e::P,n,0,d,h=>by simp at h;subst h;simp[zBY]
 |e::P,n,i+1,d,h=>by
  dsimp[List.getElem?_cons_succ]at h;have:=uU P (n+1) i d h;dsimp[zBY,List.getElem?_cons_succ];rw[this,show n+1+i=n+(i+1)by lia]
def it_enum:ItOk K mg (Ite K t a) (zBY 0 ds) (λH=>SqH K H t a xs/\Reps K mg H ds xs) where
 mono:=λH H' s h=>⟨yJ s h.1,h.2.mono s⟩
 go:=λi Hh H s h W=>by
  rw[Z0]at W;exact⟨xs,yJ s h.1,by rw[h.2.length];lia⟩
 yld:=λi Hh H x H' s h W y=>by
  obtain⟨q,u,L,P,rfl,rfl⟩:=y;have R:=L xs (yJ s h.1);obtain⟨d,I,T⟩:=h.2.get R;refine⟨_,uU ds 0 i d I,.inr ⟨q,[.int (i:Int),u],[.int ((0+i:Nat):Int),d],P,rfl,rfl,rfl,Reps.cons (by rw[zero_add];dsimp[Rep]) (Reps.cons T Reps.nil)⟩⟩
 stop:=λi Hh H s h W=>by
  rw[Z0]at W;exact⟨xs,yJ s h.1,by rw[h.2.length];lia⟩
def iE(t:Bool)(m:MA):MI:=λE=>match m E with
 | .z=>.z| .y x E1=>.y x E1
 | .ok ([r],E1)=>match zBq t r.d with
  |some P=>.ok (zBY 0 P,E1)|none=>.z
 |_=>.z
def io_enum{x1}(e:Gl X "enumerate")(K:X.mg "enumerate"=none)(P:AOk X [a] m)(u:zU a=false:=by rfl) :
  IOk X (.Tuple elts x1 tp) (.Call (.Name "enumerate" p) [a] [] cpos) (iE t m):=WZ (pi_enum e K P (Qa u)) λO H R ⟨M,E,hl,fr,k⟩=>by
 unfold iE at k;refine JN (T0:=[]) hl fr ?_;exists ea,m E,k,rs,E1
 match rs,k with
 | [r],k =>
  intro W H1 hv I;have q:=Got.reps hv I;dsimp at k;exists ed,zBq t r.d,k,ds;dsimp[List.map]at q;obtain⟨v,rfl,L⟩:=YQ q;obtain⟨c,Y,rfl,c1,g⟩:=Ql ed L;exact⟨c,Y,rfl,yJ zI c1,k _ _ H1 it_enum ⟨c1,g⟩ I.dropAll⟩
 | [],k=>exact k.elim|_::_::_,k=>exact k.elim
end
end DV
namespace PySem
open Sem (wp)
open AutoSeq1 (wpAny_loadPart')
end PySem
namespace L2
open PySem PySem.Spec PyProof.Rows
end L2
namespace DV
open PySem L2
section
variable{X:Cx}{K:qH}{mg:Str->Lx Lv}{P P':Ld}{H:Hp}{a:Lz}{xs:Ls V}
def zDJ(mi:MI)(tg:MG)(body:MS):MS:=λE=>match mi E with
 | .y x E1=>.y x E1
 |_=>(match sForI mi tg body E with
  | .y _ _=>.z|o=>o)
def ps_forX(W:PI X tg iter wi)(S:∀x,foldedSetIterable iter X.env x=pure x):PS X (.For tg iter body [] pos) (λD O H=>wi O H λ_ _=>False):=by
 intro G s O H D I h;refine wpAny_For (thn (W G s O H _ I h) λv l L=>thn L λitv Y h2=>?_) S;obtain⟨g,P,a,J,H2,e,I2,T,c,u,f⟩:=h2;exact f.elim
end
section
variable{X:Cx}{O:L2.St}{pins:Ls (Lz×Obj)}{H:Hp}{s:La}{K:qH}{mg:Str->Lx Lv}
def MtM.or{id:String}{r T:V->Ls V->Hp->VK->Prop}(h:MtM X id r)(h':MtM X id T):MtM X id (λx W H Q=>r x W H Q\/T x W H Q):=by
 intro G s O H x W v D Q I c M q;rcases q with q|q
 ·exact h G s O H x W v D Q I c M q
 ·exact h' G s O H x W v D Q I c M q
end
end DV
namespace DV
open PySem L2 PyProof.Rows PySem.Calls
end DV
namespace DV
open PySem L2
section
variable{X:Cx}
def iA(m:ME):MI:=λE=>match m E with
 | .z=>.z| .y x E1=>.y x E1
 | .ok (r,E1)=>match r.d with
  | .l P=>.ok (P,E1)| .t P=>.ok (P,E1)|_=>.z
def io_any(h:EOk X e m):IOk X tg e (iA m):=λG s O H R I ⟨M,E,hl,fr,k⟩=>by
 unfold iA at k;cases a:m E with
 |z=>rw[a]at k;exact k.elim|y x E1=>exact Qe h G s O H R I ⟨M,E,hl,fr,by unfold iL;rw[a]at k ⊢;exact k⟩
 |ok p =>
  obtain⟨r,E1⟩:=p;rw[a]at k;dsimp at k;cases o:r.d with
  |l P=>exact Qe h G s O H R I ⟨M,E,hl,fr,by unfold iL;rw[a];dsimp;rw[o]at k ⊢;exact k⟩|t P=>exact zGn h G s O H R I ⟨M,E,hl,fr,by unfold iT;rw[a];dsimp;rw[o]at k ⊢;exact k⟩|_=>rw[o]at k;exact k.elim
end
end DV
namespace DV
open PySem PyProof.Rows
end DV
namespace DV
open PySem L2
section
variable{prog:Lc}{w:Le}{A:Lg}{R:Result->La->Prop}{s:La}{elt t0 i0 t1 i1:Lb}{f0 f1:Ls Lb}{scope:Scope}{pos:Pos}{it acc:Lv}{env:Env}
def start1(J:codeAny (model prog w) A (.compLoop (.ListComp elt [⟨t0,i0,f0,0⟩,⟨t1,i1,f1,0⟩] scope pos) 1 it acc env) R s)
  (h:wpAny (model prog w) A (pyIter it) (λi j=>codeAny (model prog w) A (.compLoop (.ListComp elt [⟨t0,i0,f0,0⟩,⟨t1,i1,f1,0⟩] scope pos) 1 i acc env) R j) (notedBy (model prog w) A env λx j=>R (.error x) j) s) :
  codeAny (model prog w) A (.compStart (.ListComp elt [⟨t0,i0,f0,0⟩,⟨t1,i1,f1,0⟩] scope pos) 1 it acc env) R s:=by
 refine codeAny_of_tree (wpAny_notedAt ?_);refine qB (wpAny_askSetting (wpAny_ite ?_));split
 ·exact qB (qC (qC ⟨rfl,J⟩))
 ·exact qB (wpAny_rule (qB (wpAny_standAt (qB (wpAny_mono h (λi j g=>qC ⟨rfl,g⟩) λx c a=>a)))))
end
def act2(c g i:Lb)(r:Ls Lb)(t1 w:Lb)(l:Ls Lb)(Y:Scope)(y:Pos):Lv->Env->Sem PySem.Fin->Sem PySem.Fin:=λu h k=>do
 let x <- eval w h
 standAt w.pos
 let x <- foldedSetIterable w h x
 let j <- holding [x] (pyIter x)
 let _ <- runOwn (.compStart (.ListComp c [⟨g,i,r,0⟩,⟨t1,w,l,0⟩] Y y) 1 j u h) h
 k
def pa_loop(V:∀e s,¬Y.xe e s)(Z:Y.calm=true)(W:PI Y t1 i1 wi)(n:PG Y t1 g)(y:zEa Y f1 tt)(M:PAc Y (act1 elt) ta)
  (S:∀x,foldedSetIterable i1 Y.env x=pure x):PAc Y (act2 elt t0 i0 f0 t1 i1 f1 scope pos) (taL wi g tt ta):=λD G s O H Nx k Q E I h C=>by
 unfold act2;refine qB (wpAny_mono (W G s O H _ I h) (λi X L=>qB (wpAny_standAt ?_)) λ_ _ z=>absurd z (V _ _));rw[S];refine qB (qC (qB (wpAny_holding (wpAny_mono L (λitv s2 h2=>qB ?_) λ_ _ z=>absurd z (V _ _)))));obtain⟨l,P,a,J,H2,e,I2,T,c,u,q⟩:=h2;subst e;have K:∀R:Result->La->Prop,(∀O' H' j,Inv Y G O' H' j->Nx O' H'->R (.ok .next) j)->codeAny (model Y.prog Y.w) Y.A (.compLoop (.ListComp elt [⟨t0,i0,f0,0⟩,⟨t1,i1,f1,0⟩] scope pos) 1 (.ref l) (.ref D) Y.env) R s2:=λR r =>
  WX (p:=i1.pos) (λ_ _ _ _=>⟨rfl,λ_=>rfl,rfl⟩) V Z n y M rfl T (λw b t=>⟨w b t,(u b t).2⟩) I2 c (λb t=>(u b t).1) q r
 have o:∀R:Result->La->Prop,(∀O' H' j,Inv Y G O' H' j->Nx O' H'->R (.ok .next) j)->codeAny (model Y.prog Y.w) Y.A (.compStart (.ListComp elt [⟨t0,i0,f0,0⟩,⟨t1,i1,f1,0⟩] scope pos) 1 (.ref l) (.ref D) Y.env) R s2:=λR r=>start1 (K R r) (T.self Y.A 0 _ _ _ c (K R r))
 exact wpAny_runOwn (o _ λO' H' j I' v=>C O' H' j I' v)
def zAg:CNd P w (.ListComp elt [⟨target,iter,ifs,0⟩,⟨t1,i1,f1,0⟩] scope pos) target iter ifs (newList []) lstO (λ_=>.l []) (act2 elt target iter ifs t1 i1 f1 scope pos) [⟨t1,i1,f1,0⟩] iter.pos :=
 ⟨rfl,λ_ _ _ _=>⟨rfl,λ_=>rfl,rfl⟩,zCo,zAZ,λJ h=>codeAny_compStart_list J h,λ_ _ _=>rfl⟩
section
variable{X:Cx}{elt target iter t1 i1:Lb}{scope:Scope}{pos:Pos}{mi mi1:MI}{tg tg1:MG}{el:ME}{g g1:TG}{nl:Nat}{caps:Ls Nat}{N':Ls Str}
def zAh(C:CSc X scope nl caps N')(h:∀r C K s H,IOk (cxB X N' scope r C K s H) t1 i1 mi1)(u:∀r C K s H,PG (cxB X N' scope r C K s H) t1 g1)(M:∀r C K s H,EOk (cxB X N' scope r C K s H) elt el)(T:∀r C K s H x,foldedSetIterable i1 (cxB X N' scope r C K s H).env x=pure x)
  (r Ca K s H):PAc (cxB X N' scope r Ca K s H) (act2 elt target iter [] t1 i1 [] scope pos) (taL (tNI X.K X.mg mi1) g1 (tNT X.K X.mg wC) (ta1 (tN X.K X.mg el))) :=
 pa_loop (Y:=cxB X N' scope r Ca K s H) C.hx C.hc (WZ (h r Ca K s H) λO H R q=>tNI_M q) (u r Ca K s H) (Zy uP λO H Q q=>tNT_M q) (Qh C M r Ca K s H) (T r Ca K s H)
def ok_lc2(C:CSc X scope nl caps N')(W:IOk X target iter mi)(n:∀r C K s H,PG (cxB X N' scope r C K s H) target g)(L:GOk X g tg)(h:∀r C K s H,IOk (cxB X N' scope r C K s H) t1 i1 mi1)(u:∀r C K s H,PG (cxB X N' scope r C K s H) t1 g1)(a:GOk X g1 tg1)(M:∀r C K s H,EOk (cxB X N' scope r C K s H) elt el)
  (S:∀x,foldedSetIterable iter X.env x=pure x) (T:∀r C K s H x,foldedSetIterable i1 (cxB X N' scope r C K s H).env x=pure x):EOk X (.ListComp elt [⟨target,iter,[],0⟩,⟨t1,i1,[],0⟩] scope pos) (JG akL nl caps mi tg wC (maL mi1 tg1 wC (ma1 el))) :=
 zCu C uQ (zAa a uR) zAg (zAh C h u M T) rfl W n L (λ_ _ _ _ _=>uP) S
def sk_lc2(E:X.N.Nodup)(G:X.N[i]?=some y)(O:Loc X.env.scope y)(t:X.fn y=true\/X.env.scope.names.lookup y=some .local)(C:CSc X scope nl caps N')(W:IOk X target iter mi)(n:∀r C K s H,PG (cxB X N' scope r C K s H) target g)(L:GOk X g tg)(h:∀r C K s H,IOk (cxB X N' scope r C K s H) t1 i1 mi1)(u:∀r C K s H,PG (cxB X N' scope r C K s H) t1 g1)(a:GOk X g1 tg1)(M:∀r C K s H,EOk (cxB X N' scope r C K s H) elt el)
  (S:∀x,foldedSetIterable iter X.env x=pure x) (T:∀r C K s H x,foldedSetIterable i1 (cxB X N' scope r C K s H).env x=pure x)
  (z:swapsWith (.ListComp elt [⟨target,iter,[],0⟩,⟨t1,i1,[],0⟩] scope pos) (some (.Name y py)) spos.line X.env=pure true) :
  SOk X (.Assign [.Name y py] (.ListComp elt [⟨target,iter,[],0⟩,⟨t1,i1,[],0⟩] scope pos) spos) (sSet i (JG akL nl caps mi tg wC (maL mi1 tg1 wC (ma1 el)))) :=
 zCv E G O t C uQ (zAa a uR) zAg (zAh C h u M T) (λ_=>rfl) W n L (λ_ _ _ _ _=>uP) S z
end
section
variable{prog:Lc}{w:Le}{A:Lg}{E:Ly}{s:La}
def Wd:isSubtype (.type "range_iterator") (.type "reversed")=pure false:=by rw[isSubtype_type];kernel_rfl
def zBZ(n:Int):Obj:={cls:=.type "range_iterator",data:=.fields #[rawInt (0+(Builtin.Range.rangeSize 0 n 1-1)*1),rawInt (Builtin.Range.rangeSize 0 n 1),rawInt (-1)]}
def zFq(L:-(2^62)<=n)(Y:n<2^62):(Builtin.Range.rangeFitsLong 0&&Builtin.Range.rangeFitsLong n&&Builtin.Range.rangeFitsLong 1&&Builtin.Range.rangeFitsLong (-1)&&Builtin.Range.rangeFitsLong (0-1)&&Builtin.Range.rangeFitsLong (Builtin.Range.rangeSize 0 n 1))=true:=by
 have e:Builtin.Range.rangeSize 0 n 1=if 0<n then n else 0:=by rw[rangeSize_one];simp
 rw[e];dsimp[Builtin.Range.rangeFitsLong];split<;>simp<;>lia
def vE{Q:Ly}(p:IsRange s.heap r 0 n 1 t u v)(L:-(2^62)<=n)(Y:n<2^62)
  (h:Q (.ref s.heap.objs.size) {s with heap:=s.heap.push (zBZ n)}):wpAny (model prog w) A (call (.builtin "range.__reversed__") [.ref r]) Q E s:=by
 refine wpAny_call_entry F.slot_range_reversed ⟨_,p,rfl⟩ F.entry_range_reversed ?_ (F.args_range_reversed_1 _);unfold Builtin.«range.__reversed__»;refine qB (wpAny_of_eq (a:=Value.ref r) rfl ?_);have hf:∀(A:Lg) (E':Ly),wpAny (model prog w) A (Builtin.Range.rangeFields (.ref r)) (λx j=>x=(0,n,1)/\j=s) E' s:=by
  intro A E';unfold Builtin.Range.rangeFields
  repeat (any_goals (first|assumption|wp_step))
  exact⟨rfl,rfl⟩
 refine qB (wpAny_mono (hf _ _) (λx j V=>?_) λ_ _ z=>z);obtain⟨rfl,rfl⟩:=V;dsimp;rw[zFq L Y];dsimp[Bool.not_true,Bool.false_eq_true,if_false,if_true]
 repeat (any_goals (first|assumption|wp_step))
 exact⟨_,rfl,h⟩
def Gp{Q₁:Ly}(p:IsRange s.heap r 0 n 1 t u v)(L:-(2^62)<=n)(Y:n<2^62)
  (h:Q₁ (.ref s.heap.objs.size) {s with heap:=s.heap.push (zBZ n)}) :
  codeAny (model prog w) A (.call (.builtin "reversed.__new__") ⟨[.type "reversed",.ref r],[]⟩) (PySem.wants Q₁ E) s:=by
 refine codeAny_of_tree ?_;show wpAny _ A.in1 (do checkBuiltinCall "reversed.__new__" ⟨[.type "reversed",.ref r],[]⟩;again (.builtin "reversed.__new__" ⟨[.type "reversed",.ref r],[]⟩)) _ _ s;refine qB (wpAny_of_eq (F.newCall_reversed_1 _) (qC ⟨plainId_quiet F.plain_reversed_new _,codeAny_builtin F.entry_reversed_new ?_⟩));rw[Around.under_plainId F.plain_reversed_new _];unfold Builtin.«reversed.__new__»;refine qB (wpAny_of_eq (newClass_reversed _) ?_)
 try dsimp
 refine qB (wpAny_of_eq (a:=()) (by first|rfl|kernel_rfl) ?_);refine qB (wpAny_of_eq (a:=()) (by first|rfl|kernel_rfl) ?_)
 try dsimp
 refine qB (wpAny_specialOf ⟨_,p,rfl⟩ F.slot_range_reversed.lookup ?_)
 try dsimp
 refine qB (wpAny_of_eq (F.slot_range_reversed.bind _) ?_)
 try dsimp
 rw[if_neg (show ¬((Value.builtin "range.__reversed__" == Value.none)=true)from qF)];refine qB (wpAny_rule ?_);refine qB (m:=runValue (.call (.builtin "range.__reversed__") ⟨[.ref r],[]⟩)) (show wpAny _ _ (call (.builtin "range.__reversed__") [.ref r]) _ _ _ from vE p L Y ?_)
 first
 |exact qC h
 |exact qB (qC (qC h))
def ZK{Q:Ly}(p:IsRange s.heap r 0 n 1 t u v)(L:-(2^62)<=n)(Y:n<2^62)
  (h:Q (.ref s.heap.objs.size) {s with heap:=s.heap.push (zBZ n)}):wpAny (model prog w) A (call (.type "reversed") [.ref r]) Q E s:=by
 refine callType_other (U:="range_iterator") (Q₁:=λi c=>i=.ref s.heap.objs.size/\c={s with heap:=s.heap.push (zBZ n)}) (by left) F.create_reversed ⟨_,_,F.mro_reversed⟩ F.made_reversed Wd (F.typeCall_reversed_1 _) (Gp p L Y ⟨rfl,rfl⟩) ?_
 rintro i c ⟨rfl,rfl⟩
 exact⟨⟨_,get?_push_size _ rfl,rfl⟩,h⟩
end
def Itv(n:Nat):It:=⟨λi _=>i<n,λi H x H'=>H'=H/\x=.int ((n:Int)-1-i),λi _=>n<=i⟩
def zFr(it:Lz)(n:Nat):Turn P w K tg (Itv n) [it] it (λi h=>IsRangeIter h it ((n:Int)-1+(i:Nat)*(-1)) ((n:Int)-(i:Nat)) (-1)) where
 mem:=by simp
 obj:=λi h Q b J=>by
  have e:b=it:=by exists J
  subst e;exact⟨_,Q,λv z=>by
   have Y:Data.fields _=Data.cell v:=z;cases Y⟩
 keep:=λi h g Q k=>k it (by simp) _ Q
 item:=by
  intro X C R L Z i G s O H E I hf Q c;subst C R L;obtain⟨r,l,u,q,j,T⟩:=hf it (by simp);have W:=Walks.range (prog:=X.prog) (w:=X.w) (I.ok.hd Z) it ((n:Int)-1) (-1) n;refine W.item i s _ _ c Q λv g y hv D a=>?_
  obtain⟨t,rfl⟩:=hv;have I1:Inv X G O H {s with heap:=g,toks:=y}:=I.turned (λb o J e=>a b o (by exists J) e) r l q j T
  refine⟨_,rfl,YN (s:={s with heap:=g,toks:=y}) (n:="range_iterator") D rfl rfl (by decide) ⟨.int ((n:Int)-1-i),H,I1,⟨t,?_⟩,⟨rfl,rfl⟩,D,λb J=>(hf b J).1⟩⟩
  rw[show(n:Int)-1+(i:Int)*(-1)=(n:Int)-1-i by lia]
 done:=by
  intro X C R L Z i G s O H E I hf Q c;subst C R L;obtain⟨r,l,u,q,j,T⟩:=hf it (by simp);exact wpAny_pyNext_range_end (I.ok.hd Z) Q (by have:n<=i:=c;lia) λg S=>⟨rfl,I.turned (t':=s.toks) (λb o J e=>S b o J e) r l q j T⟩
 self:=λ_ _ _ _ _ Q h=>wpAny_pyIter_rangeiter Q h
def iRev(v:L2.TA):TI:=λO H R=>v O H λW H1=>∃j:Int,W=[.int j]/\-(2^62)<=j/\j<2^62/\R (Itv j.toNat) H1
def pi_rev(n:Gl X "reversed")(K:X.mg "reversed"=none)(g:Gl X "range")(c:X.mg "range"=none)(P:L2.PA X [a] ta)(k:starEach [a] X.env=[(false,eval a X.env)]) :
  PI X tg (.Call (.Name "reversed" p) [.Call (.Name "range" p2) [a] [] pos2] [] pos) (iRev ta):=by
 intro G s O H R I h;refine PyProof.Rows.Call_ (J3 I n K PyProof.Rows.boot_reversed (PyProof.Rows.callWith_type1 ?_ rfl rfl));show wpAny _ _ (spliced ((false,eval (.Call (.Name "range" p2) [a] [] pos2) X.env)::backTo pos (starEach [] X.env))) _ _ s;refine Calls.spliced_cons (PyProof.Rows.Call_ (J3 I g c PyProof.Rows.boot_range (PyProof.Rows.callWith_type1 (thn (P pos2 G s O H _ I h) λD l L=>?_) k rfl)));obtain⟨W,H1,I1,T,j,e,i,S,q⟩:=L;subst e;cases T with
 |cons r x =>
  cases x;obtain⟨t,rfl⟩:=r;refine call_range_1 ?_;refine Calls.spliced_nil ?_;refine ZK (IsRange.new ..) i S ?_;have w:Builtin.Range.rangeSize 0 j 1=((j.toNat:Nat):Int):=by rw[rangeSize_one];split<;>lia
  have u:IsRangeIter ((l.heap.push {cls:=.type "range",data:=.fields #[.int 0 l.toks,.int j t,.int 1 (l.toks+1)]}).push (zBZ j)) (l.heap.push {cls:=.type "range",data:=.fields #[.int 0 l.toks,.int j t,.int 1 (l.toks+1)]}).objs.size (((j.toNat:Nat):Int)-1+((0:Nat):Int)*(-1)) (((j.toNat:Nat):Int)-((0:Nat):Int)) (-1):=by
   rw[show((j.toNat:Nat):Int)-1+((0:Nat):Int)*(-1)=0+(Builtin.Range.rangeSize 0 j 1-1)*1 by rw[w];lia,show((j.toNat:Nat):Int)-((0:Nat):Int)=Builtin.Range.rangeSize 0 j 1 by rw[w];lia];exact get?_push_size _ rfl
  have I2:Inv X G O H1 {l with heap:=(l.heap.push {cls:=.type "range",data:=.fields #[.int 0 l.toks,.int j t,.int 1 (l.toks+1)]}).push (zBZ j),toks:=l.toks+1+1}:=I1.kept λb o e=>qA _ (qA _ e)
  refine wpAny_pyIter_rangeiter u ⟨_,[_],_,_,H1,rfl,I2,zFr _ j.toNat,u,λb J=>?_,q⟩;have e:b=(l.heap.push {cls:=.type "range",data:=.fields #[.int 0 l.toks,.int j t,.int 1 (l.toks+1)]}).objs.size:=by exists J
  subst e;have I3:Inv X G O H1 {l with heap:=l.heap.push {cls:=.type "range",data:=.fields #[.int 0 l.toks,.int j t,.int 1 (l.toks+1)]},toks:=l.toks+1+1}:=I1.kept λb o e=>qA _ e
  exact I3.fpOk (le_refl _) (I3.hok.fresh (le_refl _))
section
variable{X:Cx}{K:qH}{mg:Str->Lx Lv}
def yu(n:Nat):Ls D:=(List.range n).map λi=>.int ((n:Int)-1-(i:Nat))
def it_rev:ItOk K mg (Itv n) (yu n) (λ_=>True) where
 mono:=λ_ _ _ _=>trivial
 go:=λi _ _ _ _ h=>show i<n by simpa[yu]using h
 yld:=λi Hh H x H' _ _ h y=>by
  obtain⟨rfl,rfl⟩:=y;have h:i<n:=by simpa[yu]using h
  refine⟨.int ((n:Int)-1-(i:Nat)),by simp[yu,h],.inl ⟨rfl,?_⟩⟩;dsimp[Rep]
 stop:=λi _ _ _ _ h=>show n<=i by simpa[yu]using h
def iRv(m:MA):MI:=λE=>match m E with
 | .z=>.z| .y x E1=>.y x E1
 | .ok ([r],E1)=>match r.d with
  | .int j=>if -(2^62)<=j/\j<2^62 then .ok (yu j.toNat,E1)else .z|_=>.z
 |_=>.z
def io_rv(e:Gl X "reversed")(K:X.mg "reversed"=none)(g:Gl X "range")(c:X.mg "range"=none)(P:AOk X [a] m)(u:zU a=false):IOk X tg (.Call (.Name "reversed" p) [.Call (.Name "range" p2) [a] [] pos2] [] cpos) (iRv m):=WZ (pi_rev e K g c P (Qa u)) λO H R h=>by
 obtain⟨M,E,hl,fr,k⟩:=h;unfold iRv at k;refine JN (T0:=[]) hl fr ?_;exists ea,m E,k,rs,E1
 match rs,k with
 | [r],k =>
  intro W H1 hv I;have q:=Got.reps hv I;dsimp at k;cases o:r.d with
  |int j =>
   rw[o]at k;dsimp[List.map,o]at q;obtain⟨v,rfl,L⟩:=YQ q;dsimp at k;by_cases Z:-(2^62)<=j/\j<2^62
   ·rw[if_pos Z]at k
    exact⟨j,by rw[zJ L],Z.1,Z.2,k _ _ H1 it_rev trivial I.dropAll⟩
   ·rw[if_neg Z]at k;exact k.elim
  |_=>rw[o]at k;exact k.elim
 | [],k=>exact k.elim|_::_::_,k=>exact k.elim
end
end DV
namespace DV
open PySem PySem.SetTable
def zEb(l:Ls Nat):Prop:=l.Pairwise (·<·)
theorem uV(xs:Array Nat)(j:Nat)(S:zEb xs.toList):∀(g z hi:Nat),hi-z<=g->z<=hi->hi<=xs.size->(∀k (h:k<xs.size),k<z->xs[k]<j)->(∀k (h:k<xs.size),hi<=k->j<=xs[k]) ->
  below.go xs j g z hi<=xs.size/\(∀k (h:k<xs.size),k<below.go xs j g z hi->xs[k]<j)/\∀k (h:k<xs.size),below.go xs j g z hi<=k->j<=xs[k]
 |0,z,hi,L,h2,M,h4,h5=>by
  have e:z=hi:=by lia
  subst e;exact⟨M,h4,h5⟩
 |g+1,z,hi,L,h2,M,h4,h5=>by
  unfold below.go;have G:∀a b (P:a<xs.size) (J:b<xs.size),a<=b->xs[a]<=xs[b]:=λa b P J c=>by
   rcases Nat.lt_or_eq_of_le c with hl|l
   ·have:=pairwise_iff_getElem.mp S a b (by exists P) (by exists J) hl
    simp at this;lia
   ·subst l;exact le_refl _
  by_cases hl:z<hi
  ·rw[if_pos hl]
   have K:(z+hi)/2<xs.size:=by lia
   have Y:xs.getD ((z+hi)/2) j=xs[(z+hi)/2]:=by simp[Array.getD,K]
   dsimp;rw[Y];by_cases V:xs[(z+hi)/2]<j
   ·rw[if_pos V]
    exact uV xs j S g _ _ (by lia) (by lia) M (λk C i=>lt_of_le_of_lt (G k _ C K (by lia)) V) h5
   ·rw[if_neg V]
    exact uV xs j S g _ _ (by lia) (by lia) (by lia) h4 (λk C E=>le_trans (not_lt.mp V) (G _ k K C E))
  ·rw[if_neg hl]
   have e:z=hi:=by lia
   subst e;exact⟨M,h4,h5⟩
def zAi(xs:Array Nat)(j:Nat)(S:zEb xs.toList):below xs j<=xs.size/\(∀k (h:k<xs.size),k<below xs j->xs[k]<j)/\∀k (h:k<xs.size),below xs j<=k->j<=xs[k] :=
 uV xs j S xs.size 0 xs.size (by lia) (by lia) (le_refl _) (λk _ h=>by lia) (λk h g=>by lia)
def Yx{α:Type}(xs:Array α)(p:Nat)(x:α):(insertAt xs p x).toList=xs.toList.take p++x::xs.toList.drop p:=by
 unfold insertAt;simp[Array.toList_append,Array.toList_extract,List.extract_eq_drop_take,List.take_of_length_le]
def zFs(xs:Array Nat)(j:Nat)(S:zEb xs.toList)(T:j∉xs.toList):zEb (insertAt xs (below xs j) j).toList:=by
 obtain⟨L,h2,M⟩:=zAi xs j S;rw[Yx];unfold zEb at *;have u:∀a∈xs.toList.take (below xs j),a<j:=λa P=>by
  obtain⟨i,W,e⟩:=getElem_of_mem P;simp at W e;rw[<- e];exact h2 i (by lia) (by lia)
 have c:∀a∈xs.toList.drop (below xs j),j<a:=λa P=>by
  have K:a∈xs.toList:=List.mem_of_mem_drop P;obtain⟨i,W,e⟩:=getElem_of_mem P;simp at W e;have:=M (below xs j+i) (by lia) (by lia);rw[e]at this;rcases Nat.lt_or_eq_of_le this with h|h
  ·exact h
  ·exact absurd (h▸K) T
 rw[List.pairwise_append];refine⟨S.sublist (List.take_sublist _ _),?_,?_⟩
 ·rw[List.pairwise_cons]
  exact⟨c,S.sublist (List.drop_sublist _ _)⟩
 ·intro a P b J
  rcases mem_cons.mp J with rfl|J
  ·exact u a P
  ·exact lt_trans (u a P) (c b J)
def zDK{α:Type}(xs:Array α)(p:Nat)(x y:α):y∈(insertAt xs p x).toList↔y=x\/y∈xs.toList:=by
 rw[Yx]
 conv=>rhs;rw[<- List.take_append_drop p xs.toList]
 dsimp[mem_append,mem_cons];constructor
 ·rintro (h|h|h)
  ·exact .inr (.inl h)
  ·exact .inl h
  ·exact .inr (.inr h)
 ·rintro (h|h|h)
  ·exact .inr (.inl h)
  ·exact .inl h
  ·exact .inr (.inr h)
def zBa{t:SetTable}{j:Nat}(T:j∉t.place.toList)(a:t.dummies=#[]):t.slot j=.empty:=by
 have L:(t.place[below t.place j]?==some j)=false:=by
  rw[Bool.eq_false_iff];intro h;exact T (by exists Array.mem_of_getElem? (eq_of_beq h))
 unfold slot;dsimp;rw[L,a];rfl
def own(S:Ls Nat)(j:Nat):Lx Nat:=if j∈S then some (S.idxOf j)else none
def fm_eq(p:Nat->Bool)(g:Nat->Nat)(f:Nat->Lx Nat)(l:Ls Nat):(∀j∈l,f j=if p j=true then some (g j)else none)->l.filterMap (λj=>(f j).map (j,·))=(l.filter p).map λj=>(j,g j):=by
 induction l with
 |nil=>exact λ_=>rfl
 |cons a l I =>
  intro h;have i:=I λj T=>h j (qD _ T)
  have P:=h a qE;rw[filterMap_cons,filter_cons,P];cases G:p a
  ·exists i
  ·dsimp[if_true,Option.map_some,map_cons];rw[i]
def Yy{α:Type}(xs:Array α)(p:Nat)(x:α):(insertAt xs p x).size=xs.size+1:=by
 rw[<- Array.length_toList,Yx];have:=congrArg length (List.take_append_drop p xs.toList);dsimp[length_append,length_cons,Array.length_toList]at this ⊢;lia
def zDL(S:Ls Nat)(nd:S.Nodup):S.map (λj=>S.idxOf j)=List.range S.length:=by
 apply List.ext_getElem
 ·simp
 ·intro i L h2
  dsimp[getElem_map,List.getElem_range];exact nd.idxOf_getElem i (by exists L)
def Ik(g h:Nat):Nat->Nat
 |0=>h%(g+1)|k+1=>(Ik g h k*5+1+h/32^k/32)%(g+1)
def Blk(g h k:Nat):Probe:=⟨Ik g h k,runEnd g (Ik g h k)-Ik g h k,Ik g h k,h/32^k,none⟩
def more_le(g i:Nat):runEnd g i-i<=9:=by unfold runEnd;split<;>lia
def zGz{mask i:Nat}(h:i<=mask):i+(runEnd mask i-i)<=mask:=by unfold runEnd;split<;>lia
def zDM(g h:Nat):∀k,Ik g h k<=g
 |0=>Nat.le_of_lt_succ (mod_lt _ (succ_pos _))|k+1=>Nat.le_of_lt_succ (mod_lt _ (succ_pos _))
def jO(t:SetTable)(p:Probe):Nat->Probe
 |0=>p|n+1=>t.advance (jO t p n)
theorem wa(t:SetTable)(p:Probe)(a:Nat):∀b,jO t p (a+b)=jO t (jO t p a) b
 |0=>rfl|b+1=>congrArg t.advance (wa t p a b)
theorem zDN(t:SetTable){p:Probe}:∀n,n<=p.more->jO t p n=⟨p.j+n,p.more-n,p.i,p.perturb,p.dummy⟩
 |0,_=>rfl
 |n+1,h=>by
  show t.advance (jO t p n)=_
  rw[zDN t n (by lia)];unfold advance;rw[if_pos (show p.more-n > 0 by lia)];show Probe.mk (p.j+n+1) (p.more-n-1) _ _ _=_;rw[Nat.sub_sub];rfl
def zFt(t:SetTable){h k:Nat}:jO t (Blk t.mask h k) (runEnd t.mask (Ik t.mask h k)-Ik t.mask h k+1)=Blk t.mask h (k+1):=by
 show t.advance (jO t (Blk t.mask h k) (Blk t.mask h k).more)=_
 rw[zDN t (p:=Blk t.mask h k) _ (le_refl _)];unfold advance;rw[if_neg (by show ¬(_-_ > 0);simp[Blk])];have e:h/32^(k+1)=h/32^k/32:=by rw[pow_succ,Nat.div_div_eq_div_mul]
 show Probe.mk (Ik t.mask h (k+1)) (runEnd t.mask (Ik t.mask h (k+1))-Ik t.mask h (k+1)) (Ik t.mask h (k+1)) (h/32^k/32) none=_
 unfold Blk;rw[e]
def Sk(g h:Nat):Nat->Nat
 |0=>0|k+1=>Sk g h k+(runEnd g (Ik g h k)-Ik g h k+1)
theorem Sk_le(g h:Nat):∀k,Sk g h k<=10*k
 |0=>le_refl _|k+1=>by have:=Sk_le g h k;have:=more_le g (Ik g h k);dsimp[Sk];lia
theorem Gq(t:SetTable)(h:Nat):∀k,jO t (Blk t.mask h 0) (Sk t.mask h k)=Blk t.mask h k
 |0=>rfl|k+1=>by rw[Sk,wa,Gq t h k,zFt]
def lcg(m i:Nat):Nat->Nat
 |0=>i|k+1=>(lcg m i k*5+1)%m
theorem zAj{g h:Nat}(J:h<2^64):∀k,Ik g h (13+k)=lcg (g+1) (Ik g h 13) k
 |0=>rfl
 |k+1=>by
  have e:h/32^(13+k)/32=0:=by
   rw[Nat.div_div_eq_div_mul,<- pow_succ];refine Nat.div_eq_of_lt (lt_of_lt_of_le J ?_);rw[show(32:Nat)=2^5 from rfl,<- Nat.pow_mul];exact Nat.pow_le_pow_right (by lia) (by lia)
  show(Ik g h (13+k)*5+1+h/32^(13+k)/32)%(g+1)=_
  rw[e,zAj J k];rfl
def lcg8:∀i,i<8->∀e,e<8->∃k,k<8/\lcg 8 i k=e:=by left
def lcg32:((List.range 32).all λi=>(List.range 32).all λe=>(List.range 32).any λk=>lcg 32 i k==e)=true:=by left
abbrev M8(g:Nat):Prop:=g=7\/g=31
def Qm{g:Nat}(K:M8 g){i e:Nat}(W:i<=g)(M:e<=g):∃k,k<=g/\lcg (g+1) i k=e:=by
 rcases K with rfl|rfl
 ·obtain⟨k,L,h2⟩:=lcg8 i (by lia) e (by lia)
  exact⟨k,by lia,h2⟩
 ·have:=all_eq_true.mp (all_eq_true.mp lcg32 i (by simp;lia)) e (by simp;lia)
  obtain⟨k,L,h2⟩:=List.any_eq_true.mp this;exact⟨k,by simp at L;lia,by exists h2⟩
def Qn(h:Int):bits h<2^64:=by unfold bits;lia
def blk0(t:SetTable)(h:Int):t.probeStart h=Blk t.mask (bits h) 0:=by
 unfold probeStart Blk Ik;simp
def meets(t:SetTable)(K:M8 t.mask)(h:Int){e:Nat}(M:e<=t.mask):∃n,n<=10*(13+t.mask)/\(jO t (t.probeStart h) n).j=e:=by
 obtain⟨k,L,h2⟩:=Qm K (zDM t.mask (bits h) 13) M;refine⟨Sk t.mask (bits h) (13+k),le_trans (Sk_le _ _ _) (by lia),?_⟩;rw[blk0,Gq];show Ik t.mask (bits h) (13+k)=e;rw[zAj (Qn h),h2]
theorem uW(t:SetTable)(h:Int):∀n,(jO t (t.probeStart h) n).j+(jO t (t.probeStart h) n).more<=t.mask/\(jO t (t.probeStart h) n).dummy=none
 |0=>by
  rw[jO,blk0];exact⟨zGz (zDM _ _ 0),rfl⟩
 |n+1=>by
  obtain⟨L,h2⟩:=uW t h n;show(t.advance _).j+(t.advance _).more<=_/\(t.advance _).dummy=none;unfold advance;split
  ·exact⟨by show _+1+(_-1)<=_;lia,h2⟩
  ·exact⟨zGz (Nat.le_of_lt_succ (mod_lt _ (succ_pos _))),h2⟩
theorem Yz(p:Nat->Prop):∀n,p n->∃k,k<=n/\p k/\∀j,j<k->¬p j
 |0,h=>⟨0,le_refl _,h,λj T=>absurd T (Nat.not_lt_zero _)⟩
 |n+1,h=>by
  by_cases q:∃k,k<=n/\p k
  ·obtain⟨k,C,g⟩:=q
   obtain⟨i,L,h2,M⟩:=Yz p k g;exact⟨i,by lia,h2,M⟩
  ·exact⟨n+1,le_refl _,h,λj T pj=>q ⟨j,by lia,pj⟩⟩
termination_by n=>n
decreasing_by lia
structure Tb(t:SetTable):Prop where
 m:M8 t.mask
 rise:zEb t.place.toList
 nod:t.dummies=#[]
 low:∀j∈t.place.toList,j<=t.mask
 room:t.place.size<=t.mask
def pj(t:SetTable)(h:Int)(n:Nat):Nat:=(jO t (t.probeStart h) n).j
theorem uX{α:Type}[DecidableEq α]:∀(a b:Ls α),a.Nodup->(∀x∈a,x∈b)->a.length<=b.length
 | [],b,_,_=>zero_le _
 |x::a,b,D,S=>by
  obtain⟨C,z⟩:=nodup_cons.mp D;have V:=S x qE;have:=uX a (b.erase x) z λy O=>(List.mem_erase_of_ne (λe=>C (by rw[<- e];exact O))).mpr (S y (qD _ O))
  rw[List.length_erase_of_mem V]at this;have:=List.length_pos_of_mem V;dsimp[length_cons];lia
def hole{l:Ls Nat}(nd:l.Nodup){m:Nat}(h:l.length<=m):∃e,e<=m/\e∉l:=by
 refine Classical.byContradiction λq=>?_
 have:=uX (List.range (m+1)) l List.nodup_range λe M=>Classical.byContradiction λz=>q ⟨e,by have:=mem_range.mp M;lia,z⟩
 rw[length_range]at this;lia
structure Endz(t:SetTable)(h:Int)(N:Nat):Prop where
 few:N<=10*(13+t.mask)
 free:pj t h N∉t.place.toList
 taken:∀n,n<N->pj t h n∈t.place.toList
def Tb.ends{t:SetTable}(b:Tb t)(h:Int):∃N,Endz t h N:=by
 obtain⟨e,M,D⟩:=hole (b.rise.imp λh=>ne_of_lt h) (by rw[Array.length_toList];exact b.room);obtain⟨n,L,h2⟩:=meets t b.m h M;obtain⟨N,j,S,R⟩:=Yz (λn=>pj t h n∉t.place.toList) n (by show(jO t _ n).j∉_;rw[h2];exact D);exact⟨N,by lia,S,λn D=>Classical.byContradiction λz=>R n D z⟩
def zDO{t:SetTable}(p:zEb t.place.toList){j:Nat}(T:j∈t.place.toList):∃i,t.slot j=.live i/\t.place[i]?=some j:=by
 obtain⟨L,h2,M⟩:=zAi t.place j p;obtain⟨i,W,e⟩:=getElem_of_mem T;simp at W e;have C:below t.place j<t.place.size:=by
  rcases Nat.lt_or_ge (below t.place j) t.place.size with q|q
  ·exact q
  ·have:=h2 i W (by lia);lia
 have w:t.place[below t.place j]=j:=by
  have a:=M _ C (le_refl _);rcases Nat.lt_or_ge i (below t.place j)with q|q
  ·have:=h2 i W q;lia
  ·rcases Nat.lt_or_eq_of_le q with q|q
   ·have:=pairwise_iff_getElem.mp p (below t.place j) i (by exists C) (by exists W) q
    simp at this;lia
   ·have g:∀(x:Nat) (V:x<t.place.size),x=i->t.place[x]=j:=λx V q=>by subst q;exact e
    exact g _ C q
 have l:t.place[below t.place j]?=some j:=by rw[Array.getElem?_eq_getElem C,w]
 refine⟨below t.place j,?_,l⟩;unfold slot;dsimp[l,beq_self_eq_true,if_true]
theorem go_to{t:SetTable}{hashAt:Nat->Int}{h:Int}:∀(n g:Nat) (p:Probe),n<g->(∀m,m<n->∃i,t.slot (jO t p m).j=.live i/\hashAt i≠h)->probe.go t hashAt h g p=probe.go t hashAt h (g-n) (jO t p n)
 |0,g,p,_,_=>rfl
 |n+1,g+1,p,hf,S=>by
  obtain⟨i,R,w⟩:=S 0 (succ_pos _);rw[probe.go,show t.slot p.j=.live i from R];dsimp;rw[if_neg (by exists w),go_to n g (t.advance p) (by lia) λm K=>by
   have:=S (m+1) (by lia);rw[show m+1=1+m by lia,wa]at this;exact this,show g+1-(n+1)=g-n by lia,show n+1=1+n by lia,wa]
  rfl
def go_free{t:SetTable}{hashAt:Nat->Int}{h:Int}{g:Nat}{p:Probe}(a:0<g)(e:t.slot p.j=.empty):probe.go t hashAt h g p=some (.empty p.j p.dummy):=by
 obtain⟨f,rfl⟩:∃f,g=f+1:=⟨g-1,by lia⟩;rw[probe.go,e]
def go_hit{t:SetTable}{hashAt:Nat->Int}{h:Int}{g:Nat}{p:Probe}{i:Nat}(a:0<g)(e:t.slot p.j=.live i)(r:hashAt i=h):probe.go t hashAt h g p=some (.candidate p.j i (t.advance p)):=by
 obtain⟨f,rfl⟩:∃f,g=f+1:=⟨g-1,by lia⟩;rw[probe.go,e];dsimp;rw[if_pos (by exists r)]
def zFu{t:SetTable}(b:Tb t){hashAt:Nat->Int}{h:Int}{N:Nat}(E:Endz t h N){n:Nat}(D:n<=N) :
  (t.probe hashAt h (jO t (t.probeStart h) n)=some (.empty (pj t h N) none)/\∀m,n<=m->m<N->∀i,t.place[i]?=some (pj t h m)->hashAt i≠h) \/
  ∃m i,n<=m/\m<N/\t.slot (pj t h m)=.live i/\t.place[i]?=some (pj t h m)/\hashAt i=h/\t.probe hashAt h (jO t (t.probeStart h) n)=some (.candidate (pj t h m) i (jO t (t.probeStart h) (m+1))) /\
   ∀k,n<=k->k<m->∀i,t.place[i]?=some (pj t h k)->hashAt i≠h:=by
 have g:∀m,m<N->∃i,t.slot (pj t h m)=.live i/\t.place[i]?=some (pj t h m):=λm K=>zDO b.rise (E.taken m K)
 have p:∀i j x,t.place[i]?=some x->t.place[j]?=some x->i=j:=λi j x L h2=>by
  obtain⟨W,R⟩:=Array.getElem?_eq_some_iff.mp L;obtain⟨P,w⟩:=Array.getElem?_eq_some_iff.mp h2;rcases Nat.lt_trichotomy i j with q|q|q
  ·have:=pairwise_iff_getElem.mp b.rise i j (by exists W) (by exists P) q
   simp at this;lia
  ·exact q
  ·have:=pairwise_iff_getElem.mp b.rise j i (by exists P) (by exists W) q
   simp at this;lia
 have O:N<10*turns t.mask:=by have:=E.few;unfold turns;lia
 let a:Nat->Prop:=λm=>n<=m/\m<N/\∃i,t.place[i]?=some (pj t h m)/\hashAt i=h
 have o:∀m,jO t (jO t (t.probeStart h) n) m=jO t (t.probeStart h) (n+m):=λm=>(wa t _ n m).symm
 by_cases c:∃m,a m
 ·obtain⟨v,c⟩:=c
  obtain⟨m,_,⟨L,h2,i,M,h4⟩,z⟩:=Yz a v c;obtain⟨H,l,Y⟩:=g m h2;cases p H i _ Y M;have e:∀k,n<=k->k<m->∀i,t.place[i]?=some (pj t h k)->hashAt i≠h:=λk u r i y S=>z k r ⟨u,by lia,i,y,S⟩
  refine .inr ⟨m,_,L,h2,l,M,h4,?_,e⟩;unfold probe;rw[go_to (m-n) _ _ (by lia) λk C=>by
   rw[o];obtain⟨i,l,Y⟩:=g (n+k) (by lia);exact⟨i,l,e (n+k) (by lia) (by lia) i Y⟩,o,show n+(m-n)=m by lia]
  exact go_hit (by lia) l h4
 ·have e:∀m,n<=m->m<N->∀i,t.place[i]?=some (pj t h m)->hashAt i≠h:=λm L h2 i y S=>c ⟨m,L,h2,i,y,S⟩
  refine .inl ⟨?_,e⟩;unfold probe;rw[go_to (N-n) _ _ (by lia) λk C=>by
   rw[o];obtain⟨i,l,Y⟩:=g (n+k) (by lia);exact⟨i,l,e (n+k) (by lia) (by lia) i Y⟩,o,show n+(N-n)=N by lia]
  rw[go_free (by lia) (zBa E.free b.nod),(uW t h N).2];rfl
def zDP{t:SetTable}(b:Tb t){h:Int}{N:Nat}(E:Endz t h N):t.freeSlot h=some (pj t h N,false):=by
 unfold freeSlot;rcases zFu b (hashAt:=λ_=>h+1) E (zero_le _)with⟨e,_⟩|⟨m,i,_,_,_,_,q,_⟩
 ·rw[show t.probe (λ_=>h+1) h (t.probeStart h)=_ from e];rfl
 ·exact absurd q (by lia)
def pj_le(t:SetTable)(h:Int)(n:Nat):pj t h n<=t.mask:=by have:=(uW t h n).1;unfold pj;lia
def Qo(g h k:Nat):Sk g h (k+1)=Sk g h k+(runEnd g (Ik g h k)-Ik g h k+1):=rfl
def zDQ(t:SetTable)(h:Int)(k d:Nat)(j:d<=runEnd t.mask (Ik t.mask (bits h) k)-Ik t.mask (bits h) k):pj t h (Sk t.mask (bits h) k+d)=Ik t.mask (bits h) k+d:=by
 unfold pj;rw[blk0,wa,Gq,zDN t (p:=Blk t.mask (bits h) k) d j];rfl
def zFv(g h k:Nat):leap g (Ik g h k) (h/32^k)=(Ik g h (k+1),h/32^(k+1)):=by
 have e:h/32^(k+1)=h/32^k/32:=by rw[pow_succ,Nat.div_div_eq_div_mul]
 rw[e];rfl
theorem zDR(t:SetTable)(h:Int)(l:Array (Lx Nat))(N:Nat)(S:l.size=t.mask+1)(a:l[pj t h N]?=some none)(V:∀n,n<N->∃o,l[pj t h n]?=some (some o)) :
  ∀(g k:Nat),Sk t.mask (bits h) k<=N->N<Sk t.mask (bits h) (k+g)->layClean.free t.mask l g (Ik t.mask (bits h) k) (bits h/32^k)=some (pj t h N)
 |0,k,L,h2=>by rw[Nat.add_zero]at h2;lia
 |g+1,k,L,h2=>by
  unfold layClean.free;have E:=zDM t.mask (bits h) k;have R:Ik t.mask (bits h) k<=runEnd t.mask (Ik t.mask (bits h) k):=by unfold runEnd;split<;>lia
  by_cases c:N<Sk t.mask (bits h) (k+1)
  ·rw[Qo]at c
   obtain⟨d,rfl⟩:∃d,N=Sk t.mask (bits h) k+d:=⟨N-Sk t.mask (bits h) k,by lia⟩;have p:=zDQ t h k d (by lia);have e:(List.range (runEnd t.mask (Ik t.mask (bits h) k)+1-Ik t.mask (bits h) k)).find? (λj=>(l.getD (Ik t.mask (bits h) k+j) (some 0)).isNone)=some d:=by
    rw[List.find?_range_eq_some];refine⟨?_,by simp;lia,λj T=>?_⟩
    ·rw[<- p,Array.getD_eq_getD_getElem?,a];rfl
    ·obtain⟨o,q⟩:=V (Sk t.mask (bits h) k+j) (by lia)
     rw[zDQ t h k j (by lia)]at q;rw[Array.getD_eq_getD_getElem?,q];rfl
   rw[e,p]
  ·have e:(List.range (runEnd t.mask (Ik t.mask (bits h) k)+1-Ik t.mask (bits h) k)).find? (λj=>(l.getD (Ik t.mask (bits h) k+j) (some 0)).isNone)=none:=by
    rw[List.find?_range_eq_none];intro j T;rw[Qo]at c;obtain⟨o,q⟩:=V (Sk t.mask (bits h) k+j) (by lia);rw[zDQ t h k j (by lia)]at q;rw[Array.getD_eq_getD_getElem?,q];rfl
   rw[e];dsimp;rw[zFv];exact zDR t h l N S a V g (k+1) (by lia) (by rw[show k+1+g=k+(g+1)by lia];exact h2)
def Rch(g:Nat)(k:Ls Nat)(h:Int)(j:Nat):Prop:=∃n,n<Sk g (bits h) (turns g)/\(∀t:SetTable,t.mask=g->pj t h n=j)/\∀m,m<n->∀t:SetTable,t.mask=g->pj t h m∈k
theorem vf{t t':SetTable}(e:t.mask=t'.mask)(h:Int):∀n,jO t (t.probeStart h) n=jO t' (t'.probeStart h) n
 |0=>by dsimp[jO,probeStart,e]
 |n+1=>by
  show t.advance _=t'.advance _
  rw[vf e h n];dsimp[advance,e]
def zDS{t t':SetTable}(e:t.mask=t'.mask)(h:Int)(n:Nat):pj t h n=pj t' h n:=by unfold pj;rw[vf e]
def Rch.of{t:SetTable}{h:Int}{j n:Nat}{k:Ls Nat}(D:n<Sk t.mask (bits h) (turns t.mask))(e:pj t h n=j)(q:∀m,m<n->pj t h m∈k):Rch t.mask k h j :=
 ⟨n,D,λo y=>by rw[zDS y,e],λm K o y=>by rw[zDS y];exact q m K⟩
def Rch.mono{g:Nat}{a b:Ls Nat}{h:Int}{j:Nat}(s:∀x∈a,x∈b):Rch g a h j->Rch g b h j:=λ⟨n,J,L,h2⟩=>⟨n,J,L,λm K t e=>s _ (h2 m K t e)⟩
def zDT(g h:Nat){a b:Nat}(c:a<b):Sk g h a<Sk g h b:=by
 induction b with
 |zero=>lia
 |succ b I =>
  rw[Qo];rcases Nat.lt_or_eq_of_le (Nat.le_of_lt_succ c)with q|q
  ·have:=I q;lia
  ·subst q;lia
structure Ene(t:SetTable)(h:Int)(N:Nat):Prop extends Endz t h N where
 near:N<Sk t.mask (bits h) (turns t.mask)
def Tb.ene{t:SetTable}(b:Tb t)(h:Int):∃N,Ene t h N:=by
 obtain⟨e,M,D⟩:=hole (b.rise.imp λh=>ne_of_lt h) (by rw[Array.length_toList];exact b.room);obtain⟨k,L,h2⟩:=Qm b.m (zDM t.mask (bits h) 13) M;have T:pj t h (Sk t.mask (bits h) (13+k))=e:=by
  unfold pj;rw[blk0,Gq];show Ik t.mask (bits h) (13+k)=e;rw[zAj (Qn h),h2]
 obtain⟨N,j,S,R⟩:=Yz (λn=>pj t h n∉t.place.toList) (Sk t.mask (bits h) (13+k)) (by rw[T];exact D);refine⟨N,⟨le_trans j (le_trans (Sk_le _ _ _) (by lia)),S,λn D=>Classical.byContradiction λz=>R n D z⟩,lt_of_le_of_lt j (zDT _ _ (by unfold turns;lia))⟩
structure SetT(led:Bool)(es:Li)(t:SetTable):Prop where
 m:M8 t.mask
 rise:zEb t.place.toList
 nod:t.dummies=#[]
 low:∀j∈t.place.toList,j<=t.mask
 sz:t.place.size=es.size
 led:t.led=led
 plain:t.plain=true
 few:t.tooFull=false
 reach:∀q∈List.zip t.place.toList es.toList,Rch t.mask t.place.toList q.2.1 q.1
theorem SetT.fill{led:Bool}{es:Li}{t:SetTable}(g:SetT led es t):t.place.size*5<t.mask*3:=by
 have:=g.few;unfold tooFull SetTable.fill at this;rw[g.nod]at this;exists this
def SetT.tb{led:Bool}{es:Li}{t:SetTable}(g:SetT led es t):Tb t:=⟨g.m,g.rise,g.nod,g.low,by have:=g.fill;lia⟩
theorem SetT.fits{led:Bool}{es:Li}{t:SetTable}(g:SetT led es t):t.fits es.size=true:=by
 have:=g.fill;dsimp[SetTable.fits,SetTable.fill,g.nod,g.sz,beq_self_eq_true,Bool.true_and,decide_eq_true_eq];have:=g.sz;simp;lia
def zip_ins{α β:Type}(a:Array α)(b:Array β)(e:a.size=b.size)(p:Nat)(x:α)(y:β):∀q∈List.zip (insertAt a p x).toList (insertAt b p y).toList,q=(x,y)\/q∈List.zip a.toList b.toList:=by
 intro q P;rw[Yx,Yx,zip_append (by simp[e]),zip_cons_cons]at P;rcases mem_append.mp P with h|h
 ·refine .inr ?_
  rw[List.zip_eq_zipWith,<- List.take_zipWith]at h;exact List.mem_of_mem_take h
 ·rcases mem_cons.mp h with h|h
  ·exact .inl h
  ·refine .inr ?_
   rw[List.zip_eq_zipWith,<- List.drop_zipWith]at h;exact List.mem_of_mem_drop h
theorem SetT.put{led:Bool}{es:Li}{t:SetTable}(g:SetT led es t){h:Int}{N:Nat}(E:Ene t h N)(x:Lv) :
  t.put (pj t h N)=({t with place:=insertAt t.place (below t.place (pj t h N)) (pj t h N)},below t.place (pj t h N)) /\
  (({t with place:=insertAt t.place (below t.place (pj t h N)) (pj t h N)}:SetTable).tooFull=false->SetT led (insertAt es (below t.place (pj t h N)) (h,x)) {t with place:=insertAt t.place (below t.place (pj t h N)) (pj t h N)}):=by
 refine⟨?_,λhf=>?_⟩
 ·unfold SetTable.put
  have:has t.dummies (pj t h N)=false:=by rw[g.nod];rfl
  rw[this];rfl
 ·refine⟨g.m,zFs _ _ g.rise E.free,g.nod,λj T=>?_,by show(insertAt t.place _ _).size=_;rw[Yy,Yy,g.sz],g.led,g.plain,hf,λq P=>?_⟩
  ·rcases(zDK _ _ _ _).mp T with rfl|T
   ·exact pj_le t h N
   ·exact g.low j T
  ·have sub:∀y∈t.place.toList,y∈(insertAt t.place (below t.place (pj t h N)) (pj t h N)).toList:=λy O=>(zDK _ _ _ _).mpr (.inr O)
   rcases zip_ins _ _ g.sz _ _ _ q P with rfl|P
   ·exact(Rch.of (t:=t) E.near rfl E.taken).mono sub
   ·exact(g.reach q P).mono sub
def SetT.at{led:Bool}{es:Li}{t:SetTable}(g:SetT led es t){i:Nat}{e:Int×Lv}(M:es[i]?=some e):∃j,t.place[i]?=some j/\Rch t.mask t.place.toList e.1 j:=by
 obtain⟨W,R⟩:=Array.getElem?_eq_some_iff.mp M;have G:i<t.place.size:=by rw[g.sz];exact W
 refine⟨t.place[i],Array.getElem?_eq_getElem G,g.reach (t.place[i],e) ?_⟩;refine List.mem_iff_getElem?.mpr ⟨i,?_⟩;rw[List.getElem?_zip_eq_some];exact⟨by simp[G],by exists M⟩
def zBb(t:SetTable)(K:M8 t.mask)(h:Int){pl:Ls Nat}(nd:pl.Nodup)(r:pl.length<=t.mask):∃N,N<Sk t.mask (bits h) (turns t.mask)/\pj t h N∉pl/\∀n,n<N->pj t h n∈pl:=by
 obtain⟨e,M,D⟩:=hole nd r;obtain⟨k,L,h2⟩:=Qm K (zDM t.mask (bits h) 13) M;have T:pj t h (Sk t.mask (bits h) (13+k))=e:=by
  unfold pj;rw[blk0,Gq];show Ik t.mask (bits h) (13+k)=e;rw[zAj (Qn h),h2]
 obtain⟨N,j,S,R⟩:=Yz (λn=>pj t h n∉pl) (Sk t.mask (bits h) (13+k)) (by rw[T];exact D);exact⟨N,lt_of_le_of_lt j (zDT _ _ (by unfold turns;lia)),S,λn D=>Classical.byContradiction λz=>R n D z⟩
def T31:SetTable:=⟨31,#[],#[],0,true,0,true⟩
def lay_any(c:Ls Int):∀(g:Ls Int) (p:Ls Nat) (l:Array (Lx Nat)),(g++c).length<=31->p.length=g.length->p.Nodup->(∀j∈p,j<32)->l.size=32->(∀j,j<32->l[j]?=some (own p j))->(∀q∈List.zip p g,Rch 31 p q.2 q.1) ->
  ∃v o,c.foldl (init:=some (l,g.length)) (λu h=>do
   let (l,k) <- u
   let j <- layClean.free 31 l (SetTable.turns 31) (bits h%(31+1)) (bits h)
   pure (l.setIfInBounds j (some k),k+1))=some (v,(g++c).length)/\o.length=(g++c).length/\o.Nodup/\(∀j∈o,j<32)/\v.size=32/\(∀j,j<32->v[j]?=some (own o j))/\∀q∈List.zip o (g++c),Rch 31 o q.2 q.1:=by
 induction c with
 |nil=>intro g p l _ L h2 M h4 h5 G;exact⟨l,p,by simp,by simpa using L,h2,M,h4,h5,by exists G⟩
 |cons h c I =>
  intro g p l hl L h2 M h4 h5 G;obtain⟨N,C,z,y⟩:=zBb T31 (.inr rfl) h h2 (by simp at hl;show _<=31;lia);have E:∀n,pj T31 h n<32:=λn=>Nat.lt_succ_of_le (pj_le T31 h n)
  have H:layClean.free 31 l (SetTable.turns 31) (bits h%(31+1)) (bits h)=some (pj T31 h N):=by
   have:=zDR T31 h l N h4 (by rw[h5 _ (E N)];unfold own;rw[if_neg z]) (λn D=>by rw[h5 _ (E n)];unfold own;rw[if_pos (y n D)];exact⟨_,rfl⟩) (turns 31) 0 (zero_le _) (by rw[zero_add];exact C);rw[Nat.pow_zero,Nat.div_one]at this;exact this
  generalize R:pj T31 h N=j at *;have T:j<32:=by rw[<- R];exact E N
  have Z:=I (g++[h]) (p++[j]) (l.setIfInBounds j (some g.length)) (by exists hl) (by simp[L]) (nodup_append.mpr ⟨h2,by simp,λa O b J e=>by simp at J;subst J;subst e;exact z O⟩) (λi W=>by
    rcases mem_append.mp W with W|W
    ·exact M i W
    ·rw[mem_singleton]at W;subst W;exact T) (by exists h4) (λi W=>by
   rw[Array.getElem?_setIfInBounds];by_cases e:j=i
   ·subst e
    rw[if_pos rfl,if_pos (by lia)];unfold own;rw[if_pos (by simp),List.idxOf_append,if_neg z];simp[L]
   ·rw[if_neg e,h5 i W]
    unfold own;by_cases W:i∈p
    ·rw[if_pos W,if_pos (by simp[W]),List.idxOf_append,if_pos W]
    ·rw[if_neg W,if_neg (by simp[W];exact λh=>e h.symm)]) (λq P=>by
   rw[zip_append L]at P;rcases mem_append.mp P with P|P
   ·exact(G q P).mono λx V=>mem_append_left _ V
   ·simp at P
    subst P;exact(Rch.of (t:=T31) C R y).mono λx V=>mem_append_left _ V)
  obtain⟨v,o,K,r⟩:=Z;rw[append_assoc]at r;refine⟨v,o,?_,r⟩;rw[List.foldl_cons];show foldl _ (do let j <- layClean.free 31 l (SetTable.turns 31) (bits h%(31+1)) (bits h);pure (l.setIfInBounds j (some g.length),g.length+1)) _=_;rw[H];have e:(g++[h]).length=g.length+1:=by simp
  rw[e]at K;have w:(g++[h]++c).length=(g++h::c).length:=by simp
  rw[w]at K;exact K
def laidT(S:Ls Int)(c:S.length<=31)(f m:Nat)(led pn:Bool):∃p:Ls Nat,p.length=S.length/\p.Nodup/\(∀j∈p,j<32)/\(∀q∈List.zip p S,Rch 31 p q.2 q.1) /\
  laid 31 f m led pn S.toArray=some (⟨31,((List.range 32).filter λj=>p.contains j).toArray,#[],f,led,m,pn⟩,(((List.range 32).filter λj=>p.contains j).map λj=>p.idxOf j).toArray):=by
 obtain⟨o,p,u,r,n,W,g,h,I⟩:=lay_any S [] [] (Array.replicate 32 none) (by exists c) rfl (by simp) (by simp) (by simp) (λj T=>by simp[own,T]) (λq P=>by simp at P);refine⟨p,r,n,W,I,?_⟩;have R:layClean 31 S.toArray=some o:=by
  unfold layClean;rw[List.foldl_toArray];dsimp[length_nil]at u;rw[u];rfl
 have w:((List.range (31+1)).filterMap λj=>(o.getD j none).map (j,·))=((List.range 32).filter λj=>p.contains j).map λj=>(j,p.idxOf j):=by
  refine fm_eq _ _ _ _ λj T=>?_
  rw[Array.getD_eq_getD_getElem?,h j (by exists T)];dsimp[own,Option.getD_some,List.contains_iff_mem]
 unfold laid;rw[R];show some _=_;rw[w,map_map,map_map];congr 1;simp[Function.comp_def]
def zFw{α:Type}(es:Array α)(l:Ls Nat)(h:∀i∈l,i<es.size)(d:α):l.filterMap (es[·]?)=l.map λi=>es.getD i d:=by
 induction l with
 |nil=>rfl
 |cons a l I =>
  have P:=h a qE;rw[filterMap_cons,Array.getElem?_eq_getElem P,map_cons,I λi W=>h i (qD _ W)];simp[Array.getD,P]
def SetT.relay{led:Bool}{es:Li}{t:SetTable}(X:es.size=5)(z:t.mask=7)(c:t.led=led)(G:t.plain=true) :
  ∃o v I,t.relaid (es.map (·.1)) (grown 5)=some (v,I)/\I.filterMap (es[·]?)=o/\o.size=es.size/\SetT led o v/\o.toList.Perm es.toList/\coversAll I es.size=true:=by
 obtain⟨pls,u,r,n,J,g⟩:=laidT (es.toList.map (·.1)) (by simp;lia) t.finger (t.movedTo 31) t.led t.plain;generalize l:((List.range 32).filter λj=>pls.contains j)=p at g;replace u:pls.length=es.size:=by exists u
 have e:p.Perm pls:=by
  rw[<- l,List.perm_ext_iff_of_nodup (List.nodup_range.filter _) r];intro a;dsimp[mem_filter,mem_range,List.contains_iff_mem];exact⟨λh=>h.2,λh=>⟨n a h,h⟩⟩
 have Y:∀i∈p.map (λj=>pls.idxOf j),i<es.size:=λi W=>by
  obtain⟨j,T,rfl⟩:=mem_map.mp W;rw[<- u];exact List.idxOf_lt_length_iff.mpr (e.mem_iff.mp T)
 have k:=e.map λj=>pls.idxOf j
 rw[zDL pls r,u]at k;have y:((p.map λj=>pls.idxOf j).filterMap (es[·]?)).Perm es.toList:=by
  have h2:=k.filterMap (es[·]?);rw[filterMap_getElem?_range]at h2;exact h2
 have E:((p.map λj=>pls.idxOf j).filterMap (es[·]?)).length=es.size:=by rw[y.length_eq,Array.length_toList]
 refine⟨(p.map λj=>pls.idxOf j).toArray.filterMap (es[·]?),⟨31,p.toArray,#[],t.finger,t.led,t.movedTo 31,t.plain⟩,(p.map λj=>pls.idxOf j).toArray,?_,rfl,by rw[<- Array.length_toList,Array.toList_filterMap];exact E,⟨.inr rfl,?_,rfl,?_,?_,c,G,?_,?_⟩,by rw[Array.toList_filterMap];exact y,List.isPerm_iff.mpr k⟩
 ·unfold relaid
  rw[<- g];show laid (sizeAbove (grown 5)-1) _ (t.movedTo (sizeAbove (grown 5)-1)) _ _ _=_;rw[show sizeAbove (grown 5)-1=31 by left];congr 1;apply Array.toList_inj.mp;simp
 ·show zEb p
  rw[<- l];exact List.pairwise_lt_range.filter _
 ·intro j T
  have:=n j (e.mem_iff.mp T);show j<=31;lia
 ·show p.toArray.size=_
  rw[size_toArray,<- Array.length_toList,Array.toList_filterMap,E,e.length_eq,u]
 ·have:p.length=5:=by rw[e.length_eq,u,X]
  simp[tooFull,SetTable.fill,this]
 ·intro q P
  rw[Array.toList_filterMap]at P
  change q∈List.zip p ((p.map λj=>pls.idxOf j).filterMap (es[·]?))at P
  rw[zFw es _ Y (0,.none)]at P;obtain⟨i,W⟩:=List.mem_iff_getElem?.mp P;obtain⟨w,H⟩:=List.getElem?_zip_eq_some.mp W;rw[getElem?_map,getElem?_map,w]at H;have T:=e.mem_iff.mp (mem_of_getElem? w);have C:=List.idxOf_lt_length_iff.mpr T;have D:pls.idxOf q.1<es.size:=by lia
  refine(J (q.1,q.2.1) (List.mem_iff_getElem?.mpr ⟨pls.idxOf q.1,List.getElem?_zip_eq_some.mpr ⟨?_,?_⟩⟩)).mono λx V=>e.mem_iff.mpr V
  ·rw[getElem?_eq_getElem C,List.getElem_idxOf C]
  ·simp[Array.getD,D]at H
   rw[getElem?_map,Array.getElem?_toList,Array.getElem?_eq_getElem D,H];rfl
section
variable{led:Bool}{es:Li}{t:SetTable}
def SetT.fits1(g:SetT led es t)(j:Nat):({t with place:=insertAt t.place (below t.place j) j}:SetTable).fits (es.size+1)=true:=by
 have:=g.fill;have:=g.sz;dsimp[SetTable.fits,SetTable.fill,g.nod,Yy,Bool.and_eq_true,beq_iff_eq,decide_eq_true_eq,Array.size_empty];lia
def SetT.full(g:SetT led es t)(a:es.size<=16){j:Nat}(h:({t with place:=insertAt t.place (below t.place j) j}:SetTable).tooFull=true):t.mask=7/\es.size=4:=by
 have J:=g.fill;unfold tooFull SetTable.fill at h;dsimp[g.nod,Yy,g.sz]at h J;simp at h;rcases g.m with e|e<;>rw[e]at h J<;>lia
structure SetG(led:Bool)(es:Li)(t:SetTable):Prop extends SetT led es t where
 ent:∀e∈es.toList,∃(n:Nat) (k:Tok),n<16/\e=((n:Int),.int (n:Int) k)
 nd:(es.toList.map (·.1)).Nodup
def SetG.le16(g:SetG led es t):es.size<=16:=by
 have:=uX _ ((List.range 16).map λn:Nat=>(n:Int)) g.nd λx V=>by
  obtain⟨e,M,rfl⟩:=mem_map.mp V;obtain⟨n,k,D,rfl⟩:=g.ent e M;exact mem_map.mpr ⟨n,by simpa using D,rfl⟩
 exists this
def SetG.add(g:SetG led es t){n:Nat}(D:n<16)(k:Tok)(w:∀e∈es.toList,e.1≠(n:Int)) :
  ∃c H,layNew t es (n:Int) (.int (n:Int) k)=(c,H,false,false)/\H.plain=true/\H.fits c.size=true/\c.toList.Perm (es.toList++[((n:Int),.int (n:Int) k)]) /\
   ((H.tooFull=false/\SetG led c H)\/(H.tooFull=true/\∃o v,relayAll H c (grown c.size)=(o,v,false)/\SetG led o v/\o.toList.Perm c.toList)):=by
 obtain⟨N,E⟩:=g.tb.ene n;obtain⟨K,u⟩:=g.put E (.int (n:Int) k);have r:=g.fits1 (pj t n N);have O:=g.toSetT.full g.le16 (j:=pj t n N);have Q:=zDP g.tb E.toEndz;have y:=SetTable.insertAt_perm es (below t.place (pj t n N)) ((n:Int),Value.int (n:Int) k);rw[Array.toList_push]at y;have i:∀{l:Ls (Int×Lv)},l.Perm (es.toList++[((n:Int),Value.int (n:Int) k)])->(∀e∈l,∃(n:Nat) (k:Tok),n<16/\e=((n:Int),.int (n:Int) k))/\(l.map (·.1)).Nodup:=λp=>by
  refine⟨λe M=>?_,((p.map _).nodup_iff).mpr ?_⟩
  ·rcases mem_append.mp (p.mem_iff.mp M)with M|M
   ·exact g.ent e M
   ·rw[mem_singleton]at M;exact⟨n,k,D,M⟩
  ·rw[map_append,nodup_append]
   refine⟨g.nd,by simp,λa P b J=>?_⟩;simp at J;subst J;obtain⟨e,M,rfl⟩:=mem_map.mp P;exact w e M
 have S:=Yy es (below t.place (pj t n N)) ((n:Int),Value.int (n:Int) k);generalize G:insertAt es (below t.place (pj t n N)) ((n:Int),Value.int (n:Int) k)=c at *;refine⟨c,{t with place:=insertAt t.place (below t.place (pj t n N)) (pj t n N)},?_,g.plain,by rw[S];exact r,y,?_⟩
 ·unfold layNew
  rw[Q];dsimp;rw[K];dsimp;unfold SetTable.orStandIn;rw[G,S,if_pos r,r];rfl
 ·cases h:({t with place:=insertAt t.place (below t.place (pj t n N)) (pj t n N)}:SetTable).tooFull with
  |false=>exact .inl ⟨rfl,{u h with ent:=(i y).1,nd:=(i y).2}⟩
  |true =>
   obtain⟨z,h4⟩:=O h;obtain⟨o,v,I,T,C,W,q,R,x⟩:=SetT.relay (led:=led) (es:=c) (t:={t with place:=insertAt t.place (below t.place (pj t n N)) (pj t n N)}) (by lia) z g.led g.plain
   refine .inr ⟨rfl,o,v,?_,{q with ent:=(i (R.trans y)).1,nd:=(i (R.trans y)).2},R⟩
   unfold relayAll;rw[show grown c.size=grown 5 by rw[S,h4],T];dsimp;rw[if_pos (by rw[x,C,q.fits];rfl),C]
end
end DV
namespace PySem
open Sem (wp)
open DV
def setO(es:Li)(l:Nat)(t:SetTable):Obj:={cls:=.type "set",dict:=none,data:=.set es l t,slots:=#[]}
end PySem
namespace PySem
open Sem (wp)
open DV PyProof.Rows
end PySem
namespace PySem
open Sem (wp)
open DV
section
variable{prog:Lc}{w:Le}{A:Lg}{E:Ly}{s:La}{key:Lv->Ls Int}
def Qp(prog:Lc)(w:Le)(Z:Lv->Ls Int)(h:Heap)(v:Lv):Prop:=∃a,v=.ref a/\IsTupleKey (intKind prog w) h (Z v) a
abbrev hashT(prog:Lc)(w:Le)(z:Ls Int):Int:=tupleKeyHash (intKind prog w) z
structure TupsOf(prog:Lc)(w:Le)(key:Lv->List Int)(h:Heap)(es:Li):Prop where
 ent:∀e∈es.toList,e.1=hashT prog w (key e.2)/\Qp prog w key h e.2
 nd:(es.toList.map λe=>key e.2).Nodup
end
section
variable{prog:Lc}{w:Le}{A:Lg}{E:Ly}{s:La}{key:Lv->Ls Int}
def items_int{z:Ls Int}{vs:Ls Lv}(h:ItemsAre (intKind prog w) z vs):∀v∈vs,∃k t,v=.int k t:=by
 induction h with
 |nil=>intro v hv;cases hv
 |cons L _ I =>
  intro v hv;rcases mem_cons.mp hv with rfl|hv
  ·obtain⟨t,e⟩:=Value.isInt_shape L;exact⟨_,t,e⟩
  ·exact I v hv
def Qp.same{h h':Heap}{a:Lz}{v:Lv}{es:Li}{l:Nat}{t:SetTable}(k:Qp prog w key h v)(L:h.get? a=some (setO es l t))(c:Heap.SameBut a h h'):Qp prog w key h' v:=by
 obtain⟨b,rfl,o,p,n,j,S,R,E⟩:=k;refine⟨b,rfl,o,p,n,?_,S,R,E⟩;rw[c.2 b λe=>?_]
 ·exact j
 ·subst e
  obtain rfl:=qJ (j.symm.trans L);exact absurd S (by show ¬Value.type "set"=Value.type "tuple";decide)
end
end PySem
namespace PySem
namespace F
end F
open Sem (wp)
open DV PyProof.Rows
structure SetW(led:Bool)(es:Li)(t:SetTable):Prop where
 fits:t.fits es.size=true
 sz:t.place.size=es.size
 rise:zEb t.place.toList
 plain:t.plain=true
 led:t.led=led
 few:es.size<=17
end PySem
namespace PySem
open Sem (wp)
open DV PyProof.Rows
end PySem
namespace L2
open PySem PySem.Spec PyProof.Rows DV
end L2
namespace DV
open PySem L2
section
variable{X:Cx}
def iZA(t2:Bool)(m:MA):MI:=λE=>match m E with
 | .z=>.z| .y x E1=>.y x E1
 | .ok ([r,_],_)=>match r.d with
  | .l _=>iZ false t2 m E| .t _=>iZ true t2 m E|_=>.z
 |_=>.z
def io_zipA{x1}(e:Gl X "zip")(K:X.mg "zip"=none)(P:AOk X [a,b] m)(u:zU a=false:=by rfl)(h:zU b=false:=by rfl) :
  IOk X (.Tuple elts x1 tp) (.Call (.Name "zip" p) [a,b] [] cpos) (iZA t2 m):=λG s O H R I ⟨M,E,hl,fr,k⟩=>by
 unfold iZA at k;cases c:m E with
 |z=>rw[c]at k;exact k.elim|y x E1=>exact zDH (t1:=true) (t2:=t2) (.inl ⟨_,_,_,rfl⟩) e K P u h G s O H R I ⟨M,E,hl,fr,by unfold iZ;rw[c]at k ⊢;exact k⟩
 |ok q =>
  obtain⟨w,E1⟩:=q;rw[c]at k
  match w,c,k with
  | [r,T],c,k =>
   dsimp at k;cases o:r.d with
   |l g=>rw[o]at k;exact zDH (t1:=false) (t2:=t2) (.inl ⟨_,_,_,rfl⟩) e K P u h G s O H R I ⟨M,E,hl,fr,k⟩|t g=>rw[o]at k;exact zDH (t1:=true) (t2:=t2) (.inl ⟨_,_,_,rfl⟩) e K P u h G s O H R I ⟨M,E,hl,fr,k⟩|_=>rw[o]at k;exact k.elim
  | [],c,k=>exact k.elim| [_],c,k=>exact k.elim|_::_::_::_,c,k=>exact k.elim
end
end DV
namespace PySem
open Sem (wp)
open DV PyProof.Rows
section
variable{prog:Lc}{w:Le}{A:Lg}{E:Ly}{s:La}{key:Lv->Ls Int}
def Qp.ext{h h':Heap}{v:Lv}(k:Qp prog w key h v)(e:∀b o,h.get? b=some o->h'.get? b=some o):Qp prog w key h' v:=by
 obtain⟨a,q,o,its,n,j,S⟩:=k;exact⟨a,q,o,its,n,e a o j,S⟩
end
end PySem
namespace TM
open PySem L2 DV PyProof.Rows
abbrev tD(a:Ls Int):D:=.t (a.map D.int)
section
variable{L:Ls (Ls Int)}
def gd(i:Nat)(h:i<L.length):(L.map tD).getD i .non=tD (L.getD i []):=by
 rw[getD_eq_getElem?_getD,getD_eq_getElem?_getD,getElem?_map,getElem?_eq_getElem h];rfl
end
end TM
namespace L2
open PySem PySem.Spec PyProof.Rows PySem.W DV
end L2
namespace DV
open PySem L2 PyProof.Rows PySem.W
end DV
namespace TM
open PySem L2 DV PyProof.Rows
end TM
namespace DV
open PySem L2 PyProof.Rows TM
def dd(l:Ls (Ls Int)):Ls (Ls Int):=l.foldl (λl x=>if x∈l then l else l++[x]) []
section
variable{prog:Lc}{w:Le}{K:qH}{mg:Str->Lx Lv}
def numOf:Lv->Int
 | .int i _=>i|_=>0
theorem Yq{H:Hp}:∀(a:Ls Int) (Y:Ls V) (e:Ls Lv),Reps K mg H (a.map D.int) Y->zw Y e->ItemsAre (intKind prog w) a e/\e.map numOf=a
 | [],Y,e,r,v=>by
  dsimp[map_nil,Reps]at r;subst r;cases v;exact⟨.nil,rfl⟩
 |i::a,Y,e,r,v=>by
  dsimp[map_cons,Reps]at r;obtain⟨x,c,rfl,T,C⟩:=r;cases v with
  |cons g o =>
   rw[zJ T]at g;obtain⟨t,rfl⟩:=g;obtain⟨u,h⟩:=Yq a c _ C o;exact⟨.cons (by simp[intKind,Value.isInt]) u,by rw[map_cons,h];rfl⟩
end
end DV
namespace HT
open PySem PySem.Spec PyProof.Rows L2
def zFx(A:Lg)(s:La)(a:Int)(t:Tok)(c:Int)(u:Tok)(prog:Lc)(w:Le)(E:Ly)(Q:Ly)(h:Q (.bool (decide (a<=c))) s) :
  wpAny (model prog w) A (richCompare .LtE (.int a t) (.int c u)) Q E s :=
 (PyProof.Rows.le_int h:wpAny (model prog w) A (compareOp .LtE (.int a t) (.int c u)) Q E s)
section
open PySem.SeqAt
open PySem.AutoSeq1 (wpAny_loadPart')
open PySem.MeetsSeq PySem.MeetsSeq2 PySem.MeetsSeq3
def uY(l b:Lz)(p v:Lh)(n z:Nat)(dd D:Lx Lz)(sl o:Lj)(ns O:Ls Int)(hi:IntsAre p.toList ns)(T:IntsAre v.toList O) :
  Meets (Builtin.«tuple.__le__» ⟨[.ref l,.ref b],[]⟩)
   (λ_ R s=>s.heap.get? l=some {cls:=.type "tuple",dict:=dd,data:=.seq p n,slots:=sl}/\s.heap.get? b=some {cls:=.type "tuple",dict:=D,data:=.seq v z,slots:=o} /\
    R (.ok (.ret (.bool (!lexLt O ns)))) s) :=
 .of_wp λC w A R s h=>by
  obtain⟨G,g,d,Y,Z⟩:=s;obtain⟨hl,J,h⟩:=h;have f2:=AutoSeq1.sub_tuple_tuple;have z1:p.size=ns.length:=by rw[<- hi.length];simp
  have z2:v.size=O.length:=by rw[<- T.length];simp
  wp_walk using wpAny_loadPart' hl,wpAny_loadPart' J,wpAny_forIn_list _ (λwe b j=>b.1=none/\j=⟨G,g,d,Y,Z⟩/\∃(W k:Ls Lv) (H L:Ls Int),we=W.zip k /\
   IntsAre W H/\IntsAre k L/\H.length+v.size=L.length+p.size/\R (.ok (.ret (.bool (!lexLt L H)))) ⟨G,g,d,Y,Z⟩) _
  case turn =>
   rintro ⟨y,x⟩ we b j ⟨K,rfl,W,k,H,L,hz,Q,P,i,r⟩
   cases Q with
   |nil=>rw[List.zip_nil_left]at hz;cases hz
   |cons a t V =>
    cases P with
    |nil=>rw[List.zip_nil_right]at hz;cases hz
    |cons c u X =>
     rw[zip_cons_cons]at hz;injection hz with hyx hrest
     injection hyx with hy hx
     subst hy hx;rw[lexLt_cons]at r;dsimp[length_cons]at i;obtain⟨e,M,S⟩:=zEp A.in1 ⟨G,g,d,Y,Z⟩ a t c u;refine qB (M C w _ _ ?_);cases e with
     |true =>
      rw[if_pos (S.mp rfl).symm]at r
      wp_walk
      exact⟨rfl,rfl,_,_,_,_,hrest,V,X,by lia,r⟩
     |false =>
      have aa:¬a=c:=λq=>absurd (S.mpr q) qF
      rw[if_neg (λq=>aa q.symm),show(!decide (c<a))=decide (a<=c)by rw[<- decide_not];congr 1;exact propext Int.not_lt]at r;have I:=zFx A.in1 ⟨G,g,d,Y,Z⟩ a t c u C w
      wp_walk using I
      exact⟨_,rfl,by exists r⟩
  case fin =>
   rintro ⟨b1,E⟩ j ⟨K,rfl,W,k,H,L,hz,Q,P,i,r⟩
   simp only at K;subst K;have hv:(!lexLt L H)=decide (p.size<=v.size):=by
    cases Q with
    |nil =>
     cases P with
     |nil =>
      dsimp[length_nil]at i;rw[v4];exact(decide_eq_true (by lia)).symm
     |cons c u hw =>
      dsimp[length_nil,length_cons]at i;rw[W8];exact(decide_eq_true (by lia)).symm
    |cons a t hv =>
     cases P with
     |nil =>
      dsimp[length_nil,length_cons]at i;rw[W7];exact(decide_eq_false (by lia)).symm
     |cons c u hw =>
      rw[zip_cons_cons]at hz;cases hz
   rw[hv]at r
   wp_walk
   exact⟨_,rfl,by simpa[Builtin.Tuple.tupleCompareSizes]using r⟩
  case h =>
   exact⟨rfl,rfl,p.toList,v.toList,ns,O,rfl,hi,T,by lia,h⟩
end
section
variable{prog:Lc}{w:Le}{A:Lg}{E:Ly}{s:La}
def le_tupInts{l b:Lz}{p v:Lh}{ns O:Ls Int}{Q:Ly}(c:IsTup s.heap l p)(J:IsTup s.heap b v)(W:IntsAre p.toList ns)(T:IntsAre v.toList O)
  (e:A.units<cLine) (h:Q (.bool (!lexLt O ns)) s):wpAny (model prog w) A (compareOp .LtE (.ref l) (.ref b)) Q E s:=by
 obtain⟨⟨P,dd,R,g⟩,ho,Z,n,j⟩:=id c;obtain⟨⟨k,D,a,o⟩,i,M,z,K⟩:=id J;simp only at Z j M K;subst Z j M K;exact richCompare_meets_room (op:=.LtE) ⟨_,ho,rfl⟩ ⟨_,i,rfl⟩ PySem.F.slot_tuple_le PySem.F.entry_tuple_le (PySem.F.args_tuple_le_2 _ _) (uY l b p v n z dd D g o ns O W T)
  ⟨ho,i,show Value.bool (!lexLt O ns)≠Value.notImplemented/\Q (.bool (!lexLt O ns)) s from⟨(λx=>nomatch x),h⟩⟩ e
end
end HT
namespace L2
open PySem PySem.Spec PyProof.Rows DV
variable{X:Cx}
def rLeT(K:qH):R2:=λx y H Q=>∃a b E O,x=.ref a/\y=.ref b/\SqT K H a (E.map V.int)/\SqT K H b (O.map V.int)/\Q (.bl (!HT.lexLt O E)) H
def zG0(E:X.A.units<cLine):OpR X (compareOp .LtE) (rLeT X.K):=by
 intro G s O H x y v u Q I c V h;obtain⟨a,b,ns,ms,rfl,rfl,P,J,q⟩:=h;cases c;cases V;obtain⟨its,T,t,_⟩:=I.tuple P;obtain⟨e,C,g,_⟩:=I.tuple J;have w:IntsAre its.toArray.toList ns:=vV T;have p:IntsAre e.toArray.toList ms:=vV C;exact HT.le_tupInts t g w p E ⟨.bl (!HT.lexLt ms ns),H,I,rfl,q⟩
end L2
namespace DV
open PySem L2
def leTD:D->D->Lx R
 | .t a,.t b=>(jh a).bind λE=>(jh b).map λO=>.v (.bl (!HT.lexLt O E))|_,_=>none
def leG(x y:D):Lx R:=match leD x y with
 |some r=>some r|none=>leTD x y
def zG1{K:qH}{g:Str->Lx Lv}:ROk K g (λx y H Q=>rI0 (λi j=>.bl (decide (i<=j))) x y H Q\/rLeT K x y H Q) leG:=by
 intro M H Z x y t u o Q f T C e k;unfold leG at e;cases h:leD t u with
 |some r=>rw[h]at e;cases e;exact .inl (ro_le M H Z x y t u o Q f T C h k)
 |none =>
  rw[h]at e;obtain⟨a,b,rfl,rfl⟩:∃a b,t=.t a/\u=.t b:=by cases t<;>cases u<;>first|exact⟨_,_,rfl,rfl⟩|(cases e;done)
  change ((jh a).bind λE=>(jh b).map λO=>R.v (.bl (!HT.lexLt O E)))=_ at e
  cases P:jh a with
  |none=>rw[P]at e;cases e
  |some E =>
   cases J:jh b with
   |none=>rw[P,J]at e;cases e
   |some O =>
    rw[P,J]at e;cases e;obtain⟨p,n,rfl,L,h2⟩:=yO T;obtain⟨q,c,rfl,I,l⟩:=yO C;obtain rfl:=jN P h2;obtain rfl:=jN J l;exact .inr ⟨p,q,E,O,rfl,rfl,zf zI L,zf zI I,k.flat f rfl⟩
theorem Qq(I:∀d,eqb n d=true->∃x,pyD d=some x/\x.canLay0=true/\x.depth<=n+1):∀P:Ls D,P.all (eqb n)=true->∃Y,pyDs P=some Y/\PyData.canLayAll0 Y=true/\PyData.depthAll Y<=n+1
 | [],_=>⟨[],rfl,rfl,by simp[PyData.depthAll]⟩
 |d::P,h=>by
  rw[all_cons,Bool.and_eq_true]at h;obtain⟨x,R,c1,t⟩:=I d h.1;obtain⟨Y,w,p,g⟩:=Qq I P h.2;refine⟨x::Y,by dsimp[pyDs,R,w],?_,by dsimp[PyData.depthAll];lia⟩;dsimp[PyData.canLayAll0,c1,p];rfl
def zAk:∀(n:Nat) (d:D),eqb n d=true->∃x,pyD d=some x/\x.canLay0=true/\x.depth<=n+1:=by
 intro n
 induction n with
 |zero =>
  intro d h;cases d with
  |non=>exact⟨_,rfl,rfl,by simp[PyData.depth]⟩|bl b=>exact⟨_,rfl,rfl,by simp[PyData.depth]⟩|int i=>exact⟨_,rfl,rfl,by simp[PyData.depth]⟩|str i=>exact⟨_,rfl,h,by simp[PyData.depth]⟩|_=>cases h
 |succ n I =>
  intro d h;cases d with
  |non=>exact⟨_,rfl,rfl,by simp[PyData.depth]⟩|bl b=>exact⟨_,rfl,rfl,by simp[PyData.depth]⟩|int i=>exact⟨_,rfl,rfl,by simp[PyData.depth]⟩|str i=>exact⟨_,rfl,h,by simp[PyData.depth]⟩
  |t P =>
   obtain⟨Y,e,c,p⟩:=Qq I P h;exact⟨.tuple Y,by dsimp[pyD,e];rfl,by dsimp[PyData.canLay0];exact c,by dsimp[PyData.depth];lia⟩
  |l P =>
   obtain⟨Y,e,c,p⟩:=Qq I P h;exact⟨.list Y,by dsimp[pyD,e];rfl,by dsimp[PyData.canLay0];exact c,by dsimp[PyData.depth];lia⟩
  |_=>cases h
def We(h:pyDs (d::ds)=some xs):∃y ys,xs=y::ys/\pyD d=some y/\pyDs ds=some ys:=by
 dsimp[pyDs]at h;cases L:pyD d with
 |none=>rw[L]at h;cases h
 |some y =>
  cases h2:pyDs ds with
  |none=>rw[L,h2]at h;cases h|some ys=>rw[L,h2]at h;cases h;exact⟨y,ys,rfl,rfl,rfl⟩
def zAl(h:pyDs (d::ds)=some xs):∃y ys,xs=y::ys:=by
 obtain⟨y,ys,e,_⟩:=We h;exact⟨y,ys,e⟩
mutual
theorem Qs:∀{d e:D} {x y:PyData},pyD d=some x->pyD e=some y->x.canLay0=true->y.canLay0=true->PyData.eqv x y=deq d e
 | .t P,e,x,y,L,h2,c1,p=>by
  dsimp[pyD,Option.map_eq_some_iff]at L;obtain⟨Y,L,rfl⟩:=L;cases e with
  |t E =>
   dsimp[pyD,Option.map_eq_some_iff]at h2;obtain⟨J,h2,rfl⟩:=h2;dsimp[PyData.eqv,deq];exact eqvs_deq L h2 (by simpa[PyData.canLay0]using c1) (by simpa[PyData.canLay0]using p)
  |l E=>dsimp[pyD,Option.map_eq_some_iff]at h2;obtain⟨J,_,rfl⟩:=h2;rfl|non=>cases h2;rfl|bl _=>cases h2;rfl|int _=>cases h2;rfl|str _=>cases h2;rfl|dic=>cases h2;cases p|_=>cases h2
 | .l P,e,x,y,L,h2,c1,p=>by
  dsimp[pyD,Option.map_eq_some_iff]at L;obtain⟨Y,L,rfl⟩:=L;cases e with
  |l E =>
   dsimp[pyD,Option.map_eq_some_iff]at h2;obtain⟨J,h2,rfl⟩:=h2;dsimp[PyData.eqv,deq];exact eqvs_deq L h2 (by simpa[PyData.canLay0]using c1) (by simpa[PyData.canLay0]using p)
  |t E=>dsimp[pyD,Option.map_eq_some_iff]at h2;obtain⟨J,_,rfl⟩:=h2;rfl|non=>cases h2;rfl|bl _=>cases h2;rfl|int _=>cases h2;rfl|str _=>cases h2;rfl|dic=>cases h2;cases p|_=>cases h2
 | .non,e,x,y,L,h2,c1,p=>by
  cases L;cases e with
  |t E=>dsimp[pyD,Option.map_eq_some_iff]at h2;obtain⟨J,_,rfl⟩:=h2;rfl|l E=>dsimp[pyD,Option.map_eq_some_iff]at h2;obtain⟨J,_,rfl⟩:=h2;rfl|dic=>cases h2;cases p
  |_=>first|(cases h2;rfl)|(cases h2)
 | .bl _,e,x,y,L,h2,c1,p=>by
  cases L;cases e with
  |t E=>dsimp[pyD,Option.map_eq_some_iff]at h2;obtain⟨J,_,rfl⟩:=h2;rfl|l E=>dsimp[pyD,Option.map_eq_some_iff]at h2;obtain⟨J,_,rfl⟩:=h2;rfl|dic=>cases h2;cases p
  |_=>first|(cases h2;rfl)|(cases h2)
 | .int _,e,x,y,L,h2,c1,p=>by
  cases L;cases e with
  |t E=>dsimp[pyD,Option.map_eq_some_iff]at h2;obtain⟨J,_,rfl⟩:=h2;rfl|l E=>dsimp[pyD,Option.map_eq_some_iff]at h2;obtain⟨J,_,rfl⟩:=h2;rfl|dic=>cases h2;cases p
  |_=>first|(cases h2;rfl)|(cases h2)
 | .str _,e,x,y,L,h2,c1,p=>by
  cases L;cases e with
  |t E=>dsimp[pyD,Option.map_eq_some_iff]at h2;obtain⟨J,_,rfl⟩:=h2;rfl|l E=>dsimp[pyD,Option.map_eq_some_iff]at h2;obtain⟨J,_,rfl⟩:=h2;rfl|dic=>cases h2;cases p
  |_=>first|(cases h2;rfl)|(cases h2)
 | .dic,_,_,_,L,_,c1,_=>by cases L;cases c1| .fn _,_,_,_,L,_,_,_=>by cases L| .exn _ _,_,_,_,L,_,_,_=>by cases L| .m _ _,_,_,_,L,_,_,_=>by cases L
theorem eqvs_deq:∀{P E:Ls D} {Y J:Ls PyData},pyDs P=some Y->pyDs E=some J->PyData.canLayAll0 Y=true->PyData.canLayAll0 J=true->PyData.eqvAll Y J=deqs P E
 | [],[],Y,J,L,h2,_,_=>by cases L;cases h2;rfl
 | [],e::E,Y,J,L,h2,_,_=>by
  cases L;obtain⟨y,J,rfl⟩:=zAl h2;rfl
 |d::P,[],Y,J,L,h2,_,_=>by
  cases h2;obtain⟨y,J,rfl⟩:=zAl L;rfl
 |d::P,e::E,Y,J,L,h2,c1,p=>by
  obtain⟨x,Y,rfl,t,g⟩:=We L;obtain⟨y,J,rfl,j,S⟩:=We h2;dsimp[PyData.canLayAll0,Bool.and_eq_true]at c1 p;dsimp[PyData.eqvAll,deqs];rw[Qs t j c1.1 p.1,eqvs_deq g S c1.2 p.2]
end
section
variable{X:Cx}
def zG2(S:zFg X.K)(E:X.A.units+21<cLine):OpR X (compareOp .Eq) (rEqD X.K X.mg false):=by
 intro G s O H x y v u Q I c V h;obtain⟨d,e,L,h2,T,C,q⟩:=h;obtain⟨a,t,c1,W⟩:=zAk 20 d L;obtain⟨b,g,p,P⟩:=zAk 20 e h2;obtain⟨_,r,_⟩:=Jo I S T c t;obtain⟨_,i,_⟩:=Jo I S C V g;have k:=SeqAt.rcAt_reads (A:=X.A) r i c1 p (by lia);rw[Qs t g c1 p]at k;exact k X.prog X.w _ _ ⟨.bl (deq d e),H,I,rfl,q⟩
def zG3(S:zFg X.K)(E:X.A.units+21<cLine):OpR X (compareOp .NotEq) (rEqD X.K X.mg true):=by
 intro G s O H x y v u Q I c V h;obtain⟨d,e,L,h2,T,C,q⟩:=h;obtain⟨a,t,c1,W⟩:=zAk 20 d L;obtain⟨b,g,p,P⟩:=zAk 20 e h2;obtain⟨_,r,_⟩:=Jo I S T c t;obtain⟨_,i,_⟩:=Jo I S C V g;have k:=SeqAt.rcNeAt_reads (A:=X.A) r i c1 p (by lia);rw[Qs t g c1 p]at k;exact k X.prog X.w _ _ ⟨.bl (!deq d e),H,I,rfl,q⟩
end
inductive Op2 where
 |add|sub|mul|fdiv|mod|pow
def Op2.op:Op2->Operator
 | .add=>.Add | .sub=>.Sub | .mul=>.Mult | .fdiv=>.FloorDiv | .mod=>.Mod | .pow=>.Pow
def Op2.f:Op2->D->D->Lx R
 | .add=>ZG | .sub=>va | .mul=>Yv | .fdiv=>zFA | .mod=>zEZ | .pow=>powD
inductive Cp where
 |lt|le|gt|ge|eq|ne|is|isn
def Cp.op:Cp->CmpOp
 | .lt=>.Lt | .le=>.LtE | .gt=>.Gt | .ge=>.GtE | .eq=>.Eq | .ne=>.NotEq | .is=>.Is | .isn=>.IsNot
def Cp.f:Cp->D->D->Lx R
 | .lt=>ltD | .le=>leG | .gt=>gtD | .ge=>geD | .eq=>eqG | .ne=>neG | .is=>isG false | .isn=>isG true
def Cp.isI:Cp->Bool
 | .lt | .le | .gt | .ge=>true
 |_=>false
def Cp.b:Cp->Lk
 | .lt=>ltB | .le=>leB | .gt=>gtB|_=>geB
inductive Bi where
 |len|max|all|int|tuple|list|sum|repr
def Bi.nm:Bi->Str
 | .len=>"len" | .max=>"max" | .all=>"all" | .int=>"int" | .tuple=>"tuple" | .list=>"list" | .sum=>"sum" | .repr=>"repr"
def Bi.f:Bi->Ls D->Lx R
 | .len=>zCb | .max=>QM | .all=>allD | .int=>intF | .tuple=>zGi | .list=>listD | .sum=>zFZ | .repr=>zDF
inductive Ty where
 |int|bool|tuple|list|str|dict
def Ty.s:Ty->String
 | .int=>"int" | .bool=>"bool" | .tuple=>"tuple" | .list=>"list" | .str=>"str" | .dict=>"dict"
def Ty.nm:Ty->Str
 | .int=>"int" | .bool=>"bool" | .tuple=>"tuple" | .list=>"list" | .str=>"str" | .dict=>"dict"
inductive Tg where
 |n (i:Nat)
 |t (is:List Nat)
def Tg.m:Tg->MG
 | .n i=>gN i| .t T=>gT T
mutual
inductive Ex where
 |c (d:D)|gl (d:D)|fn (k:Nat)|x (i:Nat)|mov (i:Nat)
 |bin (o:Op2) (a b:Ex)|cmp (o:Cp) (a b:Ex)|chain (o o':Cp) (a b c:Ex)
 |neg (a:Ex)|not (a:Ex)|and (a b:Ex)
 |ifx (t:Tx) (a b:Ex)|t (as:Ax)|l (as:Ax)
 |ix (a b:Ex)|ixO (i:Nat) (b:Ex)|sl (a:Ex) (l h:Ox)
 |comp (nl:Nat) (loc capn:Lm) (caps:List Nat) (it:Ix) (tg:Tg) (tt:Tx) (el:Ex)
 |comp2 (nl:Nat) (loc capn:Lm) (caps:List Nat) (it:Ix) (tg:Tg) (jt:Ix) (tg2:Tg) (el:Ex)
 |is (T:Ty) (a:Ex)|cB (b:Bi) (as:Ax)|call (k:Nat) (as:Gx)|callV (ks:List Nat) (f:Ex) (as:Gx)
 |maxd (a d:Ex)
 |isC (cl:Lm) (y:Str) (a:Ex)|isV (cl:Lm) (a:Ex)|cnt (a b:Ex)|idx (a b:Ex)
inductive Tx where
 |tAnd (a b:Tx)|tOr (a b:Tx)|tNot (a:Tx)|tE (a:Ex)|tTr
inductive Ax where
 |nil|cons (a:Ex) (as:Ax)
inductive Gx where
 |nil|ev (a:Ex) (as:Gx)|lend (i:Nat) (as:Gx)
inductive Ox where
 |oN|oS (a:Ex)
inductive Ix where
 |iL (a:Ex)|iT (a:Ex)|iA (a:Ex)|iR1 (as:Ax)|iRv (as:Ax)|iZA (t2:Bool) (as:Ax)|iE (t1:Bool) (as:Ax)
end
mutual
inductive Sx where
 |sIf (t:Tx) (a b:Bx)|sSet (i:Nat) (a:Ex)|sRet (a:Ex)|sDrop (a:Ex)|sIx (i:Nat) (b a:Ex)|sApp (i:Nat) (a:Ex)
 |sForL (a:Ex) (tg:Tg) (b:Bx)|sForR1 (as:Ax) (tg:Tg) (b:Bx)|sForR2 (as:Ax) (tg:Tg) (b:Bx)|sForI (it:Ix) (tg:Tg) (b:Bx)
 |sAny|sTup (is:List Nat) (a:Ex)
 |sRaise (c:Str)|sTry (cl:Lm) (b:Bx) (i:Nat) (h:Bx)
 |sWhile (t:Tx) (b:Bx)|sAug (i:Nat) (o:Op2) (a:Ex)
inductive Bx where
 |bNil|o (s:Sx)|s (s:Sx) (b:Bx)
end
structure FI where
 x:Str
 n:Nat
 lv:Nat
 wild:Bool
 F:MF
def fiF(fs:Ls FI)(k:Nat):MF:=match fs[k]? with
 |some i=>i.F|none=>λ_=>.z
def fiX(fs:Ls FI)(k:Nat):Str:=match fs[k]? with
 |some i=>i.x|none=>""
def Op2.aug:Op2->Int->Int->Lx Int
 | .add=>λa b=>some (a+b)| .sub=>λa b=>some (a-b)| .mul=>zDB|_=>λ_ _=>none
def Op2.isAug:Op2->Bool
 | .add | .sub | .mul=>true
 |_=>false
def W6(m:ME):ME:=λE=>match m E with
 | .y _ _=>.z|o=>o
def ZL(m:MS):MS:=λE=>match m E with
 | .y _ _=>.z|o=>o
def Qt{m:ME}{E:zR}{p:R×zR}(h:m E=.ok p):W6 m E=.ok p:=by dsimp[W6,h]
def Wf{m:MS}{E:zR}{p:Fl×zR}(h:m E=.ok p):ZL m E=.ok p:=by dsimp[ZL,h]
def no_E{X:Cx}{e:Lb}{m:ME}(h:EOk X.nox e m):EOk X e (W6 m):=yA h.nox λO H Q ⟨M,E,hl,fr,k⟩=>by
 unfold W6 at k;refine⟨M,E,hl,fr,?_⟩;cases e:m E with
 |z=>rw[e]at k;exact k|y x E1=>rw[e]at k;exact k.elim|ok p=>rw[e]at k;exact k
def no_S{X:Cx}{st:Lf}{m:MS}(h:SOk X.nox st m):SOk X st (ZL m):=λG s O H D I ⟨M,E,hl,fr,k⟩=>by
 refine wpAny_mono (h G s O H D (I.wish _) ⟨M,E,hl,fr,?_⟩) (λ_ _ q=>q.unwish) λ_ _ z=>False.elim z
 unfold ZL at k;cases e:m E with
 |z=>rw[e]at k;exact k|y x E1=>rw[e]at k;exact k.elim
 |ok p =>
  rw[e]at k;obtain⟨i,E1⟩:=p;cases i<;>exact k
def sk_forN{X:Cx}{st:Lf}{mi:MI}{tg:MG}{body:MS}(L:PS X st (λD O H=>tMI X mi O H λ_ _=>False))(Y:SOk X st (ZL (sForI mi tg body))):SOk X st (zDJ mi tg body):=λG s O H D I ⟨M,E,hl,fr,k⟩=>by
 unfold zDJ at k;cases e:mi E with
 |y x E1=>rw[e]at k;exact L G s O H D I ⟨M,E,hl,fr,by rw[e];exact λH' g=>k O H' g⟩|z=>rw[e]at k;exact Y G s O H D I ⟨M,E,hl,fr,k⟩|ok p=>rw[e]at k;exact Y G s O H D I ⟨M,E,hl,fr,k⟩
def zG4{i:Nat}{m:ME}:ZL (sSet i m)=sSet i (W6 m):=by
 funext E
 dsimp[ZL,sSet,W6];cases m E with
 |z=>rfl|y x E1=>rfl
 |ok p =>
  obtain⟨r,E1⟩:=p;dsimp;cases Yi i r E1<;>rfl
mutual
def dE(fs:Ls FI):Ex->ME
 | .c d=>eC d| .gl d=>eC d| .fn k=>eC (.fn (fiX fs k))| .x i=>vZ i| .mov i=>zCf i| .bin o a b=>Jk o.f (dE fs a) (dE fs b)| .cmp o a b=>Jk o.f (dE fs a) (dE fs b)| .chain o v a b c=>y4 o.b v.b (dE fs a) (dE fs b) (dE fs c)| .neg a=>eNeg (dE fs a)| .not a=>QI (dE fs a)| .and a b=>uH (dE fs a) (dE fs b)| .ifx t a b=>eIf (dT fs t) (dE fs a) (dE fs b)| .t as=>QK (dA fs as)| .l as=>QL (dA fs as)| .ix a b=>Jk ixD (dE fs a) (dE fs b)| .ixO i b=>zFF i (dE fs b)| .sl a l h=>eSl slD (dE fs a) (dO fs l) (dO fs h)| .comp e _ _ n g D p u=>W6 (Qf e n (dI fs g) D.m (dT fs p) (dE fs u))| .comp2 e _ _ n g D j M u=>W6 (JG akL e n (dI fs g) D.m wC (maL (dI fs j) M.m wC (ma1 (dE fs u))))| .is T a=>eIs T.s (dE fs a)| .cB b as=>eCB b.f (dA fs as)| .call k as=>yl (fiF fs k) (dG fs as)| .maxd a d=>Jk zBW (dE fs a) (dE fs d)| .isC r y a=>eIsX r (·==y) (dE fs a)| .isV r a=>eIsX r (λ_=>true) (dE fs a)| .cnt a b=>eMet cntD (dE fs a) (dE fs b)| .idx a b=>eMet idxD (dE fs a) (dE fs b)| .callV z f as=>WW (uS (z.map λk=>(fiX fs k,fiF fs k))) (dE fs f) (dG fs as)
def dT(fs:Ls FI):Tx->MT
 | .tAnd a b=>wn (dT fs a) (dT fs b)| .tOr a b=>uG (dT fs a) (dT fs b)| .tNot a=>JH (dT fs a)| .tE a=>tT (dE fs a)| .tTr=>wC
def dA(fs:Ls FI):Ax->MA
 | .nil=>QJ| .cons a as=>JI (dE fs a) (dA fs as)
def dG(fs:Ls FI):Gx->Ls Arg
 | .ev a as=>.ev (dE fs a)::dG fs as| .lend i as=>.lend i::dG fs as| .nil=>[]
def dO(fs:Ls FI):Ox->MO
 | .oN=>zFC| .oS a=>zCd (dE fs a)
def dI(fs:Ls FI):Ix->MI
 | .iL a=>iL (dE fs a)| .iT a=>iT (dE fs a)| .iA a=>iA (dE fs a)| .iR1 as=>iR1 (dA fs as)| .iRv as=>DV.iRv (dA fs as)| .iZA v as=>iZA v (dA fs as)| .iE H as=>iE H (dA fs as)
end
mutual
def dS(fs:Ls FI):Sx->MS
 | .sIf t a b=>sIf (dT fs t) (dB fs a) (dB fs b)| .sSet i a=>sSet i (dE fs a)| .sRet a=>sRet (dE fs a)| .sDrop a=>sDrop (dE fs a)| .sIx i b a=>ZZ i (dE fs b) (dE fs a)| .sApp i a=>sApp i (dE fs a)| .sTup T a=>sTup T (dE fs a)| .sForL a D b=>ZL (sForL (dE fs a) D.m (dB fs b))| .sForI l D b=>zDJ (dI fs l) D.m (dB fs b)| .sForR1 a D b=>ZL (sForR1 (dA fs a) D.m (dB fs b))| .sForR2 a D b=>ZL (sForR2 (dA fs a) D.m (dB fs b))| .sAny=>λ_=>.z| .sRaise c=>DV.sRaise c| .sTry r b i h=>DV.sTry r i (dB fs b) (dB fs h)| .sWhile t b=>ZL (DV.sWhile (dT fs t) (dB fs b))| .sAug i o a=>DV.sAug i o.aug (dE fs a)
def dB(fs:Ls FI):Bx->MS
 | .bNil=>QN| .o s=>dS fs s| .s s b=>vC (dS fs s) (dB fs b)
end
def zDU{fs d}:dE fs (.c d)=eC d:=rfl
def rE_gl{fs d}:dE fs (.gl d)=eC d:=rfl
def rE_fn{fs k}:dE fs (.fn k)=eC (.fn (fiX fs k)):=rfl
def wJ{fs i}:dE fs (.x i)=vZ i:=rfl
def zAm{fs i}:dE fs (.mov i)=zCf i:=rfl
def YB{fs o a b}:dE fs (.bin o a b)=Jk o.f (dE fs a) (dE fs b):=rfl
def Y0{fs o a b}:dE fs (.cmp o a b)=Jk o.f (dE fs a) (dE fs b):=rfl
def Z3{fs o o' a b c}:dE fs (.chain o o' a b c)=y4 o.b o'.b (dE fs a) (dE fs b) (dE fs c):=rfl
def rE_neg{fs a}:dE fs (.neg a)=eNeg (dE fs a):=rfl
def zAn{fs a b}:dE fs (.and a b)=uH (dE fs a) (dE fs b):=rfl
def rE_ifx{fs t a b}:dE fs (.ifx t a b)=eIf (dT fs t) (dE fs a) (dE fs b):=rfl
def Gs{fs as}:dE fs (.t as)=QK (dA fs as):=rfl
def YC{fs as}:dE fs (.l as)=QL (dA fs as):=rfl
def zBc{fs a b}:dE fs (.ix a b)=Jk ixD (dE fs a) (dE fs b):=rfl
def zAo{fs i b}:dE fs (.ixO i b)=zFF i (dE fs b):=rfl
def rE_sl{fs a l h}:dE fs (.sl a l h)=eSl slD (dE fs a) (dO fs l) (dO fs h):=rfl
def zDV{fs nl u1 u2 caps it tg tt el}:dE fs (.comp nl u1 u2 caps it tg tt el)=W6 (Qf nl caps (dI fs it) tg.m (dT fs tt) (dE fs el)):=rfl
def zFy{fs nl u1 u2 caps it tg jt tg2 el}:dE fs (.comp2 nl u1 u2 caps it tg jt tg2 el)=W6 (JG akL nl caps (dI fs it) tg.m wC (maL (dI fs jt) tg2.m wC (ma1 (dE fs el)))):=rfl
def rE_is{fs T a}:dE fs (.is T a)=eIs T.s (dE fs a):=rfl
def Qu{fs b as}:dE fs (.cB b as)=eCB b.f (dA fs as):=rfl
def yZ{fs k as}:dE fs (.call k as)=yl (fiF fs k) (dG fs as):=rfl
def rE_maxd{fs a d}:dE fs (.maxd a d)=Jk zBW (dE fs a) (dE fs d):=rfl
def zAp{fs ks f as}:dE fs (.callV ks f as)=WW (uS (ks.map λk=>(fiX fs k,fiF fs k))) (dE fs f) (dG fs as):=rfl
def Qv{fs a b}:dT fs (.tAnd a b)=wn (dT fs a) (dT fs b):=rfl
def Wg{fs a b}:dT fs (.tOr a b)=uG (dT fs a) (dT fs b):=rfl
def zDW{fs a}:dT fs (.tNot a)=JH (dT fs a):=rfl
def vF{fs a}:dT fs (.tE a)=tT (dE fs a):=rfl
def zAq{fs}:dT fs (.tTr)=wC:=rfl
def JS{fs}:dA fs (.nil)=QJ:=rfl
def YT{fs a as}:dA fs (.cons a as)=JI (dE fs a) (dA fs as):=rfl
def wv{fs a as}:dG fs (.ev a as)=.ev (dE fs a)::dG fs as:=rfl
def Qw{fs i as}:dG fs (.lend i as)=.lend i::dG fs as:=rfl
def ym{fs}:dG fs (.nil)=[]:=rfl
def rO_oN{fs}:dO fs (.oN)=zFC:=rfl
def rO_oS{fs a}:dO fs (.oS a)=zCd (dE fs a):=rfl
def rI_iL{fs a}:dI fs (.iL a)=iL (dE fs a):=rfl
def rI_iT{fs a}:dI fs (.iT a)=iT (dE fs a):=rfl
def rI_iA{fs a}:dI fs (.iA a)=iA (dE fs a):=rfl
def rI_iR1{fs as}:dI fs (.iR1 as)=iR1 (dA fs as):=rfl
def rI_iRv{fs as}:dI fs (.iRv as)=DV.iRv (dA fs as):=rfl
def zG5{fs t2 as}:dI fs (.iZA t2 as)=iZA t2 (dA fs as):=rfl
def rI_iE{fs t1 as}:dI fs (.iE t1 as)=iE t1 (dA fs as):=rfl
def Y1{fs t a b}:dS fs (.sIf t a b)=sIf (dT fs t) (dB fs a) (dB fs b):=rfl
def wU{fs i a}:dS fs (.sSet i a)=sSet i (dE fs a):=rfl
def jD{fs a}:dS fs (.sRet a)=sRet (dE fs a):=rfl
def Jp{fs a}:dS fs (.sDrop a)=sDrop (dE fs a):=rfl
def zDX{fs i b a}:dS fs (.sIx i b a)=ZZ i (dE fs b) (dE fs a):=rfl
def Wh{fs i a}:dS fs (.sApp i a)=sApp i (dE fs a):=rfl
def rS_sTup{fs is a}:dS fs (.sTup is a)=sTup is (dE fs a):=rfl
def zFz{fs a tg b}:dS fs (.sForL a tg b)=ZL (sForL (dE fs a) tg.m (dB fs b)):=rfl
def zF0{fs it tg b}:dS fs (.sForI it tg b)=zDJ (dI fs it) tg.m (dB fs b):=rfl
def zDY{fs a tg b}:dS fs (.sForR1 a tg b)=ZL (sForR1 (dA fs a) tg.m (dB fs b)):=rfl
def JT{fs a tg b}:dS fs (.sForR2 a tg b)=ZL (sForR2 (dA fs a) tg.m (dB fs b)):=rfl
def zDZ{fs c}:dS fs (.sRaise c)=DV.sRaise c:=rfl
def zDa{fs cl b i h}:dS fs (.sTry cl b i h)=DV.sTry cl i (dB fs b) (dB fs h):=rfl
def Gu{fs t b}:dS fs (.sWhile t b)=ZL (DV.sWhile (dT fs t) (dB fs b)):=rfl
def rS_sAug{fs i o a}:dS fs (.sAug i o a)=DV.sAug i o.aug (dE fs a):=rfl
def JU{fs}:dB fs (.bNil)=QN:=rfl
def jE{fs s}:dB fs (.o s)=dS fs s:=rfl
def jP{fs s b}:dB fs (.s s b)=vC (dS fs s) (dB fs b):=rfl
structure Sg where
 N:Lm
 sc:Scope
 top:Bool
 cs:List (Str×D)
 fs:List FI
 bs:Lm
 lv:Nat
 calm:Bool
 cl:Lm
 rs:Lm
 oc:Lm
 ri:Lm
def kIs(sg:Sg)(x:Str)(k:NameKind):Bool:=sg.sc.names.lookup x==some k
def vis(sg:Sg)(i:Nat)(x:Str):Bool:=sg.N[i]?==some x&&(kIs sg x .local||(kIs sg x .cell||kIs sg x .free))&&(!(x==("__debug__":Str))&&!(x==("__classdict__":Str)))
def glb(sg:Sg)(x:Str):Bool:=kIs sg x .globalImplicit&&!(x==("__debug__":Str))
def locd(sg:Sg)(i:Nat)(x:Str):Bool:=sg.N[i]?==some x&&(kIs sg x .local||(kIs sg x .cell&&(sg.top||sg.oc.contains x)))
def cIs:D->Const->Bool
 | .non,.none=>true| .bl b,.bool c=>b==c| .int i,.int j=>i==j| .str x,.str y=>x==y|_,_=>false
def feq:D->D->Bool
 | .non,.non=>true| .bl b,.bl c=>b==c| .int i,.int j=>i==j| .str x,.str y=>x==y|_,_=>false
def geq:D->D->Bool
 | .t [.int a,.int b],.t [.int c,.int d]=>a==c&&b==d| .t [.non,.int b],.t [.non,.int d]=>b==d|d,e=>feq d e
def gIs(sg:Sg)(x:Str)(d:D):Bool:=match sg.cs.lookup x with
 |some t=>geq d t|none=>false
def fIs(sg:Sg)(k:Nat)(x:Str):Bool:=match sg.fs[k]? with
 |some i=>i.x==x|none=>false
def fArg(sg:Sg)(n:Nat)(k:Nat):Bool:=match sg.fs[k]? with
 |some i=>i.n==n&&decide (i.lv<=sg.lv)&&(sg.calm||i.wild)
 |none=>false
def bIn(sg:Sg)(x:Str):Bool:=sg.bs.contains x
def gLen:Gx->Nat
 | .ev _ as=>gLen as+1| .lend _ as=>gLen as+1| .nil=>0
def QO:Tg->Sg->Lb->Bool
 | .n i,a,e=>match e with
  | .Name x _=>locd a i x|_=>false
 | .t T,a,e=>match e with
  | .Tuple E _ _=>all2 a T E|_=>false
where all2 (a:Sg):Ls Nat->Ls Lb->Bool
 | [],[]=>true
 |i::T,e::E=>(match e with | .Name x _=>locd a i x|_=>false)&&all2 a T E
 |_,_=>false
def relab(Y:Scope)(sc:Scope):Scope:={Y with names:=Y.names.map λ(n,k)=>if(k==NameKind.free&&sc.kind==.function&&sc.names.lookup n==some .cell)then(n,NameKind.cell)else(n,k)}
def capB(sg:Sg)(Y:Scope):Ls Nat->Ls Str->Bool
 | [],[]=>true|j::js,x::xs=>sg.N[j]?==some x&&Y.names.lookup x==some .free&&capB sg Y js xs|_,_=>false
def Z4(sg:Sg)(N:Ls Str)(Y:Scope):Sg:={sg with N:=N,sc:=relab Y sg.sc,top:=false,oc:=(Y.names.filter λy=>y.2==.cell).map Prod.fst}
def zBd(sg:Sg)(nl:Nat)(loc P:Ls Str)(caps:Ls Nat)(Y:Scope):Bool :=
 loc.length==nl&&Y.kind==.function&&decide (loc++P).Nodup&&Y.names.all (λy=>y.2 != .local||Y.names.lookup y.1==some .local)&&Y.names.all (λy=>y.2 != .cell||Y.names.lookup y.1==some .cell)
  && Y.names.all (λy=>y.2 != .free||sg.sc.names.lookup y.1==some .cell)&&capB sg Y caps P
def swOk(sg:Sg)(es:Ls Lb)(v:Lb):Bool:=match v with
 | .Tuple W _ _=>es.any (λe=>match e with | .Name x _=>!(kIs sg x .local)|_=>true)||W.all (foldedForSure 8)
 |_=>true
def swB(sg:Sg)(x:Str)(P:Pos)(Y:Scope)(c:Pos):Bool:=kIs sg x .local&&P.line==c.line&&!(Y.names.any λy=>y.1==x&&(y.2==.local||y.2==.cell))
def isCo:Ex->Bool
 | .comp _ _ _ _ _ _ _ _=>true| .comp2 _ _ _ _ _ _ _ _ _=>true|_=>false
def setOk(sg:Sg)(x:Str)(P:Pos)(a:Ex)(v:Lb):Bool:=match v with
 | .ListComp _ _ Y c=>sg.sc.kind==.function&&(!swB sg x P Y c||isCo a)
 |v=>WM v
def isTr:Tx->Bool
 | .tTr=>true|_=>false
def zG6:Ix->Lb->Bool
 | .iZA _ _,e=>match e with
  | .Tuple _ _ _=>true|_=>false
 | .iE _ _,e=>match e with
  | .Tuple _ _ _=>true|_=>false
 |_,_=>true
structure SgOk(X:Cx)(sg:Sg):Prop where
 N:X.N=sg.N
 sc:X.env.scope=sg.sc
 fn:sg.top=true->∀x,X.fn x=true
 oc:∀x∈sg.oc,X.env.scope.names.lookup x=some .cell->X.fn x=true
 calm:sg.calm=true->X.calm=true
 hd:sg.calm=true->X.A.handled=none
 stk:sg.top=true->X.stack=X.env::X.outer/\X.env.frame=some X.env.locals
 nd:X.N.Nodup
 cs:∀x d,sg.cs.lookup x=some d->∃u v,X.mg x=some u/\yy v u/\∀H,Rep X.K X.mg H d v
 fs:∀i∈sg.fs,∃f fd ps,X.mg i.x=some (.ref f)/\keepIn X.K (.ref f)=true/\JL X.K fd ps []/\ps.length=i.n/\FnOkN (!i.wild) X.prog X.w X.K X.mg X.base i.lv f fd ps (spM X.K X.mg i.n i.F)
 bs:∀x∈sg.bs,X.mg x=none
 room:RoomN sg.lv X.A
 cl:sg.cl≠[]->∃T,X.mg "ThrowError"=some (.ref T)/\TCls X.K T/\∀c∈sg.cl,∃C,X.mg c=some (.ref C)/\XCls X.K c C T/\C≠T
 rs:∀c∈sg.rs,∃C,X.mg c=some (.ref C)/\excJ X.K C=true
 sm:zFg X.K
 ri:∀c∈sg.ri,RIok X.prog X.w X.K X.mg X.base c/\RAok X.K X.mg c
section
variable{X:Cx}{sg:Sg}
def Y2(G:SgOk X sg){x:Str}{k:NameKind}(h:kIs sg x k=true):X.env.scope.names.lookup x=some k:=by
 rw[G.sc];simpa[kIs]using h
def yR(G:SgOk X sg){x:Str}(h:glb sg x=true):Gl X x/\(x==("__debug__":Str))=false:=by
 dsimp[glb,Bool.and_eq_true,Bool.not_eq_true']at h;exact⟨Y2 G h.1,h.2⟩
def vg(G:SgOk X sg){x:Str}{i:Nat}{y:Pos}(h:vis sg i x=true):PE X (.Name x y) (zBt i):=by
 dsimp[vis,Bool.and_eq_true,Bool.or_eq_true,Bool.not_eq_true']at h;refine pe_var (by rw[G.N];exists h.1.1) ?_ h.2.1 h.2.2;rcases h.1.2 with q|q|q
 ·exact .inl (Y2 G q)
 ·exact .inr (.inl (Y2 G q))
 ·exact .inr (.inr (Y2 G q))
def uZ(G:SgOk X sg){x:Str}{i:Nat}(h:locd sg i x=true):X.N[i]?=some x/\Loc X.env.scope x/\(X.fn x=true\/X.env.scope.names.lookup x=some .local):=by
 dsimp[locd,Bool.and_eq_true,Bool.or_eq_true]at h;refine⟨by rw[G.N];simpa using h.1,?_⟩;rcases h.2 with q|q
 ·exact⟨.inl (Y2 G q),.inr (Y2 G q)⟩
 ·refine⟨.inr (Y2 G q.1),.inl ?_⟩
  rcases q.2 with S|S
  ·exact G.fn S x
  ·exact G.oc x (by exists S) (Y2 G q.1)
def wK(G:SgOk X sg){x:Str}(h:bIn sg x=true):X.mg x=none:=G.bs x (by simpa[bIn]using h)
def feq_of{d d':D}(h:feq d d'=true):d=d':=by
 cases d<;>cases d'<;>simp[feq]at h<;>first|rfl|(subst h;rfl)
def geq_of{d d':D}(h:geq d d'=true):d=d':=by
 unfold geq at h;split at h
 ·obtain⟨L,h2⟩:=Bool.and_eq_true_iff.mp h
  have:=beq_iff_eq.mp L;have:=beq_iff_eq.mp h2
  subst_vars;rfl
 ·have:=beq_iff_eq.mp h
  subst_vars;rfl
 ·exact feq_of h
def ok_glR{x:Str}{d:D}{u:Lv}{v:V}{y:Pos}(n:Gl X x)(K:X.mg x=some u)(r:yy v u)(p:∀H,Rep X.K X.mg H d v)(j:(x==("__debug__":Str))=false):EOk X (.Name x y) (eC d) :=
 yA (QR n K r j) λO H Q ⟨M,E,hl,fr,k⟩=>k _ H ((Got.refl (T0:=[]) hl fr).more (T:=[(some v,.v d)]) (FR.add fr (p _)) Step.refl.add)
def zG7{k:Nat}{x:Str}(h:fIs sg k x=true):∃i,sg.fs[k]?=some i/\i.x=x:=by
 unfold fIs at h;split at h
 ·rename_i i e;exact⟨i,e,by exists h⟩
 ·cases h
def zDb{k n:Nat}(h:fArg sg n k=true):∃i,sg.fs[k]?=some i/\i.n=n/\i.lv<=sg.lv/\(sg.calm||i.wild)=true:=by
 unfold fArg at h;split at h
 ·rename_i i e
  dsimp[Bool.and_eq_true,decide_eq_true_eq,beq_iff_eq]at h;exact⟨i,e,h.1.1,h.1.2,by exists h.2⟩
 ·cases h
def hd_of(G:SgOk X sg){b:Bool}(h:(sg.calm||b)=true):(!b)=true->X.A.handled=none:=λJ=>G.hd (by
 cases b with
 |true=>cases J|false=>exists h)
def zAr{fs:Ls FI}{k:Nat}{i:FI}(h:fs[k]?=some i):fiF fs k=i.F/\fiX fs k=i.x:=by
 unfold fiF fiX;rw[h];exact⟨rfl,rfl⟩
def vh{b:Lb}(h:zCU b=true):v9 b:=by
 intro o i;cases b<;>first|rfl|(cases h)
def Zc(E:Ls Lb)(T:Ls Nat)(G:SgOk X sg)(h:QO.all2 sg T E=true):PGs X E (YR T)/\(assignEach E X.env).length=T.length/\(assignEach E X.env).findIdx? (·.1)=none:=by
 induction E generalizing T with
 |nil =>
  cases T with
  |nil=>exact⟨pgs_nil,rfl,rfl⟩|cons i T=>cases h
 |cons e E I =>
  cases T with
  |nil=>cases h
  |cons i T =>
   dsimp[QO.all2,Bool.and_eq_true]at h;obtain⟨L,h2⟩:=h;cases e with
   |Name x y =>
    obtain⟨j,S,R⟩:=uZ G L;obtain⟨w,p,a⟩:=I T h2;refine⟨zEj (zBw G.nd j S R) w rfl,?_,?_⟩
    ·show(assignEach E X.env).length+1=_
     rw[p];rfl
    ·show List.findIdx? _ ((false,_)::assignEach E X.env)=none
     dsimp[List.findIdx?_cons,a];rfl
   |_=>cases L
def gOf(K:qH):Tg->TG
 | .n i=>QS i| .t T=>gTup K T.length (YR T)
def YN(tg:Tg):GOk X (gOf X.K tg) tg.m:=by
 cases tg with
 |n i=>exact go_name i|t T=>exact zGl T rfl
def vG{tg:Tg}{t:Lb}(O:sg.calm=true)(G:SgOk X sg)(h:QO tg sg t=true):PG X t (gOf X.K tg):=by
 cases tg with
 |n i =>
  dsimp[QO]at h;cases t with
  |Name x y =>
   obtain⟨j,S,R⟩:=uZ G h;exact zBw G.nd j S R
  |_=>cases h
 |t T =>
  dsimp[QO]at h;cases t with
  |Tuple E k y =>
   obtain⟨j,S,R⟩:=Zc E T G h;exact zGU (G.calm O) j S R
  |_=>cases h
def zF1(G:SgOk X sg){N:Ls Str}{Y:Scope}(D:N.Nodup)(a:∀y∈Y.names,y.2=.cell->Y.names.lookup y.1=some .cell){cl C ex s H}:SgOk (cxB X N Y cl C ex s H) (Z4 sg N Y) where
 N:=rfl
 sc:=by
  show relabel Y X.env=relab Y sg.sc
  rw[<- G.sc];rfl
 fn:=λh=>by cases h
 oc:=λx h _=>by
  obtain⟨y,O,rfl⟩:=mem_map.mp (show x∈(Y.names.filter λy=>y.2==.cell).map Prod.fst from h);obtain⟨j,S⟩:=mem_filter.mp O;show(Y.names.lookup y.1==some NameKind.cell)=true;rw[a y j (by exists S)];rfl
 calm:=G.calm
 hd:=G.hd
 stk:=λh=>by cases h
 nd:=D
 cs:=G.cs
 fs:=G.fs
 bs:=G.bs
 room:=G.room
 cl:=G.cl
 rs:=G.rs
 sm:=G.sm
 ri:=G.ri
def yS(G:SgOk X sg):SgOk X.nox sg:=⟨G.N,G.sc,G.fn,G.oc,G.calm,G.hd,G.stk,G.nd,G.cs,G.fs,G.bs,G.room,G.cl,G.rs,G.sm,G.ri⟩
def tr_ok(G:SgOk X sg)(pn:Ls (Lz×Obj))(E:Ly):SgOk (trX X pn E) sg:=⟨G.N,G.sc,G.fn,G.oc,G.calm,G.hd,G.stk,G.nd,G.cs,G.fs,G.bs,G.room,G.cl,G.rs,G.sm,G.ri⟩
def hd_ok(G:SgOk X sg)(a:Lz):SgOk (hdX X a) {sg with calm:=false}:=⟨G.N,G.sc,G.fn,G.oc,λh=>by(cases h),λh=>by(cases h),G.stk,G.nd,G.cs,G.fs,G.bs,⟨G.room.gd,G.room.dp,G.room.un⟩,G.cl,G.rs,G.sm,G.ri⟩
end
section
open Bool
def kit_of(K:qH)(T:Ty):Kit K T.s:=by
 cases T
 ·exact kit_int K
 ·exact zFS K
 ·exact zCw K
 ·exact zFT K
 ·exact kit_str K
 ·exact zFU K
def bt_of(T:Ty):bootBuiltins T.nm=some (.type T.s):=by
 cases T
 ·exact zGq
 ·exact bt_bool
 ·exact zAc
 ·exact zCx
 ·exact bt_str
 ·exact bt_dict
def nm_of(T:Ty):T.nm≠"__name__":=by cases T<;>left
def bin_of{X:Cx}{o:Op2}{a b:Lb}{n I:ME}{y:Pos}(P:EOk X a n)(J:EOk X b I):EOk X (.BinOp a o.op b y) (Jk o.f n I):=by
 cases o
 ·exact zBR op_addD ro_add P J
 ·exact zBR op_sub ro_sub P J
 ·exact zBR (op_mulD.or op_repL) ro_mulG P J
 ·exact zBR zE9 ro_fdiv P J
 ·exact zBR op_mod ro_mod P J
 ·exact zBR op_pow ro_pow P J
def zAs{X:Cx}{sg:Sg}(G:SgOk X sg):X.A.units+21<cLine:=by have:=G.room.un;lia
def zG8{X:Cx}{sg:Sg}(G:SgOk X sg):X.A.units+20<cLine:=by have:=G.room.un;lia
def bt_sum:bootBuiltins "sum"=some (.builtin "sum"):=by left
def bt_repr:bootBuiltins "repr"=some (.builtin "repr"):=by left
def room64{X:Cx}{sg:Sg}(G:SgOk X sg):X.A.units+64<cLine:=by have:=G.room.un;lia
def yD{op:CmpOp}{b:Lb}(h:jg b=true):behindInMarks op b=false:=by
 cases b<;>first|rfl|(cases h)
def cmp_of{X:Cx}{sg:Sg}(G:SgOk X sg){o:Cp}{a b:Lb}{n I:ME}{y:Pos}(D:jg b=true)(P:EOk X a n)(J:EOk X b I):EOk X (.Compare a [o.op] [b] y) (Jk o.f n I):=by
 cases o
 ·exact ZX op_lt ro_lt (yD D) P J
 ·exact ZX (op_le.or (zG0 (by have:=zG8 G;lia))) zG1 (yD D) P J
 ·exact ZX op_gt ro_gt (yD D) P J
 ·exact ZX op_ge ro_ge (yD D) P J
 ·exact ZX (op_eq.or (zG2 G.sm (zAs G))) zGu (yD D) P J
 ·exact ZX (op_ne.or (zG3 G.sm (zAs G))) zGv (yD D) P J
 ·exact ZX op_is ro_is (yD D) P J
 ·exact ZX zAd zAe (yD D) P J
def cmpT_of{X:Cx}{sg:Sg}(G:SgOk X sg){o:Cp}{a b:Lb}{n I:ME}{y:Pos}(D:jg b=true)(P:EOk X a n)(J:EOk X b I):TOk X (.Compare a [o.op] [b] y) (tT (Jk o.f n I)):=by
 cases o
 ·exact JP op_lt ro_lt (yD D) P J
 ·exact JP (op_le.or (zG0 (by have:=zG8 G;lia))) zG1 (yD D) P J
 ·exact JP op_gt ro_gt (yD D) P J
 ·exact JP op_ge ro_ge (yD D) P J
 ·exact JP (op_eq.or (zG2 G.sm (zAs G))) zGu (yD D) P J
 ·exact JP (op_ne.or (zG3 G.sm (zAs G))) zGv (yD D) P J
 ·exact JP op_is ro_is (yD D) P J
 ·exact JP zAd zAe (yD D) P J
def zDc{o v:CmpOp}{b c:Lb}(h:jg c=true):lastMarks [o,v] [b,c]=false:=yD h
def zAt{X:Cx}{o:Cp}(h:o.isI=true):OpR X (compareOp o.op) (rI0 λi j=>.bl (o.b i j)):=by
 cases o<;>first|exact op_lt|exact op_le|exact op_gt|exact op_ge|(cases h)
def bi_of{X:Cx}{sg:Sg}(O:sg.calm=true)(G:SgOk X sg)(b:Bi){x:Lb}{es:Ls Lb}{m:MA}{p y:Pos}(n:Gl X b.nm)(K:X.mg b.nm=none)(S:jB (x::es)=true)(P:AOk X (x::es) m):EOk X (.Call (.Name b.nm p) (x::es) [] y) (eCB b.f m):=by
 have L:zU x=false:=by dsimp[jB,Bool.and_eq_true,Bool.not_eq_true']at S;exact S.1
 have h2:jB es=true:=by dsimp[jB,Bool.and_eq_true,Bool.not_eq_true']at S;exact S.2
 cases b with
 |len=>exact Ys GS co_len n K bt_len P (by left) (by left) L h2|max=>exact Ys (zB7 (G.calm O)) co_max n K zGp P (by left) (by left) L h2|all=>exact Ys (zE5 (G.calm O)) co_all n K bt_all P (by left) (by left) L h2|int=>exact WO zB8 co_int n K zGq P (by left) (by left) L h2|tuple=>exact WO uB zFB n K zAc P (by left) (by left) L h2|list=>exact WO GT co_list n K zCx P (by left) (by left) L h2|sum=>exact Ys (call_or (zCz (G.calm O)) (zC0 (G.calm O))) co_sumG n K bt_sum P (by left) (by left) L h2|repr=>exact Ys (zBX G.sm G.room.gd (room64 G)) co_repr n K bt_repr P (by left) (by left) L h2
theorem zAu(fs:Ls FI):∀as:Gx,(dG fs as).length=gLen as
 | .nil=>rfl| .ev a as=>congrArg (·+1) (zAu fs as)| .lend i as=>congrArg (·+1) (zAu fs as)
def call_ok{X:Cx}{sg:Sg}(G:SgOk X sg){k:Nat}{as:Gx}{f:Str}{x:Lb}{es:Ls Lb}{p y:Pos}(L:glb sg f=true)(Y:fIs sg k f=true)(M:fArg sg (gLen as) k=true)(h:jB (x::es)=true)(P:zFM X (x::es) (dG sg.fs as)):EOk X (.Call (.Name f p) (x::es) [] y) (yl (fiF sg.fs k) (dG sg.fs as)):=by
 obtain⟨I,Z⟩:=yR G L;obtain⟨i,R,w⟩:=zG7 Y;obtain⟨H,j,l,O,C⟩:=zDb M;rw[R]at j;cases j;obtain⟨a,g,T,K,Q,c,e,V⟩:=G.fs i (mem_of_getElem? R);rw[(zAr R).1];subst w;dsimp[jB,Bool.and_eq_true,Bool.not_eq_true']at h;rw[<- e]at V;exact ok_call V (hd_of G C) (G.room.mono O) I K Q c P (by rw[zAu,e,l]) Z h.1 h.2
theorem zG9{X:Cx}{sg:Sg}(G:SgOk X sg){n:Nat}:∀{z:Ls Nat},z.all (fArg sg n)=true->zBT X n (uS (z.map λk=>(fiX sg.fs k,fiF sg.fs k)))
 | [],_=>tab_nil
 |k::z,h=>by
  dsimp[all_cons,Bool.and_eq_true]at h;obtain⟨i,R,l,O,C⟩:=zDb h.1;obtain⟨a,y,T,K,Q,c,e,V⟩:=G.fs i (mem_of_getElem? R);dsimp[map_cons];rw[(zAr R).1,(zAr R).2];rw[l]at V;exact zFX K Q V (hd_of G C) (G.room.mono O) c (zG9 G h.2)
theorem zHA{X:Cx}{sg:Sg}(G:SgOk X sg){Y:Scope}:∀{n:Ls Nat} {P:Ls Str},capB sg Y n P=true->zFW X Y n P
 | [],[],_=>trivial| [],_::_,h=>by cases h|_::_,[],h=>by cases h
 |j::c,x::a,h=>by
  dsimp[capB,Bool.and_eq_true]at h;exact⟨by rw[G.N];simpa using h.1.1,by simpa using h.1.2,zHA G h.2⟩
end
section
def set_of{x:Str}{p t:Pos}{b:Lb}{env:Env}(h:zCU b=true):∀v,assign (.Subscript (.Name x p) b t) env v=(do
   let ov <- holding [v] (eval (.Name x p) env)
   let iv <- holding [v,ov] (eval b env)
   standAt t
   holding [v,ov,iv] (setItem ov iv v)
   release [v,ov,iv] []):=by
 intro v;cases b<;>first|rfl|(cases h)
def sole_of{t e:Lb}{l:Nat}{env:Env}(h:WM e=true):swapsWithSole [t] e l env=pure false:=by
 show swapsWith e (some t) l env=pure false
 exact uF h
def zF2{a b e:Lb}{p:Pos}{l:Nat}{env:Env}:swapsWithSole [.Subscript a b p] e l env=pure false:=by cases e<;>rfl
def kind_fn{X:Cx}{sg:Sg}(G:SgOk X sg)(h:(sg.sc.kind==ScopeKind.function)=true):X.env.blockKind=.function:=by
 have:X.env.scope.kind=.function:=by rw[G.sc];exact beq_iff_eq.mp h
 unfold Env.blockKind;rw[this];rfl
def zHB{X:Cx}{sg:Sg}(G:SgOk X sg)(C:(sg.sc.kind==ScopeKind.function)=true){el:Lb}{g:Ls Comprehension}{Y:Scope}{c P:Pos}{x:Str}{l:Nat}:swapsWith (.ListComp el g Y c) (some (.Name x P)) l X.env=pure (swB sg x P Y c):=by
 show(pure (X.env.blockKind==.function&&X.env.kindOf x==some .local&&P.line==c.line&&!(Y.names.any λ(n,k)=>n==x&&(k==.local||k==.cell))):Sem Bool)=_
 rw[kind_fn G C];unfold swB kIs Env.kindOf;rw[G.sc];simp
theorem zHC{α β:Type}(f:α->Lx β):∀l:Ls α,(l.filterMap f).length<=l.length
 | []=>le_refl _
 |a::l=>by
  have:=zHC f l;rw[filterMap_cons];split
  ·dsimp[length_cons];lia
  ·dsimp[length_cons];lia
theorem fm_lt{α β:Type}(f:α->Lx β):∀l:Ls α,(∃a∈l,f a=none)->(l.filterMap f).length<l.length
 | [],h=>by obtain⟨a,h,_⟩:=h;cases h
 |b::l,h=>by
  obtain⟨a,K,hf⟩:=h;rw[filterMap_cons];rcases mem_cons.mp K with rfl|K
  ·rw[hf]
   have:=zHC f l;dsimp[length_cons];lia
  ·have:=fm_lt f l ⟨a,K,hf⟩
   split
   ·dsimp[length_cons];lia
   ·dsimp[length_cons];lia
def sw_ok{X:Cx}{sg:Sg}(G:SgOk X sg){es:Ls Lb}{k:Nat}{p:Pos}{v:Lb}(h:swOk sg es v=true):swappedStores [.Tuple es k p] v X.env=pure none:=by
 cases v with
 |Tuple W r g =>
  unfold swappedStores;dsimp;split
  ·rfl
  split
  ·rfl
  split
  ·rfl
  rename_i D;split
  ·rfl
  rename_i hf
  exfalso
  rcases Bool.or_eq_true _ _ |>.mp h with h|h
  ·obtain⟨e,M,C⟩:=List.any_eq_true.mp h
   refine D (Bool.or_eq_true _ _ |>.mpr (.inl ?_));refine bne_iff_ne.mpr (ne_of_lt (fm_lt _ es ⟨e,M,?_⟩));cases e with
   |Name x q =>
    have:X.env.kindOf x≠some .local:=λz=>by
     have Y:sg.sc.names.lookup x=some .local:=by rw[<- G.sc];exact z
     simp[kIs,Y]at C
    have R:(X.env.kindOf x==some NameKind.local)=false:=by exists this
    simp[R]
   |_=>rfl
  ·exact hf h
 |_=>rfl
def zHD{X:Cx}{op:BoolOp}{vs:Ls Lb}{p:Pos}{m:MT}(h:TOk X (.BoolOp op vs p) m):WOk X (.BoolOp op vs p) m:=λw=>h
def zDd{e:Lb}{env:Env}{a:Pos}(h:zU e=false):((backTo a (starEach (e::[]) env)).all (λx=>!x.1)&&(backToKw a (keywordEach [] env)).all (λx=>x.1.isSome)
   && decide ((e::([]:Ls Lb)).length+([]:Ls Keyword).length+(if([]:Ls Keyword).isEmpty then 0 else 1)<30))=true:=by
 rw[zM h];rfl
def zAv{a b:Bool}(h:(a&&b)=true):a=true/\b=true:=by exists h
def nst{a:Bool}(h:(!a)=true):a=false:=by exists h
def ua:bootBuiltins "ValueError"=some (.type "ValueError"):=by left
def zAw{X:Cx}{sg:Sg}(G:SgOk X sg)(O:sg.calm=true){nl:Nat}{loc P:Ls Str}{caps:Ls Nat}{Y:Scope}(L:zBd sg nl loc P caps Y=true):CSc X.nox Y nl caps (loc++P)/\∀r C K s H,SgOk (cxB X.nox (loc++P) Y r C K s H) (Z4 sg (loc++P) Y):=by
 unfold zBd at L;obtain⟨L,I⟩:=zAv L;obtain⟨L,h⟩:=zAv L;obtain⟨L,g⟩:=zAv L;obtain⟨L,W⟩:=zAv L;obtain⟨L,c⟩:=zAv L;obtain⟨u,i⟩:=zAv L;have k:∀y∈Y.names,y.2=.cell->Y.names.lookup y.1=some .cell:=λy a Z=>by
  have:=all_eq_true.mp g y a;rw[Z]at this;exists this
 refine⟨csc_of loc P (beq_iff_eq.mp u) (λe s z=>z) (G.calm O) (beq_iff_eq.mp i) (λy a hl=>?_) k (by rw[show X.nox.env.kindOf=λn=>X.env.scope.names.lookup n from rfl,G.sc];exact h) (zHA (yS G) I),λ_ _ _ _ _=>zF1 (yS G) (of_decide_eq_true c) k⟩;have:=all_eq_true.mp W y a;rw[hl]at this;exists this
def zHE{X:Cx}{fs:Ls FI}{tt:Tx}(h:isTr tt=true):IfOk X [] (dT fs tt):=by
 cases tt<;>first|(cases h;done)|exact uP
def gkE{t:Ex}{sg:Sg}{e:Lb}{X:Cx}{c:Ck (∀X,SgOk X sg->EOk X e (dE sg.fs t))}(h:c.yes=true)(G:SgOk X sg):EOk X e (dE sg.fs t):=c.why h X G
def gkT{t:Tx}{sg:Sg}{e:Lb}{X:Cx}{c:Ck (∀X,SgOk X sg->TOk X e (dT sg.fs t))}(h:c.yes=true)(G:SgOk X sg):TOk X e (dT sg.fs t):=c.why h X G
def gkB{t:Bx}{sg:Sg}{e:Ls Lf}{X:Cx}{c:Ck (∀X,SgOk X sg->GF X e (dB sg.fs t))}(h:c.yes=true)(G:SgOk X sg):GF X e (dB sg.fs t):=c.why h X G
mutual
noncomputable def cE:(t:Ex)->(sg:Sg)->(e:Lb)->Ck (∀X,SgOk X sg->EOk X e (dE sg.fs t))
 | .c d,sg,e=>qConstant e λk _ _=>bk (cIs d k) λh=>rt λX G=>by
   unfold cIs at h;split at h
   ·exact ok_non
   ·have:=(beq_iff_eq.mp h);subst this;exact ok_bl
   ·have:=(beq_iff_eq.mp h);subst this;exact ok_int
   ·have:=(beq_iff_eq.mp h);subst this;exact ok_str
   ·cases h
 | .gl d,sg,e=>qName e λx _=>bk (glb sg x) λL=>bk (gIs sg x d) λh2=>rt λX G=>by
   obtain⟨g1,g2⟩:=yR G L;unfold gIs at h2;split at h2
   ·rename_i d' e
    have:=geq_of h2;subst this;obtain⟨u,v,j,q2,R⟩:=G.cs x d e;exact ok_glR g1 j q2 R g2
   ·cases h2
 | .fn k,sg,e=>qName e λx _=>bk (glb sg x) λL=>bk (fIs sg k x) λh2=>rt λX G=>by
   obtain⟨g1,g2⟩:=yR G L;obtain⟨i,e1,e2⟩:=zG7 h2;obtain⟨a,fd,ps,m1,m2,m3,m4,m5⟩:=G.fs i (mem_of_getElem? e1);show EOk X _ (eC (.fn (fiX sg.fs k)));rw[(zAr e1).2];subst e2;exact ok_fn g1 m1 g2
 | .x i,sg,e=>qName e λx _=>bk (vis sg i x) λh=>rt λX G=>ok_var i (vg G h)| .mov i,sg,e=>qName e λx _=>bk (vis sg i x) λh=>rt λX G=>ok_move i (vg G h)| .bin o a b,sg,e=>qBinOp e λx op y _=>bq op o.op λL=>(cE a sg x).d λh2=>(cE b sg y).d λM=>rt λX G=>by subst L;exact bin_of (h2 _ G) (M _ G)
 | .cmp o a b,sg,e=>qCompare e λx Q q _=>qCons Q λop V=>qNil V <| qCons q λy w=>qNil w <| bq op o.op λL=>bk (jg y) λh0=>(cE a sg x).d λh2=>(cE b sg y).d λM=>rt λX G=>by subst L;exact cmp_of G h0 (h2 _ G) (M _ G)
 | .chain o o' a b c,sg,e=>qCompare e λx Q q _=>qCons Q λop w5=>qCons w5 λab Z=>qNil Z <| qCons q λy w=>qCons w λz V=>qNil V <| bq op o.op λk1=>bq (ab) (o'.op) λk2=>bk (o.isI) λn=>bk (o'.isI) λW=>bk (jg z) λk5=>(cE a sg x).d λh2=>(cE b sg y).d λM=>(cE c sg z).d λh4=>rt λX G=>by subst k1 k2;exact zFV (zAt n) (zAt W) (h2 _ G) (M _ G) (h4 _ G) (zDc k5)
 | .neg a,sg,e=>qUnaryOp e λQ x _=>qUSub Q <| (cE a sg x).d λh=>rt λX G=>ok_neg (h _ G)
 | .not a,sg,e=>qUnaryOp e λQ x _=>qNot Q <| (cE a sg x).d λh=>rt λX G=>ok_not (h _ G)
 | .and a b,sg,e=>qBoolOp e λQ q p=>qAnd Q <| qCons q λx w=>qCons w λy r=>(cE a sg x).d λL=>bk (match r with | []=>(cE b sg y).yes|z::r'=>(cE b sg (.BoolOp .And (y::z::r') p)).yes) λh2=>rt λX G=>by
   cases r with
   |nil=>exact zGh (L _ G) (ok_one (gkE h2 G))|cons z r'=>exact zGh (L _ G) (gkE h2 G)
 | .ifx t a b,sg,e=>qIfExp e λc x y _=>(cT t sg c).d λL=>(cE a sg x).d λh2=>(cE b sg y).d λM=>rt λX G=>ok_if (L _ G) (h2 _ G) (M _ G)| .t as,sg,e=>qTuple e λE _ _=>(cA as sg E).d λh=>rt λX G=>ok_tup (h _ G)| .l as,sg,e=>qList e λE _=>(cA as sg E).d λh=>rt λX G=>ok_lst (h _ G)| .ix a b,sg,e=>qSubscript e λx y _=>bk (zCU y) λL=>(cE a sg x).d λh2=>(cE b sg y).d λM=>rt λX G=>ok_ix ix_both ro_ix (vh L) (h2 _ G) (M _ G)| .ixO i b,sg,e=>qSubscript e λQ y _=>qName Q λx _=>bk (vis sg i x) λL=>bk (zCU y) λM=>(cE b sg y).d λh2=>rt λX G=>ok_ixO i (vg G L) (h2 _ G) (vh M)
 | .sl a l hh,sg,e=>qSubscript e λx Q _=>qSlice Q λlo hi q _=>qNone q <| (cE a sg x).d λL=>(cO l sg lo).d λh2=>(cO hh sg hi).d λM=>rt λX G=>ok_sl (L _ G) (h2 _ G) (M _ G)
 | .comp nl J P ag it D tt el,sg,e=>qListComp e λai Q ac _=>qCons Q λq w=>qCm q λad af am=>qNil w <| bk (sg.calm) λO=>bk (zBd sg nl J P ag ac) λL=>bk (jg af) λk9=>bk (zG6 it ad) λq0=>(cI it sg af).d λj=>bk (QO D (Z4 sg (J++P) ac) ad) λq2=>bk (match am with | []=>isTr tt|c::cs=>cs.isEmpty&&(cT tt (Z4 sg (J++P) ac) c).yes) λR=>(cE el (Z4 sg (J++P) ac) ai).d λq4=>rt λX G=>by
   have⟨C,I⟩:=zAw G O L;refine no_E (ok_lc C (j _ _ (yS G) q0) (g:=gOf X.K D) (λcl C K s H=>vG (sg:=Z4 sg (J++P) ac) O (I cl C K s H) q2) (YN D) (λcl C K s H=>?_) (λcl C K s H=>q4 _ (I cl C K s H)) (yX k9));cases am with
   |nil=>exact zHE R
   |cons c cs =>
    obtain⟨R,q5⟩:=zAv R;have:=isEmpty_iff.mp R;subst this;exact zCq (gkT (sg:=Z4 sg (J++P) ac) q5 (I cl C K s H))
 | .comp2 nl J P ag it D jt ah el,sg,e=>qListComp e λai Q ac _=>qCons Q λq w=>qCm q λad af w7=>qNil w7 <| qCons w λV w5=>qCm V λae S Z=>qNil Z <| qNil w5 <| bk (sg.calm) λO=>bk (zBd sg nl J P ag ac) λL=>bk (jg af) λk9=>bk (zG6 it ad) λq0=>(cI it sg af).d λj=>bk (QO D (Z4 sg (J++P) ac) ad) λq2=>bk (jg S) λR=>bk (zG6 jt ae) λaa=>(cI jt (Z4 sg (J++P) ac) S).d λq4=>bk (QO ah (Z4 sg (J++P) ac) ae) λq5=>(cE el (Z4 sg (J++P) ac) ai).d λq6=>rt λX G=>by
   have⟨C,I⟩:=zAw G O L;exact no_E (ok_lc2 C (j _ _ (yS G) q0) (g:=gOf X.K D) (λcl C K s H=>vG (sg:=Z4 sg (J++P) ac) O (I cl C K s H) q2) (YN D) (λcl C K s H=>q4 _ _ (I cl C K s H) aa) (g1:=gOf X.K ah) (λcl C K s H=>vG (sg:=Z4 sg (J++P) ac) O (I cl C K s H) q5) (YN ah) (λcl C K s H=>q6 _ (I cl C K s H)) (yX k9) (λcl C K s H=>yX R))
 | .is T a,sg,e=>qCall e λQ q w _=>qName Q λf _=>qCons q λx V=>qCons V λw5 Z=>qName w5 λy _=>qNil Z <| qNil w <| bq f "isinstance" λk1=>bq y T.nm λk2=>bk (glb sg "isinstance") λn=>bk (bIn sg "isinstance") λW=>bk (glb sg T.nm) λk5=>bk (bIn sg T.nm) λk6=>bk (!zU x) λk7=>(cE a sg x).d λh2=>rt λX G=>by subst k1 k2;exact ok_is (kit_of _ T) (yR G n).1 (wK G W) (yR G k5).1 (wK G k6) (bt_of T) (h2 _ G) wt (nm_of T) (yR G k5).2 (nst k7)
 | .cB b as,sg,e=>qCall e λQ q w _=>qName Q λf _=>qCons q λx E=>qNil w <| bk (sg.calm) λO=>bq f b.nm λk1=>bk (glb sg b.nm) λk2=>bk (bIn sg b.nm) λn=>bk (jB (x::E)) λW=>(cA as sg (x::E)).d λh2=>rt λX G=>by subst k1;exact bi_of O G b (yR G k2).1 (wK G n) W (h2 _ G)
 | .call k as,sg,e=>qCall e λQ q w _=>qName Q λf _=>qCons q λx E=>qNil w <| bk (glb sg f) λk1=>bk (fIs sg k f) λk2=>bk (fArg sg (gLen as) k) λn=>bk (jB (x::E)) λW=>(cG as sg (x::E)).d λh2=>rt λX G=>call_ok G k1 k2 n W (h2 _ G)
 | .maxd a d,sg,e=>qCall e λQ q w _=>qName Q λf _=>qCons q λx w7=>qNil w7 <| qCons w λV w5=>qKw V λZ y _=>qSome Z λnm=>qNil w5 <| bk (sg.calm) λO=>bq f "max" λk1=>bq nm (Str.ofString "default") λk2=>bk (glb sg "max") λn=>bk (bIn sg "max") λW=>bk (!zU x) λk5=>(cE a sg x).d λh2=>(cE d sg y).d λM=>rt λX G=>by subst k1 k2;exact ok_maxd (G.calm O) (yR G n).1 (wK G W) (h2 _ G) (M _ G) (nst k5)
 | .callV ks g as,sg,e=>qCall e λfe Q q _=>qCons Q λx E=>qNil q <| bk (zCV fe) λk1=>bk (ks.all (fArg sg (gLen as))) λk2=>bk (jB (x::E)) λn=>(cE g sg fe).d λh2=>(cG as sg (x::E)).d λM=>rt λX G=>by
   dsimp[jB,Bool.and_eq_true,Bool.not_eq_true']at n;exact zFQ (zG9 G k2) (h2 _ G) (M _ G) (zAu _ _) (call_of k1) n.1 n.2
 | .isC cl y a,sg,e=>qCall e λQ q w _=>qName Q λf _=>qCons q λx V=>qCons V λw5 Z=>qName w5 λz _=>qNil Z <| qNil w <| bq f "isinstance" λk1=>bq z y λk2=>bk (glb sg "isinstance") λn=>bk (bIn sg "isinstance") λW=>bk (glb sg y) λk5=>bk (cl==sg.cl) λaj=>bk (sg.cl.contains y) λk8=>bk (!zU x) λk7=>(cE a sg x).d λh2=>rt λX G=>by
   subst k1 k2;have ak:cl=sg.cl:=by exists aj
   subst ak;have hy:z∈sg.cl:=by exists k8
   obtain⟨T,t1,t2,t3⟩:=G.cl (List.ne_nil_of_mem hy);obtain⟨Y,y1,y2,y3⟩:=t3 z hy;exact ok_isC (λc hc=>let ⟨C,c1,c2,_⟩:=t3 c hc;⟨C,c1,c2⟩) y1 y2 y3 (yR G n).1 (wK G W) (yR G k5).1 (h2 _ G) wt (yR G k5).2 (nst k7)
 | .isV cl a,sg,e=>qCall e λQ q w _=>qName Q λf _=>qCons q λx V=>qCons V λw5 Z=>qName w5 λz _=>qNil Z <| qNil w <| bq f "isinstance" λk1=>bq z "ValueError" λk2=>bk (glb sg "isinstance") λn=>bk (bIn sg "isinstance") λW=>bk (glb sg "ValueError") λk5=>bk (bIn sg "ValueError") λk9=>bk (cl==sg.cl) λaj=>bk (!sg.cl.isEmpty) λk8=>bk (!zU x) λk7=>(cE a sg x).d λh2=>rt λX G=>by
   subst k1 k2;have ak:cl=sg.cl:=by exists aj
   subst ak;obtain⟨T,t1,t2,t3⟩:=G.cl (λz=>by rw[z]at k8;cases k8);exact ok_isV (T:=T) (λc hc=>let ⟨C,c1,c2,_⟩:=t3 c hc;⟨C,c1,c2⟩) (yR G n).1 (wK G W) (yR G k5).1 (wK G k9) ua (h2 _ G) wt (nst k7)
 | .cnt a b,sg,e=>qCall e λQ q w cp=>qAttribute Q λw5 m ap=>qName w5 λx p=>qCons q λv V=>qNil V <| qNil w <| bq m "count" λk1=>bk (ap.endLine==cp.line) λk2=>bk (!zU v) λn=>(cE a sg (.Name x p)).d λh2=>(cE b sg v).d λM=>rt λX G=>by subst k1;exact ok_cnt (h2 _ G) (M _ G) rfl (nst n) k2 (zDd (nst n))
 | .idx a b,sg,e=>qCall e λQ q w cp=>qAttribute Q λw5 m ap=>qName w5 λx p=>qCons q λv V=>qNil V <| qNil w <| bq m "index" λk1=>bk (ap.endLine==cp.line) λk2=>bk (!zU v) λn=>(cE a sg (.Name x p)).d λh2=>(cE b sg v).d λM=>rt λX G=>by subst k1;exact ok_idx (h2 _ G) (M _ G) rfl (nst n) k2 (zDd (nst n))
noncomputable def cT:(t:Tx)->(sg:Sg)->(e:Lb)->Ck (∀X,SgOk X sg->TOk X e (dT sg.fs t))
 | .tAnd a b,sg,e=>qBoolOp e λQ q p=>qAnd Q <| qCons q λx w=>qCons w λy r=>(cT a sg x).d λL=>bk (match r with | []=>(cT b sg y).yes|z::T=>(cT b sg (.BoolOp .And (y::z::T) p)).yes) λh2=>rt λX G=>by
   cases r with
   |nil=>exact tk_w (zGg (L _ G) (wk_and1 (gkT h2 G)))|cons z T=>exact tk_w (zGg (L _ G) (zHD (gkT h2 G)))
 | .tOr a b,sg,e=>qBoolOp e λQ q p=>qOr Q <| qCons q λx w=>qCons w λy r=>(cT a sg x).d λL=>bk (match r with | []=>(cT b sg y).yes|z::T=>(cT b sg (.BoolOp .Or (y::z::T) p)).yes) λh2=>rt λX G=>by
   cases r with
   |nil=>exact tk_w (wk_or (L _ G) (wk_or1 (gkT h2 G)))|cons z T=>exact tk_w (wk_or (L _ G) (zHD (gkT h2 G)))
 | .tNot a,sg,e=>qUnaryOp e λQ x _=>qNot Q <| (cT a sg x).d λh=>rt λX G=>tk_not (h _ G)
 | .tE (.cmp o a b),sg,e=>qCompare e λx Q q _=>qCons Q λop V=>qNil V <| qCons q λy w=>qNil w <| bq op o.op λL=>bk (jg y) λJ=>(cE a sg x).d λC=>(cE b sg y).d λn=>rt λX G=>by subst L;exact cmpT_of G J (C _ G) (n _ G)
 | .tE (.chain o v a b c),sg,e=>qCompare e λx Q q _=>qCons Q λop k=>qCons k λY Z=>qNil Z <| qCons q λy w=>qCons w λz V=>qNil V <| bq op o.op λu=>bq (Y) (v.op) λC=>bk (o.isI) λn=>bk (v.isI) λW=>bk (jg z) λg=>(cE a sg x).d λl=>(cE b sg y).d λj=>(cE c sg z).d λi=>rt λX G=>by subst u C;exact zCy (zAt n) (zAt W) (l _ G) (j _ G) (i _ G) (zDc g)
 | .tE a,sg,e=>bk (zGe e&&(cE a sg e).yes) λh=>rt λX G=>by
  obtain⟨L,h2⟩:=zAv h;exact ok_test (gkE h2 G) (test_of L)
 | .tTr,sg,e=>bk (false) λh=>rt λX G=>absurd h qF
noncomputable def cA:(t:Ax)->(sg:Sg)->(e:Ls Lb)->Ck (∀X,SgOk X sg->AOk X e (dA sg.fs t))
 | .nil,sg,e=>bk (e.isEmpty) λh=>rt λX G=>by
  have:=isEmpty_iff.mp h;subst this;exact ak_nil
 | .cons a as,sg,e=>qCons e λx r=>bk (!zU x) λL=>(cE a sg x).d λh2=>(cA as sg r).d λM=>rt λX G=>ak_cons (h2 _ G) (M _ G) (nst L)
noncomputable def cG:(t:Gx)->(sg:Sg)->(e:Ls Lb)->Ck (∀X,SgOk X sg->zFM X e (dG sg.fs t))
 | .nil,sg,e=>bk (e.isEmpty) λh=>rt λX G=>by
  have:=isEmpty_iff.mp h;subst this;exact ga_nil
 | .ev a as,sg,e=>qCons e λx r=>bk (!zU x) λL=>(cE a sg x).d λh2=>(cG as sg r).d λM=>rt λX G=>ga_ev (h2 _ G) (M _ G) (nst L)| .lend i as,sg,e=>qCons e λQ r=>qName Q λx _=>bk (vis sg i x) λL=>(cG as sg r).d λh2=>rt λX G=>ga_lend (vg G L) (h2 _ G)
noncomputable def cO:(t:Ox)->(sg:Sg)->(e:Lx Lb)->Ck (∀X,SgOk X sg->OOk X e (dO sg.fs t))
 | .oN,sg,e=>bk (e.isNone) λh=>rt λX G=>by
  cases e with
  |none=>exact oo_none|some e=>cases h
 | .oS a,sg,e=>qSome e λe=>(cE a sg e).d λh=>rt λX G=>oo_some (h _ G)
noncomputable def cI:(t:Ix)->(sg:Sg)->(e:Lb)->Ck (∀X D,SgOk X sg->zG6 t D=true->IOk X D e (dI sg.fs t))
 | .iL a,sg,e=>(cE a sg e).d λh=>rt λX D G hz=>Qe (h _ G)| .iT a,sg,e=>(cE a sg e).d λh=>rt λX D G hz=>zGn (h _ G)| .iA a,sg,e=>(cE a sg e).d λh=>rt λX D G hz=>io_any (h _ G)
 | .iRv as,sg,e=>qCall e λQ q w _=>qName Q λf _=>qCons q λV k=>qCall V λZ C I _=>qName Z λE _=>qCons C λx z=>qNil z <| qNil I <| qNil k <| qNil w <| bq f "reversed" λo=>bk (glb sg "reversed") λl=>bk (bIn sg "reversed") λj=>bq E "range" λu=>bk (glb sg "range") λr=>bk (bIn sg "range") λn=>bk (!zU x) λW=>(cA as sg [x]).d λh2=>rt λX D G hz=>by subst o u;exact io_rv (yR G l).1 (wK G j) (yR G r).1 (wK G n) (h2 _ G) (nst W)
 | .iR1 as,sg,e=>qCall e λQ q w _=>qName Q λf _=>qCons q λx V=>qNil V <| qNil w <| bq f "range" λu=>bk (glb sg "range") λr=>bk (bIn sg "range") λn=>bk (!zU x) λW=>(cA as sg [x]).d λh2=>rt λX D G hz=>by subst u;exact io_r1 (yR G r).1 (wK G n) (h2 _ G) (nst W)
 | .iE H as,sg,e=>qCall e λQ q w _=>qName Q λf _=>qCons q λx V=>qNil V <| qNil w <| bq f "enumerate" λu=>bk (glb sg "enumerate") λr=>bk (bIn sg "enumerate") λn=>bk (!zU x) λW=>(cA as sg [x]).d λh2=>rt λX D G hz=>by
   subst u;cases D with
   |Tuple i c p=>exact io_enum (yR G r).1 (wK G n) (h2 _ G) (nst W)|_=>exact absurd hz qF
 | .iZA v as,sg,e=>qCall e λQ q w _=>qName Q λf _=>qCons q λx V=>qCons V λy k=>qNil k <| qNil w <| bq f "zip" λu=>bk (glb sg "zip") λr=>bk (bIn sg "zip") λn=>bk (!zU x) λW=>bk (!zU y) λg=>(cA as sg [x,y]).d λh2=>rt λX D G hz=>by
   subst u;cases D with
   |Tuple i c p=>exact io_zipA (yR G r).1 (wK G n) (h2 _ G) (nst W) (nst g)|_=>exact absurd hz qF
end
def SwOk(X:Cx)(e:Lb)(m:ME):Prop:=∀i x P v,X.N[i]?=some x->Loc X.env.scope x->(X.fn x=true\/X.env.scope.names.lookup x=some .local)->swapsWith e (some (.Name x P)) v.line X.env=pure true->SOk X (.Assign [.Name x P] e v) (sSet i m)
def cW:(t:Ex)->(sg:Sg)->(e:Lb)->Ck (∀X,SgOk X sg->SwOk X e (dE sg.fs t))
 | .comp2 y J P n l D jt M u,sg,e=>qListComp e λab Q Y _=>qCons Q λq w=>qCm q λa p w7=>qNil w7 <| qCons w λw4 k=>qCm w4 λaa S Z=>qNil Z <| qNil k <| bk (sg.calm) λO=>bk (zBd sg y J P n Y) λL=>bk (jg p) λk9=>bk (zG6 l a) λq0=>(cI l sg p).d λj=>bk (QO D (Z4 sg (J++P) Y) a) λq2=>bk (jg S) λR=>bk (zG6 jt aa) λT=>(cI jt (Z4 sg (J++P) Y) S).d λE=>bk (QO M (Z4 sg (J++P) Y) aa) λq5=>(cE u (Z4 sg (J++P) Y) ab).d λq6=>rt λX G i x px v W V hf z=>by
   have⟨C,I⟩:=zAw G O L;exact zG4▸no_S (sk_lc2 G.nd W V hf C (j _ _ (yS G) q0) (g:=gOf X.K D) (λr C K s H=>vG (sg:=Z4 sg (J++P) Y) O (I r C K s H) q2) (YN D) (λr C K s H=>E _ _ (I r C K s H) T) (g1:=gOf X.K M) (λr C K s H=>vG (sg:=Z4 sg (J++P) Y) O (I r C K s H) q5) (YN M) (λr C K s H=>q6 _ (I r C K s H)) (yX k9) (λr C K s H=>yX R) z)
 | .comp y J P n l D h u,sg,e=>qListComp e λab Q Y _=>qCons Q λq w=>qCm q λa p ac=>qNil w <| bk (sg.calm) λO=>bk (zBd sg y J P n Y) λL=>bk (jg p) λk9=>bk (zG6 l a) λq0=>(cI l sg p).d λj=>bk (QO D (Z4 sg (J++P) Y) a) λq2=>bk (match ac with | []=>isTr h|c::o=>o.isEmpty&&(cT h (Z4 sg (J++P) Y) c).yes) λR=>(cE u (Z4 sg (J++P) Y) ab).d λE=>rt λX G i x px v W V hf z=>by
   have⟨C,I⟩:=zAw G O L;refine zG4▸no_S (sk_lc G.nd W V hf C (j _ _ (yS G) q0) (g:=gOf X.K D) (λr C K s H=>vG (sg:=Z4 sg (J++P) Y) O (I r C K s H) q2) (YN D) (λr C K s H=>?_) (λr C K s H=>E _ (I r C K s H)) (yX k9) z);cases ac with
   |nil=>exact zHE R
   |cons c o =>
    obtain⟨R,q5⟩:=zAv R;have:=isEmpty_iff.mp R;subst this;exact zCq (gkT (sg:=Z4 sg (J++P) Y) q5 (I r C K s H))
 |_,_,_=>default
mutual
noncomputable def cS:(t:Sx)->(sg:Sg)->(e:Lf)->Ck (∀X,SgOk X sg->SOk X e (dS sg.fs t))
 | .sIf t a b,sg,e=>qIf e λc x y _=>(cT t sg c).d λL=>(cB a sg x).d λh2=>(cB b sg y).d λM=>rt λX G=>sk_if (L _ G) (h2 _ G) (M _ G)
 | .sSet i a,sg,e=>qAssign e λQ v p=>qCons Q λq w=>qNil w <| qName q λx px=>bk (locd sg i x) λL=>bk (setOk sg x px a v) λM=>(cE a sg v).d λh2=>bk (!isCo a||(cW a sg v).yes) λhw=>rt λX G=>by
   obtain⟨j,S,R⟩:=uZ G L;unfold setOk at M;split at M
   ·obtain⟨u,r⟩:=zAv M
    rename_i el gs Y vp;cases J:swB sg _ _ Y vp with
    |false=>exact zGk G.nd j S (h2 _ G) (by rw[zHB G u,J]) R
    |true =>
     rw[J]at r;have k3:isCo a=true:=by exists r
     rw[k3]at hw;exact(cW a sg _).why (by exists hw) X G _ _ _ _ j S R (by rw[zHB G u,J])
   ·exact zGk G.nd j S (h2 _ G) (uF M) R
 | .sAny,sg,e=>rt λX G=>sk_any
 | .sTup is a,sg,e=>qAssign e λQ v _=>qCons Q λq w=>qTuple q λes k p=>qNil w <| bk (sg.calm) λO=>bk (QO.all2 sg is es) λu=>bk (WM v) λr=>bk (swOk sg es v) λk3=>(cE a sg v).d λh2=>rt λX G=>by
   obtain⟨j,S,R⟩:=Zc _ is G u;exact sk_tup (zGU (G.calm O) j S R) (h2 _ G) (sole_of r) (sw_ok G k3)
 | .sRet a,sg,e=>qReturn e λQ _=>qSome Q λv=>(cE a sg v).d λh=>rt λX G=>sk_ret (h _ G)| .sDrop a,sg,e=>qExpr e λv _=>bk (WM v) λL=>(cE a sg v).d λh2=>rt λX G=>sk_drop (h2 _ G) (uF L)
 | .sIx i b a,sg,e=>qAssign e λQ v _=>qCons Q λq w=>qSubscript q λV y _=>qName V λx _=>qNil w <| bk (vis sg i x) λL=>bk (zCU y) λh4=>(cE b sg y).d λh2=>(cE a sg v).d λM=>rt λX G=>zFG i (vg G L) (h2 _ G) (M _ G) (set_of h4) zF2
 | .sApp i a,sg,e=>qExpr e λQ _=>qCall Q λq w V cp=>qAttribute q λZ m ap=>qName Z λx _=>qCons w λv w5=>qNil w5 <| qNil V <| bq m "append" λu=>bk (ap.endLine==cp.line) λr=>bk (vis sg i x) λk3=>bk (!zU v) λW=>(cE a sg v).d λh2=>rt λX G=>by subst u;exact sk_app i (vg G k3) (h2 _ G) rfl (zDd (nst W)) r (zM (nst W)) rfl rfl
 | .sForL a D b,sg,e=>qFor e λt l K Q _=>qNil Q <| bk (sg.calm) λO=>bk (jg l) λL=>bk (QO D sg t) λh0=>(cE a sg l).d λh2=>(cB b sg K).d λM=>rt λX G=>no_S (sk_forL (X:=X.nox) PassesOwn.never (G.calm O) (h2 _ (yS G)) (vG O (yS G) h0) (YN D) (M _ (yS G)) (yX L))
 | .sForI ix D b,sg,e=>qFor e λt l K Q _=>qNil Q <| bk (sg.calm) λO=>bk (jg l) λL=>bk (QO D sg t) λh0=>bk (zG6 ix t) λh4=>(cI ix sg l).d λh2=>(cB b sg K).d λM=>rt λX G=>sk_forN (ps_forX (h2 _ _ G h4) (yX L)) (no_S (sk_forI (X:=X.nox) PassesOwn.never (G.calm O) (h2 _ _ (yS G) h4) (vG O (yS G) h0) (YN D) (M _ (yS G)) (yX L)))
 | .sForR1 as D b,sg,e=>qFor e λt Q K q _=>qCall Q λw V w5 _=>qName w λf _=>qCons V λx Z=>qNil Z <| qNil w5 <| qNil q <| bk (sg.calm) λO=>bq f "range" λu=>bk (glb sg "range") λr=>bk (bIn sg "range") λk3=>bk (!zU x) λW=>bk (QO D sg t) λg=>(cA as sg [x]).d λh2=>(cB b sg K).d λM=>rt λX G=>by subst u;exact no_S (zFI (X:=X.nox) PassesOwn.never (G.calm O) (yR (yS G) r).1 (wK (yS G) k3) (h2 _ (yS G)) (vG O (yS G) g) (YN D) (M _ (yS G)) (nst W) (yX rfl))
 | .sForR2 as D b,sg,e=>qFor e λt Q K q _=>qCall Q λw V w5 _=>qName w λf _=>qCons V λx Z=>qCons Z λy w7=>qNil w7 <| qNil w5 <| qNil q <| bk (sg.calm) λO=>bq f "range" λu=>bk (glb sg "range") λr=>bk (bIn sg "range") λk3=>bk (!zU x) λW=>bk (!zU y) λg=>bk (QO D sg t) λk6=>(cA as sg [x,y]).d λh2=>(cB b sg K).d λM=>rt λX G=>by subst u;exact no_S (zFJ (X:=X.nox) PassesOwn.never (G.calm O) (yR (yS G) r).1 (wK (yS G) k3) (h2 _ (yS G)) (vG O (yS G) k6) (YN D) (M _ (yS G)) (nst W) (nst g) (yX rfl))
 | .sWhile t b,sg,e=>qWhile e λc K Q _=>qNil Q <| (cT t sg c).d λL=>(cB b sg K).d λh2=>rt λX G=>no_S (zFf (X:=X.nox) PassesOwn.never (L _ (yS G)) (h2 _ (yS G)))
 | .sAug i o a,sg,e=>qAugAssign e λQ op v _=>qName Q λx _=>bk (locd sg i x) λL=>bq op o.op λu=>bk (o.isAug) λr=>(cE a sg v).d λh2=>rt λX G=>by
   obtain⟨j,S,R⟩:=uZ G L;subst u;cases o with
   |add=>exact zDC G.nd j S R (h2 _ G)|sub=>exact zDD G.nd j S R (h2 _ G)|mul=>exact zDE G.nd j S R (h2 _ G)|_=>cases r
 | .sRaise c,sg,e=>qRaise e λQ q _=>qSome Q λw=>qCall w λV w5 Z _=>qName V λx _=>qNil w5 <| qNil Z <| qNone q <| bk (sg.calm) λO=>bq x c λu=>bk (glb sg c) λr=>bk (sg.rs.contains c) λk3=>rt λX G=>by
   subst u;obtain⟨C,c1,c2⟩:=G.rs x (by exists k3);exact zFb (G.calm O) (yR G r).1 c1 c2 (yR G r).2
 | .sTry cl b i J,sg,e=>qTry e λK Q q w _=>qCons Q λV w5=>qExceptHandler V λZ w7 w8 _=>qSome Z λw9=>qName w9 λt _=>qSome w7 λn=>qCons w8 λb0 aa=>qNil w5 <| qNil q <| qNil w <| bq t "ThrowError" λu=>bk (glb sg "ThrowError") λr=>bk (cl==sg.cl) λk3=>bk (!sg.cl.isEmpty) λk6=>bk (sg.top) λW=>bk (sg.N[i]?==some n) λg=>bk (kIs sg n .local) λI=>(cB b sg K).d λh2=>(cB J {sg with calm:=false} (b0::aa)).d λM=>rt λX G=>by
   subst u;have P:cl=sg.cl:=by exists k3
   subst P;obtain⟨T,H,t2,t3⟩:=G.cl (λz=>by rw[z]at k6;cases k6);exact sk_try (G.stk W) G.nd (by rw[G.N];exists g) (Y2 G I) (yR G r).1 (yR G r).2 H t2 (λc hc=>let ⟨C,c1,c2,_⟩:=t3 c hc;⟨C,c1,c2⟩) (λpn E=>h2 _ (tr_ok G pn E)) (λa=>M _ (hd_ok G a))
noncomputable def cB:(t:Bx)->(sg:Sg)->(e:Ls Lf)->Ck (∀X,SgOk X sg->GF X e (dB sg.fs t))
 | .bNil,sg,e=>bk (e.isEmpty) λh=>rt λX G=>by
  have:=isEmpty_iff.mp h;subst this;exact sk_nil
 | .o a,sg,e=>qCons e λs Q=>qNil Q <| (cS a sg s).d λh=>rt λX G=>sk_one (h _ G)
 | .s a b,sg,e=>qCons e λs r=>(cS a sg s).d λL=>(cB b sg r).d λh2=>rt λX G=>sk_cons (L _ G) (h2 _ G)
end
def sB(t:Bx){X:Cx}{sg:Sg}{e:Ls Lf}(G:SgOk X sg)(h:(cB t sg e).yes=true):GF X e (dB sg.fs t):=gkB h G
abbrev chkB(t:Bx)(sg:Sg)(e:Ls Lf):Bool:=(cB t sg e).yes
end
def ClOk(K:qH)(g:Str->Lx Lv)(cl rs:Ls Str):Prop :=
 (cl≠[]->∃T,g "ThrowError"=some (.ref T)/\TCls K T/\∀c∈cl,∃C,g c=some (.ref C)/\XCls K c C T/\C≠T)/\(∀c∈rs,∃C,g c=some (.ref C)/\excJ K C=true)/\zFg K
abbrev zDe(P:Lc)(w:Le)(K:qH)(g:Str->Lx Lv)(base:Heap)(e:Ls Str):Prop:=∀c∈e,RIok P w K g base c/\RAok K g c
def def_ok{P:Lc}{w:Le}{K:qH}{g:Str->Lx Lv}{base:Heap}{x:Str}{st:Lf}{q N:Ls Str}{n lv:Nat}{o:Ls (Str×D)}{fs:Ls FI}{bs:Ls Str}{c:Bool}{cl rs:Ls Str}(t:Bx)(T:JQ K g x st q)(S:FnScope N q (zc st))(r:N.length=n)
  (G:∀x d,o.lookup x=some d->∃u v,g x=some u/\yy v u/\∀H,Rep K g H d v)
  (L:∀i∈fs,∃f y q,g i.x=some (.ref f)/\keepIn K (.ref f)=true/\JL K y q []/\q.length=i.n/\FnOkN (!i.wild) P w K g base i.lv f y q (spM K g i.n i.F))
  (k:∀x∈bs,g x=none) (V:ClOk K g cl rs) {e:Ls Str} (I:zDe P w K g base e) (h:(cB t ⟨N,zc st,true,o,fs,bs,lv,c,cl,rs,[],e⟩ (jK st)).yes=true):FOk P w K g base c x (lv+1) q (fnM n (dB fs t)):=by
 obtain⟨a,y,C,F,l⟩:=T;subst r;refine⟨a,y,C,F.kp,l,fn_ok F S λz A outer s H E j p=>?_⟩;exact gkB h ⟨rfl,rfl,λ_ _=>rfl,(λx h=>by cases h),id,j,λ_=>⟨rfl,rfl⟩,S.nd,G,L,k,p,V.1,V.2.1,V.2.2,I⟩
def zF3(K:qH)(g:Str->Lx Lv)(o:Ls (Str×D)):Prop:=∀x d,o.lookup x=some d->∃u v,g x=some u/\yy v u/\∀H,Rep K g H d v
def BsOk(g:Str->Lx Lv)(bs:Ls Str):Prop:=∀x∈bs,g x=none
def FsOk(P:Lc)(w:Le)(K:qH)(g:Str->Lx Lv)(base:Heap)(fs:Ls FI):Prop :=
 ∀i∈fs,∃f y T,g i.x=some (.ref f)/\keepIn K (.ref f)=true/\JL K y T []/\T.length=i.n/\FnOkN (!i.wild) P w K g base i.lv f y T (spM K g i.n i.F)
section
variable{P:Lc}{w:Le}{K:qH}{mg:Str->Lx Lv}{base:Heap}
def cs_nil:zF3 K mg []:=λx d h=>by cases h
def cs_put{x:Str}{d:D}{o:Ls (Str×D)}(h:∃u v,mg x=some u/\yy v u/\∀H,Rep K mg H d v)(t:zF3 K mg o):zF3 K mg ((x,d)::o):=λy a e=>by
 rw[lookup_cons]at e;cases O:y==x with
 |true =>
  rw[O]at e;cases e;have:y=x:=by exists O
  subst this;exact h
 |false=>rw[O]at e;exact t y a e
def ub{x:Str}{i:Int}{o:Ls (Str×D)}(h:∃t,mg x=some (.int i t))(t:zF3 K mg o):zF3 K mg ((x,.int i)::o):=by
 obtain⟨k,h⟩:=h;exact cs_put ⟨_,.int i,h,⟨_,rfl⟩,λH=>by dsimp[Rep]⟩ t
def bs_nil:BsOk mg []:=λx h=>by cases h
def yw{x:Str}{bs:Ls Str}(h:mg x=none)(t:BsOk mg bs):BsOk mg (x::bs):=λy e=>by
 rcases mem_cons.mp e with e|e
 ·subst e;exact h
 ·exact t y e
def zt:FsOk P w K mg base []:=λx h=>by cases h
def zG{x:Str}{n lv:Nat}{F:MF}{fs:Ls FI}{T:Ls Str}{g:Bool}(h:FOk P w K mg base (!g) x lv T F)(c:T.length=n)(t:FsOk P w K mg base fs):FsOk P w K mg base (⟨x,n,lv,g,F⟩::fs):=λi e=>by
 rcases mem_cons.mp e with e|e
 ·subst e
  subst c;obtain⟨a,y,L,h2,M,h4⟩:=h;exact⟨a,y,T,L,h2,M,rfl,h4⟩
 ·exact t i e
def def_at{x:Str}{st:Lf}{T N:Ls Str}{n lv:Nat}{o:Ls (Str×D)}{fs:Ls FI}{bs:Ls Str}{cl rs:Ls Str}(t:Bx){a:Lz}{y:FuncData}(F:Fun K x x st a y)(S:FnScope N T (zc st))(g:N.length=n)
  (G:zF3 K mg o) (L:FsOk P w K mg base fs) (k:BsOk mg bs) (V:ClOk K mg cl rs) {e:Ls Str} (I:zDe P w K mg base e) (h:chkB t ⟨N,zc st,true,o,fs,bs,lv,true,cl,rs,[],e⟩ (jK st)=true):FnOk P w K mg base (CXx P w) (lv+1) a y T (spM K mg T.length (fnM n (dB fs t))):=by
 subst g;refine(fn_ok (c:=true) F S λz A outer s H E j p=>?_).fn;exact sB (sg:=⟨N,zc st,true,o,fs,bs,lv,true,cl,rs,[],e⟩) t ⟨rfl,rfl,λ_ _=>rfl,(λx h=>by cases h),id,j,λ_=>⟨rfl,rfl⟩,S.nd,G,L,k,p,V.1,V.2.1,V.2.2,I⟩ h
def scP(N P:Ls Str)(sc:Scope):Prop:=sc.kind=.function/\sc.isCoroutine=false/\sc.isGenerator=false/\N.Nodup/\N.take P.length=P/\(∀x∈P,sc.names.lookup x=some .local\/sc.names.lookup x=some .cell)/\∀y∈sc.names,y.2≠.free
instance scD (N P:Ls Str) (sc:Scope):Decidable (scP N P sc):=by unfold scP;infer_instance
def sc_of{N P:Ls Str}{sc:Scope}(h:scP N P sc):FnScope N P sc:=⟨h.1,h.2.1,h.2.2.1,h.2.2.2.1,h.2.2.2.2.1,h.2.2.2.2.2.1,h.2.2.2.2.2.2⟩
def zZ{x:Str}{st:Lf}{a:Ls Str}{lv:Nat}{o:Ls (Str×D)}{fs:Ls FI}{bs:Ls Str}{c:Bool}{cl rs:Ls Str}(t:Bx)(N:Ls Str)(T:JQ K mg x st a)
  (G:zF3 K mg o) (L:FsOk P w K mg base fs) (k:BsOk mg bs) (V:ClOk K mg cl rs) {e:Ls Str} (I:zDe P w K mg base e) (h:(decide (scP N a (zc st))&&chkB t ⟨N,zc st,true,o,fs,bs,lv,c,cl,rs,[],e⟩ (jK st))=true):FOk P w K mg base c x (lv+1) a (fnM N.length (dB fs t)) :=
 def_ok t T (sc_of (of_decide_eq_true (Bool.and_eq_true_iff.mp h).1)) rfl G L k V I (Bool.and_eq_true_iff.mp h).2
def def_atB{x:Str}{st:Lf}{T:Ls Str}{lv:Nat}{o:Ls (Str×D)}{fs:Ls FI}{bs:Ls Str}{cl rs:Ls Str}(t:Bx)(N:Ls Str){a:Lz}{y:FuncData}(F:Fun K x x st a y)
  (G:zF3 K mg o) (L:FsOk P w K mg base fs) (k:BsOk mg bs) (V:ClOk K mg cl rs) {e:Ls Str} (I:zDe P w K mg base e) (h:(decide (scP N T (zc st))&&chkB t ⟨N,zc st,true,o,fs,bs,lv,true,cl,rs,[],e⟩ (jK st))=true):FnOk P w K mg base (CXx P w) (lv+1) a y T (spM K mg T.length (fnM N.length (dB fs t))) :=
 def_at t F (sc_of (of_decide_eq_true (Bool.and_eq_true_iff.mp h).1)) rfl G L k V I (Bool.and_eq_true_iff.mp h).2
def zDf{c:Str}{C T:Lz}(h:xIn K c C T=true):XCls K c C T/\C≠T:=by
 unfold xIn at h;dsimp[Bool.and_eq_true,beq_iff_eq,Bool.not_eq_true']at h;obtain⟨⟨⟨⟨⟨⟨⟨L,h2⟩,M⟩,h4⟩,h5⟩,G⟩,z⟩,I⟩:=h;refine⟨⟨?_,h2,M,h4,h5,G,z⟩,by exists I⟩;exists e,clsIn K C,L,cd;dsimp[Bool.and_eq_true,beq_iff_eq]at L;exact⟨cd,rfl,L.1,L.2⟩
def tcls_of{T:Lz}(h:tIn K T=true):TCls K T:=by
 unfold tIn at h;dsimp[Bool.and_eq_true,beq_iff_eq]at h;obtain⟨L,h2⟩:=h;refine⟨?_,h2⟩;cases e:clsIn K T with
 |none=>rw[e]at L;cases L|some R=>rw[e]at L;exact⟨R,rfl,by exists L⟩
def spLaw(K:qH):Sp:=λW H Q _=>∃(a:Lz) (E:Ls Int),W=[.ref a]/\SqL K H a (E.map V.int)/\E.length<=63/\∀H',Q (.bl true) H'
theorem Gv{H:Hp}:∀E:Ls Int,Reps K mg H (E.map D.int) (E.map V.int)
 | []=>Reps.nil|n::E=>Reps.cons (by dsimp[Rep]) (Gv E)
def law_imp{F:MF}(j:∀g:Ls Int,g.length<=63->∃Z,F [.v (.l (g.map D.int))]=.ok (.v (.bl true),Z))(vs:Ls V)(H:Hp)(Q:VK)(E:XK)(h:spLaw K vs H Q E):spM K mg 1 F vs H Q E:=by
 obtain⟨a,g,rfl,G,hl,k⟩:=h;obtain⟨Z,M⟩:=j g hl;have c:∀b,¬Mo (λ_=>False) [(some (V.ref a),Slot.v (.l (g.map D.int)))] b:=by
  intro b q;rcases q with q|q
  ·exact q
  ·rw[zq]at q;cases q
 have i:Yr H (Hm (Mo (λ_=>False) [(some (V.ref a),Slot.v (.l (g.map D.int)))]) H):=λb o q=>zp.mpr ⟨c b,q⟩
 refine⟨rfl,λ_=>False,[.v (.l (g.map D.int))],rfl,⟨?_,?_,?_,?_⟩,?_⟩
 ·intro o d q
  have L:=mem_singleton.mp q
  cases L;refine⟨_,rfl,?_⟩;dsimp[Rep];exact⟨a,_,rfl,i.seq G,Gv g⟩
 ·intro o s P q e
  have L:=mem_singleton.mp q
  cases L;cases e
 ·show(yN [(some (V.ref a),Slot.v (.l (g.map D.int)))]).Nodup
  rw[zq];exact List.nodup_nil
 ·intro b q;cases q
 ·rw[M]
  intro v H' _ fr _;obtain⟨t,e,r⟩:=fr.val (some v) (.bl true) qE;cases e;dsimp[Rep]at r;subst r;exact k H'
end
def jQ{E:zR}:zu [] E=[]:=rfl
def jm{ds:Ls D}{c:Ls Slot}{s:Slot}{E:zR}:zu (.p ds::c) (s::E)=s::zu c E:=rfl
def jR{d:D}{c:Ls Slot}{s:Slot}{E:zR}:zu (.v d::c) (s::E)=.e::zu c E:=rfl
def jn{d:Ls D}{c:Ls Slot}{s:Slot}{E:zR}:zu (.w d::c) (s::E)=.e::zu c E:=rfl
def jo{c:Ls Slot}{s:Slot}{E:zR}:zu (.e::c) (s::E)=.e::zu c E:=rfl
theorem yG{tg:MG}{body:MS}(I:Nat->zR->Prop):∀(P:Ls D) (k:Nat) (E:zR),I k E ->
  (∀i d,P[i]?=some d->∀E,I (k+i) E->∃E1 E2,tg d E=.ok E1/\body E1=.ok (.nx,E2)/\I (k+i+1) E2) ->
  ∃E',ZD tg body P E=.ok (.nx,E')/\I (k+P.length) E'
 | [],k,E,h,step=>⟨E,rfl,h⟩
 |d::P,k,E,h,step=>by
  obtain⟨E1,E2,L,h2,h4⟩:=step 0 d rfl E h;obtain⟨E',j,S⟩:=yG I P (k+1) E2 h4 λi t e E h=>by
   have:=step (i+1) t (by exists e) E (by rw[show k+(i+1)=k+1+i by lia];exact h);rw[show k+(i+1)=k+1+i by lia]at this;exact this
  refine⟨E',?_,?_⟩
  ·dsimp[ZD,L,h2]
   exact j
  ·rw[length_cons,show k+(P.length+1)=k+1+P.length by lia];exact S
theorem jb:∀(n:Nat) (z:Int) (i:Nat) (d:D),(zE z n)[i]?=some d->i<n/\d=.int (z+i)
 |0,_,_,_,h=>by simp[zE]at h
 |n+1,z,0,d,h=>by
  simp[zE]at h;exact⟨by lia,by rw[<- h];simp⟩
 |n+1,z,i+1,d,h=>by
  dsimp[zE,List.getElem?_cons_succ]at h;obtain⟨L,h2⟩:=jb n (z+1) i d h;refine⟨by lia,?_⟩;rw[h2];congr 1
  push_cast
  lia
theorem jF:∀(n:Nat) (z:Int),(zE z n).length=n
 |0,_=>rfl|n+1,z=>by simp[zE,jF n]
def zy:Slot->Bool
 | .p _=>false|_=>true
theorem uc:∀(W:Ls D) (E:zR),zH (W.map AR.tmp) E=.ok (W.map Slot.v,E)
 | [],_=>rfl|d::W,E=>by dsimp[map_cons,zH,uc W E]
theorem ud:∀(W:Ls D) (Z:Ls Slot) (E0 E:zR),Z.length=W.length->zF (W.map AR.tmp) Z E0 E=.ok E
 | [],[],_,_,_=>rfl| [],_::_,_,_,h=>by cases h|_::_,[],_,_,h=>by cases h|d::W,s::Z,E0,E,h=>by dsimp[map_cons,zF];exact ud W Z E0 E (by exists h)
theorem Gw{vs:Ls D}{tg:MG}{tt:MT}{el:ME}{nl:Nat}(c:D->Ls DV.Slot)(f:D->Bool)(g:D->D):∀(P:Ls D),
  (∀d∈P,∀S:Ls DV.Slot,S.length=nl->(∀s∈S,zy s=true)->tg d (S++vs.map Slot.v)=.ok (c d++vs.map Slot.v)) ->
  (∀d∈P,(c d).length=nl/\∀s∈c d,zy s=true) ->
  (∀d∈P,tt (c d++vs.map Slot.v)=.ok (f d,c d++vs.map Slot.v)) ->
  (∀d∈P,f d=true->∃r,el (c d++vs.map Slot.v)=.ok (r,c d++vs.map Slot.v)/\r.d=g d) ->
  ∀(S:Ls DV.Slot) (u:Ls D),S.length=nl->(∀s∈S,zy s=true)->u.length+P.length<=cap->∃S',S'.length=nl/\uO tg tt el P (S++vs.map Slot.v) u=.ok (u++(P.filter f).map g,S'++vs.map Slot.v)
 | [],_,_,_,_,S,u,G,_,_=>⟨S,G,by simp[uO,jl]⟩
 |d::P,L,h2,M,h4,S,u,G,h,Z=>by
  have m:=qE (a:=d) (l:=P);have T:=L d m S G h;have W:=M d m;have C:=h2 d m;dsimp[length_cons]at Z;have o:=Gw c f g P (λz hz=>L z (qD _ hz)) (λz hz=>h2 z (qD _ hz)) (λz hz=>M z (qD _ hz)) (λz hz=>h4 z (qD _ hz)) (c d);cases hf:f d with
  |false =>
   rw[hf]at W;obtain⟨S',e,y⟩:=o u C.1 C.2 (by lia);refine⟨S',e,?_⟩;dsimp[uO,jl,ma1,T,W,y,filter_cons,hf];simp
  |true =>
   rw[hf]at W;obtain⟨r,q,R⟩:=h4 d m hf;obtain⟨S',e,y⟩:=o (u++[r.d]) C.1 C.2 (by simp;lia);refine⟨S',e,?_⟩;dsimp[uO,jl,ma1,T,W,q];rw[if_pos (by lia)];show uO tg tt el P _ _=_;rw[y,R];simp[filter_cons,hf]
def zAx{vs:Ls D}{tg:MG}{tt:MT}{el:ME}{nl:Nat}{caps:Ls Nat}(c:D->Ls DV.Slot)(f:D->Bool)(g:D->D)(ds:Ls D)
  (L:∀d∈ds,∀S:Ls DV.Slot,S.length=nl->(∀s∈S,zy s=true)->tg d (S++vs.map Slot.v)=.ok (c d++vs.map Slot.v))
  (Y:∀d∈ds,(c d).length=nl/\∀s∈c d,zy s=true)
  (M:∀d∈ds,tt (c d++vs.map Slot.v)=.ok (f d,c d++vs.map Slot.v))
  (h:∀d∈ds,f d=true->∃r,el (c d++vs.map Slot.v)=.ok (r,c d++vs.map Slot.v)/\r.d=g d) (Z:ds.length<=cap)
  {mi:MI} {E E1:zR} (W:mi E=.ok (ds,E1)) (Q:YS E1 caps=.ok (vs.map AR.tmp)):Qf nl caps mi tg tt el E=.ok (.w ((ds.filter f).map g),E1):=by
 obtain⟨S',e,y⟩:=Gw (vs:=vs) (tg:=tg) (tt:=tt) (el:=el) (nl:=nl) c f g ds L Y M h (replicate nl .e) [] (by simp) (λs a=>by rw[(mem_replicate.mp a).2];rfl) (by exists Z);dsimp[Qf,JG,W,Q,uc,y];rw[ud vs _ _ _ (by rw[length_drop,zb];simp)];simp
def gT_ok3{a b c:D}{S:Ls DV.Slot}{R:Ls DV.Slot}(G:S.length=3)(e:∀s∈S,zy s=true):gT [0,1,2] (.t [a,b,c]) (S++R)=.ok ([.v a,.v b,.v c]++R):=by
 match S,G,e with
 | [x,y,z],_,e =>
  have V:=e x (by simp);have O:=e y (by simp);have hz:=e z (by simp);cases x<;>first|(cases V;done)|(cases y<;>first|(cases O;done)|(cases z<;>first|(cases hz;done)|rfl))
def zHF{a b:D}{S:Ls DV.Slot}{R:Ls DV.Slot}(G:S.length=2)(c:∀s∈S,zy s=true):gT [0,1] (.t [a,b]) (S++R)=.ok ([.v a,.v b]++R):=by
 match S,G,c with
 | [x,y],_,c =>
  have V:=c x (by simp);have O:=c y (by simp);cases x<;>first|(cases V;done)|(cases y<;>first|(cases O;done)|rfl)
def zHG{a:D}{S:Ls DV.Slot}{R:Ls DV.Slot}(G:S.length=1)(c:∀s∈S,zy s=true):gN 0 a (S++R)=.ok ([.v a]++R):=by
 match S,G,c with
 | [x],_,c =>
  have V:=c x (by simp);cases x<;>first|(cases V;done)|rfl
theorem zAy:∀(l:Ls Obj) (i:Nat) (as:Ls Lz) (a:Lz) (o:Obj),(GG l i as).lookup a=some o->∃j,a=i+j/\l[j]?=some o/\isFr o=false
 | [],_,_,a,o,e=>by cases e|_::_,_,[],a,o,e=>by cases e
 |x::Z,i,b::as,a,o,e=>by
  have T:∀{as:Ls Lz},(GG Z (i+1) as).lookup a=some o->∃j,a=i+j/\(x::Z)[j]?=some o/\isFr o=false:=λe=>by
   obtain⟨j,L,h2,M⟩:=zAy Z (i+1) _ a o e;exact⟨j+1,L.trans ((Nat.add_assoc i 1 j).trans (congrArg (i+·) (Nat.add_comm 1 j))),by simpa using h2,M⟩
  unfold GG at e;cases J:Nat.beq i b with
  |false=>rw[J]at e;exact T e
  |true =>
   rw[J]at e;cases hf:isFr x with
   |true=>rw[hf]at e;exact T e
   |false =>
    rw[hf]at e;replace e:(match a==i with|true=>some x|false=>List.lookup a (GG Z (i+1) as))=some o:=e
    cases P:a==i with
    |true =>
     rw[P]at e;cases e;exact⟨0,beq_iff_eq.mp P,rfl,hf⟩
    |false=>rw[P]at e;exact T e
def zDg{h:Heap}(as:Ls Lz):(Yj h as).In h:=λa o e=>by
 obtain⟨j,L,h2,M⟩:=zAy _ _ _ _ _ e;rw[zero_add]at L;subst L;have h4:h.objs[a]?=some o:=by rw[<- Array.getElem?_toList];exact h2
 unfold Heap.get?;rw[h4];obtain⟨c,d,z,g⟩:=o;cases z<;>first|rfl|(cases M)
def zAz(as:Ls Lz)(α:Type)(L:qH->α)(v:α):PySem.W.Hook :=
 ⟨α,λs=>L (Yj s.heap as),λ_=>v,λ_ h=>∃K:qH,K.In h/\L K=v,λ_ s e=>⟨_,zDg as,e⟩,λ_ _ _ ⟨K,x,e⟩ k=>⟨K,x.keeps k,e⟩⟩
def zF4{K:qH}{n:Str}{st:Lf}(e:yW K n=yd n st):∃(f:Lz) (Y:Lv) (L:Lx Lz) (kV c C:Lv) (G:Lx Lz) (R i:Lv) (g:Lj),
  nsIn K mainGlobals n=some (some (.ref f))/\K.lookup f=some ⟨Y,L,.func (fnOf n n (YM st) (jK st) (zc st) .none kV c C G R i),g⟩/\codeIn K R n=true/\keepIn K (.ref f)=true:=by
 unfold yW at e;split at e
 ·rename_i a P
  split at e
  ·rename_i Y L y g hl
   have e:=qJ e;unfold fvOf at e;injection e with e1 e
   injection e with e2 e
   injection e with e3 e
   injection e with e4 e
   injection e with e5 e
   injection e with e6 e
   injection e with e7 e
   injection e with e8 e
   injection e with e9 e10
   obtain⟨k,p⟩:=zAv e1;cases y;simp only at e2 e3 e4 e5 e6 e7 e8 e9 e10;subst e2 e3 e4 e5 e6 e7 e8 e9 e10;exact⟨_,_,_,_,_,_,_,_,_,_,P,hl,k,p⟩
  ·cases e
 ·cases e
def nth{α:Type}:Ls α->Nat->Lx α
 | [],_=>none|a::_,0=>some a|_::l,n+1=>nth l n
def ix{α:Type}{l e:Ls α}(n:Nat)(h:l=e):nth l n=nth e n:=congrArg (λl=>nth l n) h
section
variable{K:qH}{h:Heap}{mg:Str->Lx Lv}
def ar0{P:Ls Lv->Prop}(h:P []):∀D:Ls Lv,D.length=0->P D
 | [],_=>h
def arS{P:Ls Lv->Prop}{n:Nat}(h:∀a us,us.length=n->P (a::us)):∀us:Ls Lv,us.length=n+1->P us:=by intro us e;cases us with|nil=>cases e|cons a t=>exact h a t (Nat.succ.inj e)
def ar1{P:Ls Lv->Prop}(h:∀a:Lv,P [a]):∀us:Ls Lv,us.length=1->P us:=arS λa=>ar0 (P:=λus=>P (a::us)) (h a)
def ar2{P:Ls Lv->Prop}(h:∀a b:Lv,P [a,b]):∀us:Ls Lv,us.length=2->P us:=arS λa=>ar1 (P:=λus=>P (a::us)) (h a)
def ar3{P:Ls Lv->Prop}(h:∀a b c:Lv,P [a,b,c]):∀us:Ls Lv,us.length=3->P us:=arS λa=>ar2 (P:=λus=>P (a::us)) (h a)
def ar4{P:Ls Lv->Prop}(h:∀a b c d:Lv,P [a,b,c,d]):∀D:Ls Lv,D.length=4->P D
 | [a,b,c,d],_=>h a b c d
def yn{n:Str}{st:Lf}{ps:Ls Str}(X:K.In h)(G:h.Ns mainGlobals mg)(e:some (yW K n)=some (yd n st))
  (b:∀(kV I C:Lv) (j:Lx Lz) (z i:Lv) (D:Ls Lv),D.length=ps.length->bindArgs (fnOf n n (YM st) (jK st) (zc st) .none kV I C j z i) ⟨D,[]⟩=pure (ps.zip D):=by intro _ _ _ _ _ _;first|exact ar1 (λ_=>rfl)|exact ar2 (λ_ _=>rfl)|exact ar3 (λ_ _ _=>rfl)|exact ar4 (λ_ _ _ _=>rfl)|exact ar0 rfl):JQ K mg n st ps:=by
 obtain⟨f,Y,L,kV,c,C,j,R,i,g,a,l,k,p⟩:=zF4 (qJ e);exact⟨_,_,mg_of X G a,zGa (st:=st) l k p,(zGa (st:=st) l k p).binds b⟩
def zF5{n:Str}{i:Int}(X:K.In h)(G:h.Ns mainGlobals mg)(e:some (vP K n)=some (some i)):∃t,mg n=some (.int i t):=by
 have e:=qJ e;unfold vP at e;split at e
 ·rename_i j t T
  cases e;exact⟨_,mg_of X G T⟩
 ·cases e
def YU{n:Str}(X:K.In h)(G:h.Ns mainGlobals mg)(e:some (je K n)=some true):mg n=none:=by
 have e:=qJ e;unfold je at e;split at e
 ·rename_i T
  exact PySem.W.mg_none_of X G T
 ·cases e
def Qx{n:Str}{a:Lz}(X:K.In h)(G:h.Ns mainGlobals mg)(e:Jw K n=some a):mg n=some (.ref a):=by
 unfold Jw at e;split at e
 ·rename_i b J
  cases e;exact mg_of X G J
 ·cases e
def sm_at(e:zBr K=true):zFg K:=by
 unfold zBr at e;exists h,K.lookup sysModules,e,o;dsimp at e;cases j:o.data with
 |dict E n=>exact⟨o,E,n,h,j⟩|_=>rw[j]at e;cases e
def cl_at{cl rs:Ls Str}(X:K.In h)(G:h.Ns mainGlobals mg)(e:zGT K cl rs=true):ClOk K mg cl rs:=by
 obtain⟨e,l⟩:=zAv e;obtain⟨R,w⟩:=zAv e;refine⟨λZ=>?_,λc Z=>?_,sm_at l⟩
 ·cases cl with
  |nil=>exact absurd rfl Z
  |cons c0 o =>
   replace R:(match Jw K "ThrowError" with
    |some T=>tIn K T&&(c0::o).all λc=>(match Jw K c with|some C=>xIn K c C T|none=>false)
    |none=>false)=true:=R
   exists hT,Jw K "ThrowError",R,T;obtain⟨H,v⟩:=zAv R;refine⟨T,Qx X G hT,tcls_of H,λc Z=>?_⟩;have q:=all_eq_true.mp v c Z;exists hC,Jw K c,q,C;exact⟨C,Qx X G hC,(zDf q).1,(zDf q).2⟩
 ·have q:=all_eq_true.mp w c Z
  exists hC,Jw K c,q,C;exact⟨C,Qx X G hC,q⟩
end
def walkE{l:PySem.W.OpenLaw}{q:Lc}{loose:Ls Str}{XP:(Str->Lx Lv)->Heap->Prop}{d:DefRec}{as:Ls Lz}{α:Type}{L:qH->α}{v:α}{x:Str}{F:MF}(hm:∀E:Ls Int,E.length<=63->∃Z,F [.v (.l (E.map D.int))]=.ok (.v (.bl true),Z))
  (hn:l.most=some 63) (X:d.params.defaults=[])
  (r:∀(w:Le) (K:qH) (g:Str->Lx Lv) (O:Lz) (h:Heap),K.In h->L K=v->h.Ns mainGlobals g->g d.name=some (.ref O) ->
   ∃y:FuncData,(∀(s:La) (u:Lv),BindsTo s y ⟨[u],[]⟩ [(x,u)])/\∀Q:Heap,FnOk l.prog w K g Q (CXx l.prog w) 40 O y [x] (spM K g 1 F)) :
  PySem.W.WalkO q loose XP (zAz as α L v).says l.row.toRowW d [] (λf W=>PySem.call f W):=by
 refine Att.attach_call hn X λw S c g mb O o C cd I a W E G Y ho j R p V T i n=>?_
 obtain⟨K,KX,e⟩:=Y;obtain⟨y,J,M⟩:=r w K g O _ KX e G.T.g p;exact zEv (sp:=spLaw K) (k:=40) KX G.T.g G.T.b G.T.builtins G.T.nolimit n V T (le_trans i (by decide)) ⟨rfl,rfl,by decide,by decide⟩ (λQ _ _=>(M Q).imp (law_imp hm)) J (λH t P=>⟨a,E,rfl,P,i,λ_=>rfl⟩) λH e s' ⟨_,_,_,_,_,_,_,_,_,_,_,_,z⟩=>z
end DV
namespace My
open PySem L2 DV
def cs_:Ls (Str×D):=[("LEAST_SIGNS",.int 2),("MOST_FREE",.int 20),("MOST_SIGNS",.int 3),("MOST_THROWS",.int 20)]
def bs_:Ls Str:=["ValueError","all","bool","enumerate","int","isinstance","len","list","max","range","repr","reversed","sum","tuple","zip"]
def ri_:Ls Str:=[]
def vi:Bx :=
  (.o (.sRet (.and (.is .int (.x 0)) (.not (.is .bool (.x 0))))))
def Qy:Ls FI:=[]
def ZM:MF:=fnM 1 (dB Qy vi)
def yf:Bx :=
  (.o (.sRet (.and (.call 0 (.ev (.x 0) .nil)) (.chain .le .le (.x 1) (.x 0) (.x 2)))))
def jG:Ls FI:=[⟨"is_whole",1,1,false,ZM⟩]
def zg:MF:=fnM 3 (dB jG yf)
def Wi:Bx :=
  (.o (.sRet (.call 0 (.ev (.x 0) (.ev (.c (.int 0)) (.ev (.bin .sub (.gl (.int 3)) (.c (.int 1))) .nil))))))
def Gy:Ls FI:=[⟨"is_whole_within",3,2,false,zg⟩]
def YV:MF:=fnM 1 (dB Gy Wi)
def vj:Bx :=
  (.s (.sIf (.tOr (.tNot (.tE (.is .tuple (.x 0)))) (.tE (.cmp .gt (.cB .len (.cons (.x 0) .nil)) (.gl (.int 20))))) (.o (.sRet (.c (.bl false)))) .bNil)
  (.o (.sRet (.cB .all (.cons (.comp 1 ["sign"] [] [] (.iT (.x 0)) (.n 0) .tTr (.call 0 (.ev (.x 0) .nil))) .nil)))))
def j7:Ls FI:=[⟨"sign_good",1,3,false,YV⟩]
def wb:MF:=fnM 1 (dB j7 vj)
def Y3:Bx :=
  (.o (.sRet (.and (.call 0 (.ev (.x 0) .nil)) (.cB .all (.cons (.comp 1 ["sign"] ["signs"] [1] (.iT (.x 0)) (.n 0) .tTr (.cmp .lt (.x 0) (.x 1))) .nil)))))
def YD:Ls FI:=[⟨"row_good",1,4,false,wb⟩]
def yg:MF:=fnM 2 (dB YD Y3)
def vk:Bx :=
  (.o (.sIf (.tNot (.tE (.call 0 (.ev (.x 0) .nil)))) (.o (.sRaise "NoRow")) .bNil))
def Qz:Ls FI:=[⟨"row_good",1,4,false,wb⟩]
def ZN:MF:=fnM 1 (dB Qz vk)
def Y4:Bx :=
  (.o (.sIf (.tNot (.tE (.call 0 (.ev (.x 0) (.ev (.x 1) (.ev (.x 2) .nil)))))) (.o (.sRaise "NoNumber")) .bNil))
def vH:Ls FI:=[⟨"is_whole_within",3,2,false,zg⟩]
def zX:MF:=fnM 3 (dB vH Y4)
def Zd:Bx :=
  (.o (.sDrop (.call 0 (.ev (.x 0) (.ev (.gl (.int 2)) (.ev (.gl (.int 3)) .nil))))))
def ue:Ls FI:=[⟨"need_number",3,3,false,zX⟩]
def zm:MF:=fnM 1 (dB ue Zd)
def jS:Bx :=
  (.o (.sRet (.maxd (.comp 3 ["sign","begin","length"] [] [] (.iL (.x 0)) (.t [0,1,2]) .tTr (.x 2)) (.c (.int 0)))))
def wL:Ls FI:=[]
def yH:MF:=fnM 1 (dB wL jS)
abbrev Q0:Bx :=
  (.o (.sIf (.tOr (.tE (.cmp .eq (.x 3) (.cB .len (.cons (.x 0) .nil)))) (.tE (.cmp .ne (.ix (.x 0) (.x 3)) (.ix (.x 0) (.x 2))))) (.s (.sApp 1 (.t (.cons (.ix (.x 0) (.x 2)) (.cons (.x 2) (.cons (.bin .sub (.x 3) (.x 2)) .nil)))))
  (.o (.sSet 2 (.x 3)))) .bNil))
def Gz:Bx :=
  (.s (.sDrop (.call 0 (.ev (.x 0) .nil)))
  (.s (.sSet 1 (.l .nil))
  (.s (.sSet 2 (.c (.int 0)))
  (.s (.sForR2 (.cons (.c (.int 1)) (.cons (.bin .add (.cB .len (.cons (.x 0) .nil)) (.c (.int 1))) .nil)) (.n 3)
  Q0)
  (.o (.sRet (.mov 1)))))))
def zh:Ls FI:=[⟨"need_row",1,5,false,ZN⟩]
def ji:MF:=fnM 4 (dB zh Gz)
def Y5:Bx :=
  (.o (.sRet (.call 0 (.ev (.call 1 (.ev (.x 0) .nil)) .nil))))
def vI:Ls FI:=[⟨"greatest_length",1,1,false,yH⟩,⟨"runs_of",1,6,false,ji⟩]
def yK:MF:=fnM 1 (dB vI Y5)
abbrev yh:Bx :=
  (.s (.sSet 5 (.cB .sum (.cons (.comp 1 ["of_sign"] [] [] (.iL (.x 3)) (.n 0) .tTr (.cB .sum (.cons (.x 0) .nil))) .nil)))
  (.o (.sSet 3 (.comp 2 ["weight","of_sign"] ["whole"] [5] (.iZA false (.cons (.x 0) (.cons (.x 3) .nil))) (.t [0,1]) .tTr (.bin .add (.l (.cons (.bin .mul (.x 0) (.bin .sub (.x 2) (.cB .sum (.cons (.x 1) .nil)))) .nil)) (.comp 1 ["end"] ["weight"] [0] (.iL (.sl (.x 1) .oN (.oS (.neg (.c (.int 1)))))) (.n 0) .tTr (.bin .mul (.x 1) (.x 0))))))))
def wM:Bx :=
  (.s (.sIf (.tE (.cmp .eq (.x 1) (.c (.int 0)))) (.o (.sRet (.c (.int 1)))) .bNil)
  (.s (.sIf (.tE (.cmp .eq (.x 2) (.c (.int 0)))) (.o (.sRet (.c (.int 0)))) .bNil)
  (.s (.sSet 3 (.comp 1 ["weight"] ["k"] [2] (.iA (.x 0)) (.n 0) .tTr (.bin .add (.l (.cons (.x 0) .nil)) (.bin .mul (.l (.cons (.c (.int 0)) .nil)) (.bin .sub (.x 1) (.c (.int 1)))))))
  (.s (.sForR1 (.cons (.bin .sub (.x 1) (.c (.int 1))) .nil) (.n 4)
  yh)
  (.o (.sRet (.cB .sum (.cons (.comp 1 ["of_sign"] [] [] (.iL (.x 3)) (.n 0) .tTr (.cB .sum (.cons (.x 0) .nil))) .nil))))))))
def zi:Ls FI:=[]
def yT:MF:=fnM 6 (dB zi wM)
def wN:Bx :=
  (.o (.sDrop (.call 0 (.ev (.x 0) (.ev (.c (.int 1)) (.ev (.gl (.int 20)) .nil))))))
def YW:Ls FI:=[⟨"need_number",3,3,false,zX⟩]
def zL:MF:=fnM 1 (dB YW wN)
def YE:Bx :=
  (.s (.sDrop (.call 2 (.ev (.x 0) .nil)))
  (.s (.sDrop (.call 1 (.ev (.x 1) (.ev (.c (.int 0)) (.ev (.gl (.int 20)) .nil)))))
  (.o (.sDrop (.call 0 (.ev (.x 2) .nil))))))
def Wj:Ls FI:=[⟨"need_free_length",1,4,false,zL⟩,⟨"need_number",3,3,false,zX⟩,⟨"need_signs",1,4,false,zm⟩]
def jc:MF:=fnM 3 (dB Wj YE)
abbrev YX:Bx :=
  (.o (.sSet 4 (.bin .add (.l (.cons (.bin .mul (.bin .sub (.x 0) (.c (.int 1))) (.cB .sum (.cons (.x 4) .nil))) .nil)) (.sl (.x 4) .oN (.oS (.neg (.c (.int 1))))))))
def G0:Bx :=
  (.s (.sIf (.tE (.cmp .ge (.call 2 (.ev (.x 2) .nil)) (.x 1))) (.o (.sRet (.c (.int 0)))) .bNil)
  (.s (.sIf (.tE (.cmp .eq (.x 2) (.t .nil))) (.o (.sRet (.call 1 (.ev (.bin .mul (.l (.cons (.c (.int 1)) .nil)) (.x 0)) (.ev (.x 3) (.ev (.bin .sub (.x 1) (.c (.int 1))) .nil)))))) .bNil)
  (.s (.sSet 4 (.bin .mul (.l (.cons (.c (.int 0)) .nil)) (.bin .sub (.x 1) (.c (.int 1)))))
  (.s (.sIx 4 (.bin .sub (.ix (.ix (.call 0 (.ev (.x 2) .nil)) (.neg (.c (.int 1)))) (.c (.int 2))) (.c (.int 1))) (.c (.int 1)))
  (.s (.sForR1 (.cons (.x 3) .nil) (.n 5)
  YX)
  (.o (.sRet (.cB .sum (.cons (.x 4) .nil)))))))))
def Jq:Ls FI:=[⟨"runs_of",1,6,false,ji⟩,⟨"weigh_alike_upto",3,1,false,yT⟩,⟨"longest_any",1,7,false,yK⟩]
def jH:MF:=fnM 6 (dB Jq G0)
def Wk:Bx :=
  (.s (.sDrop (.call 1 (.ev (.x 0) (.ev (.x 1) (.ev (.x 2) .nil)))))
  (.o (.sRet (.call 0 (.ev (.x 0) (.ev (.x 2) (.ev (.t .nil) (.ev (.x 1) .nil))))))))
def G1:Ls FI:=[⟨"ways_on",4,8,false,jH⟩,⟨"need_ordered",3,5,false,jc⟩]
def yx:MF:=fnM 3 (dB G1 Wk)
abbrev JV:Bx :=
  (.s (.sAug 5 .sub (.x 8))
  (.s (.sAug 7 .add (.c (.int 1)))
  (.o (.sSet 8 (.call 0 (.ev (.x 0) (.ev (.x 2) (.ev (.bin .add (.x 4) (.t (.cons (.x 7) .nil))) (.ev (.x 6) .nil)))))))))
abbrev Ze:Bx :=
  (.s (.sSet 7 (.c (.int 0)))
  (.s (.sSet 8 (.call 0 (.ev (.x 0) (.ev (.x 2) (.ev (.bin .add (.x 4) (.t (.cons (.x 7) .nil))) (.ev (.x 6) .nil))))))
  (.s (.sWhile (.tE (.cmp .ge (.x 5) (.x 8)))
  JV)
  (.o (.sSet 4 (.bin .add (.x 4) (.t (.cons (.x 7) .nil))))))))
def vm:Bx :=
  (.s (.sDrop (.call 1 (.ev (.x 3) (.ev (.c (.int 0)) (.ev (.bin .sub (.call 2 (.ev (.x 0) (.ev (.x 1) (.ev (.x 2) .nil)))) (.c (.int 1))) .nil)))))
  (.s (.sSet 4 (.t .nil))
  (.s (.sSet 5 (.x 3))
  (.s (.sForI (.iRv (.cons (.x 1) .nil)) (.n 6)
  Ze)
  (.o (.sRet (.x 4)))))))
def jT:Ls FI:=[⟨"ways_on",4,8,false,jH⟩,⟨"need_number",3,3,false,zX⟩,⟨"free_many",3,9,false,yx⟩]
def jU:MF:=fnM 9 (dB jT vm)
def Wl:Bx :=
  (.s (.sDrop (.call 4 (.ev (.x 0) .nil)))
  (.s (.sDrop (.call 3 (.ev (.x 1) .nil)))
  (.s (.sIf (.tOr (.tNot (.tE (.call 2 (.ev (.x 2) (.ev (.x 0) .nil))))) (.tE (.cmp .ge (.call 1 (.ev (.x 2) .nil)) (.x 1)))) (.o (.sRaise "NoRow")) .bNil)
  (.o (.sRet (.cB .sum (.cons (.comp2 3 ["at","sign","smaller"] ["m","k","row"] [0,1,2] (.iE true (.cons (.x 2) .nil)) (.t [0,1]) (.iR1 (.cons (.x 1) .nil)) (.n 2) (.call 0 (.ev (.x 3) (.ev (.x 4) (.ev (.bin .add (.sl (.x 5) .oN (.oS (.x 0))) (.t (.cons (.x 2) .nil))) (.ev (.bin .sub (.bin .sub (.cB .len (.cons (.x 5) .nil)) (.x 0)) (.c (.int 1))) .nil)))))) .nil)))))))
def ya:Ls FI:=[⟨"ways_on",4,8,false,jH⟩,⟨"longest_any",1,7,false,yK⟩,⟨"row_good_of",2,5,false,yg⟩,⟨"need_free_length",1,4,false,zL⟩,⟨"need_signs",1,4,false,zm⟩]
def zO:MF:=fnM 3 (dB ya Wl)
def Wm:Bx :=
  (.s (.sSet 3 (.bin .add (.call 2 (.ev (.x 0) (.ev (.x 1) (.ev (.x 2) .nil)))) (.c (.int 1))))
  (.s (.sIf (.tE (.cmp .eq (.x 3) (.call 1 (.ev (.x 0) (.ev (.cB .len (.cons (.x 2) .nil)) (.ev (.x 1) .nil)))))) (.o (.sRet (.c .non))) .bNil)
  (.o (.sRet (.call 0 (.ev (.x 0) (.ev (.cB .len (.cons (.x 2) .nil)) (.ev (.x 1) (.ev (.x 3) .nil)))))))))
def G2:Ls FI:=[⟨"free_nth",4,10,false,jU⟩,⟨"free_many",3,9,false,yx⟩,⟨"free_rank",3,9,false,zO⟩]
def yb:MF:=fnM 4 (dB G2 Wm)
def wV:Bx :=
  (.s (.sIf (.tE (.cmp .lt (.x 1) (.cB .len (.cons (.x 0) .nil)))) (.o (.sRet (.ix (.x 0) (.x 1)))) .bNil)
  (.o (.sRet (.c (.int 0)))))
def JW:Ls FI:=[]
def yo:MF:=fnM 2 (dB JW wV)
def YY:Bx :=
  (.s (.sSet 0 (.bin .mod (.bin .add (.x 0) (.c (.int 7919))) (.c (.int 2147483647))))
  (.o (.sRet (.bin .mod (.bin .add (.bin .add (.bin .mul (.x 0) (.x 0)) (.bin .mul (.c (.int 48271)) (.x 0))) (.c (.int 12345))) (.c (.int 2147483629))))))
def Zf:Ls FI:=[]
def ww:MF:=fnM 1 (dB Zf YY)
def wx:Bx :=
  (.s (.sSet 1 (.cB .max (.cons (.x 0) (.cons (.bin .sub (.c (.int 0)) (.x 0)) .nil))))
  (.o (.sRet (.l (.cons (.x 1) (.cons (.cB .int (.cons (.cmp .ge (.x 1) (.bin .pow (.c (.int 10)) (.c (.int 18)))) .nil)) (.cons (.bin .mod (.x 1) (.c (.int 1000003))) .nil)))))))
def YF:Ls FI:=[]
def jI:MF:=fnM 2 (dB YF wx)
def wz:Bx :=
  (.s (.sIf (.tE (.cmp .eq (.ixO 0 (.c (.int 1))) (.c (.int 1)))) (.s (.sSet 2 (.bin .mod (.ixO 0 (.c (.int 0))) (.x 1)))
  (.s (.sIx 0 (.c (.int 0)) (.bin .fdiv (.ixO 0 (.c (.int 0))) (.x 1)))
  (.o (.sRet (.x 2))))) .bNil)
  (.s (.sIx 0 (.c (.int 2)) (.call 0 (.ev (.bin .add (.call 0 (.ev (.ixO 0 (.c (.int 2))) .nil)) (.c (.int 7))) .nil)))
  (.o (.sRet (.bin .mod (.bin .fdiv (.ixO 0 (.c (.int 2))) (.c (.int 64))) (.x 1))))))
def JX:Ls FI:=[⟨"_law_next",1,1,false,ww⟩]
def zV:MF:=fnM 3 (dB JX wz)
def Zg:Bx :=
  (.o (.sRet (.and (.is .int (.x 0)) (.not (.is .bool (.x 0))))))
def uf:Ls FI:=[]
def y6:MF:=fnM 1 (dB uf Zg)
def YG:Bx :=
  (.s (.sSet 1 (.l (.cons (.isC cl_ "NoDie" (.x 0)) (.cons (.isC cl_ "NoRow" (.x 0)) (.cons (.isC cl_ "NoNumber" (.x 0)) (.cons (.isC cl_ "NoLine" (.x 0)) .nil))))))
  (.s (.sSet 1 (.bin .add (.x 1) (.l (.cons (.isC cl_ "NoMachine" (.x 0)) (.cons (.isC cl_ "NoPaper" (.x 0)) (.cons (.isC cl_ "NoText" (.x 0)) (.cons (.isC cl_ "TooGreat" (.x 0)) .nil)))))))
  (.s (.sIf (.tOr (.tNot (.tE (.isV cl_ (.x 0)))) (.tE (.cmp .ne (.cnt (.x 1) (.c (.bl true))) (.c (.int 1))))) (.o (.sRet (.c (.str "other")))) .bNil)
  (.o (.sRet (.ix (.l (.cons (.c (.str "die")) (.cons (.c (.str "row")) (.cons (.c (.str "number")) (.cons (.c (.str "line")) (.cons (.c (.str "machine")) (.cons (.c (.str "paper")) (.cons (.c (.str "text")) (.cons (.c (.str "great")) .nil))))))))) (.idx (.x 1) (.c (.bl true)))))))))
def Wn:Ls FI:=[]
def yE:MF:=fnM 2 (dB Wn YG)
abbrev JA:Bx :=
  (.s (.sSet 8 (.bin .add (.x 6) (.t (.cons (.x 7) .nil))))
  (.o (.sIf (.tOr (.tE (.cmp .ne (.sl (.x 8) (.oS (.bin .sub (.cB .len (.cons (.x 8) .nil)) (.x 2))) .oN) (.bin .mul (.t (.cons (.x 7) .nil)) (.x 2)))) (.tE (.cmp .lt (.cB .len (.cons (.x 8) .nil)) (.x 2)))) (.o (.sApp 5 (.x 8))) .bNil)))
abbrev JB:Bx :=
  (.o (.sForR1 (.cons (.x 0) .nil) (.n 7)
  JA))
abbrev Y6:Bx :=
  (.s (.sSet 5 (.l .nil))
  (.s (.sForL (.x 3) (.n 6)
  JB)
  (.o (.sSet 3 (.x 5)))))
def Wo:Bx :=
  (.s (.sSet 3 (.l (.cons (.t .nil) .nil)))
  (.s (.sForR1 (.cons (.x 1) .nil) (.n 4)
  Y6)
  (.o (.sRet (.x 3)))))
def yc:Ls FI:=[]
def JC:MF:=fnM 9 (dB yc Wo)
abbrev yM:Bx :=
  (.s (.sIf (.tAnd (.tE (.cmp .lt (.bin .add (.x 6) (.c (.int 1))) (.x 2))) (.tE (.cmp .gt (.x 6) (.c (.int 0))))) (.o (.sIx 5 (.bin .add (.x 6) (.c (.int 1))) (.bin .add (.ixO 5 (.bin .add (.x 6) (.c (.int 1)))) (.ixO 3 (.x 6))))) .bNil)
  (.o (.sIf (.tE (.cmp .gt (.x 2) (.c (.int 1)))) (.o (.sIx 5 (.c (.int 1)) (.bin .add (.ixO 5 (.c (.int 1))) (.bin .mul (.ixO 3 (.x 6)) (.ix (.l (.cons (.bin .sub (.x 0) (.c (.int 1))) (.cons (.x 0) .nil))) (.cB .int (.cons (.cmp .eq (.x 6) (.c (.int 0))) .nil))))))) .bNil)))
abbrev jp:Bx :=
  (.s (.sSet 5 (.bin .mul (.l (.cons (.c (.int 0)) .nil)) (.bin .add (.x 2) (.c (.int 1)))))
  (.s (.sForR1 (.cons (.x 2) .nil) (.n 6)
  yM)
  (.o (.sSet 3 (.x 5)))))
def YH:Bx :=
  (.s (.sSet 3 (.bin .mul (.l (.cons (.c (.int 0)) .nil)) (.bin .add (.x 2) (.c (.int 1)))))
  (.s (.sIx 3 (.c (.int 0)) (.c (.int 1)))
  (.s (.sForR1 (.cons (.x 1) .nil) (.n 4)
  jp)
  (.o (.sRet (.cB .sum (.cons (.sl (.x 3) .oN (.oS (.x 2))) .nil)))))))
def zQ:Ls FI:=[]
def yF:MF:=fnM 7 (dB zQ YH)
def Wp:Bx :=
  (.o (.sTry cl_ (.o (.sRet (.callV [0,1] (.ix (.l (.cons (.fn 0) (.cons (.fn 1) .nil))) (.x 0)) (.ev (.x 1) (.ev (.x 2) (.ev (.x 3) .nil)))))) 4
  (.o (.sRet (.call 2 (.ev (.x 4) .nil))))))
def G3:Ls FI:=[⟨"free_rank",3,9,false,zO⟩,⟨"free_next",3,11,false,yb⟩,⟨"_law_kind_of",1,1,true,yE⟩]
def zP:MF:=fnM 5 (dB G3 Wp)
def YI:Bx :=
  (.s (.sIf (.tOr (.tNot (.tE (.is .tuple (.x 2)))) (.tOr (.tE (.cmp .gt (.cB .len (.cons (.x 2) .nil)) (.c (.int 20)))) (.tNot (.tE (.cB .all (.cons (.comp 1 ["_law_one"] ["_law_m"] [0] (.iT (.x 2)) (.n 0) .tTr (.and (.call 0 (.ev (.x 0) .nil)) (.chain .le .lt (.c (.int 0)) (.x 0) (.x 1)))) .nil)))))) (.o (.sRet (.c (.bl false)))) .bNil)
  (.o (.sRet (.cmp .eq (.comp 1 ["_law_at"] ["_law_row","_law_k"] [2,1] (.iR1 (.cons (.bin .add (.bin .sub (.cB .len (.cons (.x 2) .nil)) (.x 1)) (.c (.int 1))) .nil)) (.n 0) (.tE (.cmp .eq (.sl (.x 1) (.oS (.x 0)) (.oS (.bin .add (.x 0) (.x 2)))) (.bin .mul (.sl (.x 1) (.oS (.x 0)) (.oS (.bin .add (.x 0) (.c (.int 1))))) (.x 2)))) (.x 0)) (.l .nil)))))
def zz:Ls FI:=[⟨"_law_whole",1,1,false,y6⟩]
def zW:MF:=fnM 3 (dB zz YI)
abbrev jq:Bx :=
  (.s (.sIf (.tOr (.tE (.cmp .ne (.call 0 (.ev (.c (.int 0)) (.ev (.x 0) (.ev (.x 2) (.ev (.x 5) .nil))))) (.x 4))) (.tE (.is .bool (.call 1 (.ev (.x 0) (.ev (.x 2) (.ev (.x 5) .nil))))))) (.o (.sRet (.c (.bl false)))) .bNil)
  (.o (.sIf (.tE (.cmp .ne (.cB .repr (.cons (.call 0 (.ev (.c (.int 1)) (.ev (.x 0) (.ev (.x 2) (.ev (.x 5) .nil))))) .nil)) (.cB .repr (.cons (.ix (.bin .add (.x 3) (.l (.cons (.c .non) .nil))) (.bin .add (.x 4) (.c (.int 1)))) .nil)))) (.o (.sRet (.c (.bl false)))) .bNil)))
def wO:Bx :=
  (.s (.sSet 3 (.call 2 (.ev (.x 0) (.ev (.x 1) (.ev (.x 2) .nil)))))
  (.s (.sForI (.iE false (.cons (.x 3) .nil)) (.t [4,5])
  jq)
  (.o (.sRet (.c (.bl true))))))
def j8:Ls FI:=[⟨"_law_told",4,12,false,zP⟩,⟨"free_rank",3,9,false,zO⟩,⟨"_law_free",3,1,false,JC⟩]
def yU:MF:=fnM 6 (dB j8 wO)
abbrev yi:Bx :=
  (.s (.sSet 6 (.call 2 (.ev (.x 0) (.ev (.x 1) (.ev (.x 2) (.ev (.x 5) .nil))))))
  (.s (.sIf (.tOr (.tE (.cmp .ne (.cB .len (.cons (.x 6) .nil)) (.x 1))) (.tOr (.tNot (.tE (.call 1 (.ev (.x 0) (.ev (.x 2) (.ev (.x 6) .nil)))))) (.tE (.cmp .ne (.call 0 (.ev (.c (.int 0)) (.ev (.x 0) (.ev (.x 2) (.ev (.x 6) .nil))))) (.x 5))))) (.o (.sRet (.c (.bl false)))) .bNil)
  (.s (.sSet 7 (.call 0 (.ev (.c (.int 1)) (.ev (.x 0) (.ev (.x 2) (.ev (.x 6) .nil))))))
  (.s (.sIf (.tE (.cmp .ne (.cmp .is (.x 7) (.c .non)) (.cmp .eq (.x 5) (.bin .sub (.x 4) (.c (.int 1)))))) (.o (.sRet (.c (.bl false)))) .bNil)
  (.o (.sIf (.tAnd (.tE (.cmp .isn (.x 7) (.c .non))) (.tOr (.tE (.cmp .le (.x 7) (.x 6))) (.tE (.cmp .ne (.call 0 (.ev (.c (.int 0)) (.ev (.x 0) (.ev (.x 2) (.ev (.x 7) .nil))))) (.bin .add (.x 5) (.c (.int 1))))))) (.o (.sRet (.c (.bl false)))) .bNil))))))
def wP:Bx :=
  (.s (.sSet 4 (.call 4 (.ev (.x 0) (.ev (.x 1) (.ev (.x 2) .nil)))))
  (.s (.sIf (.tE (.cmp .eq (.x 4) (.c (.int 0)))) (.o (.sRet (.c (.bl true)))) .bNil)
  (.s (.sForL (.l (.cons (.c (.int 0)) (.cons (.bin .sub (.x 4) (.c (.int 1))) (.cons (.call 3 (.lend 3 (.ev (.x 4) .nil))) (.cons (.call 3 (.lend 3 (.ev (.x 4) .nil))) .nil))))) (.n 5)
  yi)
  (.o (.sRet (.c (.bl true)))))))
def yL:Ls FI:=[⟨"_law_told",4,12,false,zP⟩,⟨"_law_is_free",3,2,false,zW⟩,⟨"free_nth",4,10,false,jU⟩,⟨"_law_draw",2,2,false,zV⟩,⟨"_law_counted",3,1,false,yF⟩]
def yV:MF:=fnM 8 (dB yL wP)
abbrev Q1:Bx :=
  (.s (.sSet 11 (.l (.cons (.call 0 (.ev (.x 10) (.ev (.x 9) (.ev (.x 5) (.ev (.c .non) .nil))))) (.cons (.call 0 (.ev (.x 10) (.ev (.x 3) (.ev (.c (.int 21)) (.ev (.c .non) .nil))))) (.cons (.call 0 (.ev (.x 10) (.ev (.x 3) (.ev (.c (.int 0)) (.ev (.c .non) .nil))))) .nil)))))
  (.o (.sIf (.tE (.cmp .ne (.bin .add (.x 11) (.l (.cons (.call 0 (.ev (.x 10) (.ev (.x 3) (.ev (.c (.bl true)) (.ev (.c .non) .nil))))) .nil))) (.bin .mul (.l (.cons (.c (.str "number")) .nil)) (.c (.int 4))))) (.o (.sRet (.c (.bl false)))) .bNil)))
abbrev Q2:Bx :=
  (.o (.sIf (.tAnd (.tNot (.tE (.call 2 (.ev (.x 3) (.ev (.x 5) (.ev (.x 8) .nil)))))) (.tE (.cmp .ne (.comp 1 ["_law_way"] ["_law_m","_law_k","_law_thing"] [3,5,8] (.iR1 (.cons (.c (.int 2)) .nil)) (.n 0) .tTr (.call 0 (.ev (.x 0) (.ev (.x 1) (.ev (.x 2) (.ev (.x 3) .nil)))))) (.bin .mul (.l (.cons (.c (.str "row")) .nil)) (.c (.int 2)))))) (.o (.sRet (.c (.bl false)))) .bNil))
abbrev Q3:Bx :=
  (.s (.sSet 2 (.call 5 (.ev (.x 1) .nil)))
  (.s (.sSet 3 (.bin .add (.c (.int 2)) (.call 1 (.lend 2 (.ev (.c (.int 2)) .nil)))))
  (.s (.sTup [4,5] (.t (.cons (.call 1 (.lend 2 (.ev (.c (.int 21)) .nil))) (.cons (.ix (.l (.cons (.bin .add (.c (.int 1)) (.call 1 (.lend 2 (.ev (.c (.int 20)) .nil)))) (.cons (.c (.int 2)) (.cons (.c (.int 3)) .nil)))) (.call 1 (.lend 2 (.ev (.c (.int 3)) .nil)))) .nil))))
  (.s (.sIf (.tOr (.tNot (.tE (.call 4 (.ev (.x 3) (.ev (.bin .mod (.x 4) (.c (.int 7))) (.ev (.bin .add (.c (.int 1)) (.bin .mod (.x 5) (.c (.int 5)))) .nil)))))) (.tNot (.tE (.call 3 (.ev (.x 3) (.ev (.x 4) (.ev (.x 5) (.lend 2 .nil)))))))) (.o (.sRet (.c (.bl false)))) .bNil)
  (.s (.sSet 6 (.cB .tuple (.cons (.comp 1 ["_law_place"] ["_law_pen","_law_m"] [2,3] (.iR1 (.cons (.call 1 (.lend 2 (.ev (.c (.int 21)) .nil))) .nil)) (.n 0) .tTr (.call 1 (.lend 1 (.ev (.x 2) .nil)))) .nil)))
  (.s (.sSet 7 (.l (.cons (.x 6) (.cons (.bin .add (.x 6) (.t (.cons (.x 3) .nil))) (.cons (.cB .list (.cons (.x 6) .nil)) (.cons (.ifx (.tE (.cmp .gt (.x 5) (.c (.int 0)))) (.bin .mul (.t (.cons (.c (.int 0)) .nil)) (.x 5)) (.c .non)) (.cons (.bin .add (.x 6) (.t (.cons (.c (.bl true)) .nil))) (.cons (.c .non) (.cons (.bin .mul (.t (.cons (.c (.int 0)) .nil)) (.c (.int 21))) (.cons (.c (.str "0")) .nil))))))))))
  (.s (.sForL (.x 7) (.n 8)
  Q2)
  (.s (.sSet 9 (.ix (.l (.cons (.c (.int 4)) (.cons (.c (.int 1)) (.cons (.neg (.c (.int 1))) (.cons (.c (.bl true)) (.cons (.c .non) (.cons (.c (.str "2")) (.cons (.bin .pow (.c (.int 10)) (.c (.int 30))) .nil)))))))) (.call 1 (.lend 2 (.ev (.c (.int 7)) .nil)))))
  (.o (.sForR1 (.cons (.c (.int 2)) .nil) (.n 10)
  Q1))))))))))
def t_law:Bx :=
  (.s (.sForL (.bin .add (.l (.cons (.call 6 (.ev (.x 0) (.ev (.c (.int 0)) .nil))) .nil)) (.sl (.x 0) (.oS (.c (.int 1))) (.oS (.c (.int 4))))) (.n 1)
  Q3)
  (.o (.sRet (.c (.bl true)))))
def JY:Ls FI:=[⟨"_law_told",4,12,false,zP⟩,⟨"_law_draw",2,2,false,zV⟩,⟨"_law_is_free",3,2,false,zW⟩,⟨"_law_great_right",4,13,false,yV⟩,⟨"_law_small_right",3,13,false,yU⟩,⟨"_law_pen_of",1,1,false,jI⟩,⟨"_law_cell_at",2,1,false,yo⟩]
def m_law:MF:=fnM 12 (dB JY t_law)
structure Txt(K:qH)(mg:Str->Ln):Prop where
 n_ValueError:mg "ValueError"=none
 n_all:mg "all"=none
 n_bool:mg "bool"=none
 n_enumerate:mg "enumerate"=none
 n_int:mg "int"=none
 n_isinstance:mg "isinstance"=none
 n_len:mg "len"=none
 n_list:mg "list"=none
 n_max:mg "max"=none
 n_range:mg "range"=none
 n_repr:mg "repr"=none
 n_reversed:mg "reversed"=none
 n_sum:mg "sum"=none
 n_tuple:mg "tuple"=none
 n_zip:mg "zip"=none
 c_LEAST_SIGNS:∃t,mg "LEAST_SIGNS"=some (.int 2 t)
 c_MOST_FREE:∃t,mg "MOST_FREE"=some (.int 20 t)
 c_MOST_SIGNS:∃t,mg "MOST_SIGNS"=some (.int 3 t)
 c_MOST_THROWS:∃t,mg "MOST_THROWS"=some (.int 20 t)
 f_is_whole:JQ K mg "is_whole" vQ ["thing"]
 f_is_whole_within:JQ K mg "is_whole_within" wX ["thing","low","high"]
 f_sign_good:JQ K mg "sign_good" Z9 ["thing"]
 f_row_good:JQ K mg "row_good" vR ["thing"]
 f_row_good_of:JQ K mg "row_good_of" Yk ["thing","signs"]
 f_need_row:JQ K mg "need_row" vS ["thing"]
 f_need_number:JQ K mg "need_number" Yl ["thing","low","high"]
 f_need_signs:JQ K mg "need_signs" ZU ["thing"]
 f_greatest_length:JQ K mg "greatest_length" wY ["runs"]
 f_runs_of:JQ K mg "runs_of" GH ["row"]
 f_longest_any:JQ K mg "longest_any" Ym ["row"]
 f_weigh_alike_upto:JQ K mg "weigh_alike_upto" wE ["weights","n","k"]
 f_need_free_length:JQ K mg "need_free_length" wF ["k"]
 f_need_ordered:JQ K mg "need_ordered" Jx ["m","n","k"]
 f_ways_on:JQ K mg "ways_on" GI ["m","k","row","left"]
 f_free_many:JQ K mg "free_many" WA ["m","n","k"]
 f_free_nth:JQ K mg "free_nth" vT ["m","n","k","number"]
 f_free_rank:JQ K mg "free_rank" WB ["m","k","row"]
 f_free_next:JQ K mg "free_next" WC ["m","k","row"]
 f__law_cell_at:JQ K mg "_law_cell_at" Jy ["_law_script","_law_k"]
 f__law_next:JQ K mg "_law_next" WD ["_law_seed"]
 f__law_pen_of:JQ K mg "_law_pen_of" Yn ["_law_cell"]
 f__law_draw:JQ K mg "_law_draw" WE ["_law_pen","_law_many"]
 f__law_whole:JQ K mg "_law_whole" ZV ["_law_found"]
 f__law_kind_of:JQ K mg "_law_kind_of" Jz ["_law_e"]
 f__law_free:JQ K mg "_law_free" WF ["_law_m","_law_n","_law_k"]
 f__law_counted:JQ K mg "_law_counted" J0 ["_law_m","_law_n","_law_k"]
 f__law_told:JQ K mg "_law_told" WG ["_law_way","_law_m","_law_k","_law_row"]
 f__law_is_free:JQ K mg "_law_is_free" J2 ["_law_m","_law_k","_law_row"]
 f__law_small_right:JQ K mg "_law_small_right" wG ["_law_m","_law_n","_law_k"]
 f__law_great_right:JQ K mg "_law_great_right" wH ["_law_m","_law_n","_law_k","_law_pen"]
 f_law:JQ K mg "law" s_law ["_law_script"]
 cl:ClOk K mg cl_ rs_
section
variable{P:Lc}{w:Le}{K:qH}{mg:Str->Lx Lv}{base:Heap}
def yp(T:Txt K mg):zF3 K mg cs_:=(ub T.c_LEAST_SIGNS (ub T.c_MOST_FREE (ub T.c_MOST_SIGNS (ub T.c_MOST_THROWS cs_nil))))
def yq(T:Txt K mg):zDe P w K mg base ri_:=ris_nil
def yr(T:Txt K mg):BsOk mg bs_:=(yw T.n_ValueError (yw T.n_all (yw T.n_bool (yw T.n_enumerate (yw T.n_int (yw T.n_isinstance (yw T.n_len (yw T.n_list (yw T.n_max (yw T.n_range (yw T.n_repr (yw T.n_reversed (yw T.n_sum (yw T.n_tuple (yw T.n_zip bs_nil)))))))))))))))
def Q4(T:Txt K mg):FOk P w K mg base true "is_whole" 1 ["thing"] ZM:=zZ vi ["thing"] T.f_is_whole (yp T) zt (yr T) T.cl (yq T) (by left)
def wQ(T:Txt K mg):FOk P w K mg base true "is_whole_within" 2 ["thing","low","high"] zg:=zZ yf ["thing","low","high"] T.f_is_whole_within (yp T) (zG (Q4 T) rfl zt) (yr T) T.cl (yq T) (by left)
def G4(T:Txt K mg):FOk P w K mg base true "sign_good" 3 ["thing"] YV:=zZ Wi ["thing"] T.f_sign_good (yp T) (zG (wQ T) rfl zt) (yr T) T.cl (yq T) (by left)
def Wq(T:Txt K mg):FOk P w K mg base true "row_good" 4 ["thing"] wb:=zZ vj ["thing"] T.f_row_good (yp T) (zG (G4 T) rfl zt) (yr T) T.cl (yq T) (by left)
def vJ(T:Txt K mg):FOk P w K mg base true "row_good_of" 5 ["thing","signs"] yg:=zZ Y3 ["thing","signs"] T.f_row_good_of (yp T) (zG (Wq T) rfl zt) (yr T) T.cl (yq T) (by left)
def Q5(T:Txt K mg):FOk P w K mg base true "need_row" 5 ["thing"] ZN:=zZ vk ["thing"] T.f_need_row (yp T) (zG (Wq T) rfl zt) (yr T) T.cl (yq T) (by left)
def jd(T:Txt K mg):FOk P w K mg base true "need_number" 3 ["thing","low","high"] zX:=zZ Y4 ["thing","low","high"] T.f_need_number (yp T) (zG (wQ T) rfl zt) (yr T) T.cl (yq T) (by left)
def Y7(T:Txt K mg):FOk P w K mg base true "need_signs" 4 ["thing"] zm:=zZ Zd ["thing"] T.f_need_signs (yp T) (zG (jd T) rfl zt) (yr T) T.cl (yq T) (by left)
def Y8(T:Txt K mg):FOk P w K mg base true "greatest_length" 1 ["runs"] yH:=zZ jS ["runs"] T.f_greatest_length (yp T) zt (yr T) T.cl (yq T) (by left)
def vn(T:Txt K mg):FOk P w K mg base true "runs_of" 6 ["row"] ji:=zZ Gz ["row","runs","begin","end"] T.f_runs_of (yp T) (zG (Q5 T) rfl zt) (yr T) T.cl (yq T) (by left)
def YJ(T:Txt K mg):FOk P w K mg base true "longest_any" 7 ["row"] yK:=zZ Y5 ["row"] T.f_longest_any (yp T) (zG (Y8 T) rfl (zG (vn T) rfl zt)) (yr T) T.cl (yq T) (by left)
def YZ(T:Txt K mg):FOk P w K mg base true "weigh_alike_upto" 1 ["weights","n","k"] yT:=zZ wM ["weights","n","k","ends","throw","whole"] T.f_weigh_alike_upto (yp T) zt (yr T) T.cl (yq T) (by left)
def j9(T:Txt K mg):FOk P w K mg base true "need_free_length" 4 ["k"] zL:=zZ wN ["k"] T.f_need_free_length (yp T) (zG (jd T) rfl zt) (yr T) T.cl (yq T) (by left)
def Wr(T:Txt K mg):FOk P w K mg base true "need_ordered" 5 ["m","n","k"] jc:=zZ YE ["m","n","k"] T.f_need_ordered (yp T) (zG (j9 T) rfl (zG (jd T) rfl (zG (Y7 T) rfl zt))) (yr T) T.cl (yq T) (by left)
def ZO(T:Txt K mg):FOk P w K mg base true "ways_on" 8 ["m","k","row","left"] jH:=zZ G0 ["m","k","row","left","ends","throw"] T.f_ways_on (yp T) (zG (vn T) rfl (zG (YZ T) rfl (zG (YJ T) rfl zt))) (yr T) T.cl (yq T) (by left)
def Zh(T:Txt K mg):FOk P w K mg base true "free_many" 9 ["m","n","k"] yx:=zZ Wk ["m","n","k"] T.f_free_many (yp T) (zG (ZO T) rfl (zG (Wr T) rfl zt)) (yr T) T.cl (yq T) (by left)
def Ws(T:Txt K mg):FOk P w K mg base true "free_nth" 10 ["m","n","k","number"] jU:=zZ vm ["m","n","k","number","row","ahead","left","sign","ways"] T.f_free_nth (yp T) (zG (ZO T) rfl (zG (jd T) rfl (zG (Zh T) rfl zt))) (yr T) T.cl (yq T) (by left)
def JZ(T:Txt K mg):FOk P w K mg base true "free_rank" 9 ["m","k","row"] zO:=zZ Wl ["m","k","row"] T.f_free_rank (yp T) (zG (ZO T) rfl (zG (YJ T) rfl (zG (vJ T) rfl (zG (j9 T) rfl (zG (Y7 T) rfl zt))))) (yr T) T.cl (yq T) (by left)
def G5(T:Txt K mg):FOk P w K mg base true "free_next" 11 ["m","k","row"] yb:=zZ Wm ["m","k","row","number"] T.f_free_next (yp T) (zG (Ws T) rfl (zG (Zh T) rfl (zG (JZ T) rfl zt))) (yr T) T.cl (yq T) (by left)
def Wu(T:Txt K mg):FOk P w K mg base true "_law_cell_at" 1 ["_law_script","_law_k"] yo:=zZ wV ["_law_script","_law_k"] T.f__law_cell_at (yp T) zt (yr T) T.cl (yq T) (by left)
def G6(T:Txt K mg):FOk P w K mg base true "_law_next" 1 ["_law_seed"] ww:=zZ YY ["_law_seed"] T.f__law_next (yp T) zt (yr T) T.cl (yq T) (by left)
def vK(T:Txt K mg):FOk P w K mg base true "_law_pen_of" 1 ["_law_cell"] jI:=zZ wx ["_law_cell","_law_left"] T.f__law_pen_of (yp T) zt (yr T) T.cl (yq T) (by left)
def Zi(T:Txt K mg):FOk P w K mg base true "_law_draw" 2 ["_law_pen","_law_many"] zV:=zZ wz ["_law_pen","_law_many","_law_found"] T.f__law_draw (yp T) (zG (G6 T) rfl zt) (yr T) T.cl (yq T) (by left)
def ug(T:Txt K mg):FOk P w K mg base true "_law_whole" 1 ["_law_found"] y6:=zZ Zg ["_law_found"] T.f__law_whole (yp T) zt (yr T) T.cl (yq T) (by left)
def Wv(T:Txt K mg):FOk P w K mg base false "_law_kind_of" 1 ["_law_e"] yE:=zZ YG ["_law_e","_law_marks"] T.f__law_kind_of (yp T) zt (yr T) T.cl (yq T) (by left)
def G7(T:Txt K mg):FOk P w K mg base true "_law_free" 1 ["_law_m","_law_n","_law_k"] JC:=zZ Wo ["_law_m","_law_n","_law_k","_law_found","_law_turn","_law_longer","_law_row","_law_sign","_law_more"] T.f__law_free (yp T) zt (yr T) T.cl (yq T) (by left)
def Ww(T:Txt K mg):FOk P w K mg base true "_law_counted" 1 ["_law_m","_law_n","_law_k"] yF:=zZ YH ["_law_m","_law_n","_law_k","_law_counts","_law_turn","_law_later","_law_length"] T.f__law_counted (yp T) zt (yr T) T.cl (yq T) (by left)
def Ja(T:Txt K mg):FOk P w K mg base true "_law_told" 12 ["_law_way","_law_m","_law_k","_law_row"] zP:=zZ Wp ["_law_way","_law_m","_law_k","_law_row","_law_e"] T.f__law_told (yp T) (zG (JZ T) rfl (zG (G5 T) rfl (zG (Wv T) rfl zt))) (yr T) T.cl (yq T) (by left)
def Jb(T:Txt K mg):FOk P w K mg base true "_law_is_free" 2 ["_law_m","_law_k","_law_row"] zW:=zZ YI ["_law_m","_law_k","_law_row"] T.f__law_is_free (yp T) (zG (ug T) rfl zt) (yr T) T.cl (yq T) (by left)
def Yb(T:Txt K mg):FOk P w K mg base true "_law_small_right" 13 ["_law_m","_law_n","_law_k"] yU:=zZ wO ["_law_m","_law_n","_law_k","_law_due","_law_at","_law_row"] T.f__law_small_right (yp T) (zG (Ja T) rfl (zG (JZ T) rfl (zG (G7 T) rfl zt))) (yr T) T.cl (yq T) (by left)
def Yc(T:Txt K mg):FOk P w K mg base true "_law_great_right" 13 ["_law_m","_law_n","_law_k","_law_pen"] yV:=zZ wP ["_law_m","_law_n","_law_k","_law_pen","_law_many","_law_number","_law_row","_law_later"] T.f__law_great_right (yp T) (zG (Ja T) rfl (zG (Jb T) rfl (zG (Ws T) rfl (zG (Zi T) rfl (zG (Ww T) rfl zt))))) (yr T) T.cl (yq T) (by left)
end
def law_fd{P:Lc}{w:Le}{K:qH}{g:Str->Lx Lv}{O:Lz}(h:g "law"=some (.ref O))(T:Txt K g):∃y:FuncData,(∀(s:La) (u:Lv),BindsTo s y ⟨[u],[]⟩ [("_law_script",u)])/\∀base:Heap,FnOk P w K g base (CXx P w) 40 O y ["_law_script"] (spM K g 1 m_law):=by
 obtain⟨a,y,c,F,l⟩:=T.f_law;have e:=h.symm.trans c;cases e;refine⟨y,?_,λbase=>(def_atB (P:=P) (w:=w) (base:=base) (fs:=JY) (lv:=13) t_law ["_law_script","_law_cell","_law_pen","_law_m","_law_n","_law_k","_law_row","_law_things","_law_thing","_law_odd","_law_way","_law_said"] F (yp T) (zG (Ja T) rfl (zG (Zi T) rfl (zG (Jb T) rfl (zG (Yc T) rfl (zG (Yb T) rfl (zG (vK T) rfl (zG (Wu T) rfl zt))))))) (yr T) T.cl (yq T) (by left)).mono (by decide)⟩;obtain⟨Y,L,kV,I,C,G,z,i,j,rfl,X,R⟩:=F.ex;exact λs u=>.of_eq rfl
end My
namespace DV
open PySem L2
section
variable{fs:Ls FI}{E E1 E2 E3:zR}
def x_c:dE fs (.c d) E=.ok (.v d,E):=by dsimp[zDU,eC]
def zEc:dE fs (.gl d) E=.ok (.v d,E):=by dsimp[rE_gl,eC]
def zA(h:E[i]?=some (.v d)):dE fs (.x i) E=.ok (.v d,E):=by dsimp[wJ,vZ,h]
def vo(h:E[i]?=some (.w ds))(h':E.set i (.v (.l ds))=E1):dE fs (.x i) E=.ok (.v (.l ds),E1):=by dsimp[wJ,YC,vZ,h,h']
def zT(L:dE fs a E=.ok (r1,E1))(Y:dE fs b E1=.ok (r2,E2))(M:o.f r1.d r2.d=some r):dE fs (.bin o a b) E=.ok (r,E2):=by dsimp[YB,Jk,L,Y,M]
def zj(L:dE fs a E=.ok (r1,E1))(Y:dE fs b E1=.ok (r2,E2))(M:o.f r1.d r2.d=some r):dE fs (.cmp o a b) E=.ok (r,E2):=by dsimp[Y0,Jk,L,Y,M]
def zDh(L:dE fs a E=.ok (r1,E1))(Y:dE fs b E1=.ok (r2,E2))(M:ixD r1.d r2.d=some r):dE fs (.ix a b) E=.ok (r,E2):=by dsimp[zBc,Jk,L,Y,M]
def YK{as:_}(L:dA fs as E=.ok (rs,E1))(Y:b.f (rs.map R.d)=some r):dE fs (.cB b as) E=.ok (r,E1):=by dsimp[Qu,eCB,L,Y]
def Jd{as:_}(L:dA fs as E=.ok (rs,E1))(Y:rs.map R.d=ds)(M:ds.length<=cap):dE fs (.t as) E=.ok (.v (.t ds),E1):=by
 subst Y;dsimp[Gs,QK,eCB,L];rw[if_pos M]
def jw{as:_}(L:dA fs as E=.ok (rs,E1))(Y:rs.map R.d=ds)(M:ds.length<=cap):dE fs (.l as) E=.ok (.w ds,E1):=by
 subst Y;dsimp[YC,QL,eCB,L];rw[if_pos M]
def zF6(L:dE fs a E=.ok (r,E1))(Y:dO fs l E1=.ok (lo,E2))(M:dO fs u E2=.ok (hi,E3))(h:slD r.d lo hi=some r'):dE fs (.sl a l u) E=.ok (r',E3):=by dsimp[rE_sl,eSl,L,Y,M,h]
def zr(J:fiF fs k=F)(L:dE fs a E=.ok (r,E1))(Y:F [.v r.d]=.ok (r',[o])):dE fs (.call k (.ev a .nil)) E=.ok (r',E1):=by
 subst J;dsimp[yZ,wv,ym,yl,zd,L,zH,Y,zF]
def uh(J:fiF fs k=F)(L:dE fs a E=.ok (r,E1))(e:dE fs b E1=.ok (r2,E2))(Y:F [.v r.d,.v r2.d]=.ok (r',[o,o2])):dE fs (.call k (.ev a (.ev b .nil))) E=.ok (r',E2):=by
 subst J;dsimp[yZ,wv,ym,yl,zd,L,e,zH,Y,zF]
def x_chain(L:dE fs a E=.ok (.v (.int i),E1))(Y:dE fs b E1=.ok (.v (.int j),E2))(M:o.b i j=true)(h:dE fs c E2=.ok (.v (.int k),E3))(X:o'.b j k=v):dE fs (.chain o o' a b c) E=.ok (.v (.bl v),E3):=by
 subst X;dsimp[Z3,y4,L,Y,h];rw[if_pos M]
def zF7(L:dE fs a E=.ok (.v (.int i),E1))(Y:dE fs b E1=.ok (.v (.int j),E2))(M:o.b i j=false):dE fs (.chain o o' a b c) E=.ok (.v (.bl false),E2):=by
 dsimp[Z3,y4,L,Y];rw[if_neg (by rw[M];decide)]
def Jr(J:fiF fs k=F)(X:E[i]?=some (.w p))(L:dE fs a E=.ok (r,E))(Y:F [.p p,.v r.d]=.ok (r',[.p p',o]))(M:E.set i (.w p')=E1):dE fs (.call k (.lend i (.ev a .nil))) E=.ok (r',E1):=by
 subst J M;have W:i<E.length:=(qG.mp X).1;have S:(E.set i .e)[i]?=some .e:=by simp[W]
 dsimp[yZ,wv,Qw,ym,yl,zd,X,Jv,Bool.false_eq_true,if_false,L,zH,Slot.list?,Y,zF,S,Slot.put,set_set]
def yC(J:fiF fs k=F)(L:dE fs a E=.ok (r,E1))(e:dE fs b E1=.ok (r2,E2))(g:dE fs c E2=.ok (r3,E3))(Y:F [.v r.d,.v r2.d,.v r3.d]=.ok (r',[o,o2,o3])):dE fs (.call k (.ev a (.ev b (.ev c .nil)))) E=.ok (r',E3):=by
 subst J;dsimp[yZ,wv,ym,yl,zd,L,e,g,zH,Y,zF]
def yj(h:body (ss++replicate (n-ss.length) .e)=.ok (.ret r,E1))(L:zu ss E1=o):fnM n body ss=.ok (r,o):=by
 subst L;dsimp[fnM,h]
def f_nx(h:body (ss++replicate (n-ss.length) .e)=.ok (.nx,E1))(L:zu ss E1=o):fnM n body ss=.ok (.v .non,o):=by
 subst L;dsimp[fnM,h]
def zK:dA fs .nil E=.ok ([],E):=by dsimp[JS,QJ]
def zB{a as:_}(L:dE fs a E=.ok (r,E1))(Y:dA fs as E1=.ok (rs,E2)):dA fs (.cons a as) E=.ok (r::rs,E2):=by dsimp[YT,JI,L,Y]
def o_N:dO fs .oN E=.ok (none,E):=by dsimp[rO_oN,zFC]
def o_S(h:dE fs a E=.ok (.v (.int i),E1)):dO fs (.oS a) E=.ok (some i,E1):=by dsimp[rO_oS,zCd,h]
def t_E(h:dE fs a E=.ok (.v (.bl b),E1)):dT fs (.tE a) E=.ok (b,E1):=by dsimp[vF,tT,h]
def G8(L:dT fs a E=.ok (false,E1))(Y:dT fs b E1=.ok (c,E2)):dT fs (.tOr a b) E=.ok (c,E2):=by dsimp[Wg,uG,L,Y]
def zDi(L:dT fs a E=.ok (true,E1)):dT fs (.tOr a b) E=.ok (true,E1):=by dsimp[Wg,uG,L]
def Je(L:dT fs a E=.ok (b,E1))(Y:(!b)=c):dT fs (.tNot a) E=.ok (c,E1):=by subst Y;dsimp[zDW,JH,L]
def yP(L:dE fs a E=.ok (r,E1))(Y:Yi i r E1=.ok E2):dS fs (.sSet i a) E=.ok (.nx,E2):=by dsimp[wU,sSet,L,Y]
def jV(L:dT fs t E=.ok (false,E1))(Y:dB fs b E1=o):dS fs (.sIf t a b) E=o:=by subst Y;dsimp[Y1,sIf,L]
def JJ(L:dT fs t E=.ok (true,E1))(Y:dB fs a E1=o):dS fs (.sIf t a b) E=o:=by subst Y;dsimp[Y1,sIf,L]
def yk(L:dE fs a E=.ok (r,E1)):dS fs (.sRet a) E=.ok (.ret r,E1):=by dsimp[jD,sRet,L]
def wR(L:dE fs a E=.ok (r,E1)):dS fs (.sDrop a) E=.ok (.nx,E1):=by dsimp[Jp,sDrop,L]
def s_tup(L:dE fs a E=.ok (r,E1))(Y:gT is r.d E1=.ok E2):dS fs (.sTup is a) E=.ok (.nx,E2):=by dsimp[rS_sTup,sTup,L,Y]
def zA0(L:dE fs a E=.ok (r,E1))(Y:r.d=.l ds)(M:ZD tg.m (dB fs b) ds E1=.ok p):dS fs (.sForL a tg b) E=.ok p:=by dsimp[zFz];exact Wf (by dsimp[sForL,L,Y,M])
def JD(L:dA fs a E=.ok ([r],E1))(Y:r.d=.int j)(T:-1000000<=j/\j<=1000000)(M:ZD tg.m (dB fs b) (zE 0 j.toNat) E1=.ok p):dS fs (.sForR1 a tg b) E=.ok p:=by
 dsimp[zDY];refine Wf ?_;dsimp[sForR1,L,Y];rw[if_pos ⟨by lia,by lia⟩,M]
def s_forR2(L:dA fs a E=.ok ([r1,r2],E1))(Y:r1.d=.int i)(c:r2.d=.int j)(W:-1000000<=i/\i<=1000000)(T:-1000000<=j/\j<=1000000)(M:ZD tg.m (dB fs b) (zE i (j-i).toNat) E1=.ok p):dS fs (.sForR2 a tg b) E=.ok p:=by
 dsimp[JT];refine Wf ?_;dsimp[sForR2,L,Y,c];rw[if_pos ⟨by lia,by lia,by lia,by lia⟩,M]
def i_L(L:dE fs a E=.ok (r,E1))(Y:r.d=.l ds):dI fs (.iL a) E=.ok (ds,E1):=by dsimp[rI_iL,iL,L,Y]
def i_T(L:dE fs a E=.ok (r,E1))(Y:r.d=.t ds):dI fs (.iT a) E=.ok (ds,E1):=by dsimp[rI_iT,iT,L,Y]
def i_R1(L:dA fs a E=.ok ([r],E1))(Y:r.d=.int j)(T:-1000000<=j/\j<=1000000):dI fs (.iR1 a) E=.ok (zE 0 j.toNat,E1):=by
 dsimp[rI_iR1,iR1,L,Y];rw[if_pos ⟨by lia,by lia⟩]
def jW:dB fs .bNil E=.ok (.nx,E):=by dsimp[JU,QN]
def zS(h:dS fs s E=o):dB fs (.o s) E=o:=by dsimp[jE,h]
def zN(h:dS fs s E=.ok (.nx,E1))(Y:dB fs b E1=o):dB fs (.s s b) E=o:=by dsimp[jP,vC,h,Y]
def vL(h:dS fs s E=.ok (.ret r,E1)):dB fs (.s s b) E=.ok (.ret r,E1):=by dsimp[jP,vC,h]
def zDj(h:dS fs s E=.y x E1):dB fs (.s s b) E=.y x E1:=by dsimp[jP,vC,h]
def ui(h:dE fs a E=.y x E1):dS fs (.sDrop a) E=.y x E1:=by dsimp[Jp,sDrop,h]
def s_setX(h:dE fs a E=.y x E1):dS fs (.sSet i a) E=.y x E1:=by dsimp[wU,sSet,h]
def zHH(h:dE fs a E=.y x E1):dS fs (.sRet a) E=.y x E1:=by dsimp[jD,sRet,h]
def Q6:dS fs (.sRaise c) E=.y ⟨c,true,[]⟩ E:=by dsimp[zDZ,DV.sRaise]
def zF8(J:fiF fs k=F)(L:dE fs a E=.ok (r,E1))(Y:F [.v r.d]=.y x o):dE fs (.call k (.ev a .nil)) E=.y ⟨x.cls,false,x.vs⟩ E1:=by
 subst J;dsimp[yZ,wv,ym,yl,zd,L,zH,Y,Za,if_true]
def zF9(J:fiF fs k=F)(L:dE fs a E=.ok (r,E1))(e:dE fs b E1=.ok (r2,E2))(g:dE fs c E2=.ok (r3,E3))(Y:F [.v r.d,.v r2.d,.v r3.d]=.y x o):dE fs (.call k (.ev a (.ev b (.ev c .nil)))) E=.y ⟨x.cls,false,x.vs⟩ E3:=by
 subst J;dsimp[yZ,wv,ym,yl,zd,L,e,g,zH,Y,Za,if_true]
def zHI(h:dB fs b E=.ok p):dS fs (.sTry cl b i hb) E=.ok p:=by dsimp[zDa,DV.sTry,h]
def zHJ(h:dB fs b E=.y ⟨c,false,ws⟩ E1)(Z:cl.contains c=true)(G:Yi i (.v (.exn c ws)) E1=.ok E2)(J:dB fs hb E2=.ok (.ret r,E3)):dS fs (.sTry cl b i hb) E=.ok (.ret r,E3):=by
 dsimp[zDa,DV.sTry,h,Z,G,J,Bool.not_false,Bool.and_self,if_true]
def zn:[d].length<=cap:=by dsimp[List.length_singleton,cap];lia
def Yd:([]:Ls D).length<=cap:=by dsimp[length_nil,cap];lia
def zDk:[d,e].length<=cap:=by dsimp[length_cons,length_nil,cap];lia
def zDl{nl:Nat}{xs ys:Ls Str}{caps:Ls Nat}{it tt el:_}{tg:Tg}{ds rs:Ls D}{vs:Ls D}(c:D->Ls DV.Slot)(f:D->Bool)(g:D->D)(W:dI fs it E=.ok (ds,E1))(Q:YS E1 caps=.ok (vs.map AR.tmp))
  (L:∀d∈ds,∀S:Ls DV.Slot,S.length=nl->(∀s∈S,zy s=true)->tg.m d (S++vs.map Slot.v)=.ok (c d++vs.map Slot.v))
  (Y:∀d∈ds,(c d).length=nl/\∀s∈c d,zy s=true)
  (M:∀d∈ds,dT fs tt (c d++vs.map Slot.v)=.ok (f d,c d++vs.map Slot.v))
  (h:∀d∈ds,f d=true->∃r,dE fs el (c d++vs.map Slot.v)=.ok (r,c d++vs.map Slot.v)/\r.d=g d) (Z:ds.length<=cap) (p:(ds.filter f).map g=rs):dE fs (.comp nl xs ys caps it tg tt el) E=.ok (.w rs,E1):=by
 subst p;exact Qt <| zAx c f g ds L Y M h Z W Q
def Ye{xs ys:Ls Str}{caps:Ls Nat}{it el:_}{ds rs:Ls D}{vs:Ls D}(g:D->D)(W:dI fs it E=.ok (ds,E1))(Q:YS E1 caps=.ok (vs.map AR.tmp))
  (h:∀d∈ds,∃r,dE fs el (.v d::vs.map Slot.v)=.ok (r,.v d::vs.map Slot.v)/\r.d=g d) (Z:ds.length<=cap) (p:ds.map g=rs):dE fs (.comp 1 xs ys caps it (.n 0) .tTr el) E=.ok (.w rs,E1):=by
 refine zDl (λd=>[.v d]) (λ_=>true) g W Q (λd j S G c=>zHG G c) (λd j=>⟨rfl,λs a=>?_⟩) (λd j=>?_) (λd j _=>h d j) Z ?_
 ·rw[mem_singleton]at a;subst a;rfl
 ·dsimp[zAq,wC]
 ·rw[filter_eq_self.mpr (λ_ _=>rfl),p]
end
end DV
namespace SM
open PySem L2 DV
def ends(w o k:Nat):Nat->Ls Nat
 |0=>1::replicate k 0|n+1=>(o*(ends w o k n).sum)::((ends w o k n).dropLast.map (w*·))
def U(w o k n:Nat):Nat:=(ends w o k n).sum
def F(w o k m:Nat):Nat->Nat
 |0=>0|r+1=>F w o k m r+w^r*o*U w o k (m-1-r)
theorem Q7(w:Nat):∀l:Ls Nat,(l.map (w*·)).sum=w*l.sum
 | []=>by simp|a::l=>by simp[Q7 w l,Nat.mul_add]
def wA(m:Nat):Nat->Ls (Ls Nat)
 |0=>[[]]|n+1=>(wA m n).flatMap λr=>(List.range m).map λx=>r++[x]
def stp(s:Nat)(p:Nat×Nat)(x:Nat):Nat×Nat:=(max p.1 (if x=s then p.2+1 else 0),if x=s then p.2+1 else 0)
def stt(s:Nat)(row:Ls Nat):Nat×Nat:=row.foldl (stp s) (0,0)
def Die(a:Ls Nat):Prop:=(a.length=2\/a.length=3)/\∀x∈a,1<=x/\x<=9
def top'(t:Int)(b:Nat):Int:=t/(t.natAbs.gcd b:Nat)
def bot'(t:Int)(b:Nat):Nat:=b/t.natAbs.gcd b
def nrm(t:Int)(b:Nat):D:=.t [.int (top' t b),.int (bot' t b:Nat)]
def tot(es:Ls (Ls Nat)):Nat:=(es.map List.sum).sum
def al(ws:Ls Nat)(k:Nat):Nat->Ls (Ls Nat)
 |0=>ws.map λw=>w::replicate (k-1) 0|n+1=>zipWith (λw e=>(w*(tot (al ws k n)-e.sum))::e.dropLast.map (w*·)) ws (al ws k n)
def A(ws:Ls Nat)(n k:Nat):Nat:=if n=0 then 1 else if k=0 then 0 else tot (al ws k (n-1))
theorem zDm(ws:Ls Nat)(k:Nat):∀n,(al ws k n).length=ws.length
 |0=>by simp[al]|n+1=>by simp[al,zDm ws k n]
theorem vq:∀{l:Ls Nat} {s x:Nat},l[s]?=some x->x<=l.sum
 |a::l,0,x,h=>by simp at h;subst h;simp
 |a::l,s+1,x,h=>by
  have:=vq (l:=l) (s:=s) (by exists h);dsimp[sum_cons];lia
 | [],s,x,h=>by simp at h
end SM
namespace RM
open PySem L2 DV
abbrev B:=Int×Nat
def y8(a:Int):Ls B->Ls B
 | []=>[(a,1)]| (b,n)::r=>if a=b then(b,n+1)::r else(a,1)::(b,n)::r
def rle:Ls Int->Ls B
 | []=>[]|a::l=>y8 a (rle l)
def JK:Ls B->Int->Ls B
 | [],a=>[(a,1)]| [(b,n)],a=>if b=a then [(b,n+1)]else [(b,n),(a,1)]|x::y::r,a=>x::JK (y::r) a
def zDn(c a:Int):∀q:Ls B,q≠[]->y8 c (JK q a)=JK (y8 c q) a
 | [],h=>absurd rfl h
 | [(b,n)],_=>by
  by_cases L:b=a
  ·by_cases h2:c=b
   ·simp[JK,y8,L,h2]
   ·simp[JK,y8,L,h2]
    split<;>simp_all [JK]
  ·by_cases h2:c=b
   ·simp[JK,y8,L,h2]
   ·simp[JK,y8,L,h2]
 | (b,n)::y::r,_=>by
  by_cases h2:c=b
  ·simp[JK,y8,h2]
  ·simp[JK,y8,h2]
theorem zA1(a:Int):∀l:Ls Int,rle (l++[a])=JK (rle l) a
 | []=>rfl
 | [c]=>by
  show y8 c [(a,1)]=JK [(c,1)] a
  dsimp[y8,JK];by_cases h:c=a
  ·simp[h]
  ·simp[h]
 |c::d::l=>by
  have I:=zA1 a (d::l);show y8 c (rle ((d::l)++[a]))=JK (y8 c (rle (d::l))) a;rw[I];refine zDn c a _ ?_;show y8 d (rle l)≠[];cases rle l with
  |nil=>simp[y8]
  |cons x r=>obtain⟨b,n⟩:=x;dsimp[y8];split<;>simp
def Y9:Ls B->Ls Int
 | []=>[]| (a,n)::r=>replicate n a++Y9 r
def G9(a:Int)(q:Ls B):Y9 (y8 a q)=a::Y9 q:=by
 cases q with
 |nil=>rfl
 |cons x r =>
  obtain⟨b,n⟩:=x;dsimp[y8];split
  ·rename_i h;subst h;simp[Y9,replicate_succ]
  ·simp[Y9,replicate_succ]
theorem ZP:∀l:Ls Int,Y9 (rle l)=l
 | []=>rfl|a::l=>by show Y9 (y8 a (rle l))=_;rw[G9,ZP l]
theorem Wx(a:Int)(k:Nat):∀p:Ls Int,(∀z,p.getLast?=some z->z≠a)->rle (p++replicate (k+1) a)=rle p++[(a,k+1)]
 | [],_=>by
  show rle (replicate (k+1) a)=[(a,k+1)]
  induction k with
  |zero=>rfl
  |succ k I =>
   rw[replicate_succ];show y8 a (rle (replicate (k+1) a))=_;rw[I];simp[y8]
 | [c],h=>by
  have Z:c≠a:=h c rfl;show y8 c (rle (replicate (k+1) a))=y8 c []++[(a,k+1)];have:=Wx a k [] (λz hz=>by cases hz);dsimp[nil_append]at this;rw[this];simp[y8,Z,rle]
 |c::d::p,h=>by
  have I:=Wx a k (d::p) (λz hz=>h z (by exists hz));show y8 c (rle ((d::p)++replicate (k+1) a))=y8 c (rle (d::p))++[(a,k+1)];rw[I];cases P:rle (d::p)with
  |nil =>
   have:=ZP (d::p);rw[P]at this;cases this
  |cons x r =>
   obtain⟨b,n⟩:=x;dsimp[cons_append,y8];split<;>rfl
def zGA(m:Ls B)(z:B)(a:Int):JK (m++[z]) a=if z.1=a then m++[(z.1,z.2+1)]else m++[z,(a,1)]:=by
 induction m with
 |nil =>
  obtain⟨b,n⟩:=z;dsimp[nil_append,JK]
 |cons x m I =>
  cases h:m++[z]with
  |nil=>simp at h
  |cons y r =>
   rw[cons_append,h];dsimp[JK];rw[<- h,I];split<;>simp
def tot(q:Ls B):Nat:=(q.map (·.2)).sum
theorem vt:∀q:Ls B,tot q=(Y9 q).length
 | []=>rfl
 | (a,n)::r=>by
  have:=vt r;dsimp[tot,map_cons,sum_cons,Y9,length_append,length_replicate]at this ⊢;lia
theorem Zj(v:Nat->Int):∀k,argBest (λi j=>decide (v i > v j)) k<=k/\∀i,i<=k->v i<=v (argBest (λi j=>decide (v i > v j)) k)
 |0=>⟨le_refl _,λi h=>by have:i=0:=(by lia);subst this;exact Int.le_refl _⟩
 |k+1=>by
  obtain⟨L,h2⟩:=Zj v k;dsimp[argBest];by_cases Z:v (k+1) > v (argBest (λi j=>decide (v i > v j)) k)
  ·rw[if_pos (by exists Z)]
   refine⟨le_refl _,λi W=>?_⟩;by_cases e:i=k+1
   ·subst e;exact Int.le_refl _
   ·have:=h2 i (by lia);lia
  ·rw[if_neg (by exists Z)]
   refine⟨by lia,λi W=>?_⟩;by_cases e:i=k+1
   ·subst e;lia
   ·exact h2 i (by lia)
def zBe(h:0<ns.length):Qi ns∈ns/\∀a∈ns,a<=Qi ns:=by
 obtain⟨L,h2⟩:=Zj (λi=>ns.getD i 0) (ns.length-1);unfold Qi;refine⟨?_,λa P=>?_⟩
 ·generalize argBest (λi j=>decide (ns.getD i 0 > ns.getD j 0)) (ns.length-1)=m at L
  have K:m<ns.length:=by lia
  rw[getD_eq_getElem?_getD,getElem?_eq_getElem K];exact List.getElem_mem K
 ·obtain⟨i,W,rfl⟩:=getElem_of_mem P
  have:=h2 i (by lia);dsimp[getD_eq_getElem?_getD,getElem?_eq_getElem W,Option.getD_some]at this;simpa[getD_eq_getElem?_getD]using this
def top(ns:Ls Nat):Nat:=ns.foldr max 0
def top_le:∀a∈ns,a<=top ns:=by
 induction ns with
 |nil=>intro a h;cases h
 |cons b r I =>
  intro a h;dsimp[top,foldr_cons];rcases mem_cons.mp h with h|h
  ·subst h;exact Nat.le_max_left _ _
  ·exact le_trans (I a h) (Nat.le_max_right _ _)
def top_mem(h:ns≠[]):top ns∈ns:=by
 induction ns with
 |nil=>exact absurd rfl h
 |cons b r I =>
  dsimp[top,foldr_cons];by_cases e:r=[]
  ·subst e;simp
  ·have:=I e
   unfold top at this;by_cases J:b<=List.foldr max 0 r
   ·rw[Nat.max_eq_right J];exact qD _ this
   ·rw[Nat.max_eq_left (by lia)];exact qE
def zDo(ns:Ls Nat):Wc (ns.map λ(n:Nat)=>(n:Int)) 0=(top ns:Int):=by
 unfold Wc;cases ns with
 |nil=>rfl
 |cons b r =>
  rw[if_neg (by simp)];obtain⟨L,h2⟩:=zBe (ns:=(b::r).map λ(n:Nat)=>(n:Int)) (by simp);obtain⟨m,K,e⟩:=mem_map.mp L;have H:=top_le m K;have v:=h2 _ (mem_map.mpr ⟨_,top_mem (ns:=b::r) (by simp),rfl⟩);rw[<- e]at v ⊢;have:top (b::r)<=m:=by exact_mod_cast v
  have:m=top (b::r):=by lia
  rw[this]
def Js(a b:Ls Nat):top (a++b)=max (top a) (top b):=by
 induction a with
 |nil=>simp[top]
 |cons x r I =>
  dsimp[cons_append,top,foldr_cons]at I ⊢;rw[I];lia
def lens(s:Int)(q:Ls B):Ls Nat:=(q.filter λx=>x.1==s).map (·.2)
def best(s:Int)(q:Ls B):Nat:=top (lens s q)
end RM
namespace DV
open PySem L2
def smD:Nat->D->Prop
 |_,.non=>True|_,.bl _=>True|_,.dic=>True|_,.int i=>i.natAbs<2^100|_,.str x=>x="1"|n+1,.t ds=>ds.length<=32/\∀d∈ds,smD n d|n+1,.l ds=>ds.length<=32/\∀d∈ds,smD n d|_,_=>False
def rpB:Nat->Nat
 |0=>40|n+1=>32*(rpB n+2)+10
theorem zHK(n:Nat):40<=rpB n:=by
 cases n with
 |zero=>exact le_refl _|succ n=>have:=zHK n;dsimp[rpB];lia
def zGB{i:Int}(h:i.natAbs<2^100):(PyData.int i).showable=true:=by
 have:i.natAbs.log2<1920:=by
  by_cases c:i.natAbs=0
  ·rw[c];decide
  ·rw[Nat.log2_lt c]
   exact lt_of_lt_of_le h (Nat.pow_le_pow_right (by lia) (by lia))
 dsimp[PyData.showable,decide_eq_true_eq];exact this
def len_int{i:Int}(h:i.natAbs<2^100):((PyData.int i).shown).length<=40:=by
 have e:=int_text_length_le10 (a:=i) (k:=39) (by lia) (lt_trans h (by left));dsimp[PyData.shown];rw[ofString_length];exact e
theorem Wy(M:Nat):∀(a:Ls Str) (k:Nat) (u:Str),(∀t∈a,t.length<=M)->(textFrom k u a).length<=u.length+a.length*(M+2)
 | [],k,u,_=>by simp[textFrom]
 |t::a,k,u,h=>by
  have I:=Wy M a (k+1) (u++(if k > 0 then ", " else "":String)++t) (λx V=>h x (qD _ V));have L:=h t qE;have e:((if k > 0 then ", " else "":String):Str).length<=2:=by split<;>left
  dsimp[textFrom];dsimp[strLen_append]at I;have:(t::a).length*(M+2)=a.length*(M+2)+(M+2):=by rw[length_cons,succ_mul]
  lia
theorem zDp(M:Nat):∀a:Ls Str,(∀t∈a,t.length<=M)->(Str.join ", " a).length<=a.length*(M+2)
 | [],_=>by rw[show(Str.join ", " ([]:Ls Str)).length=0 by left];lia
 | [t],h=>by
  have L:=h t qE;show t.length<=_;simp;lia
 |t::u::a,h=>by
  have I:=zDp M (u::a) (λx V=>h x (qD _ V));have L:=h t qE;show(t++", "++Str.join ", " (u::a)).length<=_;have w:((", ":String):Str).length=2:=by left
  rw[strLen_append,strLen_append,w];have:(t::u::a).length*(M+2)=(u::a).length*(M+2)+(M+2):=by rw[length_cons,succ_mul]
  lia
theorem Jf:∀Y:Ls PyData,PyData.shownAll Y=Y.map PyData.shown
 | []=>by simp[PyData.shownAll]|x::Y=>by simp[PyData.shownAll,Jf Y]
structure Rp(n:Nat)(x:PyData):Prop where
 sh:x.showable=true
 dp:x.depth<=n+2
 ln:x.shown.length<=rpB n
theorem rps{n:Nat}:∀(P:Ls D),(∀d∈P,∃x,pyD d=some x/\Rp n x)->∃Y,pyDs P=some Y/\Y.length=P.length/\PyData.showableAll Y=true/\PyData.depthAll Y<=n+2/\∀x∈Y,x.shown.length<=rpB n
 | [],_=>⟨[],rfl,rfl,rfl,by simp[PyData.depthAll],λx h=>by cases h⟩
 |d::P,h=>by
  obtain⟨x,R,L⟩:=h d qE;obtain⟨Y,w,j,S,a,E⟩:=rps P (λy O=>h y (qD _ O));refine⟨x::Y,by dsimp[pyDs,R,w],by simp[j],?_,?_,λy O=>?_⟩
  ·dsimp[PyData.showableAll,L.sh,S];rfl
  ·have:=L.dp;dsimp[PyData.depthAll];lia
  ·rcases mem_cons.mp O with rfl|O
   ·exact L.ln
   ·exact E y O
def sm_py:∀(n:Nat) (d:D),smD n d->∃x,pyD d=some x/\Rp n x:=by
 have a:∀(n:Nat) (d:D),smD n d->(∀P,d≠.t P)->(∀P,d≠.l P)->∃x,pyD d=some x/\Rp n x:=by
  intro n d h L h2;have b:=zHK n;cases d with
  |non =>
   have e:(PyData.none).shown.length=4:=by left
   exact⟨.none,rfl,rfl,by simp[PyData.depth],by lia⟩
  |bl v =>
   have e:(PyData.bool v).shown.length<=5:=by cases v<;>left
   exact⟨.bool v,rfl,rfl,by simp[PyData.depth],by lia⟩
  |int i =>
   have g:i.natAbs<2^100:=by simpa[smD]using h
   have e:=len_int g;exact⟨.int i,rfl,zGB g,by simp[PyData.depth],by lia⟩
  |str x =>
   have g:x="1":=by simpa[smD]using h
   subst g;have e:(PyData.str "1").shown.length<=5:=by left
   exact⟨.str "1",rfl,rfl,by simp[PyData.depth],by lia⟩
  |dic =>
   have e:(PyData.dict []).shown.length<=5:=by left
   exact⟨.dict [],rfl,rfl,by simp[PyData.depth,PyData.depthAll,PyData.depthKv],by lia⟩
  |t P=>exact absurd rfl (L P)|l P=>exact absurd rfl (h2 P)|fn x=>simp[smD]at h|exn x y=>simp[smD]at h|m x y=>simp[smD]at h
 intro n
 induction n with
 |zero =>
  intro d h;refine a 0 d h (λP e=>?_) (λP e=>?_)<;>(subst e;simp[smD]at h)
 |succ n I =>
  intro d h;by_cases ht:∃P,d=.t P
  ·obtain⟨P,rfl⟩:=ht
   dsimp[smD]at h;obtain⟨Y,e,c,S,R,E⟩:=rps P (λy O=>I y (h.2 y O));refine⟨.tuple Y,by dsimp[pyD,e];rfl,by dsimp[PyData.showable];exact S,by dsimp[PyData.depth];lia,?_⟩;dsimp[PyData.shown,Jf,tupleText,strLen_append];have j:=zDp (rpB n) (Y.map PyData.shown) (λt ht=>by obtain⟨y,O,rfl⟩:=mem_map.mp ht;exact E y O);have k:(("(":Str)).length=1:=by left
   have w:((if(Y.map PyData.shown).length==1 then ",)" else ")":String):Str).length<=2:=by split<;>left
   rw[length_map]at j;have:=Nat.mul_le_mul_right (rpB n+2) (show Y.length<=32 by lia);dsimp[rpB];lia
  ·by_cases hl:∃P,d=.l P
   ·obtain⟨P,rfl⟩:=hl
    dsimp[smD]at h;obtain⟨Y,e,c,S,R,E⟩:=rps P (λy O=>I y (h.2 y O));refine⟨.list Y,by dsimp[pyD,e];rfl,by dsimp[PyData.showable];exact S,by dsimp[PyData.depth];lia,?_⟩;dsimp[PyData.shown,Jf,listText,strLen_append];have j:=Wy (rpB n) (Y.map PyData.shown) 0 "[" (λt ht=>by obtain⟨y,O,rfl⟩:=mem_map.mp ht;exact E y O);have k:(("[":Str)).length=1:=by left
    have w:(("]":Str)).length=1:=by left
    rw[length_map]at j;have:=Nat.mul_le_mul_right (rpB n+2) (show Y.length<=32 by lia);dsimp[rpB];lia
   ·exact a (n+1) d h (λP e=>ht ⟨P,e⟩) (λP e=>hl ⟨P,e⟩)
def zDq{d:D}(h:smD 2 d):∃t,Gm d=some (.v (.str t)):=by
 obtain⟨x,e,r⟩:=sm_py 2 d h;refine⟨x.shown,?_⟩;unfold Gm;rw[e];have L:=r.dp;have h2:=r.ln;have l:rpB 2=43402:=by decide
 dsimp;rw[if_pos ⟨r.sh,by lia,by rw[l]at h2;dsimp[cap];lia⟩]
section
variable{fs:Ls FI}{E E1 E2 E3 E4 E5:zR}
def Zk(h:body (ss++replicate (n-ss.length) .e)=.y x E1)(L:zu ss E1=o):fnM n body ss=.y x o:=by
 subst L;dsimp[fnM,h]
def x_cX1(J:fiF fs k=F)(L:dE fs a E=.ok (r,E1))(Y:F [.v r.d]=.y ⟨z,y,ws⟩ o):dE fs (.call k (.ev a .nil)) E=.y ⟨z,false,ws⟩ E1:=zF8 J L Y
def x_cX3(J:fiF fs k=F)(L:dE fs a E=.ok (r,E1))(e:dE fs b E1=.ok (r2,E2))(g:dE fs c E2=.ok (r3,E3))(Y:F [.v r.d,.v r2.d,.v r3.d]=.y ⟨z,y,ws⟩ o):dE fs (.call k (.ev a (.ev b (.ev c .nil)))) E=.y ⟨z,false,ws⟩ E3:=zF9 J L e g Y
def yQ(J:fiF fs k=F)(L:dE fs a E=.ok (r,E1))(e:dE fs b E1=.ok (r2,E2))(g:dE fs c E2=.ok (r3,E3))(h:dE fs d E3=.ok (r4,E4))(Y:F [.v r.d,.v r2.d,.v r3.d,.v r4.d]=.ok (r',[o,o2,o3,o4])):dE fs (.call k (.ev a (.ev b (.ev c (.ev d .nil))))) E=.ok (r',E4):=by
 subst J;dsimp[yZ,wv,ym,yl,zd,L,e,g,h,zH,Y,zF]
def zA2(J:dE fs f E=.ok (.v (.fn x),E1))(V:uS (ks.map λk=>(fiX fs k,fiF fs k)) x=some F)(L:dE fs a E1=.ok (r,E2))(e:dE fs b E2=.ok (r2,E3))(g:dE fs c E3=.ok (r3,E4))(Y:F [.v r.d,.v r2.d,.v r3.d]=.ok (r',[o,o2,o3])):dE fs (.callV ks f (.ev a (.ev b (.ev c .nil)))) E=.ok (r',E4):=by
 dsimp[rE_fn,zAp,wv,ym,WW,J,V,yl,zd,L,e,g,zH,Y,zF]
def QA(J:dE fs f E=.ok (.v (.fn x),E1))(V:uS (ks.map λk=>(fiX fs k,fiF fs k)) x=some F)(L:dE fs a E1=.ok (r,E2))(e:dE fs b E2=.ok (r2,E3))(g:dE fs c E3=.ok (r3,E4))(Y:F [.v r.d,.v r2.d,.v r3.d]=.y ⟨z,y,ws⟩ o):dE fs (.callV ks f (.ev a (.ev b (.ev c .nil)))) E=.y ⟨z,false,ws⟩ E4:=by
 dsimp[rE_fn,zAp,wv,ym,WW,J,V,yl,zd,L,e,g,zH,Y,Za,if_true]
def uj(J:fiF fs k=F)(X:E[i]?=some (.p p))(L:dE fs a E=.ok (r,E))(Y:F [.p p,.v r.d]=.ok (r',[.p p',o]))(M:E.set i (.p p')=E1):dE fs (.call k (.lend i (.ev a .nil))) E=.ok (r',E1):=by
 subst J M;have W:i<E.length:=(qG.mp X).1;have S:(E.set i .e)[i]?=some .e:=by simp[W]
 dsimp[yZ,wv,Qw,ym,yl,zd,X,Jv,Bool.false_eq_true,if_false,L,zH,Slot.list?,Y,zF,S,Slot.put,set_set]
def zGC(h:dE fs a E=.ok (.v (.int i),E1)):dE fs (.neg a) E=.ok (.v (.int (-i)),E1):=by dsimp[rE_neg,eNeg,h]
def zDr(h:dE fs a E=.ok (.v (.bl true),E1))(L:dE fs b E1=o):dE fs (.and a b) E=o:=by subst L;dsimp[zAn,uH,h]
def zDs(h:dE fs a E=.ok (.v (.bl false),E1)):dE fs (.and a b) E=.ok (.v (.bl false),E1):=by dsimp[zAn,uH,h]
def x_is(h:dE fs a E=.ok (r,E1))(V:tyD r.d=some t)(Y:Ga t T.s=v):dE fs (.is T a) E=.ok (.v (.bl v),E1):=by subst Y;dsimp[rE_is,eIs,h,V]
def x_ifx1(h:dT fs t E=.ok (true,E1))(L:dE fs a E1=o):dE fs (.ifx t a b) E=o:=by subst L;dsimp[rE_ifx,eIf,h]
def x_ixO(h:E[i]?=some (.w ds))(L:dE fs b E=.ok (.v (.int k),E))(V:atI ds k=some d):dE fs (.ixO i b) E=.ok (.v d,E):=by
 dsimp[zAo,zFF,h,Jv,Bool.false_eq_true,if_false,L,ixS,V]
def zA3(L:dT fs a E=.ok (true,E1))(Y:dT fs b E1=o):dT fs (.tAnd a b) E=o:=by subst Y;dsimp[Qv,wn,L]
def zDt(L:dT fs a E=.ok (false,E1)):dT fs (.tAnd a b) E=.ok (false,E1):=by dsimp[Qv,wn,L]
def s_app(J:E[i]?=some (.w ds0))(L:dE fs a E=.ok (r,E1))(Y:E1[i]?=some (.w ds))(c:ds.length<cap)(M:E1.set i (.w (ds++[r.d]))=E2):dS fs (.sApp i a) E=.ok (.nx,E2):=by
 subst M;dsimp[Wh,sApp,J,Slot.list?,L,Y,Slot.put];rw[if_pos c]
end
def put_ok(r:R)(h:E[i]?=some s)(S:zy s=true):Yi i r E=.ok (E.set i r.slot):=by
 dsimp[Yi,h];cases s<;>first|rfl|(cases S)
def yt(h:E[i]?=some s)(S:zy s=true)(e:E.set i r.slot=E1):Yi i r E=.ok E1:=by
 rw[put_ok r h S,e]
def ne_int(x y:Int):neG (.int x) (.int y)=some (.v (.bl (!decide (x=y)))):=by simp[neG,neF]
def eq_int(x y:Int):eqG (.int x) (.int y)=some (.v (.bl (decide (x=y)))):=by simp[eqG,eqF]
def eq_str(t:Str):eqG (.str t) (.str t)=some (.v (.bl true)):=by simp[eqG,eqF]
def ne_str(t:Str):neG (.str t) (.str t)=some (.v (.bl false)):=by simp[neG,neF]
def ZQ(a b:Ls D)(h:a.length+b.length<=100000):ZG (.l a) (.l b)=some (.w (a++b)):=by
 dsimp[ZG];rw[if_pos (by dsimp[cap];lia)]
def Q8(a b:Ls D)(h:a.length+b.length<=100000):ZG (.t a) (.t b)=some (.v (.t (a++b))):=by
 dsimp[ZG];rw[if_pos (by dsimp[cap];lia)]
def zDu(x:D)(k:Nat):(replicate k [x]).flatten=replicate k x:=by
 induction k with
 |zero=>rfl|succ k I=>rw[replicate_succ,flatten_cons,I,replicate_succ];rfl
def Jt(d:D)(n:Nat)(h:n<=1000):Yv (.l [d]) (.int n)=some (.w (replicate n d)):=by
 dsimp[Yv,ZY];rw[if_pos ⟨by lia,by lia,by dsimp[List.length_singleton,Int.toNat_natCast,cap];lia⟩,Int.toNat_natCast,zDu]
def zGD(d:D)(n:Nat)(h:n<=1000):ZY (.t [d]) (.int n)=some (.v (.t (replicate n d))):=by
 dsimp[ZY];rw[if_pos ⟨by lia,by lia,by dsimp[List.length_singleton,Int.toNat_natCast,cap];lia⟩,Int.toNat_natCast,zDu]
def Q9(e:ZY x y=some r):Yv x y=some r:=by dsimp[Yv,e]
def Z5(d:D)(n:Nat)(h:n<=1000):Yv (.t [d]) (.int n)=some (.v (.t (replicate n d))):=by
 exact Q9 (zGD d n h)
def zDv{ds:Ls D}{k:Nat}{d:D}(h:ds[k]?=some d):atI ds (k:Int)=some d:=by
 obtain⟨C,e⟩:=qG.mp h;have:(k:Int)<ds.length:=by lia
 simp[atI,ixN,this,h]
def atI_end(ds:Ls D)(d:D):atI (ds++[d]) (-1)=some d:=by
 have L:¬(0:Int)<=-1:=by decide
 have h2:-(((ds++[d]).length:Nat):Int)<=-1:=by simp;lia
 have M:(-1+(((ds++[d]).length:Nat):Int)).toNat=ds.length:=by simp;lia
 unfold atI ixN;rw[if_neg L,if_pos h2,M];simp
def zAA(ds:Ls D)(i:Int):ixD (.l ds) (.int i)=(atI ds i).map .v:=rfl
def zDw(ds:Ls D)(i:Int):ixD (.t ds) (.int i)=(atI ds i).map .v:=rfl
def pick{ds:Ls D}{r:Int}(J:0<=r)(L:r<ds.length):∃d,d∈ds/\ixD (.l ds) (.int r)=some (.v d):=by
 obtain⟨k,rfl⟩:=Int.eq_ofNat_of_zero_le J;have C:k<ds.length:=by lia
 refine⟨ds[k],List.getElem_mem C,?_⟩;rw[zAA,zDv (getElem?_eq_getElem C)];rfl
theorem Jg(f:D->Bool):∀P:Ls D,jC (P.map λd=>D.bl (f d))=some (P.map f)
 | []=>rfl|d::P=>by dsimp[map_cons,jC,Jg f P];rfl
theorem all_map(f:D->Bool)(ds:Ls D):(ds.map f).all id=ds.all f:=by simp[List.all_map]
def zA4{f:D->Bool}{ds:Ls D}{b:Bool}(h:ds.all f=b):allD [.l (ds.map λd=>D.bl (f d))]=some (.v (.bl b)):=by
 subst h;simp[allD,Jg,all_map]
def zGE(ds:Ls D)(k:Nat)(h:k<=ds.length):vb ds (some (k:Int)) none=ds.drop k:=by
 unfold vb;rw[HT.sIx_nat];dsimp[HT.sIx];rw[show min k ds.length=k by lia,List.take_of_length_le (by simp)]
def pow30:powD (.int 10) (.int 30)=some (.v (.int (10^30))):=by
 simp[powD,zCX]
def N(l:Ls Nat):Ls D:=l.map λn:Nat=>D.int (n:Int)
def jJ(l:Ls Nat):(N l).length=l.length:=by simp[N]
def QB(h:d∈N l):∃n∈l,d=.int (n:Nat):=by
 obtain⟨n,D,rfl⟩:=mem_map.mp h;exact⟨n,D,rfl⟩
def N_get{l:Ls Nat}{k n:Nat}(h:l[k]?=some n):(N l)[k]?=some (.int (n:Nat)):=by simp[N,h]
def N_app(a b:Ls Nat):N (a++b)=N a++N b:=by simp[N]
def N_rep(k n:Nat):N (replicate k n)=replicate k (.int (n:Nat)):=by simp[N]
def ints_N(n:Nat):zE 0 n=N (List.range n):=by
 have Z:∀n k:Nat,zE (k:Int) n=N (range' k n):=by
  intro n
  induction n with
  |zero=>intro k;rfl
  |succ n I =>
   intro k;have:=I (k+1);show D.int (k:Int)::zE ((k:Int)+1) n=D.int (k:Int)::N (range' (k+1) n);rw[<- this];simp
 rw[range_eq_range'];exact Z n 0
section
variable{fs:Ls FI}{E E1 E2 E3:zR}
def zHL(S:s=.w ds\/s=.v (.l ds))(h:E[i]?=some s)(h':E.set i (.v (.l ds))=E1):dE fs (.x i) E=.ok (.v (.l ds),E1):=by
 rcases S with rfl|rfl
 ·exact vo h h'
 ·rw[zA h]
  have:E.set i (.v (.l ds))=E:=by
   obtain⟨W,e⟩:=qG.mp h;rw[<- e,List.set_getElem_self]
  rw[<- h',this]
def zHM(L:dI fs it E=.ok (ds,E1))(M:ZD tg.m (dB fs b) ds E1=.ok p):dS fs (.sForI it tg b) E=.ok p:=by
 dsimp[zF0,zDJ,L,sForI,M]
def i_E{as:_}(L:dA fs as E=.ok ([r],E1))(Y:zBq t r.d=some ds):dI fs (.iE t as) E=.ok (zBY 0 ds,E1):=by
 dsimp[rI_iE,iE,L,Y]
end
def ne_tups(L:∀d∈a,eqb 19 d=true)(Y:∀d∈b,eqb 19 d=true):neG (.t a) (.t b)=some (.v (.bl (!deqs a b))):=by
 have e:neF (.t a) (.t b)=none:=rfl;dsimp[neG,e,zGs];rw[if_pos ⟨all_eq_true.mpr L,all_eq_true.mpr Y⟩];rfl
section
variable{fs:Ls FI}{E E1:zR}
def i_Rv(L:dA fs a E=.ok ([r],E1))(Y:r.d=.int j)(T:-1000000<=j/\j<=1000000):dI fs (.iRv a) E=.ok (yu j.toNat,E1):=by
 dsimp[rI_iRv,DV.iRv,L,Y];rw[if_pos ⟨by lia,by lia⟩]
end
theorem ZR(I:Nat->zR->Ls D->Prop):∀(P:Ls D) (k:Nat) (E:zR) (u:Ls D),I k E u->u.length+P.length<=cap ->
  (∀i d,P[i]?=some d->∀E u,I (k+i) E u->∃E1 E2,tg d E=.ok E1/\((tt E1=.ok (false,E2)/\I (k+i+1) E2 u)\/∃r E3,tt E1=.ok (true,E2)/\el E2=.ok (r,E3)/\I (k+i+1) E3 (u++[r.d]))) ->
  ∃o E',uO tg tt el P E u=.ok (o,E')/\I (k+P.length) E' o
 | [],k,E,u,h,Z,step=>⟨u,E,rfl,h⟩
 |d::P,k,E,u,h,Z,step=>by
  dsimp[length_cons]at Z;have next:∀i t,P[i]?=some t->∀E u,I (k+1+i) E u->∃E1 E2,tg t E=.ok E1/\((tt E1=.ok (false,E2)/\I (k+1+i+1) E2 u)\/∃r E3,tt E1=.ok (true,E2)/\el E2=.ok (r,E3)/\I (k+1+i+1) E3 (u++[r.d])):=λi t e E u h=>by
   have:=step (i+1) t (by exists e) E u (by rw[show k+(i+1)=k+1+i by lia];exact h);rw[show k+(i+1)=k+1+i by lia]at this;exact this
  obtain⟨E1,E2,L,⟨h2,M⟩|⟨r,E3,h2,M,h4⟩⟩:=step 0 d rfl E u h
  ·obtain⟨o,E',j,S⟩:=ZR I P (k+1) E2 u M (by lia) next
   refine⟨o,E',?_,by rw[length_cons,show k+(P.length+1)=k+1+P.length by lia];exact S⟩;dsimp[uO,jl,ma1,L,h2];exact j
  ·obtain⟨o,E',j,S⟩:=ZR I P (k+1) E3 (u++[r.d]) h4 (by simp;lia) next
   refine⟨o,E',?_,by rw[length_cons,show k+(P.length+1)=k+1+P.length by lia];exact S⟩;dsimp[uO,jl,ma1,L,h2,M];rw[if_pos (by lia)];exact j
section
variable{fs:Ls FI}{E:zR}
def x_compT{xs ys:Ls Str}{caps:Ls Nat}{it tt el:_}{ds vs p:Ls D}{i:Nat}{E':Ls D->zR}{E2 E0:zR}(a:Ls D->Prop)(I:Nat->Ls D->Prop)(W:dI fs it E0=.ok (ds,E))(Q:YS E caps=.ok (.ln i::vs.map AR.tmp))(c:zH (.ln i::vs.map AR.tmp) E=.ok (.p p::vs.map Slot.v,E2))(G:a p)(C:I 0 [])
  (h:∀k d,ds[k]?=some d->∀p u,a p->I k u->∃t,(dT fs tt (.v d::.p p::vs.map Slot.v)=.ok (false,.v d::.p t::vs.map Slot.v)/\a t/\I (k+1) u) \/
   ∃r g,dT fs tt (.v d::.p p::vs.map Slot.v)=.ok (true,.v d::.p t::vs.map Slot.v)/\dE fs el (.v d::.p t::vs.map Slot.v)=.ok (r,.v d::.p g::vs.map Slot.v)/\a g/\I (k+1) (u++[r.d])) (Z:ds.length<=cap)
  (J:∀(x:DV.Slot) (V:Ls D),zF (.ln i::vs.map AR.tmp) ((zu (.e::.p p::vs.map Slot.v) (x::.p V::vs.map Slot.v)).drop 1) E E2=.ok (E' V)) :
  ∃rs V,dE fs (.comp 1 xs ys caps it (.n 0) tt el) E0=.ok (.w rs,E' V)/\a V/\I ds.length rs:=by
 obtain⟨o,E3,R,w,x,V,X,_,e⟩:=ZR (tg:=gN 0) (tt:=dT fs tt) (el:=dE fs el) (λk E u=>I k u/\∃x p,E=x::.p p::vs.map Slot.v/\zy x=true/\a p) ds 0 (.e::.p p::vs.map Slot.v) [] ⟨C,.e,p,rfl,rfl,G⟩ (by exists Z) (λi d q E u ⟨P,x,p,X,y,G⟩=>by
  rw[zero_add]at P ⊢;have n:gN 0 d E=.ok (.v d::.p p::vs.map Slot.v):=by subst X;cases x<;>first|rfl|(cases y)
  obtain⟨t,⟨H,O,l⟩|⟨r,g,H,v,M,z⟩⟩:=h i d q p u G P
  ·exact⟨_,_,n,.inl ⟨H,l,.v d,t,rfl,rfl,O⟩⟩
  ·exact⟨_,_,n,.inr ⟨r,_,H,v,z,.v d,g,rfl,rfl,M⟩⟩)
 rw[zero_add]at w;subst X;refine⟨o,V,?_,e,w⟩;dsimp[zDV];refine Qt ?_;have j:uO (gN 0) (dT fs tt) (dE fs el) ds (replicate 1 .e++.p p::vs.map Slot.v) []=.ok (o,x::.p V::vs.map Slot.v):=R;have K:zF (.ln i::vs.map AR.tmp) ((zu (replicate 1 .e++.p p::vs.map Slot.v) (x::.p V::vs.map Slot.v)).drop 1) E E2=.ok (E' V):=J x V;dsimp[Qf,JG,W,Q,c,Tg.m,j,K]
end
section
variable{fs:Ls FI}{E E1 E2:zR}
def zDx(h:DV.whN (dT fs t) (dB fs b) 1000000 E=.ok p):dS fs (.sWhile t b) E=.ok p:=by
 dsimp[Gu];exact Wf (by dsimp[DV.sWhile];exact h)
end
end DV
namespace My
open PySem L2 DV SM
def isFn:D->Bool
 | .fn _=>true| .exn _ _=>true| .m _ _=>true|_=>false
def isW:D->Bool
 | .int _=>true|_=>false
def Ju(z W:Int):D->Bool
 | .int i=>decide (z<=i)&&decide (i<=W)|_=>false
def okD:D->Prop
 | .t P=>P.length<=cap/\∀d∈P,isFn d=false| .fn _=>False| .exn _ _=>False| .m _ _=>False|_=>True
def zBf(d:D)(h:isFn d=false):ZM [.v d]=.ok (.v (.bl (isW d)),[.e]):=by
 cases d<;>first|rfl|(cases h)
def jX(d:D)(z W:Int)(h:isFn d=false):zg [.v d,.v (.int z),.v (.int W)]=.ok (.v (.bl (Ju z W d)),[.e,.e,.e]):=by
 have e:=zBf d h;cases d with
 |int i =>
  simp[zg,yf,jG,fnM,jE,jD,wJ,Z3,zAn,yZ,wv,ym,JS,sRet,sIf,vC,QN,sSet,Yi,R.slot,uH,eOr,QI,yl,zd,vZ,eC,zH,fiF,fiX,R.d,zF,y4,Cp.b,Cp.f,Op2.f,Bi.f,Ty.s,jR,jQ,jm,jn,jo,uG,wn,JH,tT,Jk,eCB,JI,QJ,QK,QL,ZL,W6,Tg.m,eqG,eqF,neG,neF,zBp,QM,Yv,ZY,e,isW,Ju];by_cases L:z<=i<;>simp[L,jR,jQ]
 |_=>first|(cases h;done)|simp[zg,yf,jG,fnM,jE,jD,wJ,Z3,zAn,yZ,wv,ym,JS,sRet,sIf,vC,QN,sSet,Yi,R.slot,uH,eOr,QI,yl,zd,vZ,eC,zH,fiF,fiX,R.d,zF,y4,Cp.b,Cp.f,Op2.f,Bi.f,Ty.s,jR,jQ,jm,jn,jo,uG,wn,JH,tT,Jk,eCB,JI,QJ,QK,QL,ZL,W6,Tg.m,eqG,eqF,neG,neF,zBp,QM,Yv,ZY,e,isW,Ju]
def nxt(s:Int):Int:=((s+7919)%2147483647*((s+7919)%2147483647)+48271*((s+7919)%2147483647)+12345)%2147483629
def zAB(s:Int):ww [.v (.int s)]=.ok (.v (.int (nxt s)),[.e]):=by
 have L:0<=(s+7919)%2147483647:=Int.emod_nonneg _ (by decide);have h2:(s+7919)%2147483647<2147483647:=Int.emod_lt_of_pos _ (by decide);have M:-18446744073709551616<(s+7919)%2147483647/\(s+7919)%2147483647<18446744073709551616:=by lia
 simp[ww,YY,Zf,fnM,jE,jP,wU,jD,zDU,wJ,YB,sRet,sIf,vC,QN,sSet,Yi,R.slot,uH,eOr,QI,yl,zd,vZ,eC,zH,fiF,fiX,R.d,zF,y4,Cp.b,Cp.f,Op2.f,Bi.f,Ty.s,jR,jQ,jm,jn,jo,uG,wn,JH,tT,Jk,eCB,JI,QJ,QK,QL,ZL,W6,Tg.m,eqG,eqF,neG,neF,zBp,QM,Yv,ZY,ZG,ZY,zEZ,zCX,nxt,M]
def Pen(p:Ls D):Prop:=∃l f s:Int,p=[.int l,.int f,.int s]
def zAC(p:Ls D)(G:Pen p)(m:Int)(J:0<m)(L:m.natAbs<Big):∃r p',zV [.p p,.v (.int m)]=.ok (.v (.int r),[.p p',.e])/\0<=r/\r<m/\Pen p':=by
 obtain⟨l,f,s,rfl⟩:=G;by_cases hf:f=1
 ·refine⟨l%m,[.int (l/m),.int f,.int s],?_,Int.emod_nonneg _ (by lia),Int.emod_lt_of_pos _ J,_,_,_,rfl⟩
  simp[zV,wz,JX,fnM,JU,jE,jP,Y1,wU,jD,zDX,zDU,wJ,YB,Y0,zAo,yZ,wv,ym,vF,JS,sRet,sIf,vC,QN,sSet,Yi,R.slot,uH,eOr,QI,yl,zd,vZ,eC,zH,fiF,fiX,R.d,zF,y4,Cp.b,Cp.f,Op2.f,Bi.f,Ty.s,jR,jQ,jm,jn,jo,uG,wn,JH,tT,Jk,eCB,JI,QJ,QK,QL,ZL,W6,Tg.m,eqG,eqF,neG,neF,zBp,QM,Yv,ZY,zFF,Jv,ixS,atI,ixN,eqF,hf,zEZ,zFA,zCX,J,L,ZZ,Slot.list?,Slot.put]
 ·refine⟨nxt (nxt s+7)/64%m,[.int l,.int f,.int (nxt (nxt s+7))],?_,Int.emod_nonneg _ (by lia),Int.emod_lt_of_pos _ J,_,_,_,rfl⟩
  simp[zV,wz,JX,fnM,JU,jE,jP,Y1,wU,jD,zDX,zDU,wJ,YB,Y0,zAo,yZ,wv,ym,vF,JS,sRet,sIf,vC,QN,sSet,Yi,R.slot,uH,eOr,QI,yl,zd,vZ,eC,zH,fiF,fiX,R.d,zF,y4,Cp.b,Cp.f,Op2.f,Bi.f,Ty.s,jR,jQ,jm,jn,jo,uG,wn,JH,tT,Jk,eCB,JI,QJ,QK,QL,ZL,W6,Tg.m,eqG,eqF,neG,neF,zBp,QM,Yv,ZY,zFF,Jv,ixS,atI,ixN,eqF,hf,zEZ,zFA,ZG,zCX,J,L,ZZ,Slot.list?,Slot.put,zAB]
def uk(c:Int):∃p,jI [.v (.int c)]=.ok (.w p,[.e])/\Pen p:=by
 refine⟨[.int (if 0-c > c then 0-c else c),.int (if decide (10^18<=(if 0-c > c then 0-c else c))=true then 1 else 0),.int ((if 0-c > c then 0-c else c)%1000003)],?_,_,_,_,rfl⟩;simp[jI,wx,YF,fnM,jE,jP,wU,jD,zDU,wJ,YB,Y0,YC,Qu,ym,JS,YT,sRet,sIf,vC,QN,sSet,Yi,R.slot,uH,eOr,QI,yl,zd,vZ,eC,zH,fiF,fiX,R.d,zF,y4,Cp.b,Cp.f,Op2.f,Bi.f,Ty.s,jR,jQ,jm,jn,jo,uG,wn,JH,tT,Jk,eCB,JI,QJ,QK,QL,ZL,W6,Tg.m,eqG,eqF,neG,neF,zBp,QM,Yv,ZY,QM,va,zBS,intF,geD,powD,zEZ,zCX,cap]
def vM(E:Ls Int):∃c,yo [.v (.l (E.map .int)),.v (.int 0)]=.ok (.v (.int c),[.e,.e]):=by
 cases E with
 |nil=>exact⟨0,rfl⟩
 |cons n E => 
  refine⟨n,?_⟩;have:(0:Int)<E.length+1:=by lia
  simp[yo,wV,JW,fnM,JU,jE,jP,Y1,jD,zDU,wJ,Y0,YC,zBc,Qu,ym,vF,JS,YT,sRet,sIf,vC,QN,sSet,Yi,R.slot,uH,eOr,QI,yl,zd,vZ,eC,zH,fiF,fiX,R.d,zF,y4,Cp.b,Cp.f,Op2.f,Bi.f,Ty.s,jR,jQ,jm,jn,jo,uG,wn,JH,tT,Jk,eCB,JI,QJ,QK,QL,ZL,W6,Tg.m,eqG,eqF,neG,neF,zBp,QM,Yv,ZY,zCb,ltD,zBS,ixD,atI,ixN,this]
end My
namespace My
open PySem L2 DV
end My
namespace My
open PySem L2 DV SM
abbrev O1:Ls DV.Slot:=[.e]
abbrev O2:Ls DV.Slot:=[.e,.e]
abbrev O3:Ls DV.Slot:=[.e,.e,.e]
abbrev O4:Ls DV.Slot:=[.e,.e,.e,.e]
def jY(a b:Nat):ZG (.int a) (.int b)=some (.v (.int ((a+b:Nat):Int))):=by simp[ZG]
def ZA{a b:Nat}(h:b<=a):va (.int (a:Int)) (.int (b:Int))=some (.v (.int ((a-b:Nat):Int))):=by
 dsimp[va,zBS];rw[Int.ofNat_sub h]
def zHN{a b c:Nat}(h:c+b=a):va (.int (a:Int)) (.int (b:Int))=some (.v (.int (c:Int))):=by
 subst h;rw[ZA (Nat.le_add_left b c),Nat.add_sub_cancel]
def mul_sm0{i j:Int}(J:0<=i)(h:i<=100000):ZY (.int i) (.int j)=some (.v (.int (i*j))):=by
 dsimp[ZY];exact if_pos (.inl (.inl ⟨by lia,by lia⟩))
def mul_sm1{i j:Int}(J:0<=j)(h:j<=100000):ZY (.int i) (.int j)=some (.v (.int (i*j))):=by
 dsimp[ZY];exact if_pos (.inl (.inr ⟨by lia,by lia⟩))
def Wz(a b:Nat)(h:a<=100000):Yv (.int a) (.int b)=some (.v (.int ((a*b:Nat):Int))):=by
 have:=Q9 (mul_sm0 (i:=(a:Int)) (j:=(b:Int)) (by lia) (by lia));rw[this,Int.natCast_mul]
def zBg(a b:Nat)(h:b<=100000):Yv (.int a) (.int b)=some (.v (.int ((a*b:Nat):Int))):=by
 have:=Q9 (mul_sm1 (i:=(a:Int)) (j:=(b:Int)) (by lia) (by lia));rw[this,Int.natCast_mul]
def zHO(a b:Nat):gtD (.int (a:Int)) (.int (b:Int))=some (.v (.bl (decide (b<a)))):=by
 show some (R.v (D.bl (decide ((b:Int)<a))))=_
 congr 3;simp
def zHP(a b:Nat):ltD (.int (a:Int)) (.int (b:Int))=some (.v (.bl (decide (a<b)))):=by
 show some (R.v (D.bl (decide ((a:Int)<b))))=_
 congr 3;simp
def QC(a b:Nat):eqG (.int (a:Int)) (.int (b:Int))=some (.v (.bl (decide (a=b)))):=by
 rw[eq_int];congr 3;simp[Int.natCast_inj]
def ne_nat(a b:Nat):neG (.int (a:Int)) (.int (b:Int))=some (.v (.bl (!decide (a=b)))):=by
 rw[ne_int];congr 4;simp[Int.natCast_inj]
def QD(l:Ls Int):jh (l.map D.int)=some l:=by
 induction l with
 |nil=>rfl|cons a l I=>dsimp[map_cons,jh,I];rfl
def intsD_N(l:Ls Nat):jh (N l)=some (l.map λ(n:Nat)=>(n:Int)):=by
 have:N l=(l.map λ(n:Nat)=>(n:Int)).map D.int:=by simp[N]
 rw[this,QD]
theorem zA5:∀l:Ls Nat,(l.map λ(n:Nat)=>(n:Int)).sum=((l.sum:Nat):Int)
 | []=>rfl|a::l=>by simp[zA5 l]
def ul(l:Ls Nat):zFZ [.l (N l)]=some (.v (.int (l.sum:Nat))):=by
 dsimp[zFZ,intsD_N,Option.map_some,zA5]
def zGF(ds:Ls D)(h:0<ds.length):vb ds none (some (-1))=ds.dropLast:=by
 unfold vb;have L:HT.sIx ds.length 0 none=0:=rfl;have h2:HT.sIx ds.length ds.length (some (-1))=ds.length-1:=by
  simp[HT.sIx];lia
 rw[L,h2];simp[List.dropLast_eq_take]
def cut_N(e:Ls Nat)(h:0<e.length):slD (.l (N e)) none (some (-1))=some (.w (N e.dropLast)):=by
 have:=zGF (N e) (by rw[jJ];exact h);dsimp[slD,this];simp[N,List.map_dropLast]
def jx(d:D)(z W:Int)(h:isFn d=false)(J:Ju z W d=true):zX [.v d,.v (.int z),.v (.int W)]=.ok (.v .non,O3):=by
 have e:=jX d z W h;rw[J]at e;exact f_nx (zS (jV (Je (t_E (yC rfl (zA rfl) (zA rfl) (zA rfl) e)) rfl) jW)) rfl
def jj(d:D)(h:isFn d=false)(J:Ju 2 3 d=true):zm [.v d]=.ok (.v .non,O1) :=
 f_nx (zS (wR (yC rfl (zA rfl) zEc zEc (jx d 2 3 h J)))) rfl
def e_times{fs:Ls FI}{E E1:zR}{p Q:Ls Str}{a O:Nat}{w:Nat}{l:Ls Nat}{s:DV.Slot}(g:w<=1000)(c:0<l.length/\l.length<=1000)(S:s=.w (N l)\/s=.v (.l (N l)))(h:E[O]?=some s)(h':E.set O (.v (.l (N l)))=E1)(J:E1[a]?=some (.v (.int (w:Nat)))) :
  dE fs (.comp 1 p Q [a] (.iL (.sl (.x O) .oN (.oS (.neg (.c (.int 1)))))) (.n 0) .tTr (.bin .mul (.x 1) (.x 0))) E=.ok (.w (N (l.dropLast.map (w*·))),E1):=by
 refine Ye (vs:=[.int (w:Nat)]) (λd=>match d with | .int e=>.int (w*e)|_=>.non) (i_L (zF6 (zHL S h h') o_N (o_S (zGC x_c)) (cut_N l c.1)) rfl) (by simp[YS,J]) (λd j=>?_) ?_ ?_
 ·obtain⟨x,_,rfl⟩:=QB j
  exact⟨_,zT (zA rfl) (zA rfl) (Wz w x (by lia)),by simp[R.d]⟩
 ·rw[jJ];simp[cap];lia
 ·dsimp[N,map_map]
  refine map_congr_left λx _=>?_
  simp
def Jn(w o n k:Nat):Nat:=if k=0 then U w o 0 n else U w o k n-U w o (k-1) n
def LD(es:Ls (Ls Nat)):Ls D:=es.map λe=>.l (N e)
def zHQ(es:Ls (Ls Nat)):(LD es).length=es.length:=by simp[LD]
def LD_mem{es:Ls (Ls Nat)}{d:D}(h:d∈LD es):∃e∈es,d=.l (N e):=by
 obtain⟨e,M,rfl⟩:=mem_map.mp h;exact⟨e,M,rfl⟩
theorem zHR{ws:Ls Nat}{k:Nat}(C:1<=k):∀(i:Nat) (e:Ls Nat),e∈al ws k i->e.length=k
 |0,e,h=>by
  dsimp[al,mem_map]at h;obtain⟨w,_,rfl⟩:=h;simp;lia
 |i+1,e,h=>by
  dsimp[al]at h;obtain⟨j,T⟩:=List.getElem?_of_mem h;rw[List.getElem?_zipWith]at T;cases R:ws[j]? with
  |none=>rw[R]at T;cases (al ws k i)[j]?<;>cases T
  |some w =>
   cases a:(al ws k i)[j]? with
   |none=>rw[R,a]at T;cases T
   |some f =>
    rw[R,a]at T;simp at T;subst T;have:=zHR C i f (mem_of_getElem? a);simp;lia
def sumL:D->D
 | .l P=>match zFZ [.l P]with
  |some (.v d)=>d|_=>.non
 |d=>d
def zDy{fs:Ls FI}{E E1:zR}{es:Ls (Ls Nat)}{s3:DV.Slot}(S:s3=.w (LD es)\/s3=.v (.l (LD es)))(a:E[3]?=some s3)(M:E.set 3 (.v (.l (LD es)))=E1)(c:es.length<=1000) :
  dE fs (.cB .sum (.cons (.comp 1 ["of_sign"] [] [] (.iL (.x 3)) (.n 0) .tTr (.cB .sum (.cons (.x 0) .nil))) .nil)) E=.ok (.v (.int ((tot es:Nat):Int)),E1):=by
 refine YK (zB (Ye (vs:=[]) (rs:=N (es.map List.sum)) sumL (i_L (zHL S a M) rfl) rfl (λd j=>?_) (by rw[zHQ];simp[cap];lia) ?_) zK) (ul (es.map List.sum))
 ·obtain⟨e,_,rfl⟩:=LD_mem j
  have q:=ul e;refine⟨_,YK (zB (zA rfl) zK) q,?_⟩;simp[R.d,sumL,q]
 ·dsimp[LD,N,map_map]
  apply map_congr_left;intro e _;have q:=ul e;dsimp[N]at q;dsimp[Function.comp,sumL,q]
def pat2:D->Ls DV.Slot
 | .t [a,b]=>[.v a,.v b]|_=>[.e,.e]
def zA6(l:Ls D):Ls Nat:=l.map λd=>match d with | .int i=>i.toNat|_=>0
def zHS(l:Ls Nat):zA6 (N l)=l:=by
 dsimp[zA6,N,map_map]
 conv=>rhs;rw[<- List.map_id l]
 apply map_congr_left;intro n _;simp
def zA7(T:Nat):D->D
 | .t [.int w,.l l]=>.l (N ((w.toNat*(T-(zA6 l).sum))::(zA6 l).dropLast.map (w.toNat*·)))|d=>d
theorem Z6:∀{k:Ls Nat} {E:Ls (Ls Nat)} {d:D},d∈zipWith vD (N k) (LD E)->∃w e,w∈k/\e∈E/\d=.t [.int (w:Nat),.l (N e)]
 | [],E,d,h=>by simp[N]at h|w::k,[],d,h=>by simp[N,LD]at h
 |w::k,e::E,d,h=>by
  have q:zipWith vD (N (w::k)) (LD (e::E))=.t [.int (w:Nat),.l (N e)]::zipWith vD (N k) (LD E):=rfl;rw[q]at h;rcases mem_cons.mp h with h|h
  ·exact⟨w,e,qE,qE,h⟩
  ·obtain⟨M,y,L,h2,a⟩:=Z6 h
   exact⟨M,y,qD _ L,qD _ h2,a⟩
theorem zDz(T:Nat):∀(k:Ls Nat) (E:Ls (Ls Nat)),(zipWith vD (N k) (LD E)).map (zA7 T)=LD (zipWith (λw e=>(w*(T-List.sum e))::e.dropLast.map (w*·)) k E)
 | [],E=>by simp[N,LD]|w::k,[]=>by simp[N,LD]
 |w::k,e::E=>by
  have q:zipWith vD (N (w::k)) (LD (e::E))=.t [.int (w:Nat),.l (N e)]::zipWith vD (N k) (LD E):=rfl;rw[q,map_cons,zDz T k E];dsimp[zA7,zHS,Int.toNat_natCast,List.zipWith_cons_cons,LD,map_cons]
def i_A{fs:Ls FI}{E E1:zR}{a:_}{r:R}{ds:Ls D}(L:dE fs a E=.ok (r,E1))(Y:r.d=.l ds\/r.d=.t ds):dI fs (.iA a) E=.ok (ds,E1):=by
 rcases Y with Y|Y<;>dsimp[rI_iA,iA,L,Y]
def i_ZA{fs:Ls FI}{E E1:zR}{t2:Bool}{as:Ax}{r1 r2:R}{ds es:Ls D}(L:dA fs as E=.ok ([r1,r2],E1))(Y:r1.d=.l ds\/r1.d=.t ds)(M:zBq t2 r2.d=some es):dI fs (.iZA t2 as) E=.ok (zipWith vD ds es,E1):=by
 rcases Y with Y|Y
 ·have e:zBq false (D.l ds)=some ds:=rfl
  dsimp[zG5,iZA,L,Y,iZ,e,M]
 ·have e:zBq true (D.t ds)=some ds:=rfl
  dsimp[zG5,iZA,L,Y,iZ,e,M]
def InA(W:D)(ws:Ls Nat)(n k i:Nat)(E:zR):Prop:=∃t V Q,E=[.v W,.v (.int n),.v (.int k),t,V,Q]/\(t=.w (LD (al ws k i))\/t=.v (.l (LD (al ws k i))))/\zy V=true/\zy Q=true
abbrev qI(n:Nat):DV.Slot:=.v (.int n)
def step_a{ws:Ls Nat}{W:D}(a:W=.l (N ws)\/W=.t (N ws))(H:∀w∈ws,w<=9)(c:ws.length<=3){n k:Nat}(C:1<=k/\k<=41)(i:Nat)(E:zR)(X:InA W ws n k i E):∃E1 E2,gN 4 (.int (i:Int)) E=.ok E1/\dB zi yh E1=.ok (.nx,E2)/\InA W ws n k (i+1) E2:=by
 obtain⟨t,V,Q,X,L,h4,h5⟩:=X;have h:=zHR (ws:=ws) C.1 i;have o:=zDm ws k i;have ht:∀f∈al ws k i,f.sum<=tot (al ws k i):=λf hf=>by
  obtain⟨j,K⟩:=List.getElem?_of_mem hf;exact vq (l:=(al ws k i).map List.sum) (s:=j) (by simp[K])
 have g:al ws k (i+1)=zipWith (λw e=>(w*(tot (al ws k i)-List.sum e))::e.dropLast.map (w*·)) ws (al ws k i):=rfl;generalize hT:tot (al ws k i)=T at ht g;refine⟨[.v W,.v (.int n),.v (.int k),t,.v (.int (i:Int)),Q],[.v W,.v (.int n),.v (.int k),.w (LD (al ws k (i+1))),.v (.int (i:Int)),qI T],?_,?_,_,_,_,rfl,.inl rfl,rfl,rfl⟩
 ·subst X;cases V<;>first|rfl|(cases h4)
 ·have J:dE zi (.cB .sum (.cons (.comp 1 ["of_sign"] [] [] (.iL (.x 3)) (.n 0) .tTr (.cB .sum (.cons (.x 0) .nil))) .nil)) [.v W,.v (.int n),.v (.int k),t,.v (.int (i:Int)),Q]=.ok (.v (.int (T:Nat)),[.v W,.v (.int n),.v (.int k),.v (.l (LD (al ws k i))),.v (.int (i:Int)),Q]):=by
   rw[<- hT];exact zDy L rfl rfl (by lia)
  refine zN (yP J (yt rfl h5 rfl)) (zS (yP (zDl (vs:=[.int (T:Nat)]) (rs:=LD (al ws k (i+1))) pat2 (λ_=>true) (zA7 T) (i_ZA (zB (zA rfl) (zB (zA rfl) zK)) a rfl) rfl (λd x S G z=>?_) (λd x=>?_) (λd x=>?_) (λd x _=>?_) ?_ ?_) (yt rfl rfl rfl)))
  ·obtain⟨w,e,_,_,rfl⟩:=Z6 x
   exact zHF G z
  ·obtain⟨w,e,_,_,rfl⟩:=Z6 x
   refine⟨rfl,λs y=>?_⟩;dsimp[pat2,mem_cons,mem_nil_iff,or_false]at y;rcases y with rfl|rfl<;>rfl
  ·dsimp[vF,zAq,wC]
  ·obtain⟨w,e,p,M,rfl⟩:=Z6 x
   have q:=H w p;have u:=h e M;have v:va (.int (T:Int)) (.int ((e.sum:Nat):Int))=some (.v (.int ((T-e.sum:Nat):Int))):=ZA (ht e M);have I:=Wz w (T-e.sum) (by lia);have r:=ZQ [.int ((w*(T-e.sum):Nat):Int)] (N (e.dropLast.map (w*·))) (by simp[jJ];lia);refine⟨_,zT (jw (zB (zT (zA rfl) (zT (zA rfl) (YK (zB (zA rfl) zK) (ul e)) v) I) zK) rfl zn) (e_times (by lia) (by lia) (.inr rfl) rfl rfl rfl) r,?_⟩;dsimp[R.d,zA7,zHS,Int.toNat_natCast];rfl
  ·simp[jJ,zHQ,cap];lia
  ·rw[filter_eq_self.mpr (λ_ _=>rfl),zDz,g]
def um{ws:Ls Nat}{W:D}(a:W=.l (N ws)\/W=.t (N ws))(R:∀w∈ws,w<=9)(g:ws.length<=3){n k:Nat}(o:n<=41)(C:k<=41):yT [.v W,.v (.int n),.v (.int k)]=.ok (.v (.int ((A ws n k:Nat):Int)),O3):=by
 unfold A;by_cases c:n=0
 ·have q:eqG (.int (n:Int)) (.int 0)=some (.v (.bl true)):=by rw[eq_int,decide_eq_true (by lia)]
  rw[if_pos c];exact yj (vL (JJ (t_E (zj (zA rfl) x_c q)) (zS (yk x_c)))) rfl
 ·have q:eqG (.int (n:Int)) (.int 0)=some (.v (.bl false)):=by rw[eq_int,decide_eq_false (by lia)]
  rw[if_neg c];by_cases d:k=0
  ·have S:eqG (.int (k:Int)) (.int 0)=some (.v (.bl true)):=by rw[eq_int,decide_eq_true (by lia)]
   rw[if_pos d];exact yj (zN (jV (t_E (zj (zA rfl) x_c q)) jW) (vL (JJ (t_E (zj (zA rfl) x_c S)) (zS (yk x_c))))) rfl
  ·have S:eqG (.int (k:Int)) (.int 0)=some (.v (.bl false)):=by rw[eq_int,decide_eq_false (by lia)]
   rw[if_neg d];have e:va (.int (k:Int)) (.int 1)=some (.v (.int ((k-1:Nat):Int))):=ZA (b:=1) (by lia);have Y:va (.int (n:Int)) (.int 1)=some (.v (.int ((n-1:Nat):Int))):=ZA (b:=1) (by lia);have I:=Jt (.int 0) (k-1) (by lia);have Z:dE zi (.comp 1 ["weight"] ["k"] [2] (.iA (.x 0)) (.n 0) .tTr (.bin .add (.l (.cons (.x 0) .nil)) (.bin .mul (.l (.cons (.c (.int 0)) .nil)) (.bin .sub (.x 1) (.c (.int 1)))))) [.v W,.v (.int n),.v (.int k),.e,.e,.e]=.ok (.w (LD (al ws k 0)),[.v W,.v (.int n),.v (.int k),.e,.e,.e]):=by
    refine Ye (vs:=[.int k]) (λd=>.l (d::replicate (k-1) (.int 0))) (i_A (zA rfl) a) rfl (λd h=>?_) (by rw[jJ];simp[cap];lia) ?_
    ·have r:=ZQ [d] (replicate (k-1) (.int 0)) (by simp;lia)
     exact⟨_,zT (jw (zB (zA rfl) zK) rfl zn) (zT (r1:=.w [.int 0]) (r2:=.v (.int ((k-1:Nat):Int))) (jw (zB x_c zK) rfl zn) (zT (zA rfl) x_c e) I) r,rfl⟩
    ·dsimp[N,LD,al,map_map]
     refine map_congr_left λx _=>?_
     simp
   obtain⟨E1,l,t,V,Q,X,M,h4,h5⟩:=yG (tg:=gN 4) (body:=dB zi yh) (λi E=>InA W ws n k i E) (DV.zE 0 (n-1)) 0 [.v W,.v (.int n),.v (.int k),.w (LD (al ws k 0)),.e,.e] ⟨_,_,_,rfl,.inl rfl,rfl,rfl⟩ (λi d q E T=>by
    obtain⟨p,rfl⟩:=jb _ _ _ _ q;rw[zero_add]at T ⊢;rw[Int.zero_add];exact step_a a R g ⟨by lia,C⟩ i E T)
   rw[jF,zero_add]at M;subst X;have K:dE zi (.cB .sum (.cons (.comp 1 ["of_sign"] [] [] (.iL (.x 3)) (.n 0) .tTr (.cB .sum (.cons (.x 0) .nil))) .nil)) [.v W,.v (.int n),.v (.int k),t,V,Q]=.ok (.v (.int ((tot (al ws k (n-1)):Nat):Int)),[.v W,.v (.int n),.v (.int k),.v (.l (LD (al ws k (n-1)))),V,Q]):=zDy M rfl rfl (by rw[zDm];lia);exact yj (zN (jV (t_E (zj (zA rfl) x_c q)) jW) (zN (jV (t_E (zj (zA rfl) x_c S)) jW) (zN (yP Z rfl) (zN (JD (j:=((n-1:Nat):Int)) (zB (zT (zA rfl) x_c Y) zK) rfl ⟨by lia,by lia⟩ (by rw[Int.toNat_natCast];exact l)) (zS (yk K)))))) rfl
end My
namespace SM
theorem zD0(m k:Nat)(K:1<=m)(C:1<=k):∀i,al (replicate m 1) k i=replicate m (ends 1 (m-1) (k-1) i)
 |0=>by
  dsimp[al,ends];rw[List.map_replicate]
 |i+1=>by
  have I:=zD0 m k K C i;have ht:tot (al (replicate m 1) k i)=m*(ends 1 (m-1) (k-1) i).sum:=by
   rw[I];simp[tot]
  show zipWith (λw e=>(w*(tot (al (replicate m 1) k i)-List.sum e))::e.dropLast.map (w*·)) (replicate m 1) (al (replicate m 1) k i)=_
  rw[ht,I,List.zipWith_replicate];congr 1
  ·simp
  ·dsimp[ends,Nat.one_mul]
   congr 1
   rw[Nat.sub_mul];simp
def A_ones(m n k:Nat)(K:1<=m):A (replicate m 1) n k=if n=0 then 1 else if k=0 then 0 else m*U 1 (m-1) (k-1) (n-1):=by
 unfold A;by_cases c:n=0
 ·rw[if_pos c,if_pos c]
 ·rw[if_neg c,if_neg c]
  by_cases d:k=0
  ·rw[if_pos d,if_pos d]
  ·rw[if_neg d,if_neg d,zD0 m k K (by lia)]
   simp[tot,U]
end SM
namespace My
open PySem L2 DV SM
structure Ok(m n k:Nat):Prop where
 hm:2<=m/\m<=3
 hn:n<=40
 hk:k<=40
def in_nat{n z W:Nat}(L:z<=n)(h:n<=W):Ju (z:Int) (W:Int) (.int n)=true:=by
 simp[Ju];lia
abbrev nm:D:=.t [.str "number"]
def TL(ls:Ls (Ls Nat)):Ls D:=ls.map λl=>.t (N l)
def W0(ls:Ls (Ls Nat)):(TL ls).length=ls.length:=by simp[TL]
def more(m:Nat)(r:Ls Nat):Ls (Ls Nat):=(List.range m).map λx=>r++[x]
theorem uo(m:Nat):∀l:Ls (Ls Nat),(l.flatMap (more m)).length=l.length*m
 | []=>by simp|a::l=>by rw[flatMap_cons,length_append,uo m l];simp[more,Nat.add_mul,Nat.add_comm]
theorem uq(m:Nat):∀n,(wA m n).length=m^n
 |0=>rfl
 |n+1=>by
  show((wA m n).flatMap (more m)).length=_
  rw[uo,uq m n,pow_succ]
theorem wW(m:Nat):∀n (r:Ls Nat),r∈wA m n->r.length=n
 |0,r,h=>by simp[wA]at h;subst h;rfl
 |n+1,r,h=>by
  obtain⟨a,P,p⟩:=List.mem_flatMap.mp h;obtain⟨x,_,rfl⟩:=mem_map.mp p;have:=wW m n a P;simp[this]
theorem zAD(m:Nat):∀n (r:Ls Nat),r∈wA m n->∀x∈r,x<m
 |0,r,h=>by simp[wA]at h;subst h;simp
 |n+1,r,h=>by
  obtain⟨a,P,p⟩:=List.mem_flatMap.mp h;obtain⟨x,V,rfl⟩:=mem_map.mp p;have:=zAD m n a P;intro y O;rcases mem_append.mp O with O|O
  ·exact this y O
  ·simp at O V;lia
def TL_app(a b:Ls (Ls Nat)):TL (a++b)=TL a++TL b:=by simp[TL]
section
variable{fs:Ls FI}{E E1 E2 E3 E4:zR}
def zDx{t b:_}{p:Fl×zR}(h:DV.whN (dT fs t) (dB fs b) 1000000 E=.ok p):dS fs (.sWhile t b) E=.ok p:=by
 dsimp[Gu];exact Wf (by dsimp[DV.sWhile];exact h)
def s_aug{i:Nat}{o:Op2}{a:_}{x y z:Int}(h:E[i]?=some (.v (.int x)))(L:dE fs a E=.ok (.v (.int y),E))(P:o.aug x y=some z)(Y:E.set i (.v (.int z))=E1):dS fs (.sAug i o a) E=.ok (.nx,E1):=by
 subst Y;dsimp[rS_sAug,DV.sAug,h,L,R.d,P,if_true]
end
def lt_big{n:Nat}(h:n<2^800):n<Big:=lt_trans h (by left)
def zD1(a b:Nat)(h:b≠0):zEZ (.int a) (.int b)=some (.v (.int ((a%b:Nat):Int))):=by
 have:(0:Int)<b:=by lia
 dsimp[zEZ,zCX];rw[if_pos (decide_eq_true this)];rfl
theorem zD2:∀{l:Ls Nat} {x:Nat},x∈l->x<=l.sum
 |a::l,x,h=>by
  rw[sum_cons];rcases mem_cons.mp h with rfl|h
  ·lia
  ·have:=zD2 h;lia
structure DS(die:List Nat)(s:Nat):Prop where
 ok:Die die
 lt:s<die.length
namespace DS
variable{die:Ls Nat}{s:Nat}
def get(h:DS die s):die[s]?=some (die.getD s 0):=by
 rw[getD_eq_getElem?_getD,getElem?_eq_getElem h.lt];rfl
def le(h:DS die s):die.getD s 0<=die.sum:=zD2 (mem_of_getElem? h.get)
end DS
def tabN(w o n:Nat):Ls Nat:=(List.range (n+1)).map (Jn w o n)
section
variable{die:Ls Nat}{s:Nat}
abbrev wD(a:Ls Nat)(s:Nat):Nat:=a.getD s 0
abbrev oD(a:Ls Nat)(s:Nat):Nat:=a.sum-a.getD s 0
def tab(a:Ls Nat)(s n:Nat):Ls D:=(tabN (wD a s) (oD a s) n).map λj:Nat=>nrm (j:Int) (a.sum^n)
def i_E{fs:Ls FI}{E E1:zR}{t:Bool}{as:_}{r:R}{ds:Ls D}(L:dA fs as E=.ok ([r],E1))(Y:zBq t r.d=some ds):dI fs (.iE t as) E=.ok (zBY 0 ds,E1):=by
 dsimp[rI_iE,iE,L,Y]
end
end My
namespace My
open PySem L2 DV RM
def zBh:D->Bool
 | .t P=>decide (P.length<=20)&&P.all (Ju 0 2)|_=>false
theorem Jg(f:D->Bool):∀P:Ls D,jC (P.map λd=>D.bl (f d))=some (P.map f)
 | []=>rfl|d::P=>by dsimp[map_cons,jC,Jg f P];rfl
theorem all_map(f:D->Bool)(ds:Ls D):(ds.map f).all id=ds.all f:=by simp[List.all_map]
def zAE(d:D)(h:isFn d=false):YV [.v d]=.ok (.v (.bl (Ju 0 2 d)),[.e]) :=
 yj (zS (yk (yC rfl (zA rfl) x_c (zT zEc x_c rfl) (jX d 0 2 h)))) rfl
def zA4{f:D->Bool}{ds:Ls D}{b:Bool}(h:ds.all f=b):allD [.l (ds.map λd=>D.bl (f d))]=some (.v (.bl b)):=by
 subst h;simp[allD,Jg,all_map]
def vv(d:D)(h:okD d):wb [.v d]=.ok (.v (.bl (zBh d)),[.e]):=by
 cases d with
 |t P =>
  have H:dT j7 (.tNot (.tE (.is .tuple (.x 0)))) [.v (.t P)]=.ok (false,[.v (.t P)]):=Je (t_E (b:=true) rfl) rfl;have W:dE j7 (.cB .len (.cons (.x 0) .nil)) [.v (.t P)]=.ok (.v (.int P.length),[.v (.t P)]):=YK (zB (zA rfl) zK) rfl;by_cases ht:P.length<=20
  ·have v:dT j7 (.tE (.cmp .gt (.cB .len (.cons (.x 0) .nil)) (.gl (.int 20)))) [.v (.t P)]=.ok (false,[.v (.t P)]) :=
    t_E (zj W zEc (by simp[Cp.f,gtD,zBS,R.d];lia))
   have e:zBh (.t P)=P.all (Ju 0 2):=by simp[zBh];lia
   rw[e];exact yj (zN (jV (G8 H v) jW) (zS (yk (YK (zB (Ye (vs:=[]) (λd=>.bl (Ju 0 2 d)) (i_T (zA rfl) rfl) rfl (λd j=>⟨_,zr rfl (zA rfl) (zAE d (h.2 d j)),rfl⟩) h.1 rfl) zK) (zA4 rfl))))) rfl
  ·have v:dT j7 (.tE (.cmp .gt (.cB .len (.cons (.x 0) .nil)) (.gl (.int 20)))) [.v (.t P)]=.ok (true,[.v (.t P)]) :=
    t_E (zj W zEc (by simp[Cp.f,gtD,zBS,R.d];lia))
   have e:zBh (.t P)=false:=by simp[zBh];lia
   rw[e];exact yj (vL (JJ (G8 H v) (zS (yk x_c)))) rfl
 |fn x=>cases h|exn x y=>cases h|m x y=>cases h|_=>rfl
def Row(rs:Ls Int):Prop:=rs.length<=20/\∀r∈rs,0<=r/\r<=2
abbrev YL(rs:Ls Int):D:=.t (rs.map D.int)
def row_ok{rs:Ls Int}(h:Row rs):okD (YL rs):=⟨by simp[cap];have:=h.1;lia,λd j=>by
 obtain⟨r,_,rfl⟩:=mem_map.mp j;rfl⟩
def row_B{rs:Ls Int}(h:Row rs):zBh (YL rs)=true:=by
 dsimp[zBh,Bool.and_eq_true,decide_eq_true_eq,length_map,all_eq_true];refine⟨h.1,λd j=>?_⟩;obtain⟨r,p,rfl⟩:=mem_map.mp j;have:=h.2 r p;simp[Ju,this]
def zBi{rs:Ls Int}(h:Row rs):ZN [.v (YL rs)]=.ok (.v .non,[.e]):=by
 have e:=vv (YL rs) (row_ok h);rw[row_B h]at e;exact f_nx (zS (jV (Je (t_E (zr rfl (zA rfl) e)) rfl) jW)) rfl
def jZ:Nat->Ls B->Ls D
 |_,[]=>[]|b,(s,n)::r=>.t [.int s,.int b,.int n]::jZ (b+n) r
theorem W1:∀(q:Ls B) (b:Nat) (a:Int) (m:Nat),jZ b (q++[(a,m)])=jZ b q++[.t [.int a,.int (b+tot q:Nat),.int m]]
 | [],b,a,m=>by simp[jZ,tot]
 | (s,n)::q,b,a,m=>by
  dsimp[cons_append,jZ,W1 q (b+n) a m];have:b+n+tot q=b+tot ((s,n)::q):=by simp[tot];lia
  rw[this]
theorem Zl:∀(q:Ls B) (b:Nat),(jZ b q).length=q.length
 | [],_=>rfl| (s,n)::q,b=>by simp[jZ,Zl q]
def zD3{rs:Ls Int}{k:Nat}(h:k<rs.length):atI (rs.map D.int) (k:Int)=some (.int rs[k]):=by
 have:(k:Int)<rs.length:=by lia
 simp[atI,ixN,this,h]
def tot_rle(p:Ls Int):tot (rle p)=p.length:=by rw[vt,ZP]
def zD4(p:Ls Int):(rle p).length<=p.length:=by
 induction p with
 |nil=>exact le_refl _
 |cons a p I =>
  show(y8 a (rle p)).length<=_
  cases h:rle p with
  |nil=>simp[y8]
  |cons x r =>
   rw[h]at I;obtain⟨b,n⟩:=x;dsimp[y8];split<;>simp at I ⊢<;>lia
def Z7:Bx:=(.o (.sIf (.tOr (.tE (.cmp .eq (.x 3) (.cB .len (.cons (.x 0) .nil)))) (.tE (.cmp .ne (.ix (.x 0) (.x 3)) (.ix (.x 0) (.x 2))))) (.s (.sApp 1 (.t (.cons (.ix (.x 0) (.x 2)) (.cons (.x 2) (.cons (.bin .sub (.x 3) (.x 2)) .nil)))))
  (.o (.sSet 2 (.x 3)))) .bNil))
def RunI(rs:Ls Int)(k:Nat)(E:zR):Prop:=∃(p:Ls Int) (t:DV.Slot),E=[.v (YL rs),.w (jZ 0 (rle p)),.v (.int p.length),t]/\zy t=true/\p.length<=20 /\
 ((k<rs.length/\∃a c,rs.take (k+1)=p++replicate (c+1) a/\∀z,p.getLast?=some z->z≠a)\/(k=rs.length/\p=rs))
def zD5{rs:Ls Int}(h:Row rs)(k:Nat)(C:k<rs.length)(E:zR)(T:RunI rs k E):∃E1 E2,gN 3 (.int (1+(k:Int))) E=.ok E1/\dB zh Z7 E1=.ok (.nx,E2)/\RunI rs (k+1) E2:=by
 obtain⟨p,t,X,M,G,Z⟩:=T;obtain⟨a,c,ht,hl⟩:∃a c,rs.take (k+1)=p++replicate (c+1) a/\∀z,p.getLast?=some z->z≠a:=by
  rcases Z with⟨_,q⟩|⟨z,_⟩
  ·exact q
  ·lia
 have i:p.length+(c+1)=k+1:=by
  have:=congrArg length ht;simp at this;lia
 have o:p.length<rs.length:=by lia
 have w:rs[p.length]=a:=by
  have L:(rs.take (k+1))[p.length]?=some a:=by
   rw[ht,getElem?_append_right (le_refl _)];simp
  rw[List.getElem?_take_of_lt (by lia),getElem?_eq_getElem o]at L;exact qJ L
 have S:=zD3 o;rw[w]at S;have u:=h.1;have Q:(jZ 0 (rle p)).length<1000000:=by
  rw[Zl];have:=zD4 p;lia
 have sub:(1+(k:Int))-(p.length:Int)=((c+1:Nat):Int):=by lia
 have app:jZ 0 (rle p)++[.t [.int a,.int (p.length:Int),.int ((c+1:Nat):Int)]]=jZ 0 (rle (rs.take (k+1))):=by
  rw[ht,Wx a c p hl,W1,tot_rle,zero_add]
 have H:gN 3 (.int (1+(k:Int))) E=.ok [.v (YL rs),.w (jZ 0 (rle p)),.v (.int p.length),.v (.int (1+(k:Int)))]:=by
  subst X;cases t<;>first|rfl|(cases M)
 have ix:ixD (YL rs) (.int (p.length:Int))=some (.v (.int a)):=by rw[zDw,S];rfl
 have v:va (.int (1+(k:Int))) (.int (p.length:Int))=some (.v (.int ((c+1:Nat):Int))):=by rw[<- sub];rfl
 have l:zCb [YL rs]=some (.v (.int rs.length)):=by dsimp[zCb,length_map]
 have r:dB zh (.s (.sApp 1 (.t (.cons (.ix (.x 0) (.x 2)) (.cons (.x 2) (.cons (.bin .sub (.x 3) (.x 2)) .nil))))) (.o (.sSet 2 (.x 3)))) [.v (YL rs),.w (jZ 0 (rle p)),.v (.int p.length),.v (.int (1+(k:Int)))]=.ok (.nx,[.v (YL rs),.w (jZ 0 (rle p)++[.t [.int a,.int (p.length:Int),.int ((c+1:Nat):Int)]]),.v (.int (1+(k:Int))),.v (.int (1+(k:Int)))]) :=
  zN (s_app rfl (Jd (zB (zDh (zA rfl) (zA rfl) ix) (zB (zA rfl) (zB (zT (zA rfl) (zA rfl) v) zK))) rfl (by simp[cap])) rfl Q rfl) (zS (yP (zA rfl) rfl))
 by_cases e:k+1=rs.length
 ·have n:(1+(k:Int))=(rs.length:Int):=by lia
  refine⟨_,[.v (YL rs),.w (jZ 0 (rle (rs.take (k+1)))),.v (.int ((rs.take (k+1)).length:Nat)),.v (.int (1+(k:Int)))],H,?_,rs.take (k+1),_,rfl,rfl,by simp;lia,.inr ⟨e,by rw[e,take_length]⟩⟩;rw[<- app];have O:((rs.take (k+1)).length:Int)=1+(k:Int):=by simp;lia
  rw[O];exact zS (JJ (zDi (t_E (zj (zA rfl) (YK (zB (zA rfl) zK) l) (by
   show eqG (.int (1+(k:Int))) (.int (rs.length:Int))=_
   rw[eq_int,decide_eq_true n])))) r)
 ·have n:¬(1+(k:Int))=(rs.length:Int):=by lia
  have g:k+1<rs.length:=by lia
  have en:=zD3 g;have x:atI (rs.map D.int) (1+(k:Int))=some (.int rs[k+1]):=by
   rw[show(1+(k:Int))=((k+1:Nat):Int)by lia];exact en
  have P:ixD (YL rs) (.int (1+(k:Int)))=some (.v (.int rs[k+1])):=by rw[zDw,x];rfl
  have eqF:eqG (.int (1+(k:Int))) (.int (rs.length:Int))=some (.v (.bl false)):=by rw[eq_int,decide_eq_false n]
  have y:rs.take (k+1+1)=rs.take (k+1)++[rs[k+1]]:=List.take_succ_eq_append_getElem g;by_cases j:rs[k+1]=a
  ·refine⟨_,[.v (YL rs),.w (jZ 0 (rle p)),.v (.int p.length),.v (.int (1+(k:Int)))],H,?_,p,_,rfl,rfl,G,.inl ⟨g,a,c+1,?_,hl⟩⟩
   ·exact zS (jV (G8 (t_E (zj (zA rfl) (YK (zB (zA rfl) zK) l) eqF)) (t_E (zj (zDh (zA rfl) (zA rfl) P) (zDh (zA rfl) (zA rfl) ix) (by
     show neG (.int rs[k+1]) (.int a)=_
     rw[ne_int,decide_eq_true j];rfl)))) jW)
   ·rw[y,ht,j,append_assoc,<- List.replicate_succ']
  ·refine⟨_,[.v (YL rs),.w (jZ 0 (rle (rs.take (k+1)))),.v (.int ((rs.take (k+1)).length:Nat)),.v (.int (1+(k:Int)))],H,?_,rs.take (k+1),_,rfl,rfl,by simp;lia,.inl ⟨g,rs[k+1],0,by rw[y];rfl,λz hz=>?_⟩⟩
   ·rw[<- app]
    have O:((rs.take (k+1)).length:Int)=1+(k:Int):=by simp;lia
    rw[O];exact zS (JJ (G8 (t_E (zj (zA rfl) (YK (zB (zA rfl) zK) l) eqF)) (t_E (zj (zDh (zA rfl) (zA rfl) P) (zDh (zA rfl) (zA rfl) ix) (by
     show neG (.int rs[k+1]) (.int a)=_
     rw[ne_int,decide_eq_false j];rfl)))) r)
   ·rw[ht,List.replicate_succ',<- append_assoc]at hz
    simp at hz
    rw[<- hz];exact λq=>j q.symm
def zD6{rs:Ls Int}(h:Row rs):∃t,zy t=true/\DV.ZD (gN 3) (dB zh Z7) (DV.zE 1 rs.length) [.v (YL rs),.w [],.v (.int 0),.e]=.ok (.nx,[.v (YL rs),.w (jZ 0 (rle rs)),.v (.int rs.length),t]):=by
 have u:=h.1;have j0:RunI rs 0 [.v (YL rs),.w [],.v (.int 0),.e]:=by
  refine⟨[],.e,rfl,rfl,by simp,?_⟩;by_cases hz:0<rs.length
  ·refine .inl ⟨hz,rs[0],0,?_,λz hz=>by cases hz⟩
   rw[List.take_succ_eq_append_getElem hz];simp
  ·exact .inr ⟨by lia,(List.eq_nil_of_length_eq_zero (by lia)).symm⟩
 obtain⟨E',R,p,t,X,M,_,Z⟩:=yG (tg:=gN 3) (body:=dB zh Z7) (RunI rs) (DV.zE 1 rs.length) 0 _ j0
  (λi d e E T=>by
   obtain⟨W,rfl⟩:=jb _ _ _ _ e;rw[zero_add]at T ⊢;exact zD5 h i W E T)
 rw[jF,zero_add]at Z;have G:p=rs:=by
  rcases Z with⟨z,_⟩|⟨_,q⟩
  ·lia
  ·exact q
 subst G;exact⟨t,M,by rw[R,X]⟩
def zA8{fs:Ls FI}{a b:_}{E E1:zR}(h:dS fs a E=.ok (.nx,E1)):dB fs (.s a b) E=dB fs b E1:=by
 dsimp[jP,vC,h]
def one_ok{fs:Ls FI}{a:_}{E:zR}:dB fs (.o a) E=dS fs a E:=by dsimp[jE]
def fn_ret{n:Nat}{b:MS}{c:Ls DV.Slot}{r:R}{E':zR}(h:b (c++replicate (n-c.length) .e)=.ok (.ret r,E')):fnM n b c=.ok (r,zu c E'):=by
 dsimp[fnM,h]
def zD7{rs:Ls Int}(h:Row rs):ji [.v (YL rs)]=.ok (.w (jZ 0 (rle rs)),[.e]):=by
 have Z:=zBi h;have u:=h.1;obtain⟨t,M,a⟩:=zD6 h;have p:dS zh (.sDrop (.call 0 (.ev (.x 0) .nil))) [.v (YL rs),.e,.e,.e]=.ok (.nx,[.v (YL rs),.e,.e,.e]):=by
  simp[zh,fnM,JU,jE,jP,Y1,wU,jD,Jp,Wh,JT,zDU,wJ,zAm,YB,Y0,Gs,YC,zBc,Qu,yZ,wv,ym,Wg,vF,JS,YT,sRet,sIf,vC,QN,sSet,Yi,R.slot,uH,eOr,QI,yl,zd,vZ,eC,zH,fiF,fiX,R.d,zF,y4,Cp.b,Cp.f,Op2.f,Bi.f,Ty.s,jR,jQ,jm,jn,jo,uG,wn,JH,tT,Jk,eCB,JI,QJ,QK,QL,ZL,W6,Tg.m,eqG,eqF,neG,neF,zBp,QM,Yv,ZY,sDrop,Z]
 have z:dS zh (.sSet 1 (.l .nil)) [.v (YL rs),.e,.e,.e]=.ok (.nx,[.v (YL rs),.w [],.e,.e]):=by
  simp[zh,fnM,JU,jE,jP,Y1,wU,jD,Jp,Wh,JT,zDU,wJ,zAm,YB,Y0,Gs,YC,zBc,Qu,yZ,wv,ym,Wg,vF,JS,YT,sRet,sIf,vC,QN,sSet,Yi,R.slot,uH,eOr,QI,yl,zd,vZ,eC,zH,fiF,fiX,R.d,zF,y4,Cp.b,Cp.f,Op2.f,Bi.f,Ty.s,jR,jQ,jm,jn,jo,uG,wn,JH,tT,Jk,eCB,JI,QJ,QK,QL,ZL,W6,Tg.m,eqG,eqF,neG,neF,zBp,QM,Yv,ZY,cap]
 have W:dS zh (.sSet 2 (.c (.int 0))) [.v (YL rs),.w [],.e,.e]=.ok (.nx,[.v (YL rs),.w [],.v (.int 0),.e]):=by
  simp[zh,fnM,JU,jE,jP,Y1,wU,jD,Jp,Wh,JT,zDU,wJ,zAm,YB,Y0,Gs,YC,zBc,Qu,yZ,wv,ym,Wg,vF,JS,YT,sRet,sIf,vC,QN,sSet,Yi,R.slot,uH,eOr,QI,yl,zd,vZ,eC,zH,fiF,fiX,R.d,zF,y4,Cp.b,Cp.f,Op2.f,Bi.f,Ty.s,jR,jQ,jm,jn,jo,uG,wn,JH,tT,Jk,eCB,JI,QJ,QK,QL,ZL,W6,Tg.m,eqG,eqF,neG,neF,zBp,QM,Yv,ZY]
 have i:dS zh (.sForR2 (.cons (.c (.int 1)) (.cons (.bin .add (.cB .len (.cons (.x 0) .nil)) (.c (.int 1))) .nil)) (.n 3) Z7) [.v (YL rs),.w [],.v (.int 0),.e]=.ok (.nx,[.v (YL rs),.w (jZ 0 (rle rs)),.v (.int rs.length),t]):=by
  have e:ZG (.int ((rs.map D.int).length:Nat)) (.int 1)=some (.v (.int ((rs.length:Int)+1))):=by rw[length_map];rfl
  refine s_forR2 (zB x_c (zB (zT (YK (zB (zA rfl) zK) rfl) x_c e) zK)) rfl rfl (by lia) (by lia) ?_;rw[show((rs.length:Int)+1-1).toNat=rs.length by lia];exact a
 have k:dS zh (.sRet (.mov 1)) [.v (YL rs),.w (jZ 0 (rle rs)),.v (.int rs.length),t]=.ok (.ret (.w (jZ 0 (rle rs))),[.v (YL rs),.e,.v (.int rs.length),t]):=by
  simp[zh,fnM,JU,jE,jP,Y1,wU,jD,Jp,Wh,JT,zDU,wJ,zAm,YB,Y0,Gs,YC,zBc,Qu,yZ,wv,ym,Wg,vF,JS,YT,sRet,sIf,vC,QN,sSet,Yi,R.slot,uH,eOr,QI,yl,zd,vZ,eC,zH,fiF,fiX,R.d,zF,y4,Cp.b,Cp.f,Op2.f,Bi.f,Ty.s,jR,jQ,jm,jn,jo,uG,wn,JH,tT,Jk,eCB,JI,QJ,QK,QL,ZL,W6,Tg.m,eqG,eqF,neG,neF,zBp,QM,Yv,ZY,zCf]
 unfold ji;refine(fn_ret (r:=.w (jZ 0 (rle rs))) (E':=[.v (YL rs),.e,.v (.int rs.length),t]) ?_).trans rfl;show dB zh (.s _ (.s _ (.s _ (.s _ (.o _))))) [.v (YL rs),.e,.e,.e]=_;exact(zA8 p).trans ((zA8 z).trans ((zA8 W).trans ((zA8 i).trans (one_ok.trans k))))
abbrev T3:=Int×Nat×Nat
def tD(t:T3):D:=.t [.int t.1,.int t.2.1,.int t.2.2]
def fg(t:T3):B:=(t.1,t.2.2)
def ur:Nat->Ls B->Ls T3
 |_,[]=>[]|b,(s,n)::r=>(s,b,n)::ur (b+n) r
theorem zA9:∀(q:Ls B) (b:Nat),jZ b q=(ur b q).map tD
 | [],_=>rfl| (s,n)::q,b=>by dsimp[jZ,ur,map_cons,zA9 q];rfl
theorem zBA:∀(q:Ls B) (b:Nat),(ur b q).map fg=q
 | [],_=>rfl| (s,n)::q,b=>by dsimp[ur,map_cons,zBA q];rfl
theorem Zm:∀(q:Ls B) (b:Nat),(ur b q).length=q.length
 | [],_=>rfl| (s,n)::q,b=>by simp[ur,Zm q]
def ln3:D->D
 | .t [_,_,c]=>c|_=>.non
def pat3:D->Ls DV.Slot
 | .t [a,b,c]=>[.v a,.v b,.v c]|_=>[]
def ZS(l:Ls T3)(c:l.length<=1000):yH [.v (.l (l.map tD))]=.ok (.v (.int (RM.top (l.map λt=>t.2.2):Nat)),[.e]):=by
 have Z:=zAx (vs:=[]) (nl:=3) (caps:=[]) (tg:=gT [0,1,2]) (tt:=wC) (el:=vZ 2) pat3 (λ_=>true) ln3 (l.map tD)
  (λd j S G h=>by obtain⟨t,_,rfl⟩:=mem_map.mp j;exact gT_ok3 G h)
  (λd j=>by obtain⟨t,_,rfl⟩:=mem_map.mp j;exact⟨rfl,λs e=>by simp[pat3,tD]at e;rcases e with rfl|rfl|rfl<;>rfl⟩)
  (λd j=>rfl)
  (λd j _=>by obtain⟨t,_,rfl⟩:=mem_map.mp j;exact⟨.v (.int t.2.2),rfl,rfl⟩)
  (by simp[cap];lia) (mi:=iL (vZ 0)) (E:=[.v (.l (l.map tD))]) (E1:=[.v (.l (l.map tD))]) rfl rfl
 have w:((l.map tD).filter (λ_=>true)).map ln3=(l.map λt=>((t.2.2:Nat):Int)).map D.int:=by
  rw[filter_eq_self.mpr (λ_ _=>rfl),map_map,map_map];rfl
 rw[w]at Z;have a:=zDo (l.map λt=>t.2.2);rw[map_map]at a;have O:(l.map λt=>((t.2.2:Nat):Int))=l.map ((λ(n:Nat)=>(n:Int)) ∘ λt=>t.2.2):=rfl;rw[O]at Z;have C:jh ((l.map ((λ(n:Nat)=>(n:Int)) ∘ λt=>t.2.2)).map D.int)=some _:=QD _;generalize i:(l.map ((λ(n:Nat)=>(n:Int)) ∘ λt=>t.2.2))=g at Z a C;simp[yH,jS,wL,fnM,jE,jD,zDU,wJ,YC,zDV,rE_maxd,zAq,rI_iL,sRet,sIf,vC,QN,sSet,Yi,R.slot,uH,eOr,QI,yl,zd,vZ,eC,zH,fiF,fiX,R.d,zF,y4,Cp.b,Cp.f,Op2.f,Bi.f,Ty.s,jR,jQ,jm,jn,jo,uG,wn,JH,tT,Jk,eCB,JI,QJ,QK,QL,ZL,W6,Tg.m,eqG,eqF,neG,neF,zBp,QM,Yv,ZY,Z,zBW,C,a]
def all3(l:Ls T3):l.map (λt=>t.2.2)=(l.map fg).map (·.2):=by rw[map_map];rfl
def few3(rs:Ls Int)(h:Row rs):(ur 0 (rle rs)).length<=20:=by
 rw[Zm];have:=zD4 rs;have:=h.1;lia
def zGZ(ds:Ls D)(i:Int):ixD (.t ds) (.int i)=(atI ds i).map .v:=rfl
end My
namespace My
open PySem L2 DV SM
def sub_m{m:Nat}(K:2<=m/\m<=3):va (.int (m:Int)) (.int 1)=some (.v (.int ((m-1:Nat):Int))):=ZA (b:=1) (by lia)
def mb(m:Nat):Nat->Ls Nat
 |0=>[0,m]|i+1=>zipWith (·+·) (mb m i++[0]) (0::(mb m i).map ((m-1)*·))
def QE{a b c:D}:[a,b,c].length<=cap:=by dsimp[length_cons,length_nil,cap];lia
def can(s k left:Nat)(r:Ls Nat):Bool:=decide ((stt s r).1=k)||(decide ((stt s r).1<k)&&decide (k<=(stt s r).2+left))
def Lt(m s n k t:Nat):Ls (Ls Nat):=(wA m t).filter λr=>decide (t=0)||can s k (n-t) r
def wc(m t:Nat):wA m (t+1)=(wA m t).flatMap (more m):=by first|rfl|simp[wA,more]
def numOf:D->Nat
 | .int x=>x.toNat|_=>0
end My
namespace My
open PySem L2 DV SM RM
abbrev In(r:Ls Nat):Ls Int:=r.map λn:Nat=>(n:Int)
def ut(c:Nat):RM.top [c]=c:=by simp[RM.top]
def zGG{n i:Nat}{d:D}(h:(yu n)[i]?=some d):i<n/\d=.int ((n-(i+1):Nat):Int):=by
 dsimp[yu,getElem?_map,Option.map_eq_some_iff]at h;obtain⟨j,L,h2⟩:=h;obtain⟨M,h4⟩:=qG.mp L;simp at M h4;subst h4;refine⟨M,?_⟩;rw[<- h2];congr 1
 lia
end My
namespace My
open PySem L2 DV SM
section
variable{m:Nat}(hm:2<=m/\m<=3)
include hm
end
def uu(a:Nat):neG (.int (a:Int)) (.int (a:Int))=some (.v (.bl false)):=by rw[ne_nat,decide_eq_true rfl];rfl
def jy(p:Ls D)(G:Pen p)(m:Nat)(J:0<m)(L:m<2^100):∃(r:Nat) (p':Ls D),zV [.p p,qI m]=.ok (.v (.int (r:Nat)),[.p p',.e])/\r<m/\Pen p':=by
 obtain⟨r,p',e,l,u,h⟩:=zAC p G m (by lia) (by rw[Int.natAbs_natCast];exact lt_big (lt_trans L (by left)));obtain⟨r,rfl⟩:=Int.eq_ofNat_of_zero_le l;exact⟨r,p',e,by lia,h⟩
end My
namespace My
open PySem L2 DV SM RM
structure Es where
 b:Nat
 e:Nat
 l:Option Nat
def ste(p:Es)(x:Nat):Es:=let e:=if p.l=some x then p.e+1 else 1;⟨max p.b e,e,some x⟩
def est(r:Ls Nat):Es:=r.foldl ste ⟨0,0,none⟩
abbrev bst(r:Ls Nat):Nat:=(est r).b
abbrev en(r:Ls Nat):Nat:=(est r).e
def ZT(r:Ls Nat)(x:Nat):est (r++[x])=ste (est r) x:=by simp[est,List.foldl_append]
def zD8(r:Ls Nat)(x:Nat):(est (r++[x])).l=some x:=by rw[ZT];rfl
theorem JE:∀(n:Nat) (r:Ls Nat),r.length=n->RM.top ((rle (In r)).map (·.2))=bst r/\((r=[]/\en r=0/\(est r).l=none)\/∃(q:Ls B) (x:Nat),rle (In r)=q++[((x:Int),en r)]/\(est r).l=some x/\1<=en r)
 |0,r,h=>by
  have:=length_eq_zero_iff.mp h;subst this;exact⟨rfl,.inl ⟨rfl,rfl,rfl⟩⟩
 |n+1,r,h=>by
  obtain⟨T,x,rfl⟩:∃T x,r=T++[x]:=by
   have o:r≠[]:=by intro z;subst z;cases h
   exact⟨r.dropLast,r.getLast o,(List.dropLast_concat_getLast o).symm⟩
  have hl:T.length=n:=by exists h
  obtain⟨a,c⟩:=JE n T hl;have Z:In (T++[x])=In T++[(x:Int)]:=by simp[In]
  have S:bst (T++[x])=max (bst T) (en (T++[x])):=by show(est _).b=max _ (est _).e;rw[ZT];rfl
  have G:en (T++[x])=if(est T).l=some x then en T+1 else 1:=by show(est _).e=_;rw[ZT];rfl
  rw[Z,zA1,S];rcases c with⟨rfl,k,i⟩|⟨q,y,P,O,L⟩
  ·have R:JK (rle (In [])) (x:Int)=[]++[((x:Int),1)]:=rfl
   have w:en ([]++[x])=1:=rfl;rw[R,w];exact⟨rfl,.inr ⟨[],x,rfl,zD8 [] x,le_refl _⟩⟩
  ·rw[P,zGA]
   rw[P,map_append,map_cons,map_nil,Js,ut]at a;by_cases g:y=x
   ·subst g
    rw[if_pos rfl];have w:en (T++[y])=en T+1:=by rw[G,if_pos O]
    rw[w];refine⟨?_,.inr ⟨q,y,rfl,zD8 T y,by lia⟩⟩;rw[map_append,map_cons,map_nil,Js,ut];simp only at a ⊢
    lia
   ·have o:¬(y:Int)=(x:Int):=by lia
    rw[if_neg o];have w:en (T++[x])=1:=by rw[G,if_neg (by rw[O];simp[g])]
    rw[w];refine⟨?_,.inr ⟨q++[((y:Int),en T)],x,by simp,zD8 T x,le_refl _⟩⟩;have:q++[((y:Int),en T),((x:Int),1)]=(q++[((y:Int),en T)])++[((x:Int),1)]:=by simp
    rw[this,map_append,map_append,map_cons,map_nil,map_cons,map_nil,Js,Js,ut,ut];simp only at a ⊢
    lia
def zD9:∀r:Ls Nat,en r<=bst r:=by
 intro r;rcases(List.eq_nil_or_concat r)with rfl|⟨T,x,rfl⟩
 ·exact le_refl _
 ·rw[List.concat_eq_append]
  show(est _).e<=(est _).b
  rw[ZT];exact Nat.le_max_right _ _
def uv(r:Ls Nat)(x:Nat):bst (r++[x])=max (bst r) (en (r++[x])):=by show(est _).b=max _ (est _).e;rw[ZT];rfl
def zBB(r:Ls Nat)(x:Nat):en (r++[x])=if(est r).l=some x then en r+1 else 1:=by show(est _).e=_;rw[ZT];rfl
def fr(k:Nat)(r:Ls Nat):Bool:=decide (bst r<k)
def cv(m k:Nat)(row:Ls Nat)(l j:Nat):Nat:=((wA m l).filter λt=>fr k (row++t)&&decide (en (row++t)=j)).length
def vec(m k:Nat)(row:Ls Nat)(l:Nat):Ls Nat:=(List.range (k-1)).map λj=>cv m k row l (j+1)
theorem Zn(m:Nat)(p:Ls Nat->Bool):∀L:Ls (Ls Nat),((L.flatMap (more m)).filter p).length=(L.map λr=>((List.range m).filter λx=>p (r++[x])).length).sum
 | []=>rfl
 |r::L=>by
  rw[flatMap_cons,filter_append,length_append,Zn m p L,map_cons,sum_cons];congr 1;dsimp[more,filter_map,length_map];rfl
theorem zEA(p:Ls Nat->Bool)(c:Nat):∀L:Ls (Ls Nat),(L.map λr=>if p r=true then c else 0).sum=c*(L.filter p).length
 | []=>by simp
 |r::L=>by
  rw[map_cons,sum_cons,zEA p c L,filter_cons];cases p r<;>simp[Nat.mul_add];lia
theorem zBC{α:Type}(p:α->Bool):∀l:Ls α,(l.filter p).length+(l.filter λx=>!p x).length=l.length
 | []=>rfl
 |a::l=>by
  have:=zBC p l;rw[filter_cons,filter_cons];cases p a<;>simp<;>lia
def others(m y:Nat)(O:y<m):((List.range m).filter λx=>decide (y≠x)).length=m-1/\((List.range m).filter λx=>decide (y=x)).length=1:=by
 have a:((List.range m).filter λx=>decide (y=x)).length=1:=by
  have:(List.range m).filter (λx=>decide (y=x))=[y]:=by
   refine List.Perm.eq_of_pairwise (le:=(·<·)) (λa b _ _ L h2=>absurd (lt_trans L h2) (lt_irrefl _)) (List.pairwise_lt_range.filter _) (List.pairwise_singleton _ _) ?_;rw[List.perm_ext_iff_of_nodup (List.nodup_range.filter _) (by simp)];intro z;dsimp[mem_filter,mem_range,decide_eq_true_eq,mem_singleton];constructor
   ·rintro ⟨_,rfl⟩;rfl
   ·rintro rfl;exact⟨O,rfl⟩
  rw[this];rfl
 refine⟨?_,a⟩;have:=zBC (λx=>decide (y=x)) (List.range m);rw[a,length_range]at this;have e:(List.range m).filter (λx=>!decide (y=x))=(List.range m).filter λx=>decide (y≠x):=by
  congr 1;funext x;simp
 rw[e]at this
 lia
def zEB{m k:Nat}(C:2<=k){row:Ls Nat}(a:∀x∈row,x<m){l:Nat}(o:row≠[]\/1<=l)(j:Nat):cv m k row (l+1) (j+1)=if j=0 then(m-1)*((wA m l).filter λt=>fr k (row++t)).length else if j+1<k then cv m k row l j else 0:=by
 unfold cv;rw[wc,Zn];have Z:∀t∈wA m l,((List.range m).filter λx=>fr k (row++(t++[x]))&&decide (en (row++(t++[x]))=j+1)).length=if j=0 then(if fr k (row++t)=true then m-1 else 0)else if j+1<k then(if(fr k (row++t)&&decide (en (row++t)=j))=true then 1 else 0)else 0:=by
  intro t ht;obtain⟨_,hl⟩:=JE _ (row++t) rfl;have i:row++t≠[]:=by
   rcases o with h|h
   ·intro z;exact h (List.append_eq_nil_iff.mp z).1
   ·intro z
    have:=wW m l t ht;rw[(List.append_eq_nil_iff.mp z).2]at this;simp at this;lia
  obtain⟨q,y,_,O,p⟩:=hl.resolve_left λz=>i z.1
  have n:y<m:=by
   rcases(List.eq_nil_or_concat (row++t))with z|⟨u,z,e⟩
   ·exact absurd z i
   ·rw[List.concat_eq_append]at e
    have:=zD8 u z;rw[<- e,O]at this;cases this;have:y∈row++t:=by rw[e];simp
    rcases mem_append.mp this with h|h
    ·exact a y h
    ·exact zAD m l t ht y h
  obtain⟨S,H⟩:=others m y n;have K:∀x,(fr k (row++(t++[x]))&&decide (en (row++(t++[x]))=j+1))=(fr k (row++t)&&(if y=x then decide (en (row++t)=j)&&decide (j+1<k)else decide (j=0))):=by
   intro x;rw[<- append_assoc];have R:=uv (row++t) x;have w:=zBB (row++t) x;rw[O]at w;have r:=zD9 (row++t);unfold fr;rw[R,w,Bool.eq_iff_iff];by_cases g:y=x
   ·subst g
    dsimp[if_true,Bool.and_eq_true,decide_eq_true_eq]
    lia
   ·have:¬some y=some x:=by exists g
    rw[if_neg this,if_neg g];dsimp[Bool.and_eq_true,decide_eq_true_eq]
    lia
  have I:(List.range m).filter (λx=>fr k (row++(t++[x]))&&decide (en (row++(t++[x]))=j+1))=(List.range m).filter λx=>fr k (row++t)&&(if y=x then decide (en (row++t)=j)&&decide (j+1<k)else decide (j=0)):=by
   congr 1;funext x;exact K x
  rw[I];cases hf:fr k (row++t)with
  |false=>simp
  |true =>
   dsimp[Bool.true_and];by_cases T:j=0
   ·subst T
    have hz:decide (en (row++t)=0)=false:=decide_eq_false (by lia);have:(List.range m).filter (λx=>if y=x then decide (en (row++t)=0)&&decide (0+1<k)else decide (0=0))=(List.range m).filter λx=>decide (y≠x):=by
     congr 1;funext x;by_cases h:y=x<;>simp[h,hz]
    rw[this,S];simp
   ·rw[if_neg T]
    have:(List.range m).filter (λx=>if y=x then decide (en (row++t)=j)&&decide (j+1<k)else decide (j=0))=(List.range m).filter λx=>(decide (en (row++t)=j)&&decide (j+1<k))&&decide (y=x):=by
     congr 1;funext x;by_cases h:y=x<;>simp[h,T]
    rw[this];by_cases c:j+1<k
    ·rw[if_pos c,decide_eq_true c]
     by_cases M:en (row++t)=j
     ·dsimp[decide_eq_true M,Bool.and_self,Bool.true_and,if_true];exact H
     ·dsimp[decide_eq_false M,Bool.false_and,Bool.and_false,Bool.false_eq_true,if_false];simp
    ·rw[if_neg c,decide_eq_false c];simp
 rw[map_congr_left Z];by_cases T:j=0
 ·subst T
  dsimp[if_true];exact zEA _ _ _
 ·dsimp[if_neg T]
  by_cases c:j+1<k
  ·dsimp[if_pos c]
   rw[zEA];lia
  ·dsimp[if_neg c]
   have:∀L:Ls (Ls Nat),(L.map λ_=>0).sum=0:=λL=>by induction L<;>simp_all
   exact this _
def wy(m k:Nat)(row:Ls Nat)(l:Nat):Nat:=((wA m l).filter λt=>fr k (row++t)).length
def zBD(r:Ls Nat):∀t:Ls Nat,bst r<=bst (r++t):=by
 intro t
 induction t generalizing r with
 |nil=>simp
 |cons x t I =>
  have:=I (r++[x]);rw[append_assoc]at this;have h:=uv r x;dsimp[List.singleton_append]at this
  lia
def wy_no{m k:Nat}{row:Ls Nat}(h:k<=bst row)(l:Nat):wy m k row l=0:=by
 unfold wy;rw[length_eq_zero_iff,filter_eq_nil_iff];intro t _;have:=zBD row t;dsimp[fr,decide_eq_true_eq]
 lia
theorem zHT{α:Type}(p:α->Bool)(f:α->Nat)(s:Nat):∀L:Ls α,(∀x∈L,p x=true->1<=f x/\f x<=s)->((List.range s).map λj=>(L.filter λx=>p x&&decide (f x=j+1)).length).sum=(L.filter p).length
 | [],_=>by
  have:∀n,((List.range n).map λ_=>0).sum=0:=λn=>by induction n<;>simp_all [range_succ]
  exists this s
 |a::L,h=>by
  have I:=zHT p f s L λx V=>h x (qD _ V)
  have one:∀s,((List.range s).map λj=>if p a&&decide (f a=j+1)then 1 else 0).sum=if p a=true/\1<=f a/\f a<=s then 1 else 0:=by
   intro s
   induction s with
   |zero=>simp;lia
   |succ s i =>
    rw[range_succ,map_append,sum_append,i];cases G:p a
    ·simp
    ·dsimp[map_cons,map_nil,sum_cons,List.sum_nil,Bool.true_and,decide_eq_true_eq,true_and]
     by_cases e:f a=s+1
     ·rw[if_neg (by lia),if_pos e,if_pos (by lia)];rfl
     ·rw[if_neg e]
      by_cases w:1<=f a/\f a<=s
      ·rw[if_pos w,if_pos (by lia)];rfl
      ·rw[if_neg w,if_neg (by lia)];rfl
  have add:∀s,((List.range s).map λj=>((a::L).filter λx=>p x&&decide (f x=j+1)).length).sum=((List.range s).map λj=>if p a&&decide (f a=j+1)then 1 else 0).sum+((List.range s).map λj=>(L.filter λx=>p x&&decide (f x=j+1)).length).sum:=by
   intro s
   induction s with
   |zero=>rfl
   |succ s i =>
    rw[range_succ,map_append,map_append,map_append,sum_append,sum_append,sum_append,i];dsimp[map_cons,map_nil,sum_cons,List.sum_nil];rw[filter_cons];cases p a&&decide (f a=s+1)<;>simp<;>lia
  rw[add s,one s,I,filter_cons];cases G:p a
  ·simp
  ·have:=h a qE G
   rw[if_pos ⟨rfl,this⟩];simp;lia
def uw{m k:Nat}(C:2<=k){row:Ls Nat}{l:Nat}(o:row≠[]\/1<=l):(vec m k row l).sum=wy m k row l:=by
 unfold vec wy cv;refine zHT (λt=>fr k (row++t)) (λt=>en (row++t)) (k-1) (wA m l) λt ht hf=>?_
 have L:=zD9 (row++t);dsimp[fr,decide_eq_true_eq]at hf;obtain⟨_,hl⟩:=JE _ (row++t) rfl;have i:row++t≠[]:=by
  rcases o with h|h
  ·intro z;exact h (List.append_eq_nil_iff.mp z).1
  ·intro z
   have:=wW m l t ht;rw[(List.append_eq_nil_iff.mp z).2]at this;simp at this;lia
 obtain⟨q,y,_,_,h2⟩:=hl.resolve_left λz=>i z.1
 exact⟨h2,by lia⟩
def stv(m:Nat)(v:Ls Nat):Ls Nat:=((m-1)*v.sum)::v.dropLast
def ux{m k:Nat}(C:2<=k){row:Ls Nat}(a:∀x∈row,x<m){l:Nat}(o:row≠[]\/1<=l):vec m k row (l+1)=stv m (vec m k row l):=by
 obtain⟨s,rfl⟩:∃s,k=s+2:=⟨k-2,by lia⟩;unfold stv;rw[uw C o];unfold vec;rw[show s+2-1=s+1 by lia];have R:((List.range (s+1)).map λj=>cv m (s+2) row l (j+1)).dropLast=(List.range s).map λj=>cv m (s+2) row l (j+1):=by
  rw[range_succ,map_append];simp
 rw[R,List.range_succ_eq_map,map_cons,map_map];congr 1
 ·rw[zEB C a o 0,if_pos rfl];rfl
 ·refine map_congr_left λj T=>?_
  have h:j<s:=by exists T
  show cv m (s+2) row (l+1) (j+1+1)=_
  rw[zEB C a o (j+1),if_neg (by lia),if_pos (by lia)]
def itv(m:Nat)(v:Ls Nat):Nat->Ls Nat
 |0=>v|l+1=>stv m (itv m v l)
theorem zHU{m k:Nat}(C:2<=k){row:Ls Nat}(a:∀x∈row,x<m)(o:row≠[]):∀l,vec m k row l=itv m (vec m k row 0) l
 |0=>rfl|l+1=>by rw[ux C a (.inl o),zHU C a o l];rfl
def vec0{m k:Nat}{row:Ls Nat}(t:fr k row=true)(M:1<=en row):vec m k row 0=(replicate (k-1) 0).set (en row-1) 1:=by
 unfold vec;apply List.ext_getElem
 ·simp
 ·intro i L h2
  dsimp[length_map,length_range]at L;rw[getElem_map,List.getElem_range,List.getElem_set,List.getElem_replicate];have e:cv m k row 0 (i+1)=if en row=i+1 then 1 else 0:=by
   unfold cv;have:(fr k (row++[])&&decide (en (row++[])=i+1))=decide (en row=i+1):=by rw[append_nil,t,Bool.true_and]
   show(([[]]:Ls (Ls Nat)).filter _).length=_
   rw[filter_cons,this];by_cases h:en row=i+1<;>simp[h]
  rw[e];by_cases h:en row=i+1
  ·rw[if_pos h,if_pos (by lia)]
  ·rw[if_neg h,if_neg (by lia)]
theorem vecE{m k:Nat}(K:1<=m)(C:2<=k):∀i,vec m k [] (i+1)=(ends 1 (m-1) (k-2) i).map (m*·)
 |0=>by
  unfold vec;obtain⟨s,rfl⟩:∃s,k=s+2:=⟨k-2,by lia⟩;have e:∀j,cv m (s+2) [] 1 (j+1)=if j=0 then m else 0:=by
   intro j;unfold cv;have a:wA m 1=(List.range m).map λx=>[x]:=by simp[wA]
   rw[a,filter_map,length_map];by_cases T:j=0
   ·subst T
    rw[if_pos rfl,filter_eq_self.mpr,length_range];intro x _;show(decide (1<s+2)&&decide (1=0+1))=true;simp
   ·rw[if_neg T,length_eq_zero_iff,filter_eq_nil_iff]
    intro x _;show ¬(decide (1<s+2)&&decide (1=j+1))=true;simp;lia
  have:(List.range (s+2-1)).map (λj=>cv m (s+2) [] 1 (j+1))=(List.range (s+1)).map λj=>if j=0 then m else 0:=map_congr_left λj _=>e j
  rw[this,List.range_succ_eq_map,map_cons,map_map];show m::_=m*1::_;rw[Nat.mul_one];congr 1;simp[Function.comp_def,List.map_const',List.map_replicate]
 |i+1=>by
  rw[ux C (λx h=>by cases h) (.inr (by lia)),vecE K C i];unfold stv;have R:ends 1 (m-1) (k-2) (i+1)=((m-1)*(ends 1 (m-1) (k-2) i).sum)::((ends 1 (m-1) (k-2) i).dropLast.map (1*·)):=rfl;rw[R,Q7,map_cons,map_map];congr 1
  ·rw[Nat.mul_left_comm]
  ·rw[<- List.map_dropLast]
   refine map_congr_left λx _=>?_
   show m*x=m*(1*x)
   rw[Nat.one_mul]
def wy_A{m k:Nat}(K:1<=m)(C:1<=k)(l:Nat):wy m k [] l=A (replicate m 1) l (k-1):=by
 rw[A_ones m l (k-1) K];by_cases hl:l=0
 ·subst hl
  rw[if_pos rfl];unfold wy;show(([[]]:Ls (Ls Nat)).filter _).length=1;have:fr k ([]++[])=true:=decide_eq_true (by show 0<k;lia);rw[filter_cons,this];rfl
 ·rw[if_neg hl]
  by_cases g:k-1=0
  ·rw[if_pos g]
   unfold wy;rw[length_eq_zero_iff,filter_eq_nil_iff];intro t ht;have D:=wW m l t ht;obtain⟨_,G⟩:=JE _ t rfl;obtain⟨q,y,_,_,h2⟩:=G.resolve_left λz=>by rw[z.1]at D;simp at D;lia
   have:=zD9 t;dsimp[fr,nil_append,decide_eq_true_eq]
   lia
  ·rw[if_neg g,<- uw (by lia) (.inr (by lia))]
   obtain⟨i,rfl⟩:∃i,l=i+1:=⟨l-1,by lia⟩;rw[vecE K (by lia) i,Q7,show k-1-1=k-2 by lia];rfl
abbrev tN(l:Ls Nat):D:=.t (N l)
def rowIn(r:Ls Nat):YL (In r)=tN r:=by simp[YL,In,N]
def zHV{m:Nat}(K:m<=3){r:Ls Nat}(c:r.length<=20)(p:∀x∈r,x<m):Row (In r):=⟨by simpa[In]using c,λx V=>by
 obtain⟨n,D,rfl⟩:=mem_map.mp V;have:=p n D
 lia⟩
def zHW{m:Nat}(K:m<=3){r:Ls Nat}(c:r.length<=20)(p:∀x∈r,x<m):ji [.v (tN r)]=.ok (.w (jZ 0 (rle (In r))),[.e]):=by
 have:=zD7 (zHV K c p);rw[rowIn]at this;exact this
def W2{m:Nat}(K:m<=3){r:Ls Nat}(c:r.length<=20)(p:∀x∈r,x<m):yK [.v (tN r)]=.ok (.v (.int ((bst r:Nat):Int)),O1):=by
 have e:=zHW K c p;rw[zA9]at e;have g:=ZS (ur 0 (rle (In r))) (by have:=few3 (In r) (zHV K c p);lia);rw[all3,zBA,(JE _ r rfl).1]at g;exact yj (zS (yk (zr (F:=yH) rfl (zr (F:=ji) rfl (zA rfl) e) g))) rfl
def e_last{m:Nat}(K:m<=3){r:Ls Nat}(o:r≠[]):∃i x b,jZ 0 (rle (In r))=i++[.t [x,b,.int ((en r:Nat):Int)]]:=by
 obtain⟨q,x,e,_,_⟩:=(JE _ r rfl).2.resolve_left λz=>o z.1
 rw[e,W1];exact⟨_,_,_,rfl⟩
def stv_len(m:Nat)(v:Ls Nat)(h:0<v.length):(stv m v).length=v.length:=by simp[stv];lia
theorem zAF(m:Nat)(v:Ls Nat)(h:0<v.length):∀l,(itv m v l).length=v.length
 |0=>rfl
 |l+1=>by
  show(stv m (itv m v l)).length=_
  rw[stv_len m _ (by rw[zAF m v h l];exact h),zAF m v h l]
def zBE(a b:Nat):geD (.int (a:Int)) (.int (b:Int))=some (.v (.bl (decide (b<=a)))):=by
 show some (R.v (D.bl (decide ((b:Int)<=(a:Int)))))=_
 congr 3
 exact decide_eq_decide.mpr (by lia)
def uy(l:Ls Nat)(j x:Nat):(N l).set j (.int (x:Nat))=N (l.set j x):=by simp[N,List.map_set]
def W3{fs:Ls FI}{E E1 E2:zR}{i:Nat}{b v:_}{k:Nat}{ds:Ls D}{r:R}(X:E[i]?=some (.w ds))(L:dE fs b E1=.ok (.v (.int (k:Nat)),E1))(C:k<ds.length)(Y:dE fs v E=.ok (r,E1))(h:E1[i]?=some (.w ds))(M:E1.set i (.w (ds.set k r.d))=E2):dS fs (.sIx i b v) E=.ok (.nx,E2):=by
 subst M;have ix:ixN ds.length (k:Int)=some k:=by
  have:(k:Int)<(ds.length:Nat):=by lia
  unfold ixN;rw[if_pos (by lia)];simp[this]
 dsimp[zDX,DV.ZZ,X,Jv,Bool.false_eq_true,if_false,Y,L,h,Slot.list?,ix,Slot.put]
def Yg(l:Ls Nat):∀d∈N l,eqb 19 d=true:=λd j=>by
 obtain⟨n,_,rfl⟩:=QB j;rfl
def eq_tups{a b:Ls D}(L:∀d∈a,eqb 19 d=true)(Y:∀d∈b,eqb 19 d=true):eqG (.t a) (.t b)=some (.v (.bl (deqs a b))):=by
 have R:eqb 20 (.t a)=true:=all_eq_true.mpr L;have w:eqb 20 (.t b)=true:=all_eq_true.mpr Y;dsimp[eqG,eqF,zGs,R,w,deq,Bool.and_self,if_true,and_self,Bool.false_eq_true,if_false]
def IWy_ok{m k l:Nat}(K:2<=m/\m<=3){v:Ls Nat}(Y:1<=v.length/\v.length<=20)(p z W:DV.Slot):∃V Q,DV.ZD (gN 5) (dB Jq YX) (DV.zE 0 l) [qI m,p,z,W,.w (N v),.e]=.ok (.nx,[qI m,p,z,W,V,Q])/\(V=.w (N (itv m v l))\/V=.v (.l (N (itv m v l)))):=by
 obtain⟨E1,f,V,Q,rfl,h4,_⟩:=yG (tg:=gN 5) (body:=dB Jq YX) (λi E=>∃V Q,E=[qI m,p,z,W,V,Q]/\(V=.w (N (itv m v i))\/V=.v (.l (N (itv m v i))))/\zy Q=true) (DV.zE 0 l) 0 [qI m,p,z,W,.w (N v),.e] ⟨_,_,rfl,.inl rfl,rfl⟩ (λi d q E ⟨V,Q,X,h4,h5⟩=>by
  rw[zero_add]at h4 ⊢;have hl:=zAF m v (by lia) i;have O:=Wz (m-1) (itv m v i).sum (by lia);have j:=cut_N (itv m v i) (by lia);have r:=ZQ [D.int (((m-1)*(itv m v i).sum:Nat):Int)] (N (itv m v i).dropLast) (by rw[jJ];simp;lia);refine⟨[qI m,p,z,W,V,.v d],[qI m,p,z,W,.w (N (itv m v (i+1))),.v d],?_,?_,_,_,rfl,.inl rfl,rfl⟩
  ·subst X;cases Q<;>first|rfl|(cases h5)
  ·exact zS (yP (zT (jw (zB (zT (zT (zA rfl) x_c (sub_m K)) (YK (zB (zHL h4 rfl rfl) zK) (ul _)) O) zK) rfl zn) (zF6 (zA rfl) o_N (o_S (zGC x_c)) j) r) rfl))
 rw[jF,zero_add]at h4;exact⟨V,Q,f,h4⟩
def zBF{m k l:Nat}(K:2<=m/\m<=3)(C:1<=k/\k<=20)(c:l<=20){r:Ls Nat}(G:r.length<=20)(p:∀x∈r,x<m):jH [qI m,qI k,.v (tN r),qI l]=.ok (.v (.int ((wy m k r l:Nat):Int)),O4):=by
 have u:=W2 K.2 G p;have H:∀b,decide (k<=bst r)=b->dT Jq (.tE (.cmp .ge (.call 2 (.ev (.x 2) .nil)) (.x 1))) [qI m,qI k,.v (tN r),qI l,.e,.e]=.ok (b,[qI m,qI k,.v (tN r),qI l,.e,.e]):=λb J=>by
  subst J;exact t_E (zj (zr (F:=yK) rfl (zA rfl) u) (zA rfl) (zBE _ _))
 by_cases J:k<=bst r
 ·rw[wy_no J]
  exact yj (vL (JJ (H true (decide_eq_true J)) (zS (yk x_c)))) rfl
 ·have H:=H false (decide_eq_false J)
  have g:=eq_tups (a:=N r) (b:=[]) (Yg r) (λd h=>by cases h);have M:va (.int (k:Int)) (.int 1)=some (.v (.int ((k-1:Nat):Int))):=ZA (b:=1) (by lia);cases r with
  |nil =>
   have t:=um (ws:=replicate m 1) (n:=l) (k:=k-1) (.inl rfl) (λw Y=>by rw[(mem_replicate.mp Y).2];lia) (by simp;lia) (by lia) (by lia);rw[<- wy_A (by lia) C.1 l]at t;have I:=Jt (.int 1) m (by lia);rw[show replicate m (D.int 1)=N (replicate m 1)by simp[N]]at I;exact yj (zN (jV H jW) (vL (JJ (t_E (zj (zA rfl) (Jd zK rfl Yd) g)) (zS (yk (yC (F:=yT) rfl (zT (jw (zB x_c zK) rfl zn) (zA rfl) I) (zA rfl) (zT (zA rfl) x_c M) t)))))) rfl
  |cons x T =>
   have o:(x::T)≠[]:=by simp
   obtain⟨q,y,_,_,L⟩:=(JE _ (x::T) rfl).2.resolve_left λz=>o z.1
   have E:=zD9 (x::T);obtain⟨i,a,b,Z⟩:=e_last K.2 o;have S:=zHW K.2 G p;rw[Z]at S;have hf:fr k (x::T)=true:=decide_eq_true (by lia);have e:=vec0 (m:=m) hf L;have W:=uw (m:=m) (k:=k) (row:=x::T) (l:=l) (by lia) (.inl o);rw[zHU (by lia) p o l,e]at W;have I:=Jt (.int 0) (k-1) (by lia);rw[show replicate (k-1) (D.int 0)=N (replicate (k-1) 0)by simp[N]]at I;obtain⟨V,Q,f,h4⟩:=IWy_ok (k:=k) (l:=l) K (v:=(replicate (k-1) 0).set (en (x::T)-1) 1) (by simp;lia) (.v (.int (k:Nat))) (.v (tN (x::T))) (.v (.int (l:Nat)));have O:ixD (.l (i++[.t [a,b,.int ((en (x::T):Nat):Int)]])) (.int (-1))=some (.v (.t [a,b,.int ((en (x::T):Nat):Int)])):=congrArg (Option.map R.v) (atI_end _ _);have P:ixD (.t [a,b,.int ((en (x::T):Nat):Int)]) (.int 2)=some (.v (.int ((en (x::T):Nat):Int))):=rfl;have X:va (.int ((en (x::T):Nat):Int)) (.int 1)=some (.v (.int ((en (x::T)-1:Nat):Int))):=ZA (b:=1) L;refine yj (E1:=[qI m,qI k,.v (tN (x::T)),qI l,.v (.l (N (itv m ((replicate (k-1) 0).set (en (x::T)-1) 1) l))),Q]) ?_ rfl;refine zN (jV H jW) (zN (jV (t_E (zj (zA rfl) (Jd zK rfl Yd) g)) jW) ?_);refine zN (E1:=[qI m,qI k,.v (tN (x::T)),qI l,.w (N (replicate (k-1) 0)),.e]) (yP (zT (jw (zB x_c zK) rfl zn) (zT (zA rfl) x_c M) I) rfl) ?_;refine zN (E1:=[qI m,qI k,.v (tN (x::T)),qI l,.w (N ((replicate (k-1) 0).set (en (x::T)-1) 1)),.e]) (W3 rfl (zT (zDh (zDh (zr (F:=ji) rfl (zA rfl) S) (zGC x_c) O) x_c P) x_c X) (by rw[jJ,length_replicate];lia) x_c rfl ?_) ?_
   ·rw[<- uy];rfl
   refine zN (JD (tg:=.n 5) (j:=(l:Int)) (zB (zA rfl) zK) rfl ⟨by lia,by lia⟩ (by rw[Int.toNat_natCast];exact f)) ?_;rw[<- W];exact zS (yk (YK (zB (zHL h4 rfl rfl) zK) (ul _)))
def zEd:D->Int
 | .int i=>i|_=>0
def rgB(m:Nat):D->Bool
 | .t P=>zBh (.t P)&&P.all λd=>decide (zEd d<m)|_=>false
def zGH{z hi:Int}{d:D}(h:Ju z hi d=true):∃i:Int,d=.int i/\z<=i/\i<=hi:=by
 cases d with
 |int i=>dsimp[Ju,Bool.and_eq_true,decide_eq_true_eq]at h;exact⟨i,rfl,h.1,h.2⟩|_=>cases h
structure Od(m n k:Nat):Prop where
 m:2<=m/\m<=3
 n:n<=20
 k:1<=k/\k<=20
def zAG{n z W:Nat}(L:z<=n)(h:n<=W):Ju (z:Int) (W:Int) (.int n)=true:=in_nat L h
def uz{k:Nat}(h:1<=k/\k<=20):zL [qI k]=.ok (.v .non,O1) :=
 f_nx (zS (wR (yC (F:=zX) rfl (zA rfl) x_c zEc (jx _ 1 20 rfl (zAG h.1 h.2))))) rfl
def zEC{m n k:Nat}(h:Od m n k):jc [qI m,qI n,qI k]=.ok (.v .non,O3) :=
 f_nx (zN (wR (zr (F:=zm) rfl (zA rfl) (jj _ rfl (zAG h.m.1 h.m.2)))) (zN (wR (yC (F:=zX) rfl (zA rfl) x_c zEc (jx _ 0 20 rfl (zAG (zero_le _) h.n)))) (zS (wR (zr (F:=zL) rfl (zA rfl) (uz h.k)))))) rfl
def N_fn{l:Ls Nat}:∀d∈N l,isFn d=false:=λd j=>by
 obtain⟨n,_,rfl⟩:=QB j;rfl
def okD_N{l:Ls Nat}(h:l.length<=1000):okD (tN l):=⟨by rw[jJ];dsimp[cap];lia,N_fn⟩
def rg_N{m:Nat}(K:m<=3){r:Ls Nat}(c:r.length<=20)(p:∀x∈r,x<m):rgB m (tN r)=true:=by
 show((decide ((N r).length<=20)&&(N r).all (Ju 0 2))&&(N r).all λd=>decide (zEd d<m))=true
 rw[jJ,decide_eq_true c];have R:(N r).all (Ju 0 2)=true:=by
  rw[all_eq_true];intro x V;obtain⟨n,D,rfl⟩:=QB V;have:=p n D;simp[Ju];lia
 have w:(N r).all (λd=>decide (zEd d<m))=true:=by
  rw[all_eq_true];intro x V;obtain⟨n,D,rfl⟩:=QB V;have:=p n D;simp[zEd];lia
 rw[R,w];rfl
def zAH(a b:Nat):gtD (.int (a:Int)) (.int (b:Int))=some (.v (.bl (decide (b<a)))):=by
 show some (R.v (D.bl (decide ((b:Int)<(a:Int)))))=_
 congr 3
 exact decide_eq_decide.mpr (by lia)
def e_rgo(d:D)(h:okD d)(m:Nat):yg [.v d,qI m]=.ok (.v (.bl (rgB m d)),O2):=by
 have c1:dE YD (.call 0 (.ev (.x 0) .nil)) [.v d,qI m]=.ok (.v (.bl (zBh d)),[.v d,qI m]):=zr (F:=wb) rfl (zA rfl) (vv d h);cases d with
 |t P =>
  cases J:zBh (.t P)with
  |false =>
   rw[J]at c1;have:rgB m (.t P)=false:=by show(zBh (.t P)&&_)=false;rw[J];rfl
   rw[this];exact yj (zS (yk (zDs c1))) rfl
  |true =>
   rw[J]at c1;have:rgB m (.t P)=P.all λd=>decide (zEd d<m):=by show(zBh (.t P)&&_)=_;rw[J];rfl
   rw[this];have Y:∀x∈P,∃i:Int,x=.int i:=λx V=>by
    have:P.all (Ju 0 2)=true:=by
     dsimp[zBh,Bool.and_eq_true]at J;exact J.2
    obtain⟨i,e,_⟩:=zGH (all_eq_true.mp this x V);exact⟨i,e⟩
   exact yj (zS (yk (zDr c1 (YK (zB (Ye (vs:=[.int (m:Nat)]) (λd=>.bl (decide (zEd d<m))) (i_T (zA rfl) rfl) rfl (λd j=>by
    obtain⟨i,rfl⟩:=Y d j;exact⟨_,zj (zA rfl) (zA rfl) (show ltD (.int i) (.int (m:Int))=some (.v (.bl (decide (i<(m:Int)))))from rfl),rfl⟩) h.1 rfl) zK) (zA4 rfl))))) rfl
 |fn x=>cases h|exn x=>cases h|_=>exact yj (zS (yk (zDs c1))) rfl
def QF(r:Ls Nat)(x:Nat)(h:r.length<=1000):ZG (tN r) (.t [.int (x:Nat)])=some (.v (tN (r++[x]))):=by
 rw[Q8 (N r) [.int (x:Nat)] (by rw[jJ];simp;lia)];show some (R.v (D.t (N r++N [x])))=_;rw[<- N_app]
theorem zHX:∀(u:Ls Nat) (x k:Nat),k+1<=en (u.reverse++[x])↔u.take k=replicate k x
 | [],x,k=>by
  rw[zBB];show k+1<=1↔_;cases k with
  |zero=>simp|succ k=>simp[replicate_succ]
 |y::u,x,k=>by
  have I:=zHX u y;rw[zBB,reverse_cons,zD8];by_cases O:y=x
  ·subst O
   rw[if_pos rfl];cases k with
   |zero=>simp
   |succ k =>
    rw[List.take_succ_cons,replicate_succ,List.cons.injEq,<- I k];simp
  ·rw[if_neg (by exists O)]
   cases k with
   |zero=>simp
   |succ k => 
    rw[List.take_succ_cons,replicate_succ,List.cons.injEq];constructor
    ·intro h;lia
    ·intro h;exact absurd h.1 O
def zED(r:Ls Nat)(x k:Nat)(C:1<=k):k<=en (r++[x])↔(r++[x]).drop ((r++[x]).length-k)=replicate k x:=by
 obtain⟨j,rfl⟩:∃j,k=j+1:=⟨k-1,by lia⟩;have h:=zHX r.reverse x j;rw[List.reverse_reverse]at h;rw[h];have e:(r++[x]).reverse.take (j+1)=((r++[x]).drop ((r++[x]).length-(j+1))).reverse:=List.take_reverse;rw[List.reverse_append,List.reverse_singleton,List.singleton_append,List.take_succ_cons]at e;constructor
 ·intro L
  rw[L]at e;have:=congrArg List.reverse e;rw[List.reverse_reverse]at this;rw[<- this,<- replicate_succ,List.reverse_replicate]
 ·intro L
  rw[L,List.reverse_replicate,replicate_succ]at e;exact(List.cons.inj e).2
theorem vw:∀(a b:Ls Nat),deqs (N a) (N b)=decide (a=b)
 | [],[]=>rfl| [],_::_=>rfl|_::_,[]=>rfl
 |x::a,y::b=>by
  have i:=vw a b;have e:deq (.int (x:Int)) (.int (y:Int))=decide (x=y):=by
   dsimp[deq,flV,eqV];rw[Bool.eq_iff_iff,beq_iff_eq,decide_eq_true_eq];exact⟨λh=>Int.ofNat.inj h,λh=>by rw[h]⟩
  show deqs (D.int (x:Int)::N a) (D.int (y:Int)::N b)=_
  rw[deqs,i,e,Bool.eq_iff_iff];dsimp[Bool.and_eq_true,decide_eq_true_eq,List.cons.injEq]
def ne_tN(a b:Ls Nat):neG (tN a) (tN b)=some (.v (.bl (!decide (a=b)))):=by
 rw[ne_tups (Yg a) (Yg b),vw]
def zHY(t:Ls Nat)(z W:Lx Int):vb (N t) z W=N ((t.drop (HT.sIx t.length 0 z)).take (HT.sIx t.length t.length W-HT.sIx t.length 0 z)):=by
 dsimp[vb,jJ];dsimp[N,<- map_drop,<- map_take]
theorem QG(m k:Nat):∀L:Ls (Ls Nat),((L.filter (fr k)).flatMap (more m)).filter (fr k)=(L.flatMap (more m)).filter (fr k)
 | []=>rfl
 |r::L=>by
  have I:=QG m k L;rw[filter_cons,flatMap_cons,filter_append];cases h:fr k r
  ·have:(more m r).filter (fr k)=[]:=by
    rw[filter_eq_nil_iff];intro t ht;obtain⟨x,_,rfl⟩:=mem_map.mp ht;have:=zBD r [x];dsimp[fr,decide_eq_true_eq,decide_eq_false_iff_not]at h ⊢
    lia
   rw[this];exists I
  ·rw[if_pos rfl,flatMap_cons,filter_append,I]
def t_free{fs:Ls FI}{m n k:Nat}(C:1<=k/\k<=100){r:Ls Nat}(v:r.length<=100)(u:fr k r=true)(x:Nat){s3 s4 s5 s6:DV.Slot}:dT fs (.tOr (.tE (.cmp .ne (.sl (.x 8) (.oS (.bin .sub (.cB .len (.cons (.x 8) .nil)) (.x 2))) .oN) (.bin .mul (.t (.cons (.x 7) .nil)) (.x 2)))) (.tE (.cmp .lt (.cB .len (.cons (.x 8) .nil)) (.x 2)))) [qI m,qI n,qI k,s3,s4,s5,s6,qI x,.v (tN (r++[x]))]=.ok (fr k (r++[x]),[qI m,qI n,qI k,s3,s4,s5,s6,qI x,.v (tN (r++[x]))]):=by
 generalize ht:r++[x]=t;have I:fr k t=!decide (t.drop (t.length-k)=replicate k x):=by
  have L:=zED r x k C.1;have h2:=uv r x;rw[ht]at L h2;unfold fr at u ⊢;rw[decide_eq_true_eq]at u;rw[h2,<- decide_not,decide_eq_decide,<- L]
  lia
 have c:Yv (.t [.int (x:Nat)]) (.int (k:Nat))=some (.v (tN (replicate k x))):=by
  rw[Z5 _ k (by lia),<- N_rep]
 have g:t.length=r.length+1:=by rw[<- ht];simp
 have j:∃z:Int,va (.int ((N t).length:Nat)) (.int (k:Nat))=some (.v (.int z))/\∃q:Ls Nat,slD (tN t) (some z) none=some (.v (tN q))/\(decide (q=replicate k x)=decide (t.drop (t.length-k)=replicate k x)):=by
  refine⟨((N t).length:Int)-k,rfl,?_⟩;refine⟨_,congrArg (λz=>some (R.v (D.t z))) (zHY t _ _),?_⟩;by_cases h:k<=t.length
  ·have inj:∀{a b:Ls Nat},N a=N b->a=b:=λ{a b} h=>by
    have:=vw a b;rw[h,vw]at this;exists this.symm
   have e:=zGE (N t) (t.length-k) (by rw[jJ];lia);rw[zHY]at e;have y:(N t).drop (t.length-k)=N (t.drop (t.length-k)):=by simp[N]
   have O:=inj (e.trans y);have G:(((N t).length:Nat):Int)-(k:Int)=((t.length-k:Nat):Int):=by rw[jJ];lia
   rw[G,O]
  ·have W:(replicate k x).length=k:=length_replicate
   have p:∀q:Ls Nat,q.length<=t.length->¬q=replicate k x:=λq P e=>by rw[e,W]at P;lia
   rw[decide_eq_false (p _ (by dsimp[length_take,length_drop];lia)),decide_eq_false (p _ (by simp))]
 obtain⟨z,j,q,w,l⟩:=j;have first:=zj (fs:=fs) (E:=[qI m,qI n,qI k,s3,s4,s5,s6,qI x,.v (tN t)]) (o:=.ne) (zF6 (zA (i:=8) rfl) (o_S (zT (o:=.sub) (YK (b:=.len) (zB (zA (i:=8) rfl) zK) rfl) (zA (i:=2) rfl) j)) o_N w) (zT (o:=.mul) (Jd (zB (zA (i:=7) rfl) zK) rfl zn) (zA (i:=2) rfl) c) (ne_tN _ _);rw[l,<- I]at first;cases Q:fr k t
 ·rw[Q]at first
  refine G8 (t_E first) (t_E (zj (YK (zB (zA rfl) zK) rfl) (zA rfl) ?_));show ltD (.int ((N t).length:Nat)) (.int (k:Nat))=_;rw[zHP,jJ];rw[Q]at I;have:t.drop (t.length-k)=replicate k x:=by exists I.symm
  have:=congrArg length this;dsimp[length_drop,length_replicate]at this;rw[decide_eq_false (by lia)]
 ·rw[Q]at first
  exact zDi (t_E first)
def zEE{m k:Nat}{ls:Ls (Ls Nat)}{i:Nat}{r:Ls Nat}(v:ls[i]?=some r):((ls.take (i+1)).flatMap (more m)).filter (fr k)=((ls.take i).flatMap (more m)).filter (fr k)++(more m r).filter (fr k):=by
 have g:ls.take (i+1)=ls.take i++[r]:=by rw[List.take_add_one,v];rfl
 rw[g,List.flatMap_append,filter_append];simp
abbrev Fr(m n k:Nat):Ls (Ls Nat):=(wA m n).filter (fr k)
def zHZ{m n k:Nat}(K:m<=3)(D:n<7):(Fr m n k).length<=729:=by
 refine le_trans (List.length_filter_le _ _) ?_;rw[uq];exact le_trans (Nat.pow_le_pow_left K n) (le_trans (Nat.pow_le_pow_right (by lia) (show n<=6 by lia)) (by decide))
theorem zEF{α β:Type}(f:α->Ls β)(p:β->Bool):∀L:Ls α,(L.flatMap f).filter p=L.flatMap λa=>(f a).filter p
 | []=>rfl|a::L=>by rw[flatMap_cons,filter_append,zEF f p L,flatMap_cons]
def wy_lt{m k:Nat}{r:Ls Nat}(K:m<=3){l:Nat}(c:l<=20):wy m k r l<2^100:=by
 unfold wy;refine lt_of_le_of_lt (List.length_filter_le _ _) ?_;rw[uq];exact lt_of_le_of_lt (le_trans (Nat.pow_le_pow_left K l) (Nat.pow_le_pow_right (by lia) c)) (by decide)
def zEG{m n k:Nat}(h:Od m n k):yx [qI m,qI n,qI k]=.ok (.v (.int ((wy m k [] n:Nat):Int)),O3) :=
 yj (zN (wR (yC (F:=jc) rfl (zA rfl) (zA rfl) (zA rfl) (zEC h))) (zS (yk (yQ (F:=jH) rfl (zA rfl) (zA rfl) (Jd zK rfl Yd) (zA rfl) (zBF h.m h.k h.n (r:=[]) (by simp) (λx h=>by cases h)))))) rfl
theorem W4(m:Nat):∀l,wA m (l+1)=(List.range m).flatMap λx=>(wA m l).map (x::·)
 |0=>by
  rw[wc];show([[]]:Ls (Ls Nat)).flatMap (more m)=(List.range m).flatMap λx=>([[]]:Ls (Ls Nat)).map (x::·)
  unfold more;simp[List.flatMap_singleton,<- List.map_eq_flatMap]
 |l+1=>by
  have I:=W4 m l;rw[wc m (l+1)]
  conv=>lhs;rw[I]
  rw[List.flatMap_assoc];congr 1;funext x;rw[List.flatMap_map,wc m l,List.map_flatMap];congr 1;funext t;simp[more]
abbrev Qr(m k:Nat)(r:Ls Nat)(l:Nat):Ls (Ls Nat):=(wA m l).filter λt=>fr k (r++t)
def Tl(m k:Nat)(r:Ls Nat)(l:Nat):Nat->Nat->Ls (Ls Nat)
 |0,_=>[]|j+1,x=>(Qr m k (r++[x]) l).map (x::·)++Tl m k r l j (x+1)
theorem ZB(m k:Nat)(r:Ls Nat)(l:Nat):∀j x,(range' x j).flatMap (λy=>(Qr m k (r++[y]) l).map (y::·))=Tl m k r l j x
 |0,_=>rfl|j+1,x=>by rw[range'_succ,flatMap_cons,ZB m k r l j (x+1)];rfl
def zEH(m k:Nat)(r:Ls Nat)(l:Nat):Qr m k r (l+1)=Tl m k r l m 0:=by
 unfold Qr;rw[W4,zEF,<- ZB,range_eq_range'];congr 1;funext x;rw[filter_map];congr 2;funext t;simp
abbrev En(m n k:Nat)(num:D)(r:Ls Nat)(b l x:Nat):zR:=[qI m,qI n,qI k,.v num,.v (tN r),qI b,qI l,qI x,.v (.int ((wy m k (r++[x]) l:Nat):Int))]
def ZC{m:Nat}{r:Ls Nat}(p:∀x∈r,x<m){x:Nat}(V:x<m):∀y∈r++[x],y<m:=λy O=>by
 rcases mem_append.mp O with O|O
 ·exact p y O
 ·rw[mem_singleton]at O;lia
theorem zHa{m n k:Nat}(h:Od m n k){num:D}{r:Ls Nat}{l:Nat}(c:l<=20)(G:r.length<20)(p:∀x∈r,x<m):∀(j f x b:Nat) (t:Ls Nat),j<=f->x+j=m->(Tl m k r l j x)[b]?=some t ->
  ∃v Z o,DV.whN (dT jT (.tE (.cmp .ge (.x 5) (.x 8)))) (dB jT JV) f (En m n k num r b l x)=.ok (.nx,En m n k num r v l Z)/\Z<m/\t=Z::o/\(Qr m k (r++[Z]) l)[v]?=some o
 |0,f,x,b,t,_,_,ht=>by simp[Tl]at ht|j+1,0,x,b,t,hf,_,_=>by lia
 |j+1,f+1,x,b,t,hf,V,ht=>by
  have a:(Qr m k (r++[x]) l).length=wy m k (r++[x]) l:=rfl;have g:=zBE b (wy m k (r++[x]) l);have i:dT jT (.tE (.cmp .ge (.x 5) (.x 8))) (En m n k num r b l x)=.ok (decide (wy m k (r++[x]) l<=b),En m n k num r b l x):=t_E (zj (zA rfl) (zA rfl) g);dsimp[Tl]at ht;by_cases J:wy m k (r++[x]) l<=b
  ·rw[getElem?_append_right (by rw[length_map];lia),length_map,a]at ht
   have T:0<j:=by
    rcases Nat.eq_zero_or_pos j with z|z
    ·subst z;simp[Tl]at ht
    ·exact z
   obtain⟨v,Z,o,e,L,h2,M⟩:=zHa h (num:=num) (n:=n) c G p j f (x+1) (b-wy m k (r++[x]) l) t (by lia) (by lia) ht;have C:=zBF h.m h.k c (r:=r++[x+1]) (by simp;lia) (ZC p (show x+1<m by lia));have q:dB jT JV (En m n k num r b l x)=.ok (.nx,En m n k num r (b-wy m k (r++[x]) l) l (x+1)):=by
    refine zN (E1:=[qI m,qI n,qI k,.v num,.v (tN r),.v (.int ((b-wy m k (r++[x]) l:Nat):Int)),qI l,qI x,.v (.int ((wy m k (r++[x]) l:Nat):Int))]) (s_aug (z:=((b-wy m k (r++[x]) l:Nat):Int)) rfl (zA rfl) ?_ rfl) ?_
    ·show some ((b:Int)-(wy m k (r++[x]) l:Nat))=_
     congr 1;lia
    refine zN (s_aug (z:=((x+1:Nat):Int)) rfl x_c rfl rfl) ?_;exact zS (yP (yQ (F:=jH) rfl (zA rfl) (zA rfl) (zT (zA rfl) (Jd (zB (zA rfl) zK) rfl zn) (QF r (x+1) (by lia))) (zA rfl) C) rfl)
   refine⟨v,Z,o,?_,L,h2,M⟩;rw[decide_eq_true J]at i;dsimp[DV.whN,i,q];exact e
  ·rw[getElem?_append_left (by rw[length_map];lia),getElem?_map,Option.map_eq_some_iff]at ht
   obtain⟨o,L,h2⟩:=ht;refine⟨b,x,o,?_,by lia,h2.symm,L⟩;rw[decide_eq_false J]at i;dsimp[DV.whN,i]
inductive InN(m n k:Nat)(num:D)(T:List Nat)(i:Nat):zR->Prop
 |mk (r:List Nat) (b:Nat) (t:List Nat) (s6 s7 s8:DV.Slot):r.length=i->(∀x∈r,x<m)->(Qr m k r (n-i))[b]?=some t->r++t=T->zy s6=true->zy s7=true->zy s8=true->InN m n k num T i [qI m,qI n,qI k,.v num,.v (tN r),qI b,s6,s7,s8]
def e_nth{m n k:Nat}(h:Od m n k){a:Nat}{T:Ls Nat}(P:(Fr m n k)[a]?=some T):jU [qI m,qI n,qI k,qI a]=.ok (.v (tN T),O4):=by
 have D:=h.n;have p:a<wy m k [] n:=by
  have:=(qG.mp P).1;exact this
 have inr:Ju 0 (((wy m k [] n:Nat):Int)-1) (.int (a:Nat))=true:=by
  dsimp[Ju,Bool.and_eq_true,decide_eq_true_eq];lia
 obtain⟨E',f,I⟩:=yG (tg:=gN 6) (body:=dB jT Ze) (λi E=>InN m n k (.int (a:Nat)) T i E) (yu n) 0 [qI m,qI n,qI k,qI a,.v (tN []),qI a,.e,.e,.e] (.mk [] a T .e .e .e rfl (λx h=>by cases h) P rfl rfl rfl rfl) (λi d q E I=>by
  obtain⟨W,rfl⟩:=zGG q;rw[zero_add]at I ⊢;obtain⟨r,b,t,w,y,S,L,h2,M,h4,G,z,H⟩:=I;have u:n-i=(n-(i+1))+1:=by lia
  rw[u,zEH]at M;obtain⟨v,Z,o,e,V,ht,J⟩:=zHa h (num:=.int (a:Nat)) (n:=n) (r:=r) (l:=n-(i+1)) (by lia) (by lia) h2 m 1000000 0 b t (by have:=h.m;lia) (by lia) M;have C:=zBF h.m h.k (l:=n-(i+1)) (by lia) (r:=r++[0]) (by simp;lia) (ZC h2 (show 0<m by have:=h.m;lia));refine⟨[qI m,qI n,qI k,qI a,.v (tN r),qI b,.v (.int ((n-(i+1):Nat):Int)),y,S],_,?_,?_,.mk (r++[Z]) v o (.v (.int ((n-(i+1):Nat):Int))) (.v (.int (Z:Nat))) (.v (.int ((wy m k (r++[Z]) (n-(i+1)):Nat):Int))) (by simp[L]) (ZC h2 V) J (by rw[append_assoc,<- h4,ht];rfl) rfl rfl rfl⟩
  ·cases w<;>first|rfl|(cases G)
  ·refine zN (E1:=[qI m,qI n,qI k,qI a,.v (tN r),qI b,.v (.int ((n-(i+1):Nat):Int)),qI (0),S]) (yP x_c (yt rfl z rfl)) ?_
   refine zN (E1:=En m n k (.int (a:Nat)) r b (n-(i+1)) 0) (yP (yQ (F:=jH) rfl (zA rfl) (zA rfl) (zT (zA rfl) (Jd (zB (zA rfl) zK) rfl zn) (QF r 0 (by lia))) (zA rfl) C) (yt rfl H rfl)) ?_;refine zN (zDx e) (zS (yP (zT (zA rfl) (Jd (zB (zA rfl) zK) rfl zn) (QF r Z (by lia))) rfl)))
 have c:(yu n).length=n:=by simp[yu]
 rw[c,zero_add]at I;obtain⟨r,b,t,w,y,S,L,h2,M,h4,_,_,_⟩:=I;have g:t=[]:=by
  have:=wW m _ t (mem_filter.mp (mem_of_getElem? M)).1;rw[Nat.sub_self]at this;exact length_eq_zero_iff.mp this
 subst g;rw[append_nil]at h4;subst h4;exact yj (zN (wR (yC (F:=zX) rfl (zA rfl) x_c (zT (yC (F:=yx) rfl (zA rfl) (zA rfl) (zA rfl) (zEG h)) x_c rfl) (jx _ 0 _ rfl inr))) (zN (yP (Jd zK rfl Yd) rfl) (zN (yP (zA rfl) rfl) (zN (zHM (tg:=.n 6) (i_Rv (j:=(n:Int)) (zB (zA rfl) zK) rfl ⟨by lia,by lia⟩) (by rw[Int.toNat_natCast];exact f)) (zS (yk (zA rfl))))))) rfl
def zHb(ds:Ls D)(t:Nat)(h:t<=ds.length):vb ds none (some (t:Int))=ds.take t:=by
 unfold vb;have L:HT.sIx ds.length 0 none=0:=rfl;rw[HT.sIx_nat,L];simp[Nat.min_eq_left h]
def sl_tN(t:Ls Nat)(j:Nat)(h:j<=t.length):slD (tN t) none (some (j:Int))=some (.v (tN (t.take j))):=by
 dsimp[slD];rw[zHb _ _ (by rw[jJ];exact h)];simp[N,map_take]
def rkl(m k:Nat):Ls Nat->Ls Nat->Ls Nat
 |_,[]=>[]|p,x::t=>(List.range x).map (λy=>wy m k (p++[y]) t.length)++rkl m k (p++[x]) t
def rk(m k:Nat):Ls Nat->Ls Nat->Nat
 |_,[]=>0|p,x::t=>((List.range x).map λy=>wy m k (p++[y]) t.length).sum+rk m k (p++[x]) t
theorem zEI(m k:Nat):∀t p,(rkl m k p t).sum=rk m k p t
 | [],_=>rfl|x::t,p=>by dsimp[rkl,rk,sum_append,zEI m k t]
abbrev rkE:Ex:=(.call 0 (.ev (.x 3) (.ev (.x 4) (.ev (.bin .add (.sl (.x 5) .oN (.oS (.x 0))) (.t (.cons (.x 2) .nil))) (.ev (.bin .sub (.bin .sub (.cB .len (.cons (.x 5) .nil)) (.x 0)) (.c (.int 1))) .nil)))))
def rk_el{m n k:Nat}(h:Od m n k){T p t:Ls Nat}{x:Nat}(e:T=p++x::t)(X:T.length<=20)(G:∀y∈p,y<m){y:Nat}(O:y<m):dE ya rkE [.v (.int (p.length:Nat)),qI x,qI y,qI m,qI k,.v (tN T)]=.ok (.v (.int ((wy m k (p++[y]) t.length:Nat):Int)),[.v (.int (p.length:Nat)),qI x,qI y,qI m,qI k,.v (tN T)]):=by
 have hl:T.length=p.length+(t.length+1):=by simp[e]
 have g:=sl_tN T p.length (by lia);rw[show T.take p.length=p by rw[e];exact List.take_left]at g;have o:zCb [tN T]=some (.v (.int ((p.length+(t.length+1):Nat):Int))):=by dsimp[zCb,jJ,hl]
 have l:va (.int ((p.length+(t.length+1):Nat):Int)) (.int (p.length:Nat))=some (.v (.int ((t.length+1:Nat):Int))):=zHN (by lia);have Y:va (.int ((t.length+1:Nat):Int)) (.int 1)=some (.v (.int ((t.length:Nat):Int))):=zHN (b:=1) rfl;exact yQ (F:=jH) rfl (zA rfl) (zA rfl) (zT (zF6 (zA rfl) o_N (o_S (zA rfl)) g) (Jd (zB (zA rfl) zK) rfl zn) (QF p y (by lia))) (zT (zT (YK (zB (zA rfl) zK) o) (zA rfl) l) x_c Y) (zBF h.m h.k (by lia) (by simp;lia) (ZC G O))
theorem rk_in{fs:Ls FI}{el:_}{a b:D}{V:Ls DV.Slot}(g:Nat->Nat):∀(c z:Nat) (Y:DV.Slot) (u:Ls D),zy Y=true->u.length+c<=cap->(∀y,z<=y->y<z+c->dE fs el (.v a::.v b::.v (.int (y:Nat))::V)=.ok (.v (.int (g y:Nat)),.v a::.v b::.v (.int (y:Nat))::V)) ->
  ∃v,zy v=true/\jl (gN 2) wC (ma1 (dE fs el)) (DV.zE (z:Nat) c) (.v a::.v b::Y::V) u=.ok (u++N ((range' z c).map g),.v a::.v b::v::V)
 |0,z,Y,u,S,Z,h=>⟨Y,S,by simp[DV.zE,jl,N]⟩
 |c+1,z,Y,u,S,Z,h=>by
  have L:=h z (by lia) (by lia);have I:gN 2 (.int (z:Nat)) (.v a::.v b::Y::V)=.ok (.v a::.v b::.v (.int (z:Nat))::V):=by cases Y<;>first|rfl|(cases S)
  obtain⟨H,ht,f⟩:=rk_in g c (z+1) (.v (.int (z:Nat))) (u++[.int (g z:Nat)]) rfl (by simp;lia) λy L h2=>h y (by lia) (by lia)
  refine⟨H,ht,?_⟩;have hl:u.length<cap:=by lia
  have e:((z:Nat):Int)+1=((z+1:Nat):Int):=by lia
  dsimp[DV.zE,jl,I,wC,ma1,L,e];rw[if_pos hl];dsimp only[R.d];rw[f];simp[N,range'_succ]
def zGI{fs:Ls FI}{E E1 a:zR}{nl:Nat}{xs ys:Ls Str}{caps:Ls Nat}{it j el:_}{t M:Tg}{ds vs L:Ls D}(W:dI fs it E=.ok (ds,E1))(Q:YS E1 caps=.ok (vs.map AR.tmp))(f:jl t.m wC (maL (dI fs j) M.m wC (ma1 (dE fs el))) ds (replicate nl .e++vs.map Slot.v) []=.ok (L,a)):dE fs (.comp2 nl xs ys caps it t j M el) E=.ok (.w L,E1):=by
 dsimp[zFy];refine Qt ?_;dsimp[JG,W,Q,uc,f];rw[ud vs _ _ _ (by rw[length_drop,zb];simp)]
def zBj{tg:MG}{tt:MT}{n:MC (Ls D)}{d:D}{ds u e:Ls D}{E E1 x:zR}{res:Out (Ls D×zR)}(L:tg d E=.ok E1)(Y:tt E1=.ok (true,E1))(M:n E1 u=.ok (e,x))(h:jl tg tt n ds x e=res):jl tg tt n (d::ds) E u=res:=by
 dsimp[jl,L,Y,M,h]
def maL_ok{mi:MI}{tg:MG}{tt:MT}{n:MC (Ls D)}{ds u:Ls D}{E E1:zR}{res:Out (Ls D×zR)}(h:mi E=.ok (ds,E1))(Y:jl tg tt n ds E1 u=res):maL mi tg tt n E u=res:=by
 dsimp[maL,h,Y]
def rk_out{m n k:Nat}(h:Od m n k){T:Ls Nat}(X:T.length<=20):∀(t p:Ls Nat) (c l Y:DV.Slot) (u:Ls D),T=p++t->(∀y∈p,y<m)->(∀y∈t,y<m)->zy c=true->zy l=true->zy Y=true->u.length+t.length*m<=cap ->
  ∃g H v,jl (gT [0,1]) wC (maL (dI ya (.iR1 (.cons (.x 1) .nil))) (gN 2) wC (ma1 (dE ya rkE))) (zBY p.length (N t)) (c::l::Y::[qI m,qI k,.v (tN T)]) u=.ok (u++N (rkl m k p t),[g,H,v,qI m,qI k,.v (tN T)]):=by
 intro t
 induction t with
 |nil=>exact λp c l Y u e G ht J L h2 Z=>⟨c,l,Y,by simp[N,zBY,jl,rkl]⟩
 |cons x t I =>
  intro p c l Y u e G ht J L h2 Z;have w:=ht x qE;have K:=h.m;have q:gT [0,1] (.t [.int (p.length:Nat),.int (x:Nat)]) ([c,l]++(Y::[qI m,qI k,.v (tN T)]))=.ok ([.v (.int (p.length:Nat)),qI x]++(Y::[qI m,qI k,.v (tN T)])):=zHF rfl (λs S=>by
   rcases mem_cons.mp S with rfl|S
   ·exact J
   ·rcases mem_cons.mp S with rfl|S
    ·exact L
    ·cases S)
  have P:u.length+(t.length*m+m)<=cap:=by rw[length_cons,succ_mul]at Z;exact Z
  obtain⟨o,z,f⟩:=rk_in (fs:=ya) (el:=rkE) (a:=.int (p.length:Nat)) (b:=.int (x:Nat)) (V:=[qI m,qI k,.v (tN T)]) (λy=>wy m k (p++[y]) t.length) x 0 Y u h2 (by lia) λy _ O=>rk_el h e X G (by lia)
  obtain⟨g,H,v,i⟩:=I (p++[x]) (.v (.int (p.length:Nat))) (.v (.int (x:Nat))) o (u++N ((range' 0 x).map λy=>wy m k (p++[y]) t.length)) (by simp[e]) (ZC G w) (λy O=>ht y (qD _ O)) rfl rfl z (by rw[length_append,jJ,length_map,List.length_range'];lia);refine⟨g,H,v,?_⟩;have r:dI ya (.iR1 (.cons (.x 1) .nil)) [.v (.int (p.length:Nat)),qI x,Y,qI m,qI k,.v (tN T)]=.ok (DV.zE 0 x,[.v (.int (p.length:Nat)),qI x,Y,qI m,qI k,.v (tN T)]):=i_R1 (j:=(x:Int)) (zB (zA rfl) zK) rfl ⟨by lia,by lia⟩;rw[append_assoc,show N ((range' 0 x).map λy=>wy m k (p++[y]) t.length)++N (rkl m k (p++[x]) t)=N (rkl m k p (x::t))by simp[rkl,N,range_eq_range'],show(p++[x]).length=p.length+1 by simp]at i;exact zBj (d:=.t [.int (p.length:Nat),.int (x:Nat)]) q rfl (maL_ok r f) i
def QH{m n k:Nat}(h:Od m n k){T:Ls Nat}(X:T.length<=20)(V:∀y∈T,y<m)(t:fr k T=true):zO [qI m,qI k,.v (tN T)]=.ok (.v (.int ((rk m k [] T:Nat):Int)),O3):=by
 have K:=h.m;obtain⟨g,H,c,f⟩:=rk_out h X T [] .e .e .e [] rfl (λy h=>by cases h) V rfl rfl rfl (by simp[cap];have:=Nat.mul_le_mul X K.2;lia);have a:dE ya (.comp2 3 ["at","sign","smaller"] ["m","k","row"] [0,1,2] (.iE true (.cons (.x 2) .nil)) (.t [0,1]) (.iR1 (.cons (.x 1) .nil)) (.n 2) rkE) [qI m,qI k,.v (tN T)]=.ok (.w (N (rkl m k [] T)),[qI m,qI k,.v (tN T)]):=by
  exact zGI (vs:=[.int (m:Nat),.int (k:Nat),tN T]) (i_E (zB (zA rfl) zK) rfl) rfl f
 have v:=e_rgo (tN T) (okD_N (by lia)) m;rw[rg_N K.2 X V]at v;have u:=W2 K.2 X V;have r:geD (.int ((bst T:Nat):Int)) (.int (k:Nat))=some (.v (.bl false)):=by
  rw[zBE,decide_eq_false];dsimp[fr,decide_eq_true_eq]at t;lia
 have G:=ul (rkl m k [] T);rw[zEI]at G;exact yj (zN (wR (zr (F:=zm) rfl (zA rfl) (jj _ rfl (zAG K.1 K.2)))) (zN (wR (zr (F:=zL) rfl (zA rfl) (uz h.k))) (zN (jV (G8 (Je (t_E (uh (F:=yg) rfl (zA rfl) (zA rfl) v)) rfl) (t_E (zj (zr (F:=yK) rfl (zA rfl) u) (zA rfl) r))) jW) (zS (yk (YK (zB a zK) G)))))) rfl
def wy_zero(m k:Nat)(r:Ls Nat):wy m k r 0=if fr k r=true then 1 else 0:=by
 show(([[]]:Ls (Ls Nat)).filter λt=>fr k (r++t)).length=_
 by_cases h:fr k r=true<;>simp[h]
def Tl_at(m k:Nat)(r:Ls Nat)(l:Nat)(t:Ls Nat):∀j x a,(Tl m k r l j x)[a]?=some t->∃y o b,t=y::o/\x<=y/\y<x+j/\(Qr m k (r++[y]) l)[b]?=some o/\a=((range' x (y-x)).map λz=>wy m k (r++[z]) l).sum+b:=by
 intro j
 induction j with
 |zero=>intro x a h;rw[<- ZB]at h;simp at h
 |succ j I =>
  intro x a h;have e:Tl m k r l (j+1) x=(Qr m k (r++[x]) l).map (x::·)++Tl m k r l j (x+1):=by
   rw[<- ZB,<- ZB,range'_succ,flatMap_cons]
  rw[e]at h;have hl:((Qr m k (r++[x]) l).map (x::·)).length=wy m k (r++[x]) l:=by rw[length_map];rfl
  by_cases c:a<wy m k (r++[x]) l
  ·rw[getElem?_append_left (by lia),getElem?_map,Option.map_eq_some_iff]at h
   obtain⟨o,L,rfl⟩:=h;exact⟨x,o,a,rfl,le_refl _,by lia,L,by simp⟩
  ·rw[getElem?_append_right (by lia),hl]at h
   obtain⟨y,o,b,L,h2,M,h4,h5⟩:=I (x+1) _ h;refine⟨y,o,b,L,by lia,by lia,h4,?_⟩;rw[show y-x=(y-(x+1))+1 by lia,range'_succ,map_cons,sum_cons]
   lia
def rk_at(m k:Nat):∀(l:Nat) (r t:Ls Nat) (a:Nat),(Qr m k r l)[a]?=some t->rk m k r t=a:=by
 intro l
 induction l with
 |zero =>
  intro r t a h;have P:=(qG.mp h).1;have hl:(Qr m k r 0).length=wy m k r 0:=rfl;rw[hl,wy_zero]at P;have g:t=[]:=length_eq_zero_iff.mp (wW m 0 t (mem_filter.mp (mem_of_getElem? h)).1);subst g;show 0=a;split at P<;>lia
 |succ l I =>
  intro r t a h;rw[zEH]at h;obtain⟨y,o,b,rfl,_,M,h4,h5⟩:=Tl_at m k r l t m 0 a h;have hl:o.length=l:=wW m l o (mem_filter.mp (mem_of_getElem? h4)).1;show((List.range y).map λz=>wy m k (r++[z]) o.length).sum+rk m k (r++[y]) o=a;rw[I _ _ _ h4,hl,range_eq_range',h5,Nat.sub_zero]
structure Fo(m n k a:Nat)(T:List Nat):Prop where
 at_:(Fr m n k)[a]?=some T
 len:T.length=n
 low:∀x∈T,x<m
 fr:fr k T=true
 rk:rk m k [] T=a
 lt:a<wy m k [] n
def zGJ{m n k a:Nat}(P:a<wy m k [] n):∃T,Fo m n k a T:=by
 have hl:a<(Fr m n k).length:=P;have e:(Fr m n k)[a]?=some (Fr m n k)[a]:=getElem?_eq_getElem hl;have K:=mem_filter.mp (mem_of_getElem? e);exact⟨_,e,wW m n _ K.1,zAD m n _ K.1,K.2,rk_at m k n [] _ a e,P⟩
def zGK(r:Ls Nat):zCb [tN r]=some (.v (.int (r.length:Nat))):=by dsimp[zCb,jJ]
def zEJ{m n k a:Nat}(h:Od m n k){T e:Ls Nat}(X:Fo m n k a T)(c:Fo m n k (a+1) e):yb [qI m,qI k,.v (tN T)]=.ok (.v (tN e),O3):=by
 have D:=h.n;have v:=QH h (by have:=X.len;lia) X.low X.fr;rw[X.rk]at v;have o:=zGK T;rw[X.len]at o;have g:eqG (.int ((a+1:Nat):Int)) (.int ((wy m k [] n:Nat):Int))=some (.v (.bl false)):=by
  rw[QC,decide_eq_false (by have:=c.lt;lia)]
 exact yj (zN (yP (zT (yC (F:=zO) rfl (zA rfl) (zA rfl) (zA rfl) v) x_c (jY a 1)) rfl) (zN (jV (t_E (zj (zA rfl) (yC (F:=yx) rfl (zA rfl) (YK (zB (zA rfl) zK) o) (zA rfl) (zEG h)) g)) jW) (zS (yk (yQ (F:=jU) rfl (zA rfl) (YK (zB (zA rfl) zK) o) (zA rfl) (zA rfl) (e_nth h c.at_)))))) rfl
abbrev cnt(m n k:Nat)(p:Ls Nat):Ls Nat:=(List.range m).map λy=>wy m k (p++[y]) (n-p.length-1)
end My
namespace My
open PySem L2 DV SM
end My
namespace My
open PySem L2 DV
end My
namespace My
open PySem L2 DV SM
end My
namespace SM
end SM
namespace My
open PySem L2 DV SM
namespace DS
variable{die:Ls Nat}{s:Nat}
end DS
end My
namespace My
open PySem L2 DV RM
end My
namespace My
open PySem L2 DV SM
end My
namespace My
open PySem L2 DV SM RM
end My
namespace My
open PySem L2 DV SM
section
variable{m:Nat}(hm:2<=m/\m<=3)
include hm
end
end My
namespace My
open PySem L2 DV SM RM
def zBG(d:D)(z W:Int)(h:isFn d=false)(J:Ju z W d=false):zX [.v d,.v (.int z),.v (.int W)]=.y ⟨"NoNumber",true,[]⟩ O3:=by
 have e:=jX d z W h;rw[J]at e;exact Zk (zS (JJ (Je (t_E (yC (F:=zg) rfl (zA rfl) (zA rfl) (zA rfl) e)) rfl) (zS Q6))) rfl
def n_signs(d:D)(h:isFn d=false)(J:Ju 2 3 d=false):zm [.v d]=.y ⟨"NoNumber",false,[]⟩ O1 :=
 Zk (zS (ui (x_cX3 (F:=zX) rfl (zA rfl) zEc zEc (zBG d 2 3 h J)))) rfl
def zGL:yE [.v (.exn "NoRow" [])]=.ok (.v (.str "row"),[.e]):=rfl
def Z8:yE [.v (.exn "NoNumber" [])]=.ok (.v (.str "number"),[.e]):=rfl
def zEK{m n k:Nat}(K:m<=3)(C:1<=k/\k<=100){r:Ls Nat}(p:r.length<=100)(t:fr k r=true){u:Ls (Ls Nat)}(P:u.length<=10000)(s3 s4 y S:DV.Slot)(z:zy y=true)(I:zy S=true) :
  ∃x a,DV.ZD (gN 7) (dB yc JA) (DV.zE 0 m) [qI m,qI n,qI k,s3,s4,.w (TL u),.v (tN r),y,S]=.ok (.nx,[qI m,qI n,qI k,s3,s4,.w (TL (u++(more m r).filter (fr k))),.v (tN r),x,a])/\zy x=true/\zy a=true:=by
 obtain⟨E',l,x,a,X,H,g⟩:=yG (tg:=gN 7) (body:=dB yc JA) (λi E=>∃x a,E=[qI m,qI n,qI k,s3,s4,.w (TL (u++(more i r).filter (fr k))),.v (tN r),x,a]/\zy x=true/\zy a=true) (DV.zE 0 m) 0 [qI m,qI n,qI k,s3,s4,.w (TL u),.v (tN r),y,S] ⟨y,S,by simp[more],z,I⟩ (λi d q E ⟨x,a,X,H,g⟩=>by
  obtain⟨W,rfl⟩:=jb _ _ _ _ q;rw[zero_add]at X ⊢;rw[show(0:Int)+(i:Int)=(i:Int)by lia];have c:more (i+1) r=more i r++[r++[i]]:=by simp[more,range_succ]
  refine⟨[qI m,qI n,qI k,s3,s4,.w (TL (u++(more i r).filter (fr k))),.v (tN r),qI i,a],[qI m,qI n,qI k,s3,s4,.w (TL (u++(more (i+1) r).filter (fr k))),.v (tN r),qI i,.v (tN (r++[i]))],?_,?_,_,_,rfl,rfl,rfl⟩
  ·subst X;cases x<;>first|rfl|(cases H)
  ·have T:=t_free (fs:=yc) (m:=m) (n:=n) C p t i (s3:=s3) (s4:=s4) (s5:=.w (TL (u++(more i r).filter (fr k)))) (s6:=.v (tN r))
   rw[c,filter_append,<- append_assoc];refine zN (yP (zT (zA rfl) (Jd (zB (zA rfl) zK) rfl zn) (QF r i (by lia))) (yt rfl g rfl)) (zS ?_);cases h:fr k (r++[i])
   ·rw[h]at T
    have:[r++[i]].filter (fr k)=[]:=by simp[h]
    rw[this,append_nil];exact jV T jW
   ·rw[h]at T
    have:[r++[i]].filter (fr k)=[r++[i]]:=by simp[h]
    rw[this,TL_app (_++_)];have e:(more i r).length=i:=by simp[more]
    have:=List.length_filter_le (fr k) (more i r);exact JJ T (zS (s_app rfl (zA rfl) rfl (by rw[W0,length_append];dsimp[cap];lia) rfl)))
 rw[jF,zero_add]at X;exact⟨x,a,by rw[l,X],H,g⟩
def zEL{m n k:Nat}(K:m<=3)(C:1<=k/\k<=100){ls:Ls (Ls Nat)}(c:ls.length<=1000)(p:∀r∈ls,r.length<=100)(t:∀r∈ls,fr k r=true)(s3 s4 s6 y S:DV.Slot)(G:zy s6=true)(z:zy y=true)(I:zy S=true) :
  ∃e x a,DV.ZD (gN 6) (dB yc JB) (TL ls) [qI m,qI n,qI k,s3,s4,.w [],s6,y,S]=.ok (.nx,[qI m,qI n,qI k,s3,s4,.w (TL ((ls.flatMap (more m)).filter (fr k))),e,x,a])/\zy e=true/\zy x=true/\zy a=true:=by
 obtain⟨E',l,e,x,a,X,L,H,g⟩:=yG (tg:=gN 6) (body:=dB yc JB) (λi E=>∃e x a,E=[qI m,qI n,qI k,s3,s4,.w (TL (((ls.take i).flatMap (more m)).filter (fr k))),e,x,a]/\zy e=true/\zy x=true/\zy a=true) (TL ls) 0 [qI m,qI n,qI k,s3,s4,.w [],s6,y,S] ⟨s6,y,S,rfl,G,z,I⟩ (λi d q E ⟨e,x,a,X,L,H,g⟩=>by
  rw[zero_add]at X ⊢;obtain⟨r,v⟩:∃r,ls[i]?=some r:=by
   have:i<ls.length:=by
    have:=(qG.mp q).1
    rwa [W0]at this
   exact⟨_,getElem?_eq_getElem this⟩
  have o:d=.t (N r):=by
   have:(TL ls)[i]?=some (.t (N r)):=by simp[TL,v]
   rw[this]at q;exact(qJ q).symm
  subst o;have h:=mem_of_getElem? v;have w:(((ls.take i).flatMap (more m)).filter (fr k)).length<=10000:=by
   refine le_trans (List.length_filter_le _ _) ?_;rw[uo];have:(ls.take i).length<=1000:=by simp;lia
   have:=Nat.mul_le_mul this K
   lia
  obtain⟨O,J,f,u,D⟩:=zEK (n:=n) K C (p r h) (t r h) w s3 s4 x a H g;rw[<- zEE v]at f;refine⟨[qI m,qI n,qI k,s3,s4,.w (TL (((ls.take i).flatMap (more m)).filter (fr k))),.v (tN r),x,a],[qI m,qI n,qI k,s3,s4,.w (TL (((ls.take (i+1)).flatMap (more m)).filter (fr k))),.v (tN r),O,J],?_,?_,_,_,_,rfl,rfl,u,D⟩
  ·subst X;cases e<;>first|rfl|(cases L)
  ·exact zS (JD (j:=(m:Int)) (zB (zA rfl) zK) rfl ⟨by lia,by lia⟩ (by rw[Int.toNat_natCast];exact f)))
 rw[W0,zero_add,take_length]at X;exact⟨e,x,a,by rw[l,X],L,H,g⟩
def zBk{m n k:Nat}(K:2<=m/\m<=3)(D:n<7)(C:1<=k/\k<=100):JC [qI m,qI n,qI k]=.ok (.v (.l (TL (Fr m n k))),O3):=by
 have hz:fr k []=true:=decide_eq_true (by show 0<k;lia);have J:Fr m 0 k=[[]]:=by
  show([[]]:Ls (Ls Nat)).filter (fr k)=[[]]
  rw[filter_cons,hz];rfl
 obtain⟨E',l,t,V,Q,w,y,S,X,M,h4,h5,G,z,I⟩:=yG (tg:=gN 4) (body:=dB yc Y6) (λi E=>∃t V Q w y S,E=[qI m,qI n,qI k,t,V,Q,w,y,S]/\(t=.w (TL (Fr m i k))\/t=.v (.l (TL (Fr m i k))))/\zy V=true/\zy Q=true/\zy w=true/\zy y=true/\zy S=true) (DV.zE 0 n) 0 [qI m,qI n,qI k,.w [.t []],.e,.e,.e,.e,.e] ⟨_,_,_,_,_,_,rfl,.inl (by rw[J];rfl),rfl,rfl,rfl,rfl,rfl⟩ (λi d q E ⟨t,V,Q,w,y,S,X,M,h4,h5,G,z,I⟩=>by
  obtain⟨W,rfl⟩:=jb _ _ _ _ q;rw[zero_add]at M ⊢;have hl:=zHZ (k:=k) K.2 (show i<7 by lia);obtain⟨e,x,a,f,L,H,g⟩:=zEL (n:=n) K.2 C (ls:=Fr m i k) (by lia) (λr p=>by rw[wW m i r (mem_filter.mp p).1];lia) (λr p=>(mem_filter.mp p).2) (.v (.l (TL (Fr m i k)))) (.v (.int (0+(i:Int)))) w y S G z I;rw[QG,<- wc]at f;refine⟨[qI m,qI n,qI k,t,.v (.int (0+(i:Int))),Q,w,y,S],[qI m,qI n,qI k,.v (.l (TL (Fr m (i+1) k))),.v (.int (0+(i:Int))),.v (.l (TL (Fr m (i+1) k))),e,x,a],?_,?_,_,_,_,_,_,_,rfl,.inr rfl,rfl,rfl,L,H,g⟩
  ·subst X;cases V<;>first|rfl|(cases h4)
  ·exact zN (yP (jw zK rfl Yd) (yt rfl h5 rfl)) (zN (zA0 (zHL M rfl rfl) rfl f) (zS (yP (vo rfl rfl) (yt rfl rfl rfl)))))
 rw[jF,zero_add]at M;subst X;exact yj (zN (yP (jw (zB (Jd zK rfl Yd) zK) rfl zn) rfl) (zN (JD (j:=(n:Int)) (zB (zA rfl) zK) rfl ⟨by lia,by lia⟩ (by rw[Int.toNat_natCast];exact l)) (zS (yk (zHL M rfl rfl))))) rfl
def put1(l:Ls Nat)(j x:Nat):Ls Nat:=l.set j (l.getD j 0+x)
def cs1(m k:Nat)(c:Ls Nat)(i:Nat)(l:Ls Nat):Ls Nat:=put1 (if i+1<k/\0<i then put1 l (i+1) (c.getD i 0)else l) 1 (c.getD i 0*if i=0 then m else m-1)
def vN(m k:Nat)(c:Ls Nat):Ls Nat:=(List.range k).foldl (λl i=>cs1 m k c i l) (replicate (k+1) 0)
def its{α:Type}(f:α->α):α->Nat->Ls α
 |x,0=>[x]|x,n+1=>x::its f (f x) n
def okk(m k:Nat):Bool:=((its (vN m k) ((replicate (k+1) 0).set 0 1) 20).map λc=>(c.take k).sum)==1::((its (stv m) (m::replicate (k-2) 0) 19).map List.sum)
def okk_all:∀m<2,∀k<19,okk (m+2) (k+2)=true:=by left
def ito{α:Type}(f:α->α)(x:α):Nat->α
 |0=>x|i+1=>f (ito f x i)
theorem zHc{α:Type}(f:α->α)(x:α):∀i,ito f (f x) i=ito f x (i+1)
 |0=>rfl|i+1=>congrArg f (zHc f x i)
theorem zAI{α:Type}(f:α->α):∀(n:Nat) (x:α) (i:Nat),i<=n->(its f x n)[i]?=some (ito f x i)
 |0,x,i,h=>by
  have:i=0:=by lia
  subst this;rfl
 |n+1,x,0,h=>rfl
 |n+1,x,i+1,h=>by
  show(its f (f x) n)[i]?=_
  rw[zAI f n (f x) i (by lia),zHc]
abbrev c0(k:Nat):Ls Nat:=(replicate (k+1) 0).set 0 1
def zBl{m n k:Nat}(K:2<=m/\m<=3)(D:n<=20)(C:2<=k/\k<=20):((ito (vN m k) (c0 k) n).take k).sum=wy m k [] n:=by
 have h:=okk_all (m-2) (by lia) (k-2) (by lia);rw[show m-2+2=m by lia,show k-2+2=k by lia]at h;have g:=congrArg (λl:Ls Nat=>l[n]?) (eq_of_beq h);dsimp[getElem?_map,zAI (vN m k) 20 _ n D,Option.map_some]at g;cases n with
 |zero =>
  rw[wy_A (by lia) (by lia)];exact qJ g
 |succ i =>
  rw[List.getElem?_cons_succ,getElem?_map,zAI (stv m) 19 _ i (by lia),Option.map_some]at g;rw[qJ g,<- uw C.1 (.inr (by lia))];congr 1
  clear h g D
  induction i with
  |zero =>
   rw[vecE (by lia) C.1 0];simp[ends,ito]
  |succ i I =>
   rw[ux C.1 (λx h=>by cases h) (.inr (by lia)),<- I];rfl
def GB(l:Ls Nat)(j x:Nat):(put1 l j x).length=l.length:=by simp[put1]
def cs1_len(m k:Nat)(c:Ls Nat)(i:Nat)(l:Ls Nat):(cs1 m k c i l).length=l.length:=by
 unfold cs1;rw[GB];split
 ·rw[GB]
 ·rfl
def at_N{l:Ls Nat}{j:Nat}(h:j<l.length):atI (N l) (j:Int)=some (.int ((l.getD j 0:Nat):Int)):=by
 refine zDv (N_get ?_);rw[getD_eq_getElem?_getD,getElem?_eq_getElem h];rfl
def x_ixA{fs:Ls FI}{E:zR}{i:Nat}{b:_}{s:DV.Slot}{ds:Ls D}{k:Int}{d:D}(S:s=.w ds\/s=.v (.l ds))(h:E[i]?=some s)(L:dE fs b E=.ok (.v (.int k),E))(V:atI ds k=some d):dE fs (.ixO i b) E=.ok (.v d,E):=by
 rcases S with rfl|rfl
 ·exact x_ixO h L V
 ·dsimp[YC,zAo,zFF,Jv,h,L,ixS,V,Bool.false_eq_true,if_false]
def zEM{m n k:Nat}(K:2<=m/\m<=3)(C:2<=k){c:Ls Nat}(hc:c.length=k+1){s3 s4:DV.Slot}(M:s3=.w (N c)\/s3=.v (.l (N c))){i:Nat}(hi:i<k){l:Ls Nat}(V:l.length=k+1):dB zQ yM [qI m,qI n,qI k,s3,s4,.w (N l),qI i]=.ok (.nx,[qI m,qI n,qI k,s3,s4,.w (N (cs1 m k c i l)),qI i]):=by
 unfold cs1;have O:=at_N (l:=c) (j:=i) (by lia);generalize aa:c.getD i 0=ci' at O ⊢;have t:ZG (.int (i:Nat)) (.int 1)=some (.v (.int ((i+1:Nat):Int))):=jY i 1;have u:ltD (.int ((i+1:Nat):Int)) (.int (k:Nat))=some (.v (.bl (decide (i+1<k)))):=zHP _ _;have Y:gtD (.int ((i:Nat):Int)) (.int 0)=some (.v (.bl (decide (0<i)))):=zAH _ 0;have H:∀e:Ls Nat,e.length=k+1->dB zQ (.o (.sIf (.tE (.cmp .gt (.x 2) (.c (.int 1)))) (.o (.sIx 5 (.c (.int 1)) (.bin .add (.ixO 5 (.c (.int 1))) (.bin .mul (.ixO 3 (.x 6)) (.ix (.l (.cons (.bin .sub (.x 0) (.c (.int 1))) (.cons (.x 0) .nil))) (.cB .int (.cons (.cmp .eq (.x 6) (.c (.int 0))) .nil))))))) .bNil)) [qI m,qI n,qI k,s3,s4,.w (N e),qI i]=.ok (.nx,[qI m,qI n,qI k,s3,s4,.w (N (put1 e 1 (ci'*if i=0 then m else m-1))),qI i]):=λe G=>by
  have I:gtD (.int ((k:Nat):Int)) (.int 1)=some (.v (.bl true)):=by
   rw[show(1:Int)=((1:Nat):Int)from rfl,zAH k 1,decide_eq_true (by lia)]
  have p:=at_N (l:=e) (j:=1) (by lia);have v:va (.int (m:Nat)) (.int 1)=some (.v (.int ((m-1:Nat):Int))):=ZA (b:=1) (by lia);have pick:∃z:Int,eqG (.int (i:Nat)) (.int 0)=some (.v (.bl (decide (i=0))))/\intF [.bl (decide (i=0))]=some (.v (.int z))/\atI [D.int ((m-1:Nat):Int),D.int (m:Nat)] z=some (D.int ((if i=0 then m else m-1:Nat):Int)):=by
   by_cases h:i=0
   ·subst h;exact⟨1,rfl,rfl,rfl⟩
   ·refine⟨0,QC i 0,?_,?_⟩
    ·rw[decide_eq_false h];rfl
    ·rw[if_neg h];rfl
  obtain⟨z,p1,g,W⟩:=pick;have S:(if i=0 then m else m-1)<=100000:=by split<;>lia
  generalize (if i=0 then m else m-1)=w at W S ⊢;have a:Yv (.int (ci':Nat)) (.int (w:Nat))=some (.v (.int ((ci'*w:Nat):Int))):=zBg _ _ S;have r:ZG (.int ((e.getD 1 0:Nat):Int)) (.int ((ci'*w:Nat):Int))=some (.v (.int ((e.getD 1 0+ci'*w:Nat):Int))):=jY _ _;have P:ixD (.l [D.int ((m-1:Nat):Int),D.int (m:Nat)]) (.int z)=some (.v (.int (w:Nat))):=by rw[zAA,W];rfl
  generalize X:([qI m,qI n,qI k,s3,s4,.w (N e),qI i]:zR)=E;have q:E[0]?=some (.v (.int (m:Nat))):=by rw[<- X];rfl
  have Z:E[2]?=some (.v (.int (k:Nat))):=by rw[<- X];rfl
  have J:E[3]?=some s3:=by rw[<- X];rfl
  have Q:E[5]?=some (.w (N e)):=by rw[<- X];rfl
  have y:E[6]?=some (.v (.int (i:Nat))):=by rw[<- X];rfl
  have ev:=zT (fs:=zQ) (o:=.add) (x_ixO (b:=.c (.int 1)) Q x_c p) (zT (o:=.mul) (x_ixA M J (zA y) O) (zDh (jw (zB (zT (o:=.sub) (zA q) (x_c (d:=.int 1)) v) (zB (zA q) zK)) (ds:=[D.int ((m-1:Nat):Int),D.int (m:Nat)]) rfl zDk) (YK (b:=.int) (rs:=[R.v (D.bl (decide (i=0)))]) (zB (zj (o:=.eq) (zA y) (x_c (d:=.int 0)) p1) zK) g) P) a) r;refine zS (JJ (t_E (zj (zA Z) x_c I)) (zS (W3 (k:=1) Q x_c (by rw[jJ];lia) ev Q ?_)));rw[<- X];unfold put1;rw[<- uy];rfl
 by_cases h:i+1<k/\0<i
 ·rw[if_pos h]
  have a2:=at_N (l:=l) (j:=i+1) (by lia);have T:dT zQ (.tAnd (.tE (.cmp .lt (.bin .add (.x 6) (.c (.int 1))) (.x 2))) (.tE (.cmp .gt (.x 6) (.c (.int 0))))) [qI m,qI n,qI k,s3,s4,.w (N l),qI i]=.ok (true,[qI m,qI n,qI k,s3,s4,.w (N l),qI i]) :=
   zA3 (t_E (zj (zT (zA (i:=6) rfl) x_c t) (zA rfl) (by rw[decide_eq_true h.1]at u;exact u))) (t_E (zj (zA rfl) x_c (by rw[decide_eq_true h.2]at Y;exact Y)))
  refine zN (JJ T ?_) (H _ (by rw[GB,V]));generalize X:([qI m,qI n,qI k,s3,s4,.w (N l),qI i]:zR)=E;have J:E[3]?=some s3:=by rw[<- X];rfl
  have Q:E[5]?=some (.w (N l)):=by rw[<- X];rfl
  have y:E[6]?=some (.v (.int (i:Nat))):=by rw[<- X];rfl
  have r:ZG (.int ((l.getD (i+1) 0:Nat):Int)) (.int (ci':Nat))=some (.v (.int ((l.getD (i+1) 0+ci':Nat):Int))):=jY _ _;have x:=zT (fs:=zQ) (o:=.add) (zA y) (x_c (d:=.int 1)) t;have ev:=zT (fs:=zQ) (o:=.add) (x_ixO Q x a2) (x_ixA M J (zA y) O) r;refine zS (W3 (k:=i+1) Q x (by rw[jJ];lia) ev Q ?_);rw[<- X];unfold put1;rw[<- uy];rfl
 ·rw[if_neg h]
  refine zN (jV (E1:=[qI m,qI n,qI k,s3,s4,.w (N l),qI i]) ?_ jW) (H _ V);by_cases L:i+1<k
  ·exact zA3 (t_E (zj (zT (zA rfl) x_c t) (zA rfl) (by rw[decide_eq_true L]at u;exact u))) (t_E (zj (zA rfl) x_c (by rw[decide_eq_false (by lia)]at Y;exact Y)))
  ·exact zDt (t_E (zj (zT (zA rfl) x_c t) (zA rfl) (by rw[decide_eq_false L]at u;exact u)))
def sl_N(l:Ls Nat)(t:Nat)(h:t<=l.length):slD (.l (N l)) none (some (t:Int))=some (.w (N (l.take t))):=by
 dsimp[slD];rw[zHb _ _ (by rw[jJ];exact h)];simp[N,map_take]
def GC(m k:Nat)(c:Ls Nat)(i:Nat):Ls Nat:=(List.range i).foldl (λl i=>cs1 m k c i l) (replicate (k+1) 0)
theorem W5(m k:Nat)(c:Ls Nat):∀i,(GC m k c i).length=k+1
 |0=>by simp[GC]
 |i+1=>by
  have:=W5 m k c i;unfold GC at this ⊢;rw[range_succ,List.foldl_append];show(cs1 m k c i _).length=_;rw[cs1_len,this]
def zBm(m k:Nat)(c:Ls Nat)(i:Nat):GC m k c (i+1)=cs1 m k c i (GC m k c i):=by
 unfold GC;rw[range_succ,List.foldl_append];rfl
def zEN(m k:Nat):∀i,(ito (vN m k) (c0 k) i).length=k+1
 |0=>by simp[ito,c0]|i+1=>W5 m k _ k
def zGM{m n k:Nat}(K:2<=m/\m<=3)(C:2<=k){c:Ls Nat}(Z:c.length=k+1){s3:DV.Slot}(s4 s6:DV.Slot)(M:s3=.w (N c)\/s3=.v (.l (N c)))(G:zy s6=true) :
  ∃e,DV.ZD (gN 6) (dB zQ yM) (DV.zE 0 k) [qI m,qI n,qI k,s3,s4,.w (N (replicate (k+1) 0)),s6]=.ok (.nx,[qI m,qI n,qI k,s3,s4,.w (N (vN m k c)),e])/\zy e=true:=by
 obtain⟨E',l,e,X,L⟩:=yG (tg:=gN 6) (body:=dB zQ yM) (λi E=>∃e,E=[qI m,qI n,qI k,s3,s4,.w (N (GC m k c i)),e]/\zy e=true) (DV.zE 0 k) 0 [qI m,qI n,qI k,s3,s4,.w (N (replicate (k+1) 0)),s6] ⟨s6,rfl,G⟩ (λi d q E ⟨e,X,L⟩=>by
  obtain⟨W,rfl⟩:=jb _ _ _ _ q;rw[zero_add]at X ⊢;rw[show(0:Int)+(i:Int)=(i:Int)by lia,zBm];refine⟨[qI m,qI n,qI k,s3,s4,.w (N (GC m k c i)),qI i],[qI m,qI n,qI k,s3,s4,.w (N (cs1 m k c i (GC m k c i))),qI i],?_,?_,_,rfl,rfl⟩
  ·subst X;cases e<;>first|rfl|(cases L)
  ·exact zEM K C Z M W (W5 m k c i))
 rw[jF,zero_add]at X;exact⟨e,by rw[l,X];rfl,L⟩
def GD{m n k:Nat}(K:2<=m/\m<=3)(D:n<=20)(C:2<=k/\k<=20):yF [qI m,qI n,qI k]=.ok (.v (.int ((wy m k [] n:Nat):Int)),O3):=by
 have a:Yv (.l [.int 0]) (.int ((k+1:Nat):Int))=some (.w (N (replicate (k+1) 0))):=by
  rw[Jt _ (k+1) (by lia),N_rep];rfl
 have r:ZG (.int (k:Nat)) (.int 1)=some (.v (.int ((k+1:Nat):Int))):=jY k 1;obtain⟨E',l,t,V,Q,w,X,M,h4,h5,G⟩:=yG (tg:=gN 4) (body:=dB zQ jp) (λi E=>∃t V Q w,E=[qI m,qI n,qI k,t,V,Q,w]/\(t=.w (N (ito (vN m k) (c0 k) i))\/t=.v (.l (N (ito (vN m k) (c0 k) i))))/\zy V=true/\zy Q=true/\zy w=true) (DV.zE 0 n) 0 [qI m,qI n,qI k,.w (N (c0 k)),.e,.e,.e] ⟨_,_,_,_,rfl,.inl rfl,rfl,rfl,rfl⟩ (λi d q E ⟨t,V,Q,w,X,M,h4,h5,G⟩=>by
  obtain⟨W,rfl⟩:=jb _ _ _ _ q;rw[zero_add]at M ⊢;obtain⟨e,f,L⟩:=zGM (n:=n) K C.1 (zEN m k i) (.v (.int (0+(i:Int)))) w M G;refine⟨[qI m,qI n,qI k,t,.v (.int (0+(i:Int))),Q,w],[qI m,qI n,qI k,.v (.l (N (ito (vN m k) (c0 k) (i+1)))),.v (.int (0+(i:Int))),.v (.l (N (ito (vN m k) (c0 k) (i+1)))),e],?_,?_,_,_,_,_,rfl,.inr rfl,rfl,rfl,L⟩
  ·subst X;cases V<;>first|rfl|(cases h4)
  ·exact zN (E1:=[qI m,qI n,qI k,t,.v (.int (0+(i:Int))),.w (N (replicate (k+1) 0)),w]) (yP (zT (jw (zB x_c zK) rfl zn) (zT (zA rfl) x_c r) a) (yt rfl h5 rfl)) (zN (JD (j:=(k:Int)) (zB (zA rfl) zK) rfl ⟨by lia,by lia⟩ (by rw[Int.toNat_natCast];exact f)) (zS (yP (vo rfl rfl) (yt rfl (by rcases M with rfl|rfl<;>rfl) rfl)))))
 rw[jF,zero_add]at M;subst X;have S:=zBl K D C;have hl:=zEN m k n;generalize ito (vN m k) (c0 k) n=c at M S hl;have h:=sl_N c k (by lia);have g:zFZ [.l (N (c.take k))]=some (.v (.int ((wy m k [] n:Nat):Int))):=by rw[ul,S]
 refine yj (zN (E1:=[qI m,qI n,qI k,.w (N (replicate (k+1) 0)),.e,.e,.e]) (yP (zT (jw (zB x_c zK) rfl zn) (zT (zA rfl) x_c r) a) rfl) (zN (E1:=[qI m,qI n,qI k,.w (N (c0 k)),.e,.e,.e]) (W3 (k:=0) rfl x_c (by rw[jJ];simp) x_c rfl ?_) (zN (JD (j:=(n:Int)) (zB (zA rfl) zK) rfl ⟨by lia,by lia⟩ (by rw[Int.toNat_natCast];exact l)) (zS (yk (YK (zB (zF6 (zHL M rfl rfl) o_N (o_S (zA rfl)) h) zK) g)))))) rfl;rw[<- uy];rfl
def Zo{m n k a:Nat}(h:Od m n k){T:Ls Nat}(X:Fo m n k a T)(c:a+1=wy m k [] n):yb [qI m,qI k,.v (tN T)]=.ok (.v .non,O3):=by
 have D:=h.n;have v:=QH h (by have:=X.len;lia) X.low X.fr;rw[X.rk]at v;have o:=zGK T;rw[X.len]at o;have g:eqG (.int ((a+1:Nat):Int)) (.int ((wy m k [] n:Nat):Int))=some (.v (.bl true)):=by
  rw[QC,decide_eq_true c]
 exact yj (zN (yP (zT (yC (F:=zO) rfl (zA rfl) (zA rfl) (zA rfl) v) x_c (jY a 1)) rfl) (vL (JJ (t_E (zj (zA rfl) (yC (F:=yx) rfl (zA rfl) (YK (zB (zA rfl) zK) o) (zA rfl) (zEG h)) g)) (zS (yk x_c))))) rfl
def x_binXl{fs:Ls FI}{E E1:zR}{op:_}{a b:_}{x:Exn}(h:dE fs a E=.y x E1):dE fs (.bin op a b) E=.y x E1:=by dsimp[YB,Jk,h]
def next_X{a b c:D}{z:Str}{y:Bool}(h:zO [.v a,.v b,.v c]=.y ⟨z,y,[]⟩ O3):yb [.v a,.v b,.v c]=.y ⟨z,false,[]⟩ O3 :=
 Zk (zDj (s_setX (x_binXl (x_cX3 (F:=zO) rfl (zA rfl) (zA rfl) (zA rfl) h)))) rfl
def zBn{d b c:D}(h:isFn d=false)(J:Ju 2 3 d=false):zO [.v d,.v b,.v c]=.y ⟨"NoNumber",false,[]⟩ O3 :=
 Zk (zDj (ui (x_cX1 (F:=zm) rfl (zA rfl) (n_signs d h J)))) rfl
def Yh{m:Nat}(K:2<=m/\m<=3){d c:D}(h:isFn d=false)(J:Ju 1 20 d=false):zO [qI m,.v d,.v c]=.y ⟨"NoNumber",false,[]⟩ O3:=by
 have e:zL [.v d]=.y ⟨"NoNumber",false,[]⟩ O1:=Zk (zS (ui (x_cX3 (F:=zX) rfl (zA rfl) x_c zEc (zBG d 1 20 h J)))) rfl;exact Zk (zN (wR (zr (F:=zm) rfl (zA rfl) (jj _ rfl (zAG K.1 K.2)))) (zDj (ui (x_cX1 (F:=zL) rfl (zA rfl) e)))) rfl
def zBH{m k:Nat}(K:2<=m/\m<=3)(C:1<=k/\k<=20){d:D}(h:okD d)(J:rgB m d=false):zO [qI m,qI k,.v d]=.y ⟨"NoRow",true,[]⟩ O3:=by
 have e:=e_rgo d h m;rw[J]at e;exact Zk (zN (wR (zr (F:=zm) rfl (zA rfl) (jj _ rfl (zAG K.1 K.2)))) (zN (wR (zr (F:=zL) rfl (zA rfl) (uz C))) (zDj (JJ (zDi (Je (t_E (uh (F:=yg) rfl (zA rfl) (zA rfl) e)) rfl)) (zS Q6))))) rfl
def zGN{m k:Nat}(K:2<=m/\m<=3)(C:1<=k/\k<=20){T:Ls Nat}(X:T.length<=20)(V:∀y∈T,y<m)(t:fr k T=false):zO [qI m,qI k,.v (tN T)]=.y ⟨"NoRow",true,[]⟩ O3:=by
 have v:=e_rgo (tN T) (okD_N (by lia)) m;rw[rg_N K.2 X V]at v;have u:=W2 K.2 X V;have r:geD (.int ((bst T:Nat):Int)) (.int (k:Nat))=some (.v (.bl true)):=by
  rw[zBE,decide_eq_true];dsimp[fr,decide_eq_false_iff_not]at t;lia
 exact Zk (zN (wR (zr (F:=zm) rfl (zA rfl) (jj _ rfl (zAG K.1 K.2)))) (zN (wR (zr (F:=zL) rfl (zA rfl) (uz C))) (zDj (JJ (G8 (Je (t_E (uh (F:=yg) rfl (zA rfl) (zA rfl) v)) rfl) (t_E (zj (zr (F:=yK) rfl (zA rfl) u) (zA rfl) r))) (zS Q6))))) rfl
def told0{a b c:D}{r:R}(h:zO [.v a,.v b,.v c]=.ok (r,O3)):zP [.v (.int 0),.v a,.v b,.v c]=.ok (r,O4) :=
 yj (E1:=[.v (.int 0),.v a,.v b,.v c,.e]) (zS (zHI (zS (yk (zA2 (x:="free_rank") (F:=zO) rfl rfl (zA rfl) (zA rfl) (zA rfl) h))))) rfl
def zGO{a b c:D}{r:R}(h:yb [.v a,.v b,.v c]=.ok (r,O3)):zP [.v (.int 1),.v a,.v b,.v c]=.ok (r,O4) :=
 yj (E1:=[.v (.int 1),.v a,.v b,.v c,.e]) (zS (zHI (zS (yk (zA2 (x:="free_next") (F:=yb) rfl rfl (zA rfl) (zA rfl) (zA rfl) h))))) rfl
def zEO{a b c:D}{z t:Str}{y:Bool}(h:zO [.v a,.v b,.v c]=.y ⟨z,y,[]⟩ O3)(P:cl_.contains z=true)(C:yE [.v (.exn z [])]=.ok (.v (.str t),[.e]))(w:Nat)(R:w<2) :
  zP [qI w,.v a,.v b,.v c]=.ok (.v (.str t),O4):=by
 match w,R with
 |0,_=>exact yj (E1:=[.v (.int 0),.v a,.v b,.v c,.v (.exn z [])]) (zS (zHJ (E1:=[.v (.int 0),.v a,.v b,.v c,.e]) (zS (zHH (QA (x:="free_rank") (F:=zO) rfl rfl (zA rfl) (zA rfl) (zA rfl) h))) P rfl (zS (yk (zr (F:=yE) rfl (zA rfl) C))))) rfl|1,_=>exact yj (E1:=[.v (.int 1),.v a,.v b,.v c,.v (.exn z [])]) (zS (zHJ (E1:=[.v (.int 1),.v a,.v b,.v c,.e]) (zS (zHH (QA (x:="free_next") (F:=yb) rfl rfl (zA rfl) (zA rfl) (zA rfl) (next_X h)))) P rfl (zS (yk (zr (F:=yE) rfl (zA rfl) C))))) rfl
def Win(k:Nat)(r:Ls Nat)(i:Nat):Prop:=(r.drop i).take k=replicate k (r.getD i 0)
instance (k:Nat) (r:Ls Nat) (i:Nat):Decidable (Win k r i):=inferInstanceAs (Decidable (_=_))
def zEP{k i:Nat}(r:Ls Nat)(x:Nat)(C:1<=k)(h:i+k<=r.length):Win k (r++[x]) i↔Win k r i:=by
 unfold Win;rw[List.drop_append_of_le_length (by lia),List.take_append_of_le_length (by simp;lia),getD_eq_getElem?_getD,getElem?_append_left (by lia),<- getD_eq_getElem?_getD]
theorem zEQ{k:Nat}(C:1<=k):∀(n:Nat) (r:Ls Nat),r.length=n->(k<=bst r↔∃i,i+k<=r.length/\Win k r i)
 |0,r,h=>by
  have:=length_eq_zero_iff.mp h;subst this;constructor
  ·intro h;exact absurd h (by show ¬k<=0;lia)
  ·rintro ⟨i,h,_⟩;simp at h;lia
 |n+1,r,h=>by
  obtain⟨T,x,rfl⟩:∃T x,r=T++[x]:=by
   rcases List.eq_nil_or_concat r with rfl|⟨T,x,rfl⟩
   ·cases h
   ·exact⟨T,x,List.concat_eq_append ..⟩
  have hl:T.length=n:=by simp at h;exact h
  have I:=zEQ C n T hl;have o:=zED T x k C;have l:(T++[x]).length=n+1:=h;rw[uv];constructor
  ·intro K
   rcases(show k<=bst T\/k<=en (T++[x])by lia)with q|q
   ·obtain⟨i,L,h2⟩:=I.mp q
    exact⟨i,by lia,(zEP T x C L).mpr h2⟩
   ·have e:=o.mp q
    have u:=congrArg length e;rw[length_drop,length_replicate,l]at u;refine⟨n+1-k,by lia,?_⟩;unfold Win;rw[l]at e;rw[e,List.take_of_length_le (by simp)];have:(T++[x]).getD (n+1-k) 0=x:=by
     have g:((T++[x]).drop (n+1-k))[0]?=some x:=by rw[e,List.getElem?_replicate,if_pos (by lia)]
     rw[List.getElem?_drop,Nat.add_zero]at g;rw[getD_eq_getElem?_getD,g];rfl
    rw[this]
  ·rintro ⟨i,L,h2⟩
   by_cases c:i+k<=T.length
   ·have:=I.mpr ⟨i,c,(zEP T x C c).mp h2⟩;lia
   ·have W:i=n+1-k:=by lia
    have:k<=en (T++[x]):=by
     refine o.mpr ?_;unfold Win at h2;rw[l,<- W];rw[List.take_of_length_le (by rw[length_drop,l];lia)]at h2;have g:=congrArg (·[k-1]?) h2;dsimp[List.getElem?_drop]at g;rw[List.getElem?_replicate,if_pos (by lia),show i+(k-1)=n by lia]at g;have R:(T++[x])[n]?=some x:=by rw[<- hl];simp
     rw[R]at g;rw[h2,<- qJ g]
    lia
def fr_win{k:Nat}(C:1<=k)(r:Ls Nat):fr k r=((List.range (r.length+1-k)).filter λi=>decide (Win k r i)).isEmpty:=by
 have w:=zEQ C r.length r rfl;unfold fr;rw[Bool.eq_iff_iff,decide_eq_true_eq,isEmpty_iff,filter_eq_nil_iff];constructor
 ·intro h i W
  have:=mem_range.mp W;dsimp[decide_eq_true_eq];intro q;have:=w.mpr ⟨i,by lia,q⟩;lia
 ·intro h
  refine Nat.lt_of_not_le λq=>?_
  obtain⟨i,L,h2⟩:=w.mp q;exact h i (mem_range.mpr (by lia)) (by exists h2)
def zGP(d:D)(h:isFn d=false):y6 [.v d]=.ok (.v (.bl (isW d)),[.e]):=by
 cases d<;>first|rfl|(cases h)
def eq_lN(a b:Ls Nat):eqG (.l (N a)) (.l (N b))=some (.v (.bl (decide (a=b)))):=by
 have e:eqF (.l (N a)) (.l (N b))=none:=rfl;have L:eqb 20 (.l (N a))=true:=by show(N a).all (eqb 19)=true;rw[all_eq_true];exact Yg a
 have h2:eqb 20 (.l (N b))=true:=by show(N b).all (eqb 19)=true;rw[all_eq_true];exact Yg b
 dsimp[eqG,e,zGs];rw[if_pos ⟨L,h2⟩];have d:deq (.l (N a)) (.l (N b))=deqs (N a) (N b):=by dsimp[deq]
 rw[d,vw];simp
def eq_tN(a b:Ls Nat):eqG (tN a) (tN b)=some (.v (.bl (decide (a=b)))):=by
 have e:eqF (tN a) (tN b)=none:=rfl;have L:eqb 20 (tN a)=true:=by show(N a).all (eqb 19)=true;rw[all_eq_true];exact Yg a
 have h2:eqb 20 (tN b)=true:=by show(N b).all (eqb 19)=true;rw[all_eq_true];exact Yg b
 dsimp[eqG,e,zGs];rw[if_pos ⟨L,h2⟩];have d:deq (tN a) (tN b)=deqs (N a) (N b):=by dsimp[deq]
 rw[d,vw];simp
def zHd(r:Ls Nat)(i j:Nat)(h:i<=j)(T:j<=r.length):slD (tN r) (some (i:Int)) (some (j:Int))=some (.v (tN ((r.drop i).take (j-i)))):=by
 show some (R.v (D.t (vb (N r) _ _)))=_
 congr 3
 unfold vb;rw[HT.sIx_nat,HT.sIx_nat,jJ,Nat.min_eq_left T,Nat.min_eq_left (le_trans h T)];simp[N,map_take,map_drop]
def natOf:D->Nat
 | .int i=>i.toNat|_=>0
abbrev isB(m:Nat):D->Bool:=Ju 0 ((m:Int)-1)
def zHe{m:Nat}{k:D}{ds:Ls D}(c:ds.length<=cap)(t:∀d∈ds,isFn d=false) :
  dE zz (.cB .all (.cons (.comp 1 ["_law_one"] ["_law_m"] [0] (.iT (.x 2)) (.n 0) .tTr (.and (.call 0 (.ev (.x 0) .nil)) (.chain .le .lt (.c (.int 0)) (.x 0) (.x 1)))) .nil)) [qI m,.v k,.v (.t ds)]=.ok (.v (.bl (ds.all (isB m))),[qI m,.v k,.v (.t ds)]):=by
 refine YK (zB (Ye (vs:=[.int (m:Nat)]) (λd=>.bl (isB m d)) (i_T (zA rfl) rfl) rfl (λd j=>?_) c rfl) zK) (zA4 rfl);have e:=zGP d (t d j);cases R:isW d with
 |false =>
  rw[R]at e;have:isB m d=false:=by cases d<;>first|rfl|(cases R)
  rw[this];exact⟨_,zDs (zr (F:=y6) rfl (zA rfl) e),rfl⟩
 |true =>
  rw[R]at e;cases d with
  |int i =>
   by_cases J:0<=i
   ·refine⟨_,zDr (zr (F:=y6) rfl (zA rfl) e) (x_chain x_c (zA rfl) (decide_eq_true J) (zA rfl) (v:=decide (i<(m:Int))) rfl),?_⟩
    show D.bl _=D.bl _
    congr 1
    dsimp[isB,Ju,decide_eq_true J,Bool.true_and];congr 1;exact propext (by lia)
   ·refine⟨_,zDr (zr (F:=y6) rfl (zA rfl) e) (zF7 x_c (zA rfl) (decide_eq_false J)),?_⟩
    show D.bl false=D.bl _
    simp[isB,Ju,J]
  |_=>cases R
def GE{m:Nat}(K:m<=3)(P:Ls D):rgB m (.t P)=(decide (P.length<=20)&&P.all (isB m)):=by
 show((decide (P.length<=20)&&P.all (Ju 0 2))&&P.all λd=>decide (zEd d<m))=_
 rw[Bool.and_assoc];congr 1
 induction P with
 |nil=>rfl
 |cons d P I =>
  dsimp[all_cons];rw[<- I];have:isB m d=(Ju 0 2 d&&decide (zEd d<m)):=by
   cases d with
   |int i =>
    dsimp[isB,Ju,zEd];rw[Bool.eq_iff_iff];dsimp[Bool.and_eq_true,decide_eq_true_eq]
    lia
   |_=>rfl
  rw[this];cases Ju 0 2 d<;>cases decide (zEd d<(m:Int))<;>simp
def zGQ{m k:Nat}{d:D}(h:∀P,d≠.t P)(t:isFn d=false):zW [qI m,qI k,.v d]=.ok (.v (.bl false),O3):=by
 have:dE zz (.is .tuple (.x 2)) [qI m,qI k,.v d]=.ok (.v (.bl false),[qI m,qI k,.v d]):=by
  cases d<;>first|rfl|(cases t;done)|exact absurd rfl (h _)
 exact yj (vL (JJ (zDi (Je (t_E this) rfl)) (zS (yk x_c)))) rfl
def zGR{m k:Nat}(K:m<=3){ds:Ls D}(c:ds.length<=1000)(t:∀d∈ds,isFn d=false)(J:rgB m (.t ds)=false):zW [qI m,qI k,.v (.t ds)]=.ok (.v (.bl false),O3):=by
 rw[GE K]at J;have H:dT zz (.tNot (.tE (.is .tuple (.x 2)))) [qI m,qI k,.v (.t ds)]=.ok (false,[qI m,qI k,.v (.t ds)]):=Je (t_E (b:=true) rfl) rfl;have g:=zHO ds.length 20;have o:zCb [.t ds]=some (.v (.int (ds.length:Nat))):=by dsimp[zCb]
 by_cases hl:ds.length<=20
 ·rw[decide_eq_true hl,Bool.true_and]at J
  rw[decide_eq_false (by lia)]at g;have a:=zHe (m:=m) (k:=.int (k:Nat)) (ds:=ds) (by dsimp[cap];lia) t;rw[J]at a;exact yj (vL (JJ (G8 H (G8 (t_E (zj (YK (zB (zA rfl) zK) o) x_c g)) (Je (t_E a) rfl))) (zS (yk x_c)))) rfl
 ·rw[decide_eq_true (by lia)]at g
  exact yj (vL (JJ (G8 H (zDi (t_E (zj (YK (zB (zA rfl) zK) o) x_c g)))) (zS (yk x_c)))) rfl
def zBI{m k:Nat}(K:m<=3)(w:1<=k/\k<=20){r:Ls Nat}(c:r.length<=20)(p:∀x∈r,x<m):zW [qI m,qI k,.v (tN r)]=.ok (.v (.bl (fr k r)),O3):=by
 have H:dT zz (.tNot (.tE (.is .tuple (.x 2)))) [qI m,qI k,.v (tN r)]=.ok (false,[qI m,qI k,.v (tN r)]):=Je (t_E (b:=true) rfl) rfl;have g:=zHO r.length 20;rw[decide_eq_false (by lia)]at g;have o:=zGK r;have J:=rg_N K c p;rw[GE K]at J;have n:(N r).all (isB m)=true:=by dsimp[Bool.and_eq_true]at J;exact J.2
 have a:=zHe (m:=m) (k:=.int (k:Nat)) (ds:=N r) (by rw[jJ];dsimp[cap];lia) N_fn;rw[n]at a;have j:∀x y:Int,va (.int x) (.int y)=some (.v (.int (x-y))):=λx y=>by dsimp[va,zBS]
 have v:∀x y:Int,ZG (.int x) (.int y)=some (.v (.int (x+y))):=λx y=>by dsimp[ZG,zBS]
 have O:dE zz (.comp 1 ["_law_at"] ["_law_row","_law_k"] [2,1] (.iR1 (.cons (.bin .add (.bin .sub (.cB .len (.cons (.x 2) .nil)) (.x 1)) (.c (.int 1))) .nil)) (.n 0) (.tE (.cmp .eq (.sl (.x 1) (.oS (.x 0)) (.oS (.bin .add (.x 0) (.x 2)))) (.bin .mul (.sl (.x 1) (.oS (.x 0)) (.oS (.bin .add (.x 0) (.c (.int 1))))) (.x 2)))) (.x 0)) [qI m,qI k,.v (tN r)] =
   .ok (.w (N ((List.range (r.length+1-k)).filter λi=>decide (Win k r i))),[qI m,qI k,.v (tN r)]):=by
  refine zDl (ds:=N (List.range (r.length+1-k))) (vs:=[tN r,.int (k:Nat)]) (λd=>[.v d]) (λd=>decide (Win k r (natOf d))) (λd=>d) ?_ rfl (λd t S G D=>zHG G D) (λd t=>⟨rfl,λs u=>?_⟩) (λd t=>?_) (λd t _=>⟨_,zA rfl,rfl⟩) (by rw[jJ,length_range];dsimp[cap];lia) ?_
  ·have:dI zz (.iR1 (.cons (.bin .add (.bin .sub (.cB .len (.cons (.x 2) .nil)) (.x 1)) (.c (.int 1))) .nil)) [qI m,qI k,.v (tN r)]=.ok (zE 0 ((r.length:Int)-(k:Nat)+1).toNat,[qI m,qI k,.v (tN r)]):=i_R1 (zB (zT (zT (YK (zB (zA rfl) zK) o) (zA rfl) (j _ _)) x_c (v _ _)) zK) rfl ⟨by lia,by lia⟩
   rw[show((r.length:Int)-(k:Nat)+1).toNat=r.length+1-k by lia,ints_N]at this;exact this
  ·rw[mem_singleton]at u;subst u;rfl
  ·obtain⟨i,W,rfl⟩:=QB t
   have W:=mem_range.mp W;have C:i<r.length:=by lia
   have l:=zHd r i (i+k) (by lia) (by lia);rw[Nat.add_sub_cancel_left]at l;have Y:=zHd r i (i+1) (by lia) (by lia);rw[Nat.add_sub_cancel_left]at Y;have one:(r.drop i).take 1=[r.getD i 0]:=by
    rw[List.drop_eq_getElem_cons C];rw[getD_eq_getElem?_getD,getElem?_eq_getElem C];rfl
   rw[one]at Y;have z:=Z5 (.int (r.getD i 0:Nat)) k (by lia);have h:Yv (tN [r.getD i 0]) (.int (k:Nat))=some (.v (tN (replicate k (r.getD i 0)))):=by
    show Yv (.t [_]) _=_
    rw[z];simp[N]
   have q:=eq_tN ((r.drop i).take k) (replicate k (r.getD i 0));exact t_E (zj (zF6 (zA rfl) (o_S (zA rfl)) (o_S (zT (zA rfl) (zA rfl) (jY i k))) l) (zT (zF6 (zA rfl) (o_S (zA rfl)) (o_S (zT (zA rfl) x_c (jY i 1))) Y) (zA rfl) h) q)
  ·rw[List.map_id']
   dsimp[N];rw[filter_map];rfl
 have q:=eq_lN ((List.range (r.length+1-k)).filter λi=>decide (Win k r i)) [];have e:decide ((List.range (r.length+1-k)).filter (λi=>decide (Win k r i))=[])=fr k r:=by
  rw[fr_win w.1,Bool.eq_iff_iff,decide_eq_true_eq,isEmpty_iff]
 rw[e]at q;exact yj (zN (jV (G8 H (G8 (t_E (zj (YK (zB (zA rfl) zK) o) x_c g)) (Je (t_E a) rfl))) jW) (zS (yk (zj O (jw zK rfl Yd) q)))) rfl
theorem zBJ(m:Nat):∀l,(wA m l).Pairwise λa b=>HT.lexLt (In a) (In b)=true
 |0=>List.pairwise_singleton _ _
 |l+1=>by
  rw[W4,List.pairwise_flatMap];refine⟨λx _=>?_,?_⟩
  ·rw[List.pairwise_map]
   refine(zBJ m l).imp λ{a b} h=>?_
   show HT.lexLt ((x:Int)::In a) ((x:Int)::In b)=true
   rw[HT.lexLt_cons,if_pos rfl];exact h
  ·refine List.pairwise_lt_range.imp λ{x y} h a P b J=>?_
   obtain⟨a,_,rfl⟩:=mem_map.mp P;obtain⟨b,_,rfl⟩:=mem_map.mp J;show HT.lexLt ((x:Int)::In a) ((y:Int)::In b)=true;rw[HT.lexLt_cons,if_neg (by lia)];exact decide_eq_true (by lia)
def next_lt{m n k a:Nat}{T e:Ls Nat}(h:Fo m n k a T)(h':Fo m n k (a+1) e):HT.lexLt (In T) (In e)=true:=by
 have p:=pairwise_iff_getElem.mp ((zBJ m n).filter (fr k));obtain⟨W,R⟩:=qG.mp h.at_;obtain⟨P,w⟩:=qG.mp h'.at_;have:=p a (a+1) W P (by lia);rw[R,w]at this;exact this
theorem zER:∀l:Ls Nat,jh (N l)=some (In l)
 | []=>rfl
 |x::l=>by
  have:=zER l;show jh (.int (x:Int)::N l)=_;dsimp[jh,this];rfl
def le_next{m n k a:Nat}{T e:Ls Nat}(h:Fo m n k a T)(h':Fo m n k (a+1) e):leG (tN e) (tN T)=some (.v (.bl false)):=by
 show leTD (tN e) (tN T)=_
 dsimp[leTD,zER,Option.bind_some,Option.map_some,next_lt h h',Bool.not_true]
def wy_none(m i:Nat):wy m 1 [] (i+1)=0:=by
 unfold wy;rw[length_eq_zero_iff,filter_eq_nil_iff];intro t ht;have hl:=wW m _ t ht;obtain⟨T,x,rfl⟩:∃T x,t=T++[x]:=by
  rcases List.eq_nil_or_concat t with rfl|⟨T,x,rfl⟩
  ·simp at hl
  ·exact⟨T,x,List.concat_eq_append ..⟩
 have L:=zD9 (T++[x]);have h2:1<=en (T++[x]):=by rw[zBB];split<;>lia
 dsimp[fr,nil_append,decide_eq_true_eq]
 lia
def c1(i:Nat):Ls Nat:=if i=0 then [1,0]else [0,0]
def zES{m n:Nat}{s3:DV.Slot}(s4 s6:DV.Slot)(G:zy s6=true) :
  DV.ZD (gN 6) (dB zQ yM) (DV.zE 0 1) [qI m,qI n,qI 1,s3,s4,.w (N [0,0]),s6]=.ok (.nx,[qI m,qI n,qI 1,s3,s4,.w (N [0,0]),.v (.int 0)]):=by
 cases s6<;>first|rfl|(cases G)
def vO{m n:Nat}(D:n<=20):yF [qI m,qI n,qI 1]=.ok (.v (.int ((wy m 1 [] n:Nat):Int)),O3):=by
 obtain⟨E',l,t,V,Q,w,X,M,h4,h5,G⟩:=yG (tg:=gN 4) (body:=dB zQ jp) (λi E=>∃t V Q w,E=[qI m,qI n,qI 1,t,V,Q,w]/\(t=.w (N (c1 i))\/t=.v (.l (N (c1 i))))/\zy V=true/\zy Q=true/\zy w=true) (DV.zE 0 n) 0 [qI m,qI n,qI 1,.w (N [1,0]),.e,.e,.e] ⟨_,_,_,_,rfl,.inl rfl,rfl,rfl,rfl⟩ (λi d q E ⟨t,V,Q,w,X,M,h4,h5,G⟩=>by
  obtain⟨W,rfl⟩:=jb _ _ _ _ q;rw[zero_add]at M ⊢;refine⟨[qI m,qI n,qI 1,t,.v (.int (0+(i:Int))),Q,w],[qI m,qI n,qI 1,.v (.l (N (c1 (i+1)))),.v (.int (0+(i:Int))),.v (.l (N (c1 (i+1)))),.v (.int 0)],?_,?_,_,_,_,_,rfl,.inr rfl,rfl,rfl,rfl⟩
  ·subst X;cases V<;>first|rfl|(cases h4)
  ·exact zN (E1:=[qI m,qI n,qI 1,t,.v (.int (0+(i:Int))),.w (N [0,0]),w]) (yP (zT (jw (zB x_c zK) rfl zn) (zT (zA rfl) x_c rfl) rfl) (yt rfl h5 rfl)) (zN (JD (j:=1) (zB (zA rfl) zK) rfl ⟨by decide,by decide⟩ (zES _ _ G)) (zS (yP (vo rfl rfl) (yt rfl (by rcases M with rfl|rfl<;>rfl) rfl)))))
 rw[jF,zero_add]at M;subst X;have S:((c1 n).take 1).sum=wy m 1 [] n:=by
  cases n with
  |zero=>rfl|succ i=>rw[wy_none];rfl
 have hl:(c1 n).length=2:=by unfold c1;split<;>rfl
 generalize c1 n=c at M S hl;have h:=sl_N c 1 (by lia);have g:zFZ [.l (N (c.take 1))]=some (.v (.int ((wy m 1 [] n:Nat):Int))):=by rw[ul,S]
 exact yj (zN (E1:=[qI m,qI n,qI 1,.w (N [0,0]),.e,.e,.e]) (yP (zT (jw (zB x_c zK) rfl zn) (zT (zA rfl) x_c rfl) rfl) rfl) (zN (E1:=[qI m,qI n,qI 1,.w (N [1,0]),.e,.e,.e]) (W3 (k:=0) rfl x_c (by decide) x_c rfl rfl) (zN (JD (j:=(n:Int)) (zB (zA rfl) zK) rfl ⟨by lia,by lia⟩ (by rw[Int.toNat_natCast];exact l)) (zS (yk (YK (zB (zF6 (zHL M rfl rfl) o_N (o_S (zA rfl)) h) zK) g)))))) rfl
def zET{m n k:Nat}(h:Od m n k):yF [qI m,qI n,qI k]=.ok (.v (.int ((wy m k [] n:Nat):Int)),O3):=by
 have C:=h.k;by_cases L:k=1
 ·subst L;exact vO h.n
 ·exact GD h.m h.n ⟨by lia,C.2⟩
def r_row{l:Ls Nat}(L:l.length<=32)(Y:∀x∈l,x<1000):∃t,zDF [tN l]=some (.v (.str t)):=by
 refine zDq ?_;dsimp[smD];refine⟨by rw[jJ];exact L,λd j=>?_⟩;obtain⟨x,V,rfl⟩:=QB j;have:=Y x V;dsimp[smD];rw[Int.natAbs_natCast];lia
def r_none:∃t,zDF [.non]=some (.v (.str t)):=zDq (d:=.non) trivial
def e_after{m n k i:Nat}(h:Od m n k)(D:n<7){T:Ls Nat}(X:Fo m n k i T):∃z t,zP [.v (.int 1),qI m,qI k,.v (tN T)]=.ok (.v z,O4)/\(TL (Fr m n k)++[.non])[i+1]?=some z/\zDF [z]=some (.v (.str t)):=by
 by_cases hl:i+1<wy m k [] n
 ·obtain⟨T',c⟩:=zGJ hl
  have K:=h.m;obtain⟨t,ht⟩:=r_row (l:=T') (by rw[c.len];lia) (λx V=>by have:=c.low x V;lia);refine⟨tN T',t,zGO (zEJ h X c),?_,ht⟩;have G:i+1<(TL (Fr m n k)).length:=by rw[W0];exact hl
  rw[getElem?_append_left G];simp[TL,c.at_]
 ·have:=X.lt
  have e:i+1=wy m k [] n:=by lia
  obtain⟨t,ht⟩:=r_none;refine⟨.non,t,zGO (Zo h X e),?_,ht⟩;have G:(TL (Fr m n k)).length=i+1:=by rw[W0,e];rfl
  rw[getElem?_append_right (by lia),G,Nat.sub_self];rfl
def e_small{m n k:Nat}(h:Od m n k)(D:n<7):yU [qI m,qI n,qI k]=.ok (.v (.bl true),O3):=by
 have K:=h.m;have C:=h.k;have I:=zBk (m:=m) (n:=n) (k:=k) K D ⟨C.1,by lia⟩;have a:=zHZ (k:=k) K.2 D;obtain⟨E',l,V,Q,X,h4,h5⟩:=yG (tg:=(Tg.t [4,5]).m) (body:=dB j8 jq) (λi E=>∃V Q,E=[qI m,qI n,qI k,.v (.l (TL (Fr m n k))),V,Q]/\zy V=true/\zy Q=true) (zBY 0 (TL (Fr m n k))) 0 [qI m,qI n,qI k,.v (.l (TL (Fr m n k))),.e,.e] ⟨_,_,rfl,rfl,rfl⟩ (λi d q E ⟨V,Q,X,h4,h5⟩=>by
  have W:i<wy m k [] n:=by
   have:=(qG.mp q).1;rw[Z0,W0]at this;exact this
  obtain⟨T,hT⟩:=zGJ W;have e:(TL (Fr m n k))[i]?=some (tN T):=by simp[TL,hT.at_]
  rw[uU _ 0 i _ e,zero_add]at q;have q:=(qJ q).symm;subst q;have v:=QH h (by have:=hT.len;lia) hT.low hT.fr;rw[hT.rk]at v;obtain⟨z,t,en,G,o⟩:=e_after h D hT;have al:=ZQ (TL (Fr m n k)) [.non] (by rw[W0];simp;lia);have r:ZG (.int (i:Nat)) (.int 1)=some (.v (.int ((i+1:Nat):Int))):=jY i 1;have ix:ixD (.l (TL (Fr m n k)++[.non])) (.int ((i+1:Nat):Int))=some (.v z):=by rw[zAA,zDv G];rfl
  have c:=uu i;refine⟨[qI m,qI n,qI k,.v (.l (TL (Fr m n k))),qI i,.v (tN T)],_,?_,?_,.v (.int (i:Nat)),.v (tN T),rfl,rfl,rfl⟩
  ·subst X;cases V<;>first|(cases h4;done)|(cases Q<;>first|rfl|(cases h5))
  ·refine zN (jV (G8 (t_E (zj (yQ (F:=zP) rfl x_c (zA rfl) (zA rfl) (zA rfl) (told0 v)) (zA rfl) c)) (t_E (x_is (yC (F:=zO) rfl (zA rfl) (zA rfl) (zA rfl) v) rfl rfl))) jW) ?_
   exact zS (jV (t_E (zj (YK (zB (yQ (F:=zP) rfl x_c (zA rfl) (zA rfl) (zA rfl) en) zK) o) (YK (zB (zDh (zT (zA rfl) (jw (zB x_c zK) rfl zn) al) (zT (zA rfl) x_c r) ix) zK) o) (ne_str t))) jW))
 subst X;exact yj (zN (yP (yC (F:=JC) rfl (zA rfl) (zA rfl) (zA rfl) I) rfl) (zN (zHM (i_E (zB (zA rfl) zK) rfl) l) (zS (yk x_c)))) rfl
abbrev Gr(m n k w:Nat)(p:Ls D)(s5 s6 y:DV.Slot):zR:=[qI m,qI n,qI k,.p p,qI w,s5,s6,y]
def zHf{w:Nat}(h:0<w):va (.int (w:Nat)) (.int 1)=some (.v (.int ((w-1:Nat):Int))):=ZA (b:=1) (by lia)
def b_great{m n k a:Nat}(h:Od m n k)(P:a<wy m k [] n)(p:Ls D)(s6 y:DV.Slot)(G:zy s6=true)(z:zy y=true) :
  ∃e x,dB yL yi (Gr m n k (wy m k [] n) p (.v (.int (a:Nat))) s6 y)=.ok (.nx,Gr m n k (wy m k [] n) p (.v (.int (a:Nat))) e x)/\zy e=true/\zy x=true:=by
 have K:=h.m;have J:=h.n;obtain⟨T,hT⟩:=zGJ P;have R:=e_nth h hT.at_;have E:=QH h (by have:=hT.len;lia) hT.low hT.fr;rw[hT.rk]at E;have I:=zBI (k:=k) K.2 h.k (by have:=hT.len;lia) hT.low;rw[hT.fr]at I;have o:=zGK T;rw[hT.len]at o;have v:=zHf (w:=wy m k [] n) (by lia);have r:ZG (.int (a:Nat)) (.int 1)=some (.v (.int ((a+1:Nat):Int))):=jY a 1;have g:=QC a (wy m k [] n-1);have first:∀y,dS yL (.sIf (.tOr (.tE (.cmp .ne (.cB .len (.cons (.x 6) .nil)) (.x 1))) (.tOr (.tNot (.tE (.call 1 (.ev (.x 0) (.ev (.x 2) (.ev (.x 6) .nil)))))) (.tE (.cmp .ne (.call 0 (.ev (.c (.int 0)) (.ev (.x 0) (.ev (.x 2) (.ev (.x 6) .nil))))) (.x 5))))) (.o (.sRet (.c (.bl false)))) .bNil) (Gr m n k (wy m k [] n) p (.v (.int (a:Nat))) (.v (tN T)) y)=.ok (.nx,Gr m n k (wy m k [] n) p (.v (.int (a:Nat))) (.v (tN T)) y):=λy =>
  jV (G8 (t_E (zj (YK (zB (zA rfl) zK) o) (zA rfl) (uu n))) (G8 (Je (t_E (yC (F:=zW) rfl (zA rfl) (zA rfl) (zA rfl) I)) rfl) (t_E (zj (yQ (F:=zP) rfl x_c (zA rfl) (zA rfl) (zA rfl) (told0 E)) (zA rfl) (uu a))))) jW
 have C:∀t:Ls Nat,isG false (tN t) .non=some (.v (.bl false)):=λt=>rfl
 have u:∀t:Ls Nat,isG true (tN t) .non=some (.v (.bl true)):=λt=>rfl
 have q:∀b:Bool,neG (.bl b) (.bl b)=some (.v (.bl false)):=λb=>by cases b<;>rfl
 have i:isG false .non .non=some (.v (.bl true)):=rfl;have H:isG true .non .non=some (.v (.bl false)):=rfl;by_cases hl:a+1<wy m k [] n
 ·obtain⟨T',c⟩:=zGJ hl
  have l:=QH h (by have:=c.len;lia) c.low c.fr;rw[c.rk]at l;have j:=zGO (zEJ h hT c);rw[decide_eq_false (by lia)]at g;refine⟨.v (tN T),.v (tN T'),?_,rfl,rfl⟩;refine zN (E1:=Gr m n k (wy m k [] n) p (.v (.int (a:Nat))) (.v (tN T)) y) (yP (yQ (F:=jU) rfl (zA rfl) (zA rfl) (zA rfl) (zA rfl) R) (yt rfl G rfl)) (zN (first y) ?_);refine zN (E1:=Gr m n k (wy m k [] n) p (.v (.int (a:Nat))) (.v (tN T)) (.v (tN T'))) (yP (yQ (F:=zP) rfl x_c (zA rfl) (zA rfl) (zA rfl) j) (yt rfl z rfl)) ?_;refine zN (E1:=Gr m n k (wy m k [] n) p (.v (.int (a:Nat))) (.v (tN T)) (.v (tN T'))) (jV (t_E (zj (zj (zA rfl) x_c (C T')) (zj (zA rfl) (zT (zA rfl) x_c v) g) (q false))) jW) ?_;exact zS (jV (zA3 (t_E (zj (zA rfl) x_c (u T'))) (G8 (t_E (zj (zA rfl) (zA rfl) (le_next hT c))) (t_E (zj (yQ (F:=zP) rfl x_c (zA rfl) (zA rfl) (zA rfl) (told0 l)) (zT (zA rfl) x_c r) (uu (a+1)))))) jW)
 ·have j:=zGO (Zo h hT (by lia))
  rw[decide_eq_true (by lia)]at g;refine⟨.v (tN T),.v .non,?_,rfl,rfl⟩;refine zN (E1:=Gr m n k (wy m k [] n) p (.v (.int (a:Nat))) (.v (tN T)) y) (yP (yQ (F:=jU) rfl (zA rfl) (zA rfl) (zA rfl) (zA rfl) R) (yt rfl G rfl)) (zN (first y) ?_);refine zN (E1:=Gr m n k (wy m k [] n) p (.v (.int (a:Nat))) (.v (tN T)) (.v .non)) (yP (yQ (F:=zP) rfl x_c (zA rfl) (zA rfl) (zA rfl) j) (yt rfl z rfl)) ?_;refine zN (E1:=Gr m n k (wy m k [] n) p (.v (.int (a:Nat))) (.v (tN T)) (.v .non)) (jV (t_E (zj (zj (zA rfl) x_c i) (zj (zA rfl) (zT (zA rfl) x_c v) g) (q true))) jW) ?_;exact zS (jV (zDt (t_E (zj (zA rfl) x_c H))) jW)
def e_great{m n k:Nat}(h:Od m n k){p:Ls D}(G:Pen p):∃p',yV [qI m,qI n,qI k,.p p]=.ok (.v (.bl true),[.e,.e,.e,.p p'])/\Pen p':=by
 have Y:=zET h;have R:=wy_lt (m:=m) (k:=k) (r:=[]) (l:=n) h.m.2 h.n;have Z:eqG (.int ((wy m k [] n:Nat):Int)) (.int 0)=some (.v (.bl (decide (wy m k [] n=0)))):=QC _ 0;by_cases hz:wy m k [] n=0
 ·rw[decide_eq_true hz]at Z
  exact⟨p,yj (zN (yP (yC (F:=yF) rfl (zA rfl) (zA rfl) (zA rfl) Y) rfl) (vL (JJ (t_E (zj (zA rfl) x_c Z)) (zS (yk x_c))))) rfl,G⟩
 ·rw[decide_eq_false hz]at Z
  have v:=zHf (w:=wy m k [] n) (by lia);obtain⟨T,t,I,W,O⟩:=jy p G (wy m k [] n) (by lia) R;obtain⟨C,g,u,J,M⟩:=jy t O (wy m k [] n) (by lia) R;obtain⟨E',o,Q,c,y,X,h5,j,z⟩:=yG (tg:=gN 5) (body:=dB yL yi) (λi E=>∃Q c y,E=Gr m n k (wy m k [] n) g Q c y/\zy Q=true/\zy c=true/\zy y=true) (N [0,wy m k [] n-1,T,C]) 0 (Gr m n k (wy m k [] n) g .e .e .e) ⟨_,_,_,rfl,rfl,rfl,rfl⟩ (λi d q E ⟨Q,c,y,X,h5,j,z⟩=>by
   obtain⟨a,P,rfl⟩:=QB (mem_of_getElem? q);have hl:a<wy m k [] n:=by
    dsimp[mem_cons,not_mem_nil,or_false]at P;rcases P with rfl|rfl|rfl|rfl<;>lia
   obtain⟨e,x,f,L,H⟩:=b_great h hl g c y j z;refine⟨Gr m n k (wy m k [] n) g (.v (.int (a:Nat))) c y,_,?_,f,_,_,_,rfl,rfl,L,H⟩;subst X;cases Q<;>first|rfl|(cases h5))
  subst X;exact⟨g,yj (zN (yP (yC (F:=yF) rfl (zA rfl) (zA rfl) (zA rfl) Y) rfl) (zN (jV (t_E (zj (zA rfl) x_c Z)) jW) (zN (zA0 (tg:=.n 5) (jw (ds:=N [0,wy m k [] n-1,T,C]) (zB x_c (zB (zT (zA rfl) x_c v) (zB (uj (F:=zV) rfl rfl (zA rfl) I rfl) (zB (uj (F:=zV) rfl rfl (zA rfl) u rfl) zK)))) rfl (by simp[N,cap])) rfl o) (zS (yk x_c))))) rfl,M⟩
def Th(m k:Nat)(d:D):Prop:=zW [qI m,qI k,.v d]=.ok (.v (.bl true),O3)\/(zW [qI m,qI k,.v d]=.ok (.v (.bl false),O3)/\zO [qI m,qI k,.v d]=.y ⟨"NoRow",true,[]⟩ O3)
def zHg{m k:Nat}(K:2<=m/\m<=3)(C:1<=k/\k<=20){r:Ls Nat}(c:r.length<=20)(p:∀x∈r,x<m):Th m k (tN r):=by
 have f:=zBI K.2 C c p;cases h:fr k r with
 |true=>rw[h]at f;exact .inl f|false=>rw[h]at f;exact .inr ⟨f,zGN K C c p h⟩
def zEU{m k:Nat}(K:2<=m/\m<=3)(C:1<=k/\k<=20){ds:Ls D}(c:ds.length<=1000)(t:∀d∈ds,isFn d=false)(J:rgB m (.t ds)=false):Th m k (.t ds) :=
 .inr ⟨zGR K.2 c t J,zBH K C ⟨by dsimp[cap];lia,t⟩ J⟩
def zEV{m k:Nat}(K:2<=m/\m<=3)(C:1<=k/\k<=20){d:D}(h:∀P,d≠.t P)(t:isFn d=false)(L:okD d)(J:rgB m d=false):Th m k d :=
 .inr ⟨zGQ h t,zBH K C L J⟩
def zEW{m:Nat}(K:m<=3){ds:Ls D}{d:D}(h:isB m d=false):rgB m (.t (ds++[d]))=false:=by
 rw[GE K,List.all_append];simp[h]
abbrev tg8(m k:Nat)(r:Ls Nat):Ls D:=[tN r,.t (N r++[.int (m:Nat)]),.l (N r),tN (replicate k 0),.t (N r++[.bl true]),.non,.t (replicate 21 (.int 0)),.str "0"]
def tg8_ok{m k:Nat}(K:2<=m/\m<=3)(C:1<=k/\k<=20){r:Ls Nat}(c:r.length<=20)(p:∀x∈r,x<m){d:D}(j:d∈tg8 m k r):Th m k d:=by
 have i:∀e:D,isFn e=false->∀d∈N r++[e],isFn d=false:=λe M d j=>by
  rcases mem_append.mp j with j|j
  ·exact N_fn d j
  ·rw[mem_singleton]at j;subst j;exact M
 have le:∀e:D,(N r++[e]).length<=1000:=λe=>by rw[length_append,jJ];simp;lia
 dsimp[tg8,mem_cons,not_mem_nil,or_false]at j;rcases j with rfl|rfl|rfl|rfl|rfl|rfl|rfl|rfl
 ·exact zHg K C c p
 ·exact zEU K C (le _) (i _ rfl) (zEW K.2 (by dsimp[isB,Ju];rw[Bool.and_eq_false_iff];right;exact decide_eq_false (by lia)))
 ·exact zEV K C (λP h=>by cases h) rfl trivial rfl
 ·exact zHg K C (by simp;lia) (λx V=>by rw[(mem_replicate.mp V).2];lia)
 ·exact zEU K C (le _) (i _ rfl) (zEW K.2 rfl)
 ·exact zEV K C (λP h=>by cases h) rfl trivial rfl
 ·exact zEU K C (by simp) (λd j=>by rw[(mem_replicate.mp j).2];rfl) (by rw[GE K.2];rfl)
 ·exact zEV K C (λP h=>by cases h) rfl trivial rfl
def odds:Ls D:=[.int 4,.int 1,.int (-1),.bl true,.non,.str "2",.int (10^30)]
def odds_ok{d:D}(j:d∈odds):isFn d=false/\Ju 2 3 d=false:=by
 dsimp[odds,mem_cons,not_mem_nil,or_false]at j;rcases j with rfl|rfl|rfl|rfl|rfl|rfl|rfl<;>exact⟨rfl,by decide⟩
def ne_num4:neG (.l (replicate 4 (.str "number"))) (.l (replicate 4 (.str "number")))=some (.v (.bl false)):=by kernel_rfl
def ne_row2:neG (.l (replicate 2 (.str "row"))) (.l (replicate 2 (.str "row")))=some (.v (.bl false)):=by kernel_rfl
abbrev Lw(v c p:DV.Slot)(m n k:Nat)(r t x o y z:DV.Slot):zR:=[v,c,p,qI m,qI n,qI k,r,t,x,o,y,z]
def zGS{m n k:Nat}(K:2<=m/\m<=3){o:D}(L:o∈odds)(v c p r t x T P:DV.Slot)(R:zy T=true)(a:zy P=true) :
  ∃J u,DV.ZD (gN 10) (dB JY Q1) (DV.zE 0 2) (Lw v c p m n k r t x (.v o) T P)=.ok (.nx,Lw v c p m n k r t x (.v o) J u)/\zy J=true/\zy u=true:=by
 obtain⟨of,g⟩:=odds_ok L;obtain⟨E1,f,J,u,rfl,h,e⟩:=yG (tg:=gN 10) (body:=dB JY Q1) (λ_ E=>∃J u,E=Lw v c p m n k r t x (.v o) J u/\zy J=true/\zy u=true) (DV.zE 0 2) 0 (Lw v c p m n k r t x (.v o) T P) ⟨_,_,rfl,R,a⟩ (λi d q E ⟨J,u,X,h,e⟩=>by
  obtain⟨W,rfl⟩:=jb _ _ _ _ q;rw[show(0:Int)+(i:Int)=(i:Int)by lia];have S:=zEO (zBn (b:=.int (k:Nat)) (c:=.non) of g) rfl Z8 i W;have H:=zEO (Yh K (d:=.int 21) (c:=.non) rfl rfl) rfl Z8 i W;have j:=zEO (Yh K (d:=.int 0) (c:=.non) rfl rfl) rfl Z8 i W;have y:=zEO (Yh K (d:=.bl true) (c:=.non) rfl rfl) rfl Z8 i W;refine⟨Lw v c p m n k r t x (.v o) (.v (.int (i:Nat))) u,Lw v c p m n k r t x (.v o) (.v (.int (i:Nat))) (.v (.l (replicate 3 (.str "number")))),?_,?_,_,_,rfl,rfl,rfl⟩
  ·subst X;cases J<;>first|rfl|(cases h)
  ·refine zN (E1:=Lw v c p m n k r t x (.v o) (.v (.int (i:Nat))) (.w (replicate 3 (.str "number")))) (yP (jw (zB (yQ (F:=zP) rfl (zA rfl) (zA rfl) (zA rfl) x_c S) (zB (yQ (F:=zP) rfl (zA rfl) (zA rfl) x_c x_c H) (zB (yQ (F:=zP) rfl (zA rfl) (zA rfl) x_c x_c j) zK))) rfl QE) (yt rfl e rfl)) ?_
   exact zS (jV (t_E (zj (zT (vo rfl rfl) (jw (zB (yQ (F:=zP) rfl (zA rfl) (zA rfl) x_c x_c y) zK) rfl zn) (ZQ (replicate 3 (.str "number")) [.str "number"] (by simp))) (zT (jw (zB x_c zK) rfl zn) x_c (Jt (.str "number") 4 (by decide))) ne_num4)) jW))
 exact⟨J,u,f,h,e⟩
def zAJ{m n k:Nat}{ds:Ls D}(h:∀d∈ds,Th m k d)(v c p r t S o y z:DV.Slot)(I:zy S=true) :
  ∃a,DV.ZD (gN 8) (dB JY Q2) ds (Lw v c p m n k r t S o y z)=.ok (.nx,Lw v c p m n k r t a o y z)/\zy a=true:=by
 obtain⟨E1,f,a,rfl,g⟩:=yG (tg:=gN 8) (body:=dB JY Q2) (λ_ E=>∃a,E=Lw v c p m n k r t a o y z/\zy a=true) ds 0 (Lw v c p m n k r t S o y z) ⟨_,rfl,I⟩ (λi d q E ⟨a,X,g⟩=>by
  refine⟨Lw v c p m n k r t (.v d) o y z,Lw v c p m n k r t (.v d) o y z,?_,?_,.v d,rfl,rfl⟩
  ·subst X;cases a<;>first|rfl|(cases g)
  ·rcases h d (mem_of_getElem? q)with e|⟨e,x⟩
   ·exact zS (jV (zDt (Je (t_E (yC (F:=zW) rfl (zA rfl) (zA rfl) (zA rfl) e)) rfl)) jW)
   ·have two:dE JY (.comp 1 ["_law_way"] ["_law_m","_law_k","_law_thing"] [3,5,8] (.iR1 (.cons (.c (.int 2)) .nil)) (.n 0) .tTr (.call 0 (.ev (.x 0) (.ev (.x 1) (.ev (.x 2) (.ev (.x 3) .nil)))))) (Lw v c p m n k r t (.v d) o y z)=.ok (.w (replicate 2 (.str "row")),Lw v c p m n k r t (.v d) o y z):=by
     refine Ye (ds:=DV.zE 0 2) (vs:=[.int (m:Nat),.int (k:Nat),d]) (λ_=>.str "row") (i_R1 (j:=2) (zB x_c zK) rfl ⟨by decide,by decide⟩) rfl (λw R=>?_) (by decide) rfl;obtain⟨j,T⟩:=List.getElem?_of_mem R;obtain⟨W,rfl⟩:=jb _ _ _ _ T;rw[show(0:Int)+(j:Int)=(j:Int)by lia];exact⟨_,yQ (F:=zP) rfl (zA rfl) (zA rfl) (zA rfl) (zA rfl) (zEO x rfl zGL j W),rfl⟩
    exact zS (jV (zA3 (Je (t_E (yC (F:=zW) rfl (zA rfl) (zA rfl) (zA rfl) e)) rfl) (t_E (zj two (zT (jw (zB x_c zK) rfl zn) x_c (Jt (.str "row") 2 (by decide))) ne_row2))) jW))
 exact⟨a,f,g⟩
def zEX{fs:Ls FI}{E E1 E2 x h:zR}{k i:Nat}{a b c:_}{F:MF}{r r2 W T:R}{p V:Ls D}{o H j:DV.Slot}(J:fiF fs k=F)(L:dE fs a E=.ok (r,E1))(e:dE fs b E1=.ok (r2,E2))(g:dE fs c E2=.ok (W,x))(X:x[i]?=some (.w p))(Y:F [.v r.d,.v r2.d,.v W.d,.p p]=.ok (T,[o,H,j,.p V]))(M:x.set i (.w V)=h):dE fs (.call k (.ev a (.ev b (.ev c (.lend i .nil))))) E=.ok (T,h):=by
 subst J M;have l:i<x.length:=(qG.mp X).1;have S:(x.set i .e)[i]?=some .e:=by simp[l]
 dsimp[yZ,wv,Qw,ym,yl,zd,L,e,g,X,Jv,Bool.false_eq_true,if_false,zH,Slot.list?,Y,zF,S,Slot.put,set_set]
theorem N_of{n:Nat}:∀w:Ls D,(∀d∈w,∃x:Nat,d=.int (x:Int)/\x<n)->∃l:Ls Nat,w=N l/\l.length=w.length/\∀x∈l,x<n
 | [],_=>⟨[],rfl,rfl,λx h=>by cases h⟩
 |d::w,h=>by
  obtain⟨l,rfl,e,hl⟩:=N_of w λx V=>h x (qD _ V)
  obtain⟨x,rfl,V⟩:=h d qE;refine⟨x::l,rfl,by simp[e],λy O=>?_⟩;rcases mem_cons.mp O with rfl|O
  ·exact V
  ·exact hl y O
def e_throw{m n k:Nat}(K:2<=m/\m<=3){p:Ls D}(G:Pen p)(v c r t x o y z:DV.Slot) :
  ∃H V,dE JY (.cB .tuple (.cons (.comp 1 ["_law_place"] ["_law_pen","_law_m"] [2,3] (.iR1 (.cons (.call 1 (.lend 2 (.ev (.c (.int 21)) .nil))) .nil)) (.n 0) .tTr (.call 1 (.lend 1 (.ev (.x 2) .nil)))) .nil)) (Lw v c (.w p) m n k r t x o y z)=.ok (.v (tN H),Lw v c (.w V) m n k r t x o y z)/\Pen V/\H.length<=20/\∀x∈H,x<m:=by
 obtain⟨W,g,l,L,M⟩:=jy p G 21 (by decide) (by decide);obtain⟨w,Z,X,I,R,Y⟩:=x_compT (fs:=JY) (E0:=Lw v c (.w p) m n k r t x o y z) (E:=Lw v c (.w g) m n k r t x o y z) (xs:=["_law_place"]) (ys:=["_law_pen","_law_m"]) (caps:=[2,3]) (it:=.iR1 (.cons (.call 1 (.lend 2 (.ev (.c (.int 21)) .nil))) .nil)) (tt:=.tTr) (el:=.call 1 (.lend 1 (.ev (.x 2) .nil))) (ds:=DV.zE 0 W) (vs:=[.int (m:Nat)]) (p:=g) (i:=2) (E2:=Lw v c .e m n k r t x o y z) (E':=λV=>Lw v c (.w V) m n k r t x o y z)
  Pen (λk u=>u.length=k/\∀d∈u,∃x:Nat,d=.int (x:Int)/\x<m) (i_R1 (j:=(W:Int)) (zB (Jr (F:=zV) rfl rfl x_c l rfl) zK) rfl ⟨by lia,by lia⟩) rfl rfl M ⟨rfl,λd h=>by cases h⟩ (λk d q p u G ⟨C,P⟩=>by
   obtain⟨r,S,e,T,J⟩:=jy p G m (by lia) (lt_of_le_of_lt K.2 (by decide));refine⟨p,.inr ⟨.v (.int (r:Nat)),S,by dsimp[Qv,Wg,zDW,vF,zAq,wC],uj (F:=zV) rfl rfl (zA rfl) e rfl,J,by simp[C],λd Q=>?_⟩⟩;rcases mem_append.mp Q with Q|Q
   ·exact P d Q
   ·rw[mem_singleton]at Q
    exact⟨r,Q,T⟩) (by rw[jF];dsimp[cap];lia) (λx V=>rfl)
 rw[jF]at R;obtain⟨H,rfl,O,a⟩:=N_of w Y;exact⟨H,Z,YK (zB X zK) rfl,I,by lia,a⟩
def InL(v:D)(E:zR):Prop:=∃l Y t V Q w y S e T P,E=[.v v,l,Y,t,V,Q,w,y,S,e,T,P]/\zy l=true/\zy Y=true/\zy t=true/\zy V=true/\zy Q=true/\zy w=true/\zy y=true/\zy S=true/\zy e=true/\zy T=true/\zy P=true
def cell_ok(v:D)(c:Int)(Y s3 s4 s5 s6 y S e T P:DV.Slot)(h2:zy Y=true)(h3:zy s3=true)(h4:zy s4=true)(X:zy s5=true)(h6:zy s6=true)(h7:zy y=true)(h8:zy S=true)(h9:zy e=true)(R:zy T=true)(ae:zy P=true):∃E2,dB JY Q3 [.v v,.v (.int c),Y,s3,s4,s5,s6,y,S,e,T,P]=.ok (.nx,E2)/\InL v E2:=by
 obtain⟨q,e0,o⟩:=uk c;obtain⟨x1,t,e1,G,O⟩:=jy q o 2 (by decide) (by decide);generalize x1=m' at e1 G;have E:ZG (.int 2) (.int (m':Nat))=some (.v (.int ((2+m':Nat):Int))):=jY 2 m';have K:2<=2+m'/\2+m'<=3:=by lia
 generalize 2+m'=m at E K;obtain⟨Q,g,e2,Z,M⟩:=jy t O 21 (by decide) (by decide);generalize Q=n at e2 Z;obtain⟨x3,W,l,ac,I⟩:=jy g M 20 (by decide) (by decide);generalize x3=k' at l ac;have ak:ZG (.int 1) (.int (k':Nat))=some (.v (.int ((1+k':Nat):Int))):=jY 1 k';obtain⟨x4,p4,e4,ai,ab⟩:=jy W I 3 (by decide) (by decide);obtain⟨kd,i,ik⟩:=pick (ds:=[.int ((1+k':Nat):Int),.int 2,.int 3]) (r:=(x4:Int)) (by lia) (by simp;lia);obtain⟨k,rfl,C⟩:∃k:Nat,kd=.int (k:Int)/\1<=k/\k<=20:=by
  dsimp[mem_cons,not_mem_nil,or_false]at i;rcases i with rfl|rfl|rfl
  ·exact⟨1+k',rfl,by lia,by lia⟩
  ·exact⟨2,rfl,by lia,by lia⟩
  ·exact⟨3,rfl,by lia,by lia⟩
 have od:Od m n k:=⟨K,by lia,C⟩;have m7:zEZ (.int (n:Nat)) (.int 7)=some (.v (.int ((n%7:Nat):Int))):=zD1 n 7 (by decide);have V:zEZ (.int (k:Nat)) (.int 5)=some (.v (.int ((k%5:Nat):Int))):=zD1 k 5 (by decide);have a5:ZG (.int 1) (.int ((k%5:Nat):Int))=some (.v (.int ((1+k%5:Nat):Int))):=jY 1 (k%5);have es:=e_small (m:=m) (n:=n%7) (k:=1+k%5) ⟨K,by lia,by lia⟩ (by lia);obtain⟨p5,e5,ah⟩:=e_great od ab;obtain⟨H,p,e6,ag,rl,rx⟩:=e_throw (n:=n) (k:=k) K ah (.v v) (.v (.int c)) s6 y S e T P;have ad:ZG (tN H) (.t [.int (m:Nat)])=some (.v (.t (N H++[.int (m:Nat)]))):=Q8 _ _ (by rw[jJ];simp;lia);have w:ZG (tN H) (.t [.bl true])=some (.v (.t (N H++[.bl true]))):=Q8 _ _ (by rw[jJ];simp;lia);have g0:gtD (.int (k:Nat)) (.int 0)=some (.v (.bl true)):=by
  have:=zAH k 0;rw[decide_eq_true (by lia)]at this;exact this
 have mk:Yv (.t [.int 0]) (.int (k:Nat))=some (.v (tN (replicate k 0))):=by
  rw[Z5 _ _ (by lia)];simp[N]
 have L:Yv (.t [.int 0]) (.int 21)=some (.v (.t (replicate 21 (.int 0)))):=Z5 (.int 0) 21 (by decide);obtain⟨x8,p8,e8,x,aj⟩:=jy p ag 7 (by decide) (by decide);obtain⟨z,aa,io⟩:=pick (ds:=odds) (r:=(x8:Int)) (by lia) (by simp[odds];lia);obtain⟨a,fl,q8⟩:=zAJ (m:=m) (n:=n) (k:=k) (ds:=tg8 m k H) (λd hd=>tg8_ok K C rl rx hd) (.v v) (.v (.int c)) (.w p) (.v (tN H)) (.v (.l (tg8 m k H))) S e T P h8;obtain⟨J,u,fn,h,af⟩:=zGS (n:=n) (k:=k) K aa (.v v) (.v (.int c)) (.w p8) (.v (tN H)) (.v (.l (tg8 m k H))) a T P R ae;refine⟨Lw (.v v) (.v (.int c)) (.w p8) m n k (.v (tN H)) (.v (.l (tg8 m k H))) a (.v z) J u,?_,_,_,_,_,_,_,_,_,_,_,_,rfl,rfl,rfl,rfl,rfl,rfl,rfl,rfl,q8,rfl,h,af⟩;refine zN (E1:=[.v v,.v (.int c),.w q,s3,s4,s5,s6,y,S,e,T,P]) (yP (zr (F:=jI) rfl (zA rfl) e0) (yt rfl h2 rfl)) ?_;refine zN (E1:=[.v v,.v (.int c),.w t,qI m,s4,s5,s6,y,S,e,T,P]) (yP (zT x_c (Jr (F:=zV) rfl rfl x_c e1 rfl) E) (yt rfl h3 rfl)) ?_;refine zN (E1:=Lw (.v v) (.v (.int c)) (.w p4) m n k s6 y S e T P) (s_tup (Jd (ds:=[.int (n:Nat),.int (k:Nat)]) (zB (Jr (F:=zV) rfl rfl x_c e2 rfl) (zB (zDh (jw (zB (zT x_c (Jr (F:=zV) rfl rfl x_c l rfl) ak) (zB x_c (zB x_c zK))) rfl QE) (Jr (F:=zV) rfl rfl x_c e4 rfl) ik) zK)) rfl zDk) ?_) ?_
 ·show gNs [4,5] [.int (n:Nat),.int (k:Nat)] _=_
  cases s4<;>first|(cases h4;done)|(cases s5<;>first|(cases X;done)|rfl)
 refine zN (E1:=Lw (.v v) (.v (.int c)) (.w p5) m n k s6 y S e T P) (jV (G8 (Je (t_E (yC (F:=yU) rfl (zA rfl) (zT (zA rfl) x_c m7) (zT x_c (zT (zA rfl) x_c V) a5) es)) rfl) (Je (t_E (zEX (F:=yV) rfl (zA rfl) (zA rfl) (zA rfl) rfl e5 rfl)) rfl)) jW) ?_;refine zN (E1:=Lw (.v v) (.v (.int c)) (.w p) m n k (.v (tN H)) y S e T P) (yP e6 (yt rfl h6 rfl)) ?_;refine zN (E1:=Lw (.v v) (.v (.int c)) (.w p) m n k (.v (tN H)) (.w (tg8 m k H)) S e T P) (yP (jw (ds:=tg8 m k H) (zB (zA rfl) (zB (zT (zA rfl) (Jd (zB (zA rfl) zK) rfl zn) ad) (zB (YK (b:=.list) (r:=.w (N H)) (zB (zA rfl) zK) rfl) (zB (x_ifx1 (t_E (zj (zA rfl) x_c g0)) (zT (Jd (zB x_c zK) rfl zn) (zA rfl) mk)) (zB (zT (zA rfl) (Jd (zB x_c zK) rfl zn) w) (zB x_c (zB (zT (Jd (zB x_c zK) rfl zn) x_c L) (zB x_c zK)))))))) rfl (by simp[tg8,cap])) (yt rfl h7 rfl)) ?_;refine zN (E1:=Lw (.v v) (.v (.int c)) (.w p) m n k (.v (tN H)) (.v (.l (tg8 m k H))) a e T P) (zA0 (tg:=.n 8) (vo rfl rfl) rfl fl) ?_;refine zN (E1:=Lw (.v v) (.v (.int c)) (.w p8) m n k (.v (tN H)) (.v (.l (tg8 m k H))) a (.v z) T P) (yP (zDh (jw (ds:=odds) (zB x_c (zB x_c (zB (zGC x_c) (zB x_c (zB x_c (zB x_c (zB (zT x_c x_c pow30) zK))))))) rfl (by simp[odds,cap])) (Jr (F:=zV) rfl rfl x_c e8 rfl) io) (yt rfl h9 rfl)) ?_;exact zS (JD (tg:=.n 10) (j:=2) (zB x_c zK) rfl ⟨by decide,by decide⟩ fn)
def math63(ns:Ls Int)(ab:ns.length<=63):∃Z,m_law [.v (.l (ns.map D.int))]=.ok (.v (.bl true),Z):=by
 obtain⟨c,e2⟩:=vM ns;have g:vb (ns.map D.int) (some 1) (some 4)=((ns.drop (HT.sIx ns.length 0 (some 1))).take (HT.sIx ns.length ns.length (some 4)-HT.sIx ns.length 0 (some 1))).map D.int:=by
  unfold vb;simp[map_drop,map_take]
 generalize C:(ns.drop (HT.sIx ns.length 0 (some 1))).take (HT.sIx ns.length ns.length (some 4)-HT.sIx ns.length 0 (some 1))=k at g;have h:k.length<=63:=by rw[<- C];simp;lia
 have c1:slD (.l (ns.map D.int)) (some 1) (some 4)=some (.w (k.map D.int)):=by dsimp[slD,g]
 have p:=ZQ [.int c] (k.map D.int) (by simp;lia);generalize hv:D.l (ns.map D.int)=v at e2 c1;obtain⟨E',l,⟨u1,o,n,u4,K,u6,O,J,W,j,aa,X,_⟩⟩:=yG (tg:=gN 1) (body:=dB JY Q3) (λ_ E=>InL v E) ([.int c]++k.map D.int) 0 [.v v,.e,.e,.e,.e,.e,.e,.e,.e,.e,.e,.e] ⟨_,_,_,_,_,_,_,_,_,_,_,rfl,rfl,rfl,rfl,rfl,rfl,rfl,rfl,rfl,rfl,rfl,rfl⟩
  (λi d q E ⟨s1,Y,t,V,Q,w,y,S,e,T,P,X,L,h2,M,h4,h5,G,z,I,H,R,a⟩=>by
   obtain⟨x,rfl⟩:∃x:Int,d=.int x:=by
    have:=mem_of_getElem? q;rcases mem_append.mp this with m|m
    ·exact⟨c,mem_singleton.mp m⟩
    ·obtain⟨x,_,rfl⟩:=mem_map.mp m;exact⟨x,rfl⟩
   obtain⟨E2,l,u⟩:=cell_ok v x Y t V Q w y S e T P h2 M h4 h5 G z I H R a;refine⟨[.v v,.v (.int x),Y,t,V,Q,w,y,S,e,T,P],E2,?_,l,u⟩;subst X;cases s1<;>first|rfl|(cases L))
 subst X;refine⟨_,yj (r:=.v (.bl true)) (E1:=[.v v,u1,o,n,u4,K,u6,O,J,W,j,aa]) ?_ rfl⟩;exact zN (zA0 (tg:=.n 1) (zT (jw (zB (uh (F:=yo) rfl (zA rfl) x_c e2) zK) rfl zn) (zF6 (zA rfl) (o_S x_c) (o_S x_c) c1) p) rfl l) (zS (yk x_c))
end My
namespace My
open PySem L2 DV
def txt_lk{K:qH}{h:Heap}{mg:Str->Lx Lv}(X:K.In h)(G:h.Ns mainGlobals mg)(e:WH K=wants):Txt K mg :=
 have R:=congrArg (λx:lkT=>x.1) e;have w:=congrArg (λx:lkT=>x.2.1) e;have l:=congrArg (λx:lkT=>x.2.2.1) e
 {n_ValueError:=YU X G (ix 0 l),n_all:=YU X G (ix 1 l),n_bool:=YU X G (ix 2 l),n_enumerate:=YU X G (ix 3 l),n_int:=YU X G (ix 4 l),n_isinstance:=YU X G (ix 5 l),n_len:=YU X G (ix 6 l),n_list:=YU X G (ix 7 l),n_max:=YU X G (ix 8 l),n_range:=YU X G (ix 9 l),n_repr:=YU X G (ix 10 l),n_reversed:=YU X G (ix 11 l),n_sum:=YU X G (ix 12 l),n_tuple:=YU X G (ix 13 l),n_zip:=YU X G (ix 14 l),c_LEAST_SIGNS:=zF5 X G (ix 0 w),c_MOST_FREE:=zF5 X G (ix 1 w),c_MOST_SIGNS:=zF5 X G (ix 2 w),c_MOST_THROWS:=zF5 X G (ix 3 w),f_is_whole:=yn X G (ix 0 R),f_is_whole_within:=yn X G (ix 1 R),f_sign_good:=yn X G (ix 2 R),f_row_good:=yn X G (ix 3 R),f_row_good_of:=yn X G (ix 4 R),f_need_row:=yn X G (ix 5 R),f_need_number:=yn X G (ix 6 R),f_need_signs:=yn X G (ix 7 R),f_greatest_length:=yn X G (ix 8 R),f_runs_of:=yn X G (ix 9 R),f_longest_any:=yn X G (ix 10 R),f_weigh_alike_upto:=yn X G (ix 11 R),f_need_free_length:=yn X G (ix 12 R),f_need_ordered:=yn X G (ix 13 R),f_ways_on:=yn X G (ix 14 R),f_free_many:=yn X G (ix 15 R),f_free_nth:=yn X G (ix 16 R),f_free_rank:=yn X G (ix 17 R),f_free_next:=yn X G (ix 18 R),f__law_cell_at:=yn X G (ix 19 R),f__law_next:=yn X G (ix 20 R),f__law_pen_of:=yn X G (ix 21 R),f__law_draw:=yn X G (ix 22 R),f__law_whole:=yn X G (ix 23 R),f__law_kind_of:=yn X G (ix 24 R),f__law_free:=yn X G (ix 25 R),f__law_counted:=yn X G (ix 26 R),f__law_told:=yn X G (ix 27 R),f__law_is_free:=yn X G (ix 28 R),f__law_small_right:=yn X G (ix 29 R),f__law_great_right:=yn X G (ix 30 R),f_law:=yn X G (ix 31 R),cl:=cl_at X G (congrArg (λx:lkT=>x.2.2.2) e)}
end My
end
open PySem PySem.W PyProof.Rows
set_option maxRecDepth 100000 in
set_option maxHeartbeats 0 in
theorem PySem.Challenge.cw_throwruns_k63_free_rows_by_number_holds : PySem.Challenge.rw_throwruns_k63_free_rows_by_number.Holds := by
 w_on;refine holds_law My.hz λa=>?_
 refine holds_open (q:=My.qP) (loose:=My.ls) (Xt:=λs=>xlAt My.qP [] s&&recOk (RowW.records (OpenLaw.row PySem.Challenge.rw_throwruns_k63_free_rows_by_number).toRowW) s) (XP:=XL My.qP []) (Yf:=λs=>My.WH (DV.Yj s.heap My.as)) (Ya:=λ_=>My.wants) (YP:=(DV.zAz My.as My.lkT My.WH My.wants).says) (N:=6156) My.hl (DV.zAz My.as My.lkT My.WH My.wants).of (DV.zAz My.as My.lkT My.WH My.wants).keeps (λs e=>xl_of s (Bool.and_eq_true_iff.mp e).1) XL.keeps (by rfl) (by rfl) (by rfl) (λs e=>recFacts_of (Bool.and_eq_true_iff.mp e).2) ?h4 ?h5 ?h6 ⟨rfl,rfl,rfl,rfl,rfl,by decide +kernel⟩ ?hw ?hc
 case h4=>rfl
 case h5=>first|assumption|decide +kernel
 case h6=>decide +kernel
 case hw=>w_witness2
 case hc=>exact DV.walkE (l:=PySem.Challenge.rw_throwruns_k63_free_rows_by_number) (x:="_law_script") My.math63 rfl rfl λw K g O h KX e G p=>My.law_fd p (My.txt_lk KX G e)
